import PyProof.Rows.All
import Wide.All
import OpenK.AllK
import Wide.FinOn
import Lean
import PyProof.EqAt
import PyProof.EqKinds
import PyProof.TupleCall
import PyProof.NeKinds
import PyProof.StrWalks
import PyProof.ListStr
import PyProof.StrOps2
import PyProof.StrLawsIn
import KE.KDictOf
import PyProof.AttrMissHeap
import PyProof.Draws
import PyProof.EnumMake
import PyProof.Rows.EnumRows
import PyProof.LongRange
import PyProof.NoPylong
import PyProof.SeqI3
import PyProof.Rows.SeqCalls
import PyProof.StrLawsChain
import PyProof.StrCalls2
import KE.KIntText
import PyProof.Rows.CallKwBuiltin
import OpenK.KOwn
import OpenK.KRaise
import PyProof.ExcBaseAll.ValueError
import PyProof.Rows.CatchOwn
import KE.KIsAll
import PyProof.ExcArgsOwn
import PyProof.ExcAttrAll.ValueError
import PyProof.Rows.SeqMore2
import PyProof.ListMulAny
import PyProof.ListMulRoad
import PyProof.ZipIter
import PyProof.Rows.FactsT2
import PyProof.ExcInit
import PyProof.InstStoreFacts
import PyProof.StrCalls
import PyProof.FactsAll.dict_1
import PyProof.FactsAll.subtypes_3
import PyProof.FactsAll.subtypes_4
import PyProof.Dict
import PyProof.MinMaxWalk
import PyProof.WalkInts
import PyProof.WalksMore
import PyProof.FactsAll.tuple_2
import KE.KSortTup
import PyProof.Rows.SortWalk
import PyProof.Rows.SetFrom
import PyProof.DictKinds
import PyProof.DictStraight
import PyProof.SetRoads
import PyProof.CollectWalk
import PyProof.CollectStr
import PyProof.DictIter
import PyProof.Rows.SortShell
import KE.KItemsList
import PyProof.Rows.SortStr
import PyProof.DictItemsLoops
import PyProof.ListNew
import PyProof.Rows.SumAny
import KE.IntBitsLaws
import KE.KLam
import KE.KDictList
import KE.KNestM
import PyProof.DictRoadsH
import PyProof.Rows.TupDisplay
import PyProof.DictTruth
import PyProof.DictWalks
import PySem.Challenge.RW_tilegrow_k65_tiles_that_are_one
open PySem renaming wpAny_bind→W0,wpAny_pure→W1,Shared→W2,wpAny→W7,sizeLine→W9,Spec→Wa,starEach→Wj,Program→Wm,World→Wr,Around→Ws,wpAny_call_entry→Ww,wpAny_holding→WB,mem_of_lookup→WC,wpAny_callSpecial?_slot→WD,cLine→WE,mainGlobals→WH,wpAny_newObj_type→WK,compareOp→WN,wpAny_field→WQ,wpAny_setField_rec→WY,wpAny_dictEntries→Q4,rawInt→Q6,sysModules→Q8,assignEach→Qk,FuncData→Ql,pyNext→Qu,bootBuiltins→Qx,binaryOp→Qy,behindInMarks→QA,wpAny_mono→QB,wpAny_truthy_bool→QC,foldedSetIterable→QD,wpAny_dictEpoch→QF,sizeLine_eq→QG,backTo→QJ,cellsFrom→QK,wpAny_notOrdered_dict→QM,wpAny_seqItems→QN,wpAny_rule→QT,wpAny_typeNameOfWhole_itemiter→QU,attributeBase→QY,wpAny_typeNameOfWhole_keyiter→J0,wpAny_typeNameOfWhole_valiter→J1,wpAny_passesOwn→J7,wpAny_loadPart'→J8,wpAny_attempt→Jb,wpAny_typeNameOf_itemiter→Jf,swapsWith→Jg,strIterType→Jh,wpAny_isInstance→Jl,wpAny_typeNameOf_keyiter→Jm,wpAny_typeNameOf_valiter→Jn,wpAny_pyIter_slot→Jt,codeAny→Jw,wpAny_fieldsOf→Jx,firstArgMember→Jy,sliceBounds→JC,wpAny_typeOf→JF,tupleKind_room_in1→JG,pushCells→JH,getattributeRaised→JJ,getItem→JM,typeIs_int→JN,wpAny_setField→JP,isSubtype_stop→JQ,wpAny_sequenceKey→JR,wpAny_pyIter_list→JS
open List renaming getElem?_eq_some_iff→W3,getElem?_set_ne→W5,getElem?_eq_getElem→W6,mem_cons_of_mem→Wc,map_cons→Wd,mem_cons_self→We,replicate→Wf,mem_of_getElem?→Wh,length_map→Wi,getElem?_map→Wl,getElem?_set_self→Wn,mem_cons→Wo,size_toArray→Wq,map_map→Wu,mem_map_of_mem→Wy,mem_map→Wz,length_cons→WG,nodup_cons→WL,find?_cons→WM,mem_iff_getElem?→WO,replicate_succ→WR,map_congr_left→WS,length_set→WT,any_cons→WV,length_append→WX,mem_append_right→Q0,getElem?_eq_none→Q1,map_append→Q2,getElem?_set→Q3,range→Q9,mem_append→Qa,nil_append→Qb,all_eq_true→Qe,getElem?_cons_zero→Qj,lookup_cons→Qm,nodup_iff_pairwise_ne→Qq,append_nil→Qv,any_eq_true→Qz,length→QH,filter_cons→QI,drop_eq_getElem_cons→QP,length_nil→QS,flatten_cons→QW,take_add_one→QX,getElem?_cons_succ→J2,getElem_mem→J4,foldl_cons→J9,getD_eq_getElem?_getD→Ja,any_eq_false→Jc,getElem?_append_left→Jd,any_map→Jj,take_length→Jk,length_range→Js,pairwise_map→Ju,flatMap_cons→Jv,getElem?_of_mem→JA,all_cons→JB,forIn_cons→JD,pairwise_cons→JI,toArray→JK,forIn_nil→JO,getElem?_inj→JT,nodup_append→JU,getElem_inj→JX,length_take→JY,map_nil→U1
open PySem.W renaming Frag→W4,mg_none_of→WZ,kia_one→Qi,fnOf→QR,kitOne→J3,keepIn→JL
open PySem.Heap renaming get?_push_of_some→W8,get?_push_size→Wg,lt_size→Wp,SameBut→Qp,size_push→Qr,get?_update_self→QL,get?_update_other→Jq
open Option.some renaming injEq→Wb,inj→Wx
open Nat renaming le_refl→Wk,lt_of_lt_of_le→WF,ne_of_lt→WW,zero_le→Qc,zero_add→Qh,lt_irrefl→Qn,le_trans→Qo,ne_of_gt→JE,le_succ→JW,le_of_lt→JZ,succ_mul→U0
open Bool renaming and_eq_true→Wt,false_ne_true→Wv,false_eq_true→Q7,eq_iff_iff→Jp,eq_false_iff→JV
open Option renaming map_eq_some_iff→WA,map_some→WI,bind_some→Qd,isSome_iff_exists→Qf,bind_eq_some_iff→Jo,getD_some→Jz
open PySem.Builtin.SmallTypes renaming ownedTupleIsFree→WJ,nextOf→Q5
open Array renaming length_toList→WP,getElem?_toList→Qw,getElem?_eq_none→Jr
open PySem.Builtin.Dict_items renaming ownsTuple→WU
open PyProof.Rows renaming seqObj→Qg,slot_tuple_getitem→QQ
open Int renaming toNat_natCast→Qs
open PySem.Heap.SameBut renaming update→Qt
open PySem.Builtin.Str renaming strSliceIndices→QE
open PySem.Builtin.Dict renaming showsAll→QO
open PySem.F renaming slot_dict_valueiterator_next→QV,slot_dict_itemiterator_next→QZ,slot_dict_keyiterator_next→J5
open PySem.Builtin.Slice renaming slicePlaces→Je
open PySem.Builtin.Tuple renaming tupleExact→Ji
set_option Elab.async false
set_option linter.all false
set_option maxRecDepth 100000
namespace L2
open PySem PySem.Spec PyProof.Rows
abbrev Key:=Sum Int Str
def ij:Key->Value->Bool
 | .inl k,v=>Value.isInt k v
 | .inr x,v=>Value.isStrOf x v
def tK(w:Wr):Key->Int
 | .inl k=>hashInt k
 | .inr x=>hashStr w x
theorem jh:∀ {k:Key} {v:Value},ij k v=true->(∃ i t,k=Sum.inl i/\v=Value.int i t)\/(∃ x t,k=Sum.inr x/\v=Value.str x t)
 | .inl i,v,h=>by
  obtain⟨t,e⟩:=Value.isInt_shape (k:=i) (v:=v) h;exact .inl ⟨i,t,rfl,e⟩
 | .inr x,v,h=>by
  obtain⟨t,e⟩:=Value.isStrOf_shape (x:=x) (v:=v) h;exact .inr ⟨x,t,rfl,e⟩
theorem D_(i:Int)(t:Tok):ij (.inl i) (.int i t)=true:=by simp[ij,Value.isInt]
theorem Ea(x:Str)(t:Tok):ij (.inr x) (.str x t)=true:=by simp[ij,Value.isStrOf]
theorem Eb(a b:Int):decide ((Sum.inl a:Key)=Sum.inl b)=(a == b):=by
 by_cases e:a=b
 ·subst e; simp
 ·have h:¬ (Sum.inl a:Key)=Sum.inl b:=λq=>e (Sum.inl.inj q)
  rw[decide_eq_false h];exact(beq_eq_false_iff_ne.mpr e).symm
theorem Ec(a b:Str):decide ((Sum.inr a:Key)=Sum.inr b)=decide (a=b):=by
 by_cases e:a=b
 ·subst e; simp
 ·have h:¬ (Sum.inr a:Key)=Sum.inr b:=λq=>e (Sum.inr.inj q)
  rw[decide_eq_false h,decide_eq_false e]
theorem Ed(a:Int)(b:Str):decide ((Sum.inl a:Key)=Sum.inr b)=false:=decide_eq_false (λq=>nomatch q)
theorem Ee(a:Str)(b:Int):decide ((Sum.inr a:Key)=Sum.inl b)=false:=decide_eq_false (λq=>nomatch q)
def e_(prog:Wm)(w:Wr):PySem.KeyKind prog w Key where
 is:=ij
 hash:=tK w
 inj:=λv a b ha hb=>by
  rcases jh ha with ⟨i,t,rfl,rfl⟩ | ⟨x,t,rfl,rfl⟩
  ·rcases jh hb with ⟨j,u,rfl,e⟩ | ⟨y,u,rfl,e⟩
   ·injection e with e1 _; rw[e1]
   ·exact nomatch e
  ·rcases jh hb with ⟨j,u,rfl,e⟩ | ⟨y,u,rfl,e⟩
   ·exact nomatch e
   ·injection e with e1 _; rw[e1]
 byValue:=λk v h=>by
  rcases jh h with ⟨i,t,rfl,rfl⟩ | ⟨x,t,rfl,rfl⟩ <;> rfl
 pyHash:=λhv h=>by
  rcases jh hv with ⟨i,t,rfl,rfl⟩ | ⟨x,t,rfl,rfl⟩
  ·exact wpAny_pyHash_int h
  ·exact wpAny_pyHash_str h
 eqBool:=λhu hv h=>by
  rcases jh hu with ⟨i,t,rfl,rfl⟩ | ⟨x,t,rfl,rfl⟩
  ·rcases jh hv with ⟨j,u,rfl,rfl⟩ | ⟨y,u,rfl,rfl⟩
   ·rw[Eb] at h; exact wpAny_eqBool_int h
   ·rw[Ed] at h; exact SeqAt.EqAt.int_str i t y u _ _ _ _ h
  ·rcases jh hv with ⟨j,u,rfl,rfl⟩ | ⟨y,u,rfl,rfl⟩
   ·rw[Ee] at h; exact SeqAt.EqAt.str_int x t j u _ _ _ _ h
   ·rw[Ec] at h; exact wpAny_eqBool_str h
 «strs»:=λk x t v h=>by
  rcases jh h with ⟨i,u,rfl,e⟩ | ⟨y,u,rfl,e⟩
  ·exact nomatch e
  ·injection e with e1 _
   subst e1
   cases v <;> rfl
theorem Ef(prog:Wm)(w:Wr)(k:Key)(v:Value):(e_ prog w).is k v=ij k v:=rfl
theorem Eg(prog:Wm)(w:Wr)(i:Int)(t:Tok):(e_ prog w).is (.inl i) (.int i t)=true:=D_ i t
theorem Eh(prog:Wm)(w:Wr)(x:Str)(t:Tok):(e_ prog w).is (.inr x) (.str x t)=true:=Ea x t
inductive V where
 | a7 | bl (b:Bool) | int (i:Int) | str (x:Str) | byt (b:Array UInt8) | flt (b:UInt64) | ref (a:Addr) | ty (n:String)
 deriving DecidableEq
def RelV:V->Value->Prop
 | .a7,u=>u=Value.none
 | .bl b,u=>u=Value.bool b
 | .int i,u=>∃ t,u=Value.int i t
 | .str x,u=>∃ t,u=Value.str x t
 | .byt b,u=>∃ t,u=Value.bytes b t
 | .flt b,u=>∃ t,u=Value.float b t
 | .ref a,u=>u=Value.ref a
 | .ty n,u=>u=Value.type n
abbrev Vals:List V->List Value->Prop:=Paired RelV
theorem Vals.length(r:Vals xs us):xs.length=us.length:=Paired.length r
theorem Vals.get:∀ {xs:List V} {us:List Value} {i:Nat} {x:V},Vals xs us->xs[i]? = some x->∃ u,us[i]? = some u/\RelV x u
 | _,_,_,_,.nil,e=>by simp at e
 | _,_,0,_,.cons r _,e=>by simp at e; subst e; exact⟨_,rfl,r⟩
 | _,_,i + 1,x,.cons _ t,e=>by
  obtain⟨u,h1,h2⟩:=Vals.get (i:=i) (x:=x) t (by simpa using e);exact⟨u,by simpa using h1,h2⟩
theorem Vals.set(r:RelV x u):∀ {xs:List V} {us:List Value} (i:Nat),Vals xs us->Vals (xs.set i x) (us.set i u)
 | _,_,_,.nil=>.nil
 | _,_,0,.cons _ t=>.cons r t
 | _,_,i + 1,.cons q t=>.cons q (Vals.set r i t)
theorem Vals.append:∀ {xs ys:List V} {us ws:List Value},Vals xs us->Vals ys ws->Vals (xs ++ ys) (us ++ ws)
 | _,_,_,_,.nil,s=>s
 | _,_,_,_,.cons r t,s=>.cons r (Vals.append t s)
theorem Vals.take:∀ {xs:List V} {us:List Value} (n:Nat),Vals xs us->Vals (xs.take n) (us.take n)
 | _,_,0,_=>.nil
 | _,_,_ + 1,.nil=>.nil
 | _,_,n + 1,.cons r t=>.cons r (Vals.take n t)
theorem Vals.drop:∀ {xs:List V} {us:List Value} (n:Nat),Vals xs us->Vals (xs.drop n) (us.drop n)
 | _,_,0,r=>r
 | _,_,_ + 1,.nil=>.nil
 | _,_,n + 1,.cons _ t=>Vals.drop n t
def fc:Option V->Option Value->Prop
 | some v,some u=>RelV v u
 | none,none=>True
 | _,_=>False
def KV{κ:Type}:List (κ×V)->List (κ×Value)->Prop:=Paired λ(p:κ×V) (q:κ×Value)=>p.1=q.1/\RelV p.2 q.2
def kV:Key->V
 | .inl i=>.int i
 | .inr x=>.str x
inductive NK where
 | i (z:Int) | s (x:Str) | t (ks:List NK)
noncomputable instance nkDec:DecidableEq NK:=λa b=>Classical.propDecidable (a=b)
mutual
def fA(w:Wr):NK->Int
 | .i z=>tK w (.inl z)
 | .s x=>tK w (.inr x)
 | .t ks=>reduceHash (Builtin.Tuple.tupleHashOf (qq w ks))
def qq(w:Wr):List NK->List Int
 | []=>[]
 | k :: ks=>fA w k :: qq w ks
end
inductive HO where
  | lst (xs:List V)
  | tup (xs:List V)
  | dK (aa:List (Key×V)) | dT (aa:List (List Key×V))
  | set (S:Int->Bool) (n:Nat)
  | ins (C dx:Addr) (fs:List (Str×V))
  | own (x:Addr)
  | xd (fs:List (Str×V))
  | met (f x:Addr)
  | ke (lo hi:Int)
  | frz (o:Obj) (u:HO)
  | tbl (ps:Array Value)
  | ctab (pos:Pos) (q:Str)
  | dN (ep:Nat) (aa:List (NK×V×V))
  | ext (φ:Heap->Prop)
abbrev Hp:=Addr->Option HO
def upd(H:Hp)(a:Addr)(o:HO):Hp:=λb=>if b=a then some o else H b
theorem dq:upd H a o a=some o:=by unfold upd; rw[if_pos rfl]
theorem ba(h:b≠a):upd H a o b=H b:=by unfold upd; rw[if_neg h]
theorem Ei:upd (upd H a o) a u=upd H a u:=by
 funext b; unfold upd; split <;> rfl
theorem Ej{H:Hp}{a b:Addr}{o u:HO}(h:H a=some o)(h':H b=some u)(d:o≠u):a≠b:=by
 intro e; subst e; rw[h] at h'; exact d (Wx h')
theorem gq{H:Hp}{a b:Addr}{o:HO}(h:H a=some o)(h':H b=none):a≠b:=by
 intro e; subst e; rw[h] at h'; cases h'
def iT (h:Heap) (a:Addr) (ag:Array Value):Prop:=∃ n,h.get? a=some { cls:=.type "tuple",dict:=none,data:=.seq ag n,slots:=#[] }
theorem iT.tup(x:iT h a ag):IsTup h a ag:=let ⟨n,e⟩:=x; ⟨_,e,rfl,n,rfl⟩
theorem iT.new (h:Heap) (ag:Array Value):iT (h.push { cls:=.type "tuple",data:=.seq ag }) h.objs.size ag:=⟨_,Wg _ rfl⟩
theorem iT.lt(x:iT h a ag):a < h.objs.size:=let ⟨_,e⟩:=x; Wp e
section
variable (P:Wm) (w:Wr)
def b0(H:Hp)(h:Heap)(a:Addr):HO->Prop
 | .lst xs=>xs.length<=W9/\∃ (ag:List Value) (n:Nat),Vals xs ag/\h.get? a=some { cls:=.type "list",data:=.seq ag.toArray n }
 | .tup xs=>xs.length<=W9/\∃ ag:List Value,Vals xs ag/\iT h a ag.toArray
 | .dK aa=>aa.length<=W9/\(a == Q8)=false/\∃ vs,KV aa vs/\h.DictOf (e_ P w) a vs
 | .dT aa=>aa.length<=W9/\(a == Q8)=false/\∃ xs:List (List Key×Addr×Value),
   Paired (λ(p:List Key×V) (q:List Key×Addr×Value)=>p.1=q.1/\H q.2.1=some (.tup (p.1.map kV))/\RelV p.2 q.2.2) aa xs /\
   ∃ o es ep,h.get? a=some o/\o.ExactDict/\o.data = .dict es ep/\es.toList=xs.map (entryOfKey (tupleKind (e_ P w)))/\(xs.map (·.1)).Nodup
 | .set S n=>h.SetOf (intKind P w) a S n
 | .ins C dx fs=>H dx=some (.own a)/\fs.length<=1000/\dx≠a/\h.get? a=some (PySem.W.instObj C dx) /\
   ∃ mA,h.Ns1 dx mA/\(∀ f,fc (fs.lookup f) (mA f))/\PySem.Within mA (fs.map (·.1))
 | .own _=>∃ o,h.get? a=some o
 | .xd fs=>∃ mA,h.Ns1 a mA/\∀ f,fc (fs.lookup f) (mA f)
 | .ke lo hi=>∃ t u v,h.get? a=some { cls:=.type "range",data:=.fields #[.int lo t,.int hi u,.int 1 v] }
 | .frz o u=>h.get? a=some o/\b0 H h a u
 | .tbl ps=>h.get? a=some { cls:=.none,data:=.fields ps }
 | .dN ep aa=>aa.length<=W9/\(a == Q8)=false/\∃ o es,h.get? a=some o/\o.ExactDict/\o.data = .dict es ep/\Paired (λ(p:NK×V×V) (e:DictEntry)=>e.hash=fA w p.1/\RelV p.2.1 e.key/\RelV p.2.2 e.val) aa es.toList/\(aa.map (·.1)).Nodup
 | .ctab pos q=>∃ ps,h.get? a=some { cls:=.none,data:=.fields ps }/\TriplesOk ps.toList/\∀ cv,codeAmong pos ps.toList=some cv->∃ c' oc,cv = .ref c'/\H c'=some (.frz oc (.ext λ_=>True))/\∃ vs tq,oc.data = .fields vs/\vs[1]? = some (.str q tq)
 | .met f x=>h.get? a=some (PySem.W.methodObj (.ref f) (.ref x))
 | .ext φ=>φ h/\(∃ o,h.get? a=some o)/\∀ h1 h2:Heap,φ h1->(∀ o,h1.get? a=some o->h2.get? a=some o)->φ h2
def cD(H:Hp)(h:Heap):Prop:=∀ a o,H a=some o->b0 P w H h a o
end
section
variable {P:Wm} {w:Wr} {H H':Hp} {h h':Heap} {a:Addr} {o:HO}
theorem b0.lt(x:b0 P w H h a o):a < h.objs.size:=by
 cases o with
 | lst xs=>obtain⟨_,_,_,_,e⟩:=x; exact Wp e
 | tup xs=>obtain⟨_,_,_,p⟩:=x; exact p.lt
 | dK aa=>obtain⟨_,_,_,_,o,_,_,e,_⟩:=x; exact Wp e
 | dT aa=>obtain⟨_,_,_,_,o,_,_,e,_⟩:=x; exact Wp e
 | set S n=>obtain⟨o,_,_,_,e,_⟩:=x; exact Wp e
 | ins C dx fs=>obtain⟨_,_,_,e,_⟩:=x; exact Wp e
 | own y=>obtain⟨_,e⟩:=x; exact Wp e
 | xd fs=>obtain⟨_,⟨_,_,_,e,_⟩,_⟩:=x; exact Wp e
 | ke lo hi=>obtain⟨_,_,_,e⟩:=x; exact Wp e
 | frz ob u=>obtain⟨e,_⟩:=x; exact Wp e
 | tbl ps=>exact Wp (show h.get? a=some _ from x)
 | ctab pos q=>obtain⟨_,e,_⟩:=x; exact Wp e
 | dN ep aa=>obtain⟨_,_,_,_,e,_⟩:=x; exact Wp e
 | met f y=>exact Wp (show h.get? a=some _ from x)
 | ext φ=>obtain⟨_,⟨_,e⟩,_⟩:=x; exact Wp e
theorem Paired.tL:∀ {l₁:List α} {l₂:List β},Paired F l₁ l₂->(∀ a b,F a b->G a b)->Paired G l₁ l₂
 | _,_,.nil,_=>.nil
 | _,_,.cons r t,f=>.cons (f _ _ r) (Paired.tL t f)
theorem b0.mT(x:b0 P w H h a o)(k:∀ b u,(b=a\/H b=some (.own a))->h.get? b=some u->h'.get? b=some u)
  (ho:∀ b,H b=some (.own a)->H' b=some (.own a)) (ht:∀ b xs,H b=some (.tup xs)->H' b=some (.tup xs)) (hf:∀ b o u,H b=some (.frz o u)->H' b=some (.frz o u)):b0 P w H' h' a o:=by
 induction o with
 | lst xs=>obtain⟨z,ag,n,r,e⟩:=x; exact⟨z,ag,n,r,k _ _ (.inl rfl) e⟩
 | tup xs=>obtain⟨z,ag,r,n,e⟩:=x; exact⟨z,ag,r,n,k _ _ (.inl rfl) e⟩
 | dK aa=>obtain⟨z,y,vs,r,ob,es,ep,e,c⟩:=x; exact⟨z,y,vs,r,ob,es,ep,k _ _ (.inl rfl) e,c⟩
 | dT aa =>
  obtain⟨z,y,xs,r,ob,es,ep,e,c⟩:=x;exact⟨z,y,xs,Paired.tL r λp q z=>⟨z.1,ht _ _ z.2.1,z.2.2⟩,ob,es,ep,k _ _ (.inl rfl) e,c⟩
 | set S n=>obtain⟨ob,es,ep,t,e,c⟩:=x; exact⟨ob,es,ep,t,k _ _ (.inl rfl) e,c⟩
 | ins C dx fs =>
  obtain⟨d,z,ne,e,mA,⟨od,es,ep,e2,c⟩,r⟩:=x;exact⟨ho _ d,z,ne,k _ _ (.inl rfl) e,mA,⟨od,es,ep,k _ _ (.inr d) e2,c⟩,r⟩
 | own y=>obtain⟨ob,e⟩:=x; exact⟨ob,k _ _ (.inl rfl) e⟩
 | xd fs=>obtain⟨mA,⟨od,es,ep,e,c⟩,r⟩:=x; exact⟨mA,⟨od,es,ep,k _ _ (.inl rfl) e,c⟩,r⟩
 | ke lo hi=>obtain⟨t,u,v,e⟩:=x; exact⟨t,u,v,k _ _ (.inl rfl) e⟩
 | frz ob u ih=>obtain⟨e,q⟩:=x; exact⟨k _ _ (.inl rfl) e,ih q⟩
 | dN ep aa=>obtain⟨z,y,ob,es,e,c⟩:=x; exact⟨z,y,ob,es,k _ _ (.inl rfl) e,c⟩
 | ctab pos q=>obtain⟨ps,e,t,r⟩:=x; exact⟨ps,k _ _ (.inl rfl) e,t,λcv z=>let ⟨c',oc,z1,z2,z3⟩:=r cv z; ⟨c',oc,z1,hf _ _ _ z2,z3⟩⟩
 | tbl ps =>
  have e:h.get? a=some { cls:=.none,data:=.fields ps }:=x;show h'.get? a=some { cls:=.none,data:=.fields ps };exact k a _ (.inl rfl) e
 | met f y =>
  have e:h.get? a=some (PySem.W.methodObj (.ref f) (.ref y)):=x;show h'.get? a=some (PySem.W.methodObj (.ref f) (.ref y));exact k a _ (.inl rfl) e
 | ext φ=>obtain⟨p,⟨o,e⟩,st⟩:=x; exact⟨st _ _ p λo q=>k _ _ (.inl rfl) q,⟨o,k _ _ (.inl rfl) e⟩,st⟩
theorem cD.lt(x:cD P w H h)(e:H a=some o):a < h.objs.size:=(x a o e).lt
theorem cD.fresh(x:cD P w H h)(e:h.objs.size<=a):H a=none:=by
 cases q:H a with
 | none=>rfl
 | some u=>exact absurd (WF (x.lt q) e) (Qn _)
theorem cD.kept(x:cD P w H h)(k:∀ b u,h.get? b=some u->h'.get? b=some u):cD P w H h':=λa o e =>
 (x a o e).mT (λb u _ q=>k b u q) (λ_ q=>q) (λ_ _ q=>q) λ_ _ _ q=>q
theorem cD.laid(x:cD P w H h)(k:∀ b u,h.get? b=some u->h'.get? b=some u)(hp:h.objs.size<=a)(new:b0 P w (upd H a o) h' a o):cD P w (upd H a o) h':=λb u e=>by
 have hn:=x.fresh hp;by_cases hb:b=a
 ·subst hb; rw[dq] at e; cases e; exact new
 ·rw[ba hb] at e;exact(x b u e).mT (λc v _ q=>k c v q) (λc q=>by rw[ba (gq q hn)]; exact q) (λc xs q=>by rw[ba (gq q hn)]; exact q) λc o u q=>by rw[ba (gq q hn)]; exact q
end
def Rd(H:Hp)(a:Addr)(u:HO):Prop:=H a=some u\/∃ o,H a=some (.frz o u)
theorem Rd.ok(r:Rd H a u)(x:cD P w H h):b0 P w H h a u:=by
 rcases r with r | ⟨o,r⟩
 ·exact x a u r
 ·obtain⟨_,q⟩:=x a _ r;exact q
def oJ:Option HO->Prop
 | some (.lst _)=>True
 | some (.dK _)=>True
 | some (.dT _)=>True
 | some (.dN _ _)=>True
 | some (.set _ _)=>True
 | some (.ins _ _ _)=>True
 | some (.ext _)=>True
 | _=>False
section
variable {P:Wm} {w:Wr} {H:Hp} {h h':Heap} {x e:Addr} {o':HO}
theorem cD.write(ok:cD P w H h)(mu:oJ (H x))(he:e=x\/H e=some (.own x))(k:∀ b u,b≠e->h.get? b=some u->h'.get? b=some u)(mU:∃ u,h'.get? e=some u)
  (new:b0 P w (upd H x o') h' x o'):cD P w (upd H x o') h':=λb u q=>by
 have oK:∀ c y,H c=some (.own y)->c≠x:=λc y r z=>by subst z; rw[r] at mu; exact mu
 have Ek:∀ c xs,H c=some (.tup xs)->c≠x:=λc xs r z=>by subst z; rw[r] at mu; exact mu
 have El:∀ c o u,H c=some (.frz o u)->c≠x:=λc o u r z=>by subst z; rw[r] at mu; exact mu
 by_cases hb:b=x
 ·subst hb; rw[dq] at q; cases q; exact new
 ·rw[ba hb] at q;by_cases hbe:b=e
  ·have q':H b=some (.own x):=by
    rcases he with z | z
    ·exact absurd (hbe.trans z) hb
    ·rw[hbe]; exact z
   rw[q] at q'; cases q'
   obtain⟨v,hv⟩:=mU;exact⟨v,by rw[hbe]; exact hv⟩
  ·refine(ok b u q).mT (λc v hc r=>k c v ?_ r) (λc r=>by rw[ba (oK c b r)]; exact r) (λc xs r=>by rw[ba (Ek c xs r)]; exact r) λc o u r=>by rw[ba (El c o u r)]; exact r
   rcases hc with rfl | hc
   ·exact hbe
   ·rintro rfl;rcases he with z | z
    ·exact oK c b hc z
    ·rw[hc] at z; cases z; exact hb rfl
end
structure Un(fs ex:List Addr)(H H':Hp)(h h':Heap):Prop where
 keep:∀ b o,h.get? b=some o->H b=none->b ∉ fs->b ∉ ex->h'.get? b=some o
 slot:∀ b o,h.get? b=some o->H b=none->b ∈ fs->b ∉ ex->∃ sl,h'.get? b=some { o with slots:=sl }
 free:∀ b o,h.get? b=some o->H b=none->b ∉ ex->H' b=none
 there:∀ b o,h.get? b=some o->b ∉ ex->∃ o',h'.get? b=some o'
 kM:∀ b xs,H b=some (.tup xs)->H' b=some (.tup xs)
 kf:∀ b o u,H b=some (.frz o u)->H' b=some (.frz o u)
 kO:∀ b ps,H b=some (.tbl ps)->∃ more,H' b=some (.tbl (ps ++ more))
section
variable {fs Em ex P5:List Addr} {H H1 H2:Hp} {h h1 h2 h':Heap} {a x e:Addr} {o:HO}
theorem Un.any(u:Un fs ex H H1 h h1)(q:h.get? b=some ob)(n:H b=none)(hx:b ∉ ex):∃ sl,h1.get? b=some { ob with slots:=sl }:=by
 by_cases hb:b ∈ fs
 ·exact u.slot b ob q n hb hx
 ·exact⟨ob.slots,u.keep b ob q n hb hx⟩
theorem Un.kept(k:∀ b u,h.get? b=some u->h'.get? b=some u):Un fs ex H H h h' :=
 ⟨λb ob q _ _ _=>k b ob q,λb ob q _ _ _=>⟨ob.slots,k b ob q⟩,λ_ _ _ n _=>n,λb ob q _=>⟨ob,k b ob q⟩,λ_ _ q=>q,λ_ _ _ q=>q,λ_ ps q=>⟨#[],by rw[q]; simp⟩⟩
theorem Un.refl:Un fs ex H H h h:=Un.kept λ_ _ q=>q
theorem Un.laid(k:∀ b u,h.get? b=some u->h'.get? b=some u)(hp:h.objs.size<=a)(hn:H a=none):Un fs ex H (upd H a o) h h' where
 keep:=λb u q _ _ _=>k b u q
 slot:=λb u q _ _ _=>⟨u.slots,k b u q⟩
 free:=λb u q n _=>by rw[ba (WW (WF (Wp q) hp))]; exact n
 there:=λb u q _=>⟨u,k b u q⟩
 kM:=λb xs q=>by rw[ba (gq q hn)]; exact q
 kf:=λb u xs q=>by rw[ba (gq q hn)]; exact q
 kO:=λb ps q=>⟨#[],by rw[ba (gq q hn),q]; simp⟩
theorem Un.write(mu:oJ (H x))(he:e=x\/H e=some (.own x))(k:∀ b u,b≠e->h.get? b=some u->h'.get? b=some u)(mU:∃ u,h'.get? e=some u):Un fs ex H (upd H x o) h h':=by
 have hx:∀ b,H b=none->b≠x:=λb n z=>by subst z; rw[n] at mu; exact mu
 have hb:∀ b,H b=none->b≠e:=λb n z=>by
  subst z;rcases he with r | r
  ·exact hx b n r
  ·rw[n] at r; cases r
 have hm:∀ b u,H b=some u->¬ oJ (some u)->b≠x:=λb u q nm z=>by subst z; rw[q] at mu; exact nm mu
 refine⟨λb u q n _ _=>k b u (hb b n) q,λb u q n _ _=>⟨u.slots,k b u (hb b n) q⟩,λb u q n _=>by rw[ba (hx b n)]; exact n,λb u q _=>?_,
  λb xs q=>by rw[ba (hm b _ q λz=>z)]; exact q,λb u xs q=>by rw[ba (hm b _ q λz=>z)]; exact q,λb ps q=>⟨#[],by rw[ba (hm b _ q λz=>z),q]; simp⟩⟩
 by_cases hbe:b=e
 ·subst hbe; exact mU
 ·exact⟨u,k b u hbe q⟩
end
def qr(h:Heap)(H:Hp):List Addr:=(Q9 h.objs.size).filter λa=>(H a).isSome
def kg(h:Heap)(H:Hp):Heap:=PySem.W.hideAll h (qr h H)
theorem En(h:Heap)(H:Hp):(kg h H).objs.size=h.objs.size:=PySem.W.hideAll_size _ _
theorem Eo(e:h.get? b=some o)(n:H b=none):(kg h H).get? b=some o :=
 PySem.W.hideAll_get _ e λhm=>by
  have q:(H b).isSome=true:=(List.mem_filter.mp hm).2;rw[n] at q; simp at q
theorem Ep(e:(kg h H).get? b=some o):h.get? b=some o/\H b=none:=by
 have e':h.get? b=some o:=PySem.W.of_hideAll (qr h H) e;refine⟨e',?_⟩
 cases q:H b with
 | none=>rfl
 | some x =>
  have hm:b ∈ qr h H:=List.mem_filter.mpr ⟨List.mem_range.mpr (Wp e'),by simp[q]⟩;have z:(kg h H).get? b=none:=PySem.W.hideAll_none (qr h H) hm;rw[z] at e; cases e
def Er(g h:Heap)(L:Addr):List (Addr×Obj):=(Q9 h.objs.size).filterMap λa=>if a=L\/(g.get? a).isSome=true then none else(h.get? a).map λo=>(a,o)
def rest(g h:Heap)(L d:Addr):List (Addr×Obj):=(Er g h L).filter λp=>decide (p.1≠d)
structure Mod(K:W4)(mg:Str->Option Value)(base:Heap):Prop where
 tM:K.In base
 glob:base.Ns WH mg
 blt:∃ mb,base.Ns builtinsNs mb/\∀ x:Str,x≠"__name__"->mb x=Qx x
 nolimit:base.NoLimit
structure Cx where
 prog:Wm
 w:Wr
 K:W4
 mg:Str->Option Value
 base:Heap
 A:Ws
 N:List Str
 s₀:W2
 H₀:Hp
 env:Env
 outer:List Env
 stack:List Env
 ex:List Addr
 fn:Str->Bool
 calm:Bool
 pn:List (Addr×Obj)
 xe:Value->W2->Prop
def ik(l:List Env):List Addr:=l.filterMap (·.frame)
abbrev Cx.fs(X:Cx):List Addr:=ik X.outer
def qt(sc:Scope)(x:Str):Prop:=sc.names.lookup x=some .local\/sc.names.lookup x=some .cell\/sc.names.lookup x=some .free
def Loc(sc:Scope)(x:Str):Prop:=sc.names.lookup x=some .local\/sc.names.lookup x=some .cell
def Look(env:Env)(h:Heap)(m:Str->Option Value)(x:Str)(u:Value):Prop :=
 (env.kindOf x=some .local/\m x=some u)\/((env.kindOf x=some .cell\/env.kindOf x=some .free)/\∃ c,env.cells.lookup x=some c/\h.IsCell c (some u))
structure Cx.Ok(X:Cx):Prop where
 mod:Mod X.K X.mg X.base
 kind:X.env.scope.kind = .function
 glob:X.env.globals=WH
 blt:X.env.builtins=builtinsNs
 above:X.s₀.heap.objs.size<=X.env.locals
 inj:∀ x y c,X.env.cells.lookup x=some c->X.env.cells.lookup y=some c->x=y
 has:∀ x,(X.env.kindOf x=some .cell\/X.env.kindOf x=some .free)->∃ c,X.env.cells.lookup x=some c
 oM:∀ x c,X.fn x=true->X.env.cells.lookup x=some c->X.s₀.heap.objs.size<=c
 hd:X.calm=true->X.A.handled=none
 frames:X.A.frames=some X.stack
 qu:X.stack=X.outer\/(X.stack=X.env :: X.outer/\X.env.frame=some X.env.locals)
 qv:∀ b ∈ X.ex,b≠X.env.locals/\∀ x c,X.env.cells.lookup x=some c->c≠b
 bs:∀ b o,X.base.get? b=some o->X.s₀.heap.get? b=some o/\X.H₀ b=none
 kP:X.base.objs.size<=X.s₀.heap.objs.size
 oN:∀ b o,X.base.get? b=some o->b ∉ X.ex
 oO:∀ b ∈ X.ex,b ∉ X.fs
 ji:X.s₀.heap.FunFrames X.base X.outer
 mV:∀ b ∈ X.fs,X.H₀ b=none
structure Inv(X:Cx)(pins:List (Addr×Obj))(σ:List (Option V))(H:Hp)(s:W2):Prop where
 ok:X.Ok
 os:s.os=X.s₀.os
 bare:AllBare s.gens
 base:Un X.fs X.ex X.H₀ H X.s₀.heap s.heap
 loc:∃ m,s.heap.Ns X.env.locals m/\∀ (i:Nat) (x:Str) (v:V),X.N[i]? = some x->σ[i]? = some (some v)->qt X.env.scope x->∃ u,RelV v u/\Look X.env s.heap m x u
 cell:∀ x c,X.env.cells.lookup x=some c->∃ v,s.heap.IsCell c v
 free:H X.env.locals=none
 jj:∀ x c,X.env.cells.lookup x=some c->H c=none
 pin:∀ p ∈ X.pn ++ pins,s.heap.get? p.1=some p.2/\H p.1=none/\p.1≠X.env.locals/\p.1 ∉ X.fs/\∀ v,p.2.data≠.cell v
 aC:cD X.prog X.w H s.heap
 len:σ.length=X.N.length
section
variable {X:Cx} {pins:List (Addr×Obj)} {σ:List (Option V)} {H H':Hp} {s:W2} {h':Heap}
theorem Cx.Ok.Es(ok:X.Ok)(e:X.base.get? b=some o):b ∉ X.fs:=λhb=>by
 have:=(ok.ji.mem hb).1;rw[e] at this; cases this
theorem Inv.bs(I:Inv X pins σ H s):∀ b o,X.base.get? b=some o->s.heap.get? b=some o/\H b=none:=λb o e =>
 ⟨I.base.keep b o (I.ok.bs b o e).1 (I.ok.bs b o e).2 (I.ok.Es e) (I.ok.oN b o e),I.base.free b o (I.ok.bs b o e).1 (I.ok.bs b o e).2 (I.ok.oN b o e)⟩
theorem Inv.bk(I:Inv X pins σ H s):∀ b o,X.base.get? b=some o->s.heap.get? b=some o:=λb o e=>(I.bs b o e).1
theorem Inv.mod(I:Inv X pins σ H s):Mod X.K X.mg X.base:=I.ok.mod
theorem Inv.fL(I:Inv X pins σ H s):X.K.In s.heap:=I.ok.mod.tM.keeps I.bk
theorem Inv.fr(I:Inv X pins σ H s):∃ m,Fr X.base X.env.locals s.heap m :=
 let ⟨m,hn,_⟩:=I.loc
 ⟨m,hn,I.bk,Qo I.ok.kP I.ok.above⟩
theorem Inv.lt(I:Inv X pins σ H s):X.env.locals < s.heap.objs.size:=let ⟨_,hn,_⟩:=I.loc; hn.lt
theorem Inv.sz(I:Inv X pins σ H s):X.s₀.heap.objs.size<=s.heap.objs.size:=Qo I.ok.above (JZ I.lt)
theorem Inv.Et(I:Inv X pins σ H s)(h:s.heap.objs.size<=a):a ∉ X.fs:=λhb=>by
 obtain⟨_,o,ho,_⟩:=I.ok.ji.mem hb;exact absurd (WF (Wp ho) (Qo I.sz h)) (Qn _)
theorem Inv.l0(I:Inv X pins σ H s):∀ x c,X.env.cells.lookup x=some c->c≠X.env.locals:=λx c e z=>by
 obtain⟨v,o,ho,hd⟩:=I.cell x c e;obtain⟨m,⟨o',es,ep,ho',hd',_⟩,_⟩:=I.loc;rw[z,ho'] at ho; cases ho; rw[hd'] at hd; cases hd
theorem Inv.ji(I:Inv X pins σ H s):s.heap.FunFrames X.base X.outer:=by
 have all:∀ (l:List Env),(∀ b ∈ ik l,b ∈ X.fs)->X.s₀.heap.FunFrames X.base l->s.heap.FunFrames X.base l:=by
  intro l;induction l with
  | nil=>intro _ _; trivial
  | cons env r ih =>
   intro hs hl;obtain⟨hk,⟨L,o,hf,hn,ho,hd⟩,hr⟩:=hl;have hL:L ∈ X.fs:=hs L (by unfold ik; rw[List.filterMap_cons,hf]; exact We);obtain⟨sl,e⟩:=I.base.slot L o ho (I.ok.mV L hL) hL λz=>I.ok.oO L z hL
   exact⟨hk,⟨L,_,hf,hn,e,hd⟩,ih (λb hb=>hs b (by unfold ik; rw[List.filterMap_cons,hf]; exact Wc _ hb)) hr⟩
 exact all X.outer (λ_ hb=>hb) I.ok.ji
theorem Inv.stack(I:Inv X pins σ H s):s.heap.FunFrames X.base X.stack:=by
 rcases I.ok.qu with e | ⟨e,hf⟩
 ·rw[e]; exact I.ji
 ·rw[e];obtain⟨m,hn,_⟩:=I.loc;refine .cons (by rw[I.ok.kind]; decide) hf hn ?_ I.ji;exact Heap.get?_none_of_le (Qo I.ok.kP I.ok.above)
theorem Inv.tN(I:Inv X pins σ H s):∀ b ∈ ik X.stack,b ∈ X.env.locals :: X.fs:=λb hb=>by
 rcases I.ok.qu with e | ⟨e,hf⟩
 ·rw[e] at hb; exact Wc _ hb
 ·rw[e] at hb;unfold ik at hb;rw[List.filterMap_cons,hf] at hb;exact hb
theorem Inv.ya(I:Inv X pins σ H s):∀ b ∈ ik X.stack,H b=none:=λb hb=>by
 rcases Wo.mp (I.tN b hb) with e | hb
 ·rw[e]; exact I.free
 ·obtain⟨_,o,ho,_⟩:=I.ok.ji.mem hb;exact I.base.free b o ho (I.ok.mV b hb) λz=>I.ok.oO b z hb
theorem Inv.step{g':Array GenState}{t':Nat}{d':Drawn}{ch:List Addr}(I:Inv X pins σ H s)
  (jM:∀ b ∈ ch,(b ∈ X.ex\/X.s₀.heap.objs.size<=b)/\b≠X.env.locals/\(∀ x c,X.env.cells.lookup x=some c->c≠b)/\∀ p ∈ X.pn ++ pins,p.1≠b)
  (keep:∀ b o,b≠X.env.locals->b ∉ X.fs->b ∉ ch->s.heap.get? b=some o->H b=none->h'.get? b=some o)
  (slot:∀ b o,b≠X.env.locals->b ∈ X.fs->b ∉ ch->s.heap.get? b=some o->H b=none->∃ sl,h'.get? b=some { o with slots:=sl }) (free:∀ b o,b ∉ ch->s.heap.get? b=some o->H b=none->H' b=none)
  (there:∀ b o,b ∉ ch->s.heap.get? b=some o->∃ o',h'.get? b=some o')
  (kM:∀ b xs,H b=some (.tup xs)->H' b=some (.tup xs)) (kf:∀ b o u,H b=some (.frz o u)->H' b=some (.frz o u)) (kO:∀ b ps,H b=some (.tbl ps)->∃ more,H' b=some (.tbl (ps ++ more)))
  (ns:∀ m,s.heap.Ns X.env.locals m->h'.Ns X.env.locals m) (aC:cD X.prog X.w H' h') (hg:AllBare g') :
  Inv X pins σ H' { s with heap:=h',gens:=g',drawn:=d',toks:=t' }:=by
 have yb:∀ b o,X.s₀.heap.get? b=some o->b≠X.env.locals:=λb o e=>WW (WF (Wp e) I.ok.above)
 have qw:∀ b o,X.s₀.heap.get? b=some o->b ∉ X.ex->b ∉ ch:=λb o e hx hb=>by
  rcases (jM b hb).1 with z | z
  ·exact hx z
  ·exact absurd (WF (Wp e) z) (Qn _)
 have cellK:∀ x c,X.env.cells.lookup x=some c->∀ v,s.heap.IsCell c v->h'.IsCell c v:=λx c e v ⟨o,ho,hd⟩=>by
  have oP:c ∉ ch:=λz=>(jM c z).2.2.1 x c e rfl
  by_cases hc:c ∈ X.fs
  ·obtain⟨sl,q⟩:=slot c o (I.l0 x c e) hc oP ho (I.jj x c e);exact⟨_,q,hd⟩
  ·exact⟨o,keep c o (I.l0 x c e) hc oP ho (I.jj x c e),hd⟩
 refine⟨I.ok,I.os,hg,⟨λb o e n hb hx=>?_,λb o e n hb hx=>?_,λb o e n hx=>?_,λb o e hx=>?_,λb xs e=>kM b xs (I.base.kM b xs e),λb o xs e=>kf b o xs (I.base.kf b o xs e),λb ps e=>?_⟩,?_,λx c e=>?_,?_,λx c e=>?_,λp hp=>?_,aC,I.len⟩
 ·exact keep b o (yb b o e) hb (qw b o e hx) (I.base.keep b o e n hb hx) (I.base.free b o e n hx)
 ·obtain⟨sl,e1⟩:=I.base.slot b o e n hb hx;obtain⟨sl',e2⟩:=slot b _ (yb b o e) hb (qw b o e hx) e1 (I.base.free b o e n hx);exact⟨sl',e2⟩
 ·obtain⟨o',e1⟩:=I.base.there b o e hx;exact free b o' (qw b o e hx) e1 (I.base.free b o e n hx)
 ·obtain⟨o',e1⟩:=I.base.there b o e hx;exact there b o' (qw b o e hx) e1
 ·obtain⟨m1,e1⟩:=I.base.kO b ps e;obtain⟨m2,e2⟩:=kO b _ e1;exact⟨m1 ++ m2,by rw[e2,Array.append_assoc]⟩
 ·obtain⟨m,hn,hl⟩:=I.loc;refine⟨m,ns m hn,λi x v e1 e2 e3=>?_⟩;obtain⟨u,r,l⟩:=hl i x v e1 e2 e3;refine⟨u,r,?_⟩;rcases l with l | ⟨k,c,e,z⟩
  ·exact .inl l
  ·exact .inr ⟨k,c,e,cellK x c e _ z⟩
 ·obtain⟨v,z⟩:=I.cell x c e;exact⟨v,cellK x c e v z⟩
 ·obtain⟨m,⟨o,_,_,ho,_⟩,_⟩:=I.loc;exact free _ o (λz=>(jM _ z).2.1 rfl) ho I.free
 ·obtain⟨v,o,ho,hd⟩:=I.cell x c e;exact free c o (λz=>(jM c z).2.2.1 x c e rfl) ho (I.jj x c e)
 ·obtain⟨e,n,ne,nf,d⟩:=I.pin p hp;have oP:p.1 ∉ ch:=λz=>(jM p.1 z).2.2.2 p hp rfl
  exact⟨keep p.1 p.2 ne nf oP e n,free p.1 p.2 oP e n,ne,nf,d⟩
theorem Inv.un{t':Nat}(I:Inv X pins σ H s)(u:Un X.fs [] H H' s.heap h')(aC:cD X.prog X.w H' h'):Inv X pins σ H' { s with heap:=h',toks:=t' }:=by
 obtain⟨m,⟨o,es,ep,ho,r⟩,_⟩:=id I.loc;obtain⟨sl,hL⟩:=u.any ho I.free (by simp);exact I.step (g':=s.gens) (d':=s.drawn) (ch:=[]) (λ_ z=>nomatch z) (λb o _ hb _ e n=>u.keep b o e n hb (by simp)) (λb o _ hb _ e n=>u.slot b o e n hb (by simp)) (λb o _ e n=>u.free b o e n (by simp)) (λb o _ e=>u.there b o e (by simp)) u.kM u.kf u.kO (λm' hm=>by
  obtain⟨o',l5,fM,ho',r'⟩:=hm;rw[ho] at ho'; cases ho'
  exact⟨_,l5,fM,hL,r'⟩) aC I.bare
theorem Inv.call{g':Array GenState}{t':Nat}{d':Drawn}{ch:List Addr}(I:Inv X pins σ H s)(u:Un (ik X.stack) ch H H' s.heap h')(aC:cD X.prog X.w H' h')(hg:AllBare g')
  (jM:∀ b ∈ ch,(b ∈ X.ex\/X.s₀.heap.objs.size<=b)/\b≠X.env.locals/\(∀ x c,X.env.cells.lookup x=some c->c≠b)/\∀ p ∈ X.pn ++ pins,p.1≠b) :
  Inv X pins σ H' { s with heap:=h',gens:=g',drawn:=d',toks:=t' }:=by
 obtain⟨m,⟨o,es,ep,ho,r⟩,_⟩:=id I.loc;obtain⟨sl,hL⟩:=u.any ho I.free λz=>(jM _ z).2.1 rfl
 exact I.step (ch:=ch) jM (λb o hL hb hc e n=>u.keep b o e n (λz=>(Wo.mp (I.tN b z)).elim hL hb) hc) (λb o _ _ hc e n=>u.any e n hc) (λb o hc e n=>u.free b o e n hc) (λb o hc e=>u.there b o e hc) u.kM u.kf u.kO (λm' hm=>by
  obtain⟨o',l5,fM,ho',r'⟩:=hm;rw[ho] at ho'; cases ho'
  exact⟨_,l5,fM,hL,r'⟩) aC hg
theorem Inv.turned{t':Nat}{it:Addr}(I:Inv X pins σ H s)(k:∀ b o,b≠it->s.heap.get? b=some o->h'.get? b=some o)(hn:H it=none)(hL:it≠X.env.locals)
  (h1:it ∈ X.ex\/X.s₀.heap.objs.size<=it) (h2:∀ x c,X.env.cells.lookup x=some c->c≠it) (h3:∀ p ∈ X.pn ++ pins,p.1≠it):Inv X pins σ H { s with heap:=h',toks:=t' }:=by
 have kQ:∀ b u,H b=some u->b≠it:=λb u e z=>by rw[z,hn] at e; cases e
 refine I.step (g':=s.gens) (d':=s.drawn) (ch:=[it]) (λb hb=>?_) (λb o _ _ hc e _=>k b o (λz=>hc (by simp[z])) e) (λb o _ _ hc e _=>⟨o.slots,k b o (λz=>hc (by simp[z])) e⟩) (λ_ _ _ _ n=>n)
  (λb o hc e=>⟨o,k b o (λz=>hc (by simp[z])) e⟩) (λ_ _ e=>e) (λ_ _ _ e=>e) (λb ps e=>⟨#[],by rw[e]; simp⟩) (λm hm=>?_) (λb u e=>?_) I.bare
 ·have e:b=it:=by simpa using hb
  subst e;exact⟨h1,hL,h2,h3⟩
 ·obtain⟨o,es,ep,ho,r⟩:=hm;exact⟨o,es,ep,k _ o (Ne.symm hL) ho,r⟩
 ·refine(I.aC b u e).mT (λc v hc q=>k c v ?_ q) (λ_ q=>q) (λ_ _ q=>q) λ_ _ _ q=>q
  rcases hc with z | z
  ·rw[z]; exact kQ b u e
  ·exact kQ c _ z
theorem Inv.tok(I:Inv X pins σ H s)(t:Nat):Inv X pins σ H { s with toks:=t }:=I.un (h':=s.heap) (t':=t) Un.refl I.aC
theorem Inv.kept(I:Inv X pins σ H s)(k:∀ b u,s.heap.get? b=some u->h'.get? b=some u):Inv X pins σ H { s with heap:=h',toks:=t' }:=I.un (Un.kept k) (I.aC.kept k)
theorem Inv.laid(I:Inv X pins σ H s)(k:∀ b u,s.heap.get? b=some u->h'.get? b=some u)(hp:s.heap.objs.size<=a)(new:b0 X.prog X.w (upd H a o) h' a o) :
  Inv X pins σ (upd H a o) { s with heap:=h',toks:=t' }:=I.un (Un.laid k hp (I.aC.fresh hp)) (I.aC.laid k hp new)
theorem Inv.write(I:Inv X pins σ H s)(mu:oJ (H x))(he:e=x\/H e=some (.own x))(k:∀ b u,b≠e->s.heap.get? b=some u->h'.get? b=some u)(mU:∃ u,h'.get? e=some u)
  (new:b0 X.prog X.w (upd H x o) h' x o):Inv X pins σ (upd H x o) { s with heap:=h',toks:=t' }:=I.un (Un.write mu he k mU) (I.aC.write mu he k mU new)
theorem Inv.weak(I:Inv X pins σ H s)(hl:σ'.length=σ.length)(w:∀ (i:Nat) v,σ'[i]? = some (some v)->σ[i]? = some (some v)):Inv X pins σ' H s :=
 ⟨I.ok,I.os,I.bare,I.base,let ⟨m,hn,gI⟩:=I.loc; ⟨m,hn,λi x v e1 e2 e3=>gI i x v e1 (w i v e2) e3⟩,I.cell,I.free,I.jj,I.pin,I.aC,hl.trans I.len⟩
theorem Inv.yc(I:Inv X pins σ H s)(h:∀ p ∈ pins',s.heap.get? p.1=some p.2/\H p.1=none/\p.1≠X.env.locals/\p.1 ∉ X.fs/\∀ v,p.2.data≠.cell v):Inv X pins' σ H s :=
 ⟨I.ok,I.os,I.bare,I.base,I.loc,I.cell,I.free,I.jj,λp hp=>(Qa.mp hp).elim (λz=>I.pin p (List.mem_append_left _ z)) (h p),I.aC,I.len⟩
theorem ye{N:List Str}(hN:N.Nodup){i j:Nat}{x:Str}(a:N[i]? = some x)(b:N[j]? = some x):i=j:=by
 obtain⟨h1,e1⟩:=W3.mp a;obtain⟨h2,e2⟩:=W3.mp b;exact(JX hN).mp (e1.trans e2.symm)
theorem yf{M:Model}{A:Ws}{E:Value->W2->Prop}{i:Nat}{x:Str}{v:V}{u:Value}{Q:Unit->W2->Prop}(I:Inv X pins σ H s)(hN:X.N.Nodup)(hi:X.N[i]? = some x)(hx:Loc X.env.scope x)(r:RelV v u)
  (h:∀ s',Inv X pins (σ.set i (some v)) H s'->(∃ a,Qp a s.heap s'.heap/\(a=X.env.locals\/X.env.cells.lookup x=some a))->Q () s') (hf:X.fn x=true\/X.env.scope.names.lookup x=some .local:=by first | exact .inl rfl | exact .inr rfl | assumption):W7 M A (storeName X.env x u) Q E s:=by
 obtain⟨m,hn,hl⟩:=id I.loc;have Eu:(X.env.scope.kind == .class || (X.env.scope.kind == .module && X.env.locals != X.env.globals))=false:=by rw[I.ok.kind]; rfl
 have yg:i < σ.length:=by rw[I.len]; exact(W3.mp hi).1
 have l0:=I.l0;have tracked:∀ {a:Addr} {h':Heap},(∃ o,s.heap.get? a=some o/\H a=none)->Qp a s.heap h'->cD X.prog X.w H h':=λ{a h'} ha hs b ob e=>by
  obtain⟨_,_,l6⟩:=ha;refine(I.aC b ob e).mT (λc w' hc q=>(hs.2 c ?_).trans q) (λ_ q=>q) (λ_ _ q=>q) λ_ _ _ q=>q
  rintro rfl;rcases hc with rfl | hc
  ·rw[l6] at e; cases e
  ·rw[l6] at hc; cases hc
 rcases hx with hk | hk
 ·refine wpAny_storeName_local hk hn (λh' jN hs=>?_) Eu;obtain⟨oL,_,_,qx,_⟩:=id hn;refine h _ ⟨I.ok,I.os,I.bare,⟨λb o e n hb hx=>?_,λb o e n hb hx=>?_,I.base.free,λb o e hx=>?_,I.base.kM,I.base.kf,I.base.kO⟩,⟨_,jN,λj y v' e1 e2 e3=>?_⟩,λy c e=>?_,I.free,I.jj,λp hp=>?_,tracked ⟨oL,qx,I.free⟩ hs,by simpa using I.len⟩ ⟨_,hs,.inl rfl⟩
  ·exact(hs.2 b (WW (WF (Wp e) I.ok.above))).trans (I.base.keep b o e n hb hx)
  ·obtain⟨sl,e1⟩:=I.base.slot b o e n hb hx;exact⟨sl,(hs.2 b (WW (WF (Wp e) I.ok.above))).trans e1⟩
  ·obtain⟨o',e1⟩:=I.base.there b o e hx;exact⟨o',(hs.2 b (WW (WF (Wp e) I.ok.above))).trans e1⟩
  ·by_cases hj:j=i
   ·subst hj;rw[hi] at e1; cases e1
    rw[Wn yg] at e2
    cases e2;exact⟨u,r,.inl ⟨hk,by simp⟩⟩
   ·rw[W5 (Ne.symm hj)] at e2;obtain⟨u',r',q⟩:=hl j y v' e1 e2 e3;refine⟨u',r',?_⟩;rcases q with ⟨k,e⟩ | ⟨k,c,e,z⟩
    ·refine .inl ⟨k,?_⟩;have:y≠x:=λe=>hj (ye hN e1 (e ▸ hi))
     simp[this,e]
    ·exact .inr ⟨k,c,e,z.sameBut hs (l0 y c e)⟩
  ·obtain⟨w',z⟩:=I.cell y c e;exact⟨w',z.sameBut hs (l0 y c e)⟩
  ·obtain⟨e,n,ne,nf,d⟩:=I.pin p hp;exact⟨(hs.2 p.1 ne).trans e,n,ne,nf,d⟩
 ·have oQ:X.fn x=true:=by
   rcases hf with z | z
   ·exact z
   ·rw[z] at hk; cases hk
  obtain⟨c,hc⟩:=I.ok.has x (.inl hk);obtain⟨w',z⟩:=I.cell x c hc;refine wpAny_storeName_cell I.ok.kind hk hc z (λh' fN hs=>?_);obtain⟨oc,hoc,hocd⟩:=id z;refine h { s with heap:=h' } ⟨I.ok,I.os,I.bare,⟨λb o e n hb hx=>?_,λb o e n hb hx=>?_,I.base.free,λb o e hx=>?_,I.base.kM,I.base.kf,I.base.kO⟩,⟨m,hn.sameBut hs (Ne.symm (l0 x c hc)),λj y v' e1 e2 e3=>?_⟩,λy c' e=>?_,I.free,I.jj,λp hp=>?_,tracked ⟨oc,hoc,I.jj x c hc⟩ hs,by simpa using I.len⟩ ⟨c,hs,.inr hc⟩
  ·exact(hs.2 b (WW (WF (Wp e) (I.ok.oM x c oQ hc)))).trans (I.base.keep b o e n hb hx)
  ·obtain⟨sl,e1⟩:=I.base.slot b o e n hb hx;exact⟨sl,(hs.2 b (WW (WF (Wp e) (I.ok.oM x c oQ hc)))).trans e1⟩
  ·obtain⟨o',e1⟩:=I.base.there b o e hx;exact⟨o',(hs.2 b (WW (WF (Wp e) (I.ok.oM x c oQ hc)))).trans e1⟩
  ·by_cases hj:j=i
   ·subst hj;rw[hi] at e1; cases e1
    rw[Wn yg] at e2
    cases e2;exact⟨u,r,.inr ⟨.inl hk,c,hc,fN⟩⟩
   ·rw[W5 (Ne.symm hj)] at e2;obtain⟨u',r',q⟩:=hl j y v' e1 e2 e3;refine⟨u',r',?_⟩;rcases q with q | ⟨k,c',e,z'⟩
    ·exact .inl q
    ·refine .inr ⟨k,c',e,z'.sameBut hs ?_⟩;rintro rfl;exact hj (ye hN e1 (I.ok.inj _ _ _ e hc ▸ hi))
  ·by_cases hcc:c'=c
   ·subst hcc; exact⟨_,fN⟩
   ·obtain⟨w2,z2⟩:=I.cell y c' e;exact⟨w2,z2.sameBut hs hcc⟩
  ·obtain⟨e,n,ne,nf,d⟩:=I.pin p hp;refine⟨(hs.2 p.1 ?_).trans e,n,ne,nf,d⟩;intro q;rw[q,hoc] at e;have q':oc=p.2:=Wx e;exact d w' (by rw[<- q']; exact hocd)
theorem yh(I:Inv X pins σ H s)(hN:X.N.Nodup)(hi:X.N[i]? = some x)(hx:Loc X.env.scope x)(r:RelV v u)
  (h:∀ s',Inv X pins (σ.set i (some v)) H s'->Q () s') (hf:X.fn x=true\/X.env.scope.names.lookup x=some .local:=by first | exact .inl rfl | exact .inr rfl | assumption):W7 M A (storeName X.env x u) Q E s :=
 yf I hN hi hx r (λs' I' _=>h s' I') hf
theorem Inv.Ew(I:Inv X pins σ H s)(ho:s'.os=s.os)(u:Un (ik X.stack) ch H H' s.heap s'.heap)(aC:cD X.prog X.w H' s'.heap)(hg:AllBare s'.gens)
  (jM:∀ b ∈ ch,(b ∈ X.ex\/X.s₀.heap.objs.size<=b)/\b≠X.env.locals/\(∀ x c,X.env.cells.lookup x=some c->c≠b)/\∀ p ∈ X.pn ++ pins,p.1≠b):Inv X pins σ H' s':=by
 obtain⟨h',g',d',t',o'⟩:=s';have e:o'=s.os:=ho;subst e;exact I.call (g':=g') (t':=t') (d':=d') u aC hg jM
end
abbrev XK:=Value->Option Addr->Hp->Prop
abbrev St:=List (Option V)
abbrev VK:=V->Hp->Prop
abbrev TE:=St->Hp->VK->Prop
abbrev TT:=St->Hp->(Bool->Hp->Prop)->Prop
abbrev TA:=St->Hp->(List V->Hp->Prop)->Prop
structure Ends where
 nx:St->Hp->Prop
 rt:VK
 bk:St->Hp->Prop:=λ_ _=>False
 ct:St->Hp->Prop:=λ_ _=>False
abbrev TS:=Ends->St->Hp->Prop
def EP(X:Cx)(pins:List (Addr×Obj))(σ:St)(Q:VK)(u:Value)(s':W2):Prop:=∃ v H',Inv X pins σ H' s'/\RelV v u/\Q v H'
def TP(X:Cx)(pins:List (Addr×Obj))(σ:St)(Q:Bool->Hp->Prop)(b:Bool)(s':W2):Prop:=∃ H',Inv X pins σ H' s'/\Q b H'
def AP(X:Cx)(pins:List (Addr×Obj))(σ:St)(Q:List V->Hp->Prop)(us:List Value)(s':W2):Prop:=∃ vs H',Inv X pins σ H' s'/\Vals vs us/\Q vs H'
def SP(X:Cx)(pins:List (Addr×Obj))(D:Ends)(f:Flow)(s':W2):Prop :=
 match f with
 | .next=>∃ σ' H',Inv X pins σ' H' s'/\D.nx σ' H'
 | .brk=>∃ σ' H',Inv X pins σ' H' s'/\D.bk σ' H'
 | .cont=>∃ σ' H',Inv X pins σ' H' s'/\D.ct σ' H'
 | .ret u=>∃ v σ' H',Inv X pins σ' H' s'/\RelV v u/\D.rt v H'
def PE(X:Cx)(e:Expr)(t:TE):Prop :=
 ∀ (pins:List (Addr×Obj)) (s:W2) (σ:St) (H:Hp) (Q:VK),Inv X pins σ H s->t σ H Q->W7 (model X.prog X.w) X.A (eval e X.env) (EP X pins σ Q) X.xe s
def PT(X:Cx)(e:Expr)(t:TT):Prop :=
 ∀ (pins:List (Addr×Obj)) (s:W2) (σ:St) (H:Hp) (Q:Bool->Hp->Prop),Inv X pins σ H s->t σ H Q->W7 (model X.prog X.w) X.A (isTrue e X.env (eval e X.env)) (TP X pins σ Q) X.xe s
def PW(X:Cx)(e:Expr)(t:TT):Prop :=
 ∀ (whole:Sem Value) (pins:List (Addr×Obj)) (s:W2) (σ:St) (H:Hp) (Q:Bool->Hp->Prop),Inv X pins σ H s->t σ H Q->W7 (model X.prog X.w) X.A (isTrue e X.env whole) (TP X pins σ Q) X.xe s
theorem PW.pt(h:PW X e t):PT X e t:=h _
def PA(X:Cx)(es:List Expr)(t:TA):Prop :=
 ∀ (pos:Pos) (pins:List (Addr×Obj)) (s:W2) (σ:St) (H:Hp) (Q:List V->Hp->Prop),Inv X pins σ H s->t σ H Q->W7 (model X.prog X.w) X.A (spliced (QJ pos (Wj es X.env))) (AP X pins σ Q) X.xe s
def PS(X:Cx)(st:Stmt)(t:TS):Prop :=
 ∀ (pins:List (Addr×Obj)) (s:W2) (σ:St) (H:Hp) (D:Ends),Inv X pins σ H s->t D σ H->W7 (model X.prog X.w) X.A (exec st X.env) (SP X pins D) X.xe s
def eA(X:Cx)(st:List Stmt)(t:TS):Prop :=
 ∀ (pins:List (Addr×Obj)) (s:W2) (σ:St) (H:Hp) (D:Ends),Inv X pins σ H s->t D σ H->W7 (model X.prog X.w) X.A (execs st X.env) (SP X pins D) X.xe s
theorem a_(h:W7 M A t Q E s)(hQ:∀ a s,Q a s->Q' a s):W7 M A t Q' E s:=QB h hQ λ_ _ x=>x
section
variable {X:Cx}
theorem bin{a b:Expr}{ta tb:TE}(ha:PE X a ta)(hb:PE X b tb){pins:List (Addr×Obj)}{s:W2}{σ:St}{H:Hp}{R:V->V->Hp->Prop}(I:Inv X pins σ H s)(h:ta σ H λx H1=>tb σ H1 λy H2=>R x y H2)
  {α:Type} {Q:α->W2->Prop} {f:Value->Value->Sem α}
  (hf:∀ v u s2 x y H2,Inv X pins σ H2 s2->RelV x v->RelV y u->R x y H2->W7 (model X.prog X.w) X.A (f v u) Q X.xe s2) :
  W7 (model X.prog X.w) X.A (eval a X.env) (λv s₁=>W7 (model X.prog X.w) X.A (eval b X.env) (λu s₂=>W7 (model X.prog X.w) X.A (f v u) Q X.xe s₂) X.xe s₁) X.xe s:=by
 refine a_ (ha pins s σ H _ I h) λv s1 ⟨x,H1,I1,r1,q1⟩=>?_
 refine a_ (hb pins s1 σ H1 _ I1 q1) λu s2 ⟨y,H2,I2,r2,q2⟩=>?_
 exact hf v u s2 x y H2 I2 r1 r2 q2
def c9(i:Nat):TE:=λσ H Q=>∃ v,σ[i]? = some (some v)/\Q v H
def tC(v:V):TE:=λ_ H Q=>Q v H
theorem Ex (hN:X.N[i]? = some x) (hv:qt X.env.scope x) (hd:(x == ("__debug__" : Str))=false:=by decide) (jk:(x == ("__classdict__" : Str))=false:=by decide):PE X (.Name x pos) (c9 i):=by
 intro pins s σ H Q I h;obtain⟨v,e,h⟩:=h;obtain⟨m,hn,hl⟩:=I.loc;obtain⟨u,r,l⟩:=hl i x v hN e hv;have fin:EP X pins σ Q u s:=⟨v,H,I,r,h⟩
 rcases l with ⟨hk,hm⟩ | ⟨hk,c,hc,hcell⟩
 ·exact wpAny_Name (wpAny_loadName_local I.ok.kind hk hn hm fin) hd
 ·rcases hk with hk | hk
  ·exact wpAny_Name (wpAny_loadName_cell I.ok.kind hk hc hcell fin) hd
  ·exact wpAny_Name (wpAny_loadName_free I.ok.kind hk hc hcell fin jk) hd
theorem Ey{i j pos}:PE X (.Constant (.int i) j pos) (tC (.int i)):=λ_ _ _ H _ I h=>wpAny_Constant_int ⟨.int i,H,I.tok _,⟨_,rfl⟩,h⟩
theorem Ez{b j pos}:PE X (.Constant (.bool b) j pos) (tC (.bl b)):=λ_ _ _ H _ I h=>Constant_bool ⟨.bl b,H,I,rfl,h⟩
theorem EA{j pos}:PE X (.Constant .none j pos) (tC .a7):=λ_ _ _ H _ I h=>Constant_none ⟨.a7,H,I,rfl,h⟩
theorem yi{x j pos}:PE X (.Constant (.str x) j pos) (tC (.str x)):=λ_ _ _ H _ I h=>Calls.Constant_str ⟨.str x,H,I.tok _,⟨_,rfl⟩,h⟩
def Gl(X:Cx)(x:Str):Prop:=X.env.kindOf x=some .globalImplicit
theorem EB(I:Inv X pins σ H s)(hg:Gl X x)(hm:X.mg x=some u)(h:Q u s)
  (hd:(x == ("__debug__" : Str))=false:=by decide):W7 (model X.prog X.w) X.A (eval (.Name x pos) X.env) Q E s :=
 Calls.Name_function_global I.ok.kind hg (Calls.loadGlobal_global (by rw[I.ok.glob]; exact I.mod.glob.keeps I.bk) hm h) hd
theorem oR(I:Inv X pins σ H s)(hg:Gl X x)(hm:X.mg x=none)(hv:Qx x=some u)(h:Q u s)
  (hn:x≠"__name__":=by decide) (hd:(x == ("__debug__" : Str))=false:=by decide):W7 (model X.prog X.w) X.A (eval (.Name x pos) X.env) Q E s:=by
 obtain⟨mb,h1,h2⟩:=I.mod.blt;exact Calls.Name_function_global I.ok.kind hg (Calls.loadGlobal_builtin (by rw[I.ok.glob]; exact I.mod.glob.keeps I.bk) hm (by rw[I.ok.blt]; exact h1.keeps I.bk) ((h2 x hn).trans hv) h) hd
theorem EC (hg:Gl X x) (hm:X.mg x=none) (hv:Qx x=some u) (r:RelV v u) (hn:x≠"__name__":=by decide) (hd:(x == ("__debug__" : Str))=false:=by decide):PE X (.Name x pos) (tC v) :=
 λ_ _ _ H _ I h=>oR I hg hm hv ⟨v,H,I,r,h⟩ hn hd
variable {a b:Expr} {ta tb:TE} {pos:Pos}
def PC(X:Cx)(op:CmpOp)(a b:Expr)(t:TE):Prop :=
 ∀ (pins:List (Addr×Obj)) (s:W2) (σ:St) (H:Hp) (Q:VK),Inv X pins σ H s->t σ H Q ->
  W7 (model X.prog X.w) X.A (eval a X.env) (λv s₁=>W7 (model X.prog X.w) X.A (eval b X.env) (λu s₂=>W7 (model X.prog X.w) X.A (WN op v u) (EP X pins σ Q) X.xe s₂) X.xe s₁) X.xe s
theorem ED(b:Expr)(h:op≠.In)(h2:op≠.NotIn):QA op b=false:=by
 have e1:(op == CmpOp.In)=false:=by cases op <;> first | rfl | exact absurd rfl h
 have e2:(op == CmpOp.NotIn)=false:=by cases op <;> first | rfl | exact absurd rfl h2
 cases b <;> simp[QA,e1,e2]
def tB(t:TE):TT:=λσ H Q=>t σ H λx H1=>∃ c,x = .bl c/\Q c H1
theorem P6(h:PC X op a b t)(h1:QA op b=false:=by first | exact ED _ (by decide) (by decide) | rfl):PT X (.Compare a [op] [b] pos) (tB t):=by
 intro pins s σ H Q I hw;refine wpAny_isTrue_Compare1 (a_ (h pins s σ H _ I hw) λv s1 h1=>a_ h1 λu s2 h2=>a_ h2 λc s3 ⟨x,H1,I1,r1,q1⟩=>?_) h1;obtain⟨d,rfl,q⟩:=q1
 cases r1;exact QC ⟨H1,I1,q⟩
theorem EE(h:PE X e t)(he:∀ whole,isTrue e X.env whole=(do let v <- whole; standAt e.pos; holding [v] (truthy v)):=by intro _; rfl):PT X e (tB t):=by
 intro pins s σ H Q I hw;refine isTrue_plain (a_ (h pins s σ H _ I hw) λv s1 ⟨x,H1,I1,r1,q1⟩=>?_) (he _);obtain⟨d,rfl,q⟩:=q1
 cases r1;exact QC ⟨H1,I1,q⟩
variable {tA qy:TT} {rest:List Expr}
def EF(t u:TT):TT:=λσ H Q=>t σ H λc H1=>if c=true then u σ H1 Q else Q false H1
def EG(t u:TT):TT:=λσ H Q=>t σ H λc H1=>if c=true then Q true H1 else u σ H1 Q
def EH(t:TT):TT:=λσ H Q=>t σ H λc H1=>Q (!c) H1
theorem EI(ha:PT X a tA):PW X (.BoolOp .And [a] pos) tA:=by
 intro wh pins s σ H Q I h;refine isTrue_and (a_ (ha pins s σ H Q I h) λc s1 e=>?_)
 cases c with
 | true=>exact isTrue_and_nil e
 | false=>exact e
theorem EJ(ha:PT X a tA):PW X (.BoolOp .Or [a] pos) tA:=by
 intro wh pins s σ H Q I h;refine isTrue_or (a_ (ha pins s σ H Q I h) λc s1 e=>?_)
 cases c with
 | false=>exact isTrue_or_nil e
 | true=>exact e
theorem EK(ha:PT X a tA)(hb:PW X (.BoolOp .And (b :: rest) pos) qy):PW X (.BoolOp .And (a :: b :: rest) pos) (EF tA qy):=by
 intro wh pins s σ H Q I h;refine isTrue_and (a_ (ha pins s σ H _ I h) λc s1 ⟨H1,I1,q1⟩=>?_)
 cases c with
 | true=>exact hb wh pins s1 σ H1 Q I1 q1
 | false=>exact⟨H1,I1,q1⟩
theorem pw_or(ha:PT X a tA)(hb:PW X (.BoolOp .Or (b :: rest) pos) qy):PW X (.BoolOp .Or (a :: b :: rest) pos) (EG tA qy):=by
 intro wh pins s σ H Q I h;refine isTrue_or (a_ (ha pins s σ H _ I h) λc s1 ⟨H1,I1,q1⟩=>?_)
 cases c with
 | true=>exact⟨H1,I1,q1⟩
 | false=>exact hb wh pins s1 σ H1 Q I1 q1
theorem EL(ha:PT X a tA):PT X (.UnaryOp .Not a pos) (EH tA):=by
 intro pins s σ H Q I h;exact isTrue_not (ha pins s σ H (λc H1=>Q (!c) H1) I h)
end
def cx(K:W4)(H:Hp)(a:Addr)(xs:List V):Prop :=
 Rd H a (.lst xs) \/
  ∃ (o:Obj) (ag:Array Value) (n:Nat),K.lookup a=some o/\o.cls = .type "list"/\o.dict=none/\o.data = .seq ag n/\ag.size<=W9/\Vals xs ag.toList
def dA(K:W4)(H:Hp)(a:Addr)(xs:List V):Prop :=
 Rd H a (.tup xs) \/
  ∃ (o:Obj) (ag:Array Value) (n:Nat),K.lookup a=some o/\o.cls = .type "tuple"/\o.data = .seq ag n/\ag.size<=W9/\Vals xs ag.toList
def EM:Value->Option V
 | .none=>some .a7
 | .bool b=>some (.bl b)
 | .int i _=>some (.int i)
 | .str x _=>some (.str x)
 | .bytes b _=>some (.byt b)
 | .float b _=>some (.flt b)
 | .ref a=>some (.ref a)
 | .type n=>some (.ty n)
 | _=>none
theorem RelV.abs(r:RelV x u):EM u=some x:=by
 cases x with
 | a7=>cases r; rfl
 | bl _=>cases r; rfl
 | int _=>obtain⟨t,rfl⟩:=r; rfl
 | str _=>obtain⟨t,rfl⟩:=r; rfl
 | byt _=>obtain⟨t,rfl⟩:=r; rfl
 | flt _=>obtain⟨t,rfl⟩:=r; rfl
 | ref _=>cases r; rfl
 | ty _=>cases r; rfl
theorem RelV.inj(r:RelV x u)(q:RelV y u):x=y:=Wx (r.abs.symm.trans q.abs)
theorem Vals.inj:∀ {xs ys:List V} {us:List Value},Vals xs us->Vals ys us->xs=ys
 | _,_,_,.nil,.nil=>rfl
 | _,_,_,.cons r t,.cons r' t'=>by rw[r.inj r',Vals.inj t t']
section
variable {X:Cx} {pins:List (Addr×Obj)} {σ:St} {H:Hp} {s:W2} {a:Addr} {xs ys:List V}
theorem cx.of{K:W4}(h:H a=some (.lst xs)):cx K H a xs:=.inl (.inl h)
theorem dA.of{K:W4}(h:H a=some (.tup xs)):dA K H a xs:=.inl (.inl h)
theorem Inv.list(I:Inv X pins σ H s)(h:cx X.K H a xs):∃ ag:List Value,Vals xs ag/\PlainL s.heap a ag.toArray/\xs.length<=W9:=by
 rcases h with h | ⟨o,ag,n,hk,hc,hd,hs,hz,r⟩
 ·obtain⟨z,ag,n,r,e⟩:=h.ok I.aC;exact⟨ag,r,⟨_,n,e,rfl,rfl,rfl⟩,z⟩
 ·refine⟨ag.toList,r,⟨o,n,I.fL a o hk,hc,hd,by simpa using hs⟩,?_⟩;have e:=r.length;simp only[WP] at e;omega
theorem Inv.tuple(I:Inv X pins σ H s)(h:dA X.K H a xs):∃ ag:List Value,Vals xs ag/\IsTup s.heap a ag.toArray/\xs.length<=W9:=by
 rcases h with h | ⟨o,ag,n,hk,hc,hs,hz,r⟩
 ·obtain⟨z,ag,r,p⟩:=h.ok I.aC;exact⟨ag,r,p.tup,z⟩
 ·refine⟨ag.toList,r,⟨o,I.fL a o hk,hc,n,by simpa using hs⟩,?_⟩;have e:=r.length;simp only[WP] at e;omega
theorem Inv.EN(I:Inv X pins σ H s)(h:cx X.K H a xs)(h':cx X.K H a ys):xs=ys:=by
 obtain⟨ag,r,⟨o,n,e,_,_,d⟩,_⟩:=I.list h;obtain⟨its',r',⟨o',n',e',_,_,d'⟩,_⟩:=I.list h';rw[e] at e'; cases e'
 rw[d] at d';injection d' with d1 _
 have:ag=its':=by simpa using congrArg Array.toList d1
 subst this;exact r.inj r'
theorem Inv.EO(I:Inv X pins σ H s)(h:dA X.K H a xs)(h':dA X.K H a ys):xs=ys:=by
 obtain⟨ag,r,⟨o,e,_,n,d⟩,_⟩:=I.tuple h;obtain⟨its',r',⟨o',e',_,n',d'⟩,_⟩:=I.tuple h';rw[e] at e'; cases e'
 rw[d] at d';injection d' with d1 _
 have:ag=its':=by simpa using congrArg Array.toList d1
 subst this;exact r.inj r'
end
abbrev Cx.jO(X:Cx)(E:Value->W2->Prop):Cx:={ X with xe:=E }
abbrev Cx.mW(X:Cx):Cx:=X.jO λ_ _=>False
theorem Cx.Ok.jO{X:Cx}(ok:X.Ok)(E:Value->W2->Prop):(X.jO E).Ok :=
 ⟨ok.mod,ok.kind,ok.glob,ok.blt,ok.above,ok.inj,ok.has,ok.oM,ok.hd,ok.frames,ok.qu,ok.qv,ok.bs,ok.kP,ok.oN,ok.oO,ok.ji,ok.mV⟩
theorem Cx.Ok.kR{X:Cx}{E:Value->W2->Prop}(ok:(X.jO E).Ok):X.Ok :=
 ⟨ok.mod,ok.kind,ok.glob,ok.blt,ok.above,ok.inj,ok.has,ok.oM,ok.hd,ok.frames,ok.qu,ok.qv,ok.bs,ok.kP,ok.oN,ok.oO,ok.ji,ok.mV⟩
section
variable {X:Cx} {pins:List (Addr×Obj)} {σ:St} {H:Hp} {s:W2} {E:Value->W2->Prop}
theorem Inv.jO(I:Inv X pins σ H s)(E:Value->W2->Prop):Inv (X.jO E) pins σ H s:=⟨I.ok.jO E,I.os,I.bare,I.base,I.loc,I.cell,I.free,I.jj,I.pin,I.aC,I.len⟩
theorem Inv.kR(I:Inv (X.jO E) pins σ H s):Inv X pins σ H s:=⟨I.ok.kR,I.os,I.bare,I.base,I.loc,I.cell,I.free,I.jj,I.pin,I.aC,I.len⟩
theorem SP.kR(h:SP (X.jO E) pins D f s'):SP X pins D f s':=by
 cases f with
 | next=>obtain⟨σ',H',I,q⟩:=h; exact⟨σ',H',I.kR,q⟩
 | brk=>obtain⟨σ',H',I,q⟩:=h; exact⟨σ',H',I.kR,q⟩
 | cont=>obtain⟨σ',H',I,q⟩:=h; exact⟨σ',H',I.kR,q⟩
 | ret u=>obtain⟨v,σ',H',I,r,q⟩:=h; exact⟨v,σ',H',I.kR,r,q⟩
theorem eA.mW{st:List Stmt}{t:TS}(h:eA X.mW st t):eA X st t:=λpins s σ H D I hw =>
 QB (h pins s σ H D (I.jO _) hw) (λ_ _ q=>q.kR) λ_ _ z=>False.elim z
end
section
variable {X:Cx} {st:Stmt} {rest:List Stmt} {t u:TS} {e:Expr} {te:TE} {pos:Pos}
def ER:TS:=λD σ H=>D.nx σ H
def ES(t u:TS):TS:=λD σ H=>t { D with nx:=u D } σ H
theorem ET:eA X [] ER:=λ_ _ σ H _ I h=>wpAny_execs_nil ⟨σ,H,I,h⟩
theorem EU(h1:PS X st t)(h2:eA X rest u):eA X (st :: rest) (ES t u):=by
 intro pins s σ H D I h;refine wpAny_execs_cons (a_ (h1 pins s σ H { D with nx:=u D } I h) λf s1 q=>?_)
 cases f with
 | next =>
  obtain⟨σ',H',I',q⟩:=q;exact h2 pins s1 σ' H' D I' q
 | ret v=>exact q
 | brk=>exact q
 | cont=>exact q
theorem yj(h1:PS X st t):eA X [st] t:=by
 intro pins s σ H D I h;refine wpAny_execs_cons (a_ (h1 pins s σ H D I h) λf s1 q=>?_)
 cases f with
 | next=>exact wpAny_execs_nil q
 | ret v=>exact q
 | brk=>exact q
 | cont=>exact q
theorem Inv.quiet(I:Inv X pins σ H s):interactive X.env=false:=by simp[interactive,I.ok.kind]
def qz(te:TE):TS:=λD σ H=>te σ H λ_ H1=>D.nx σ H1
theorem yk(he:PE X e te)(hs:Jg e none pos.line X.env=pure false:=by rfl):PS X (.Expr e pos) (qz te):=by
 intro pins s σ H D I h;exact wpAny_Expr_any (a_ (he pins s σ H _ I h) λv s1 ⟨x,H1,I1,r1,q1⟩=>⟨σ,H1,I1,q1⟩) I.quiet hs
def EV(te:TE):TS:=λD σ H=>te σ H D.rt
theorem yl(he:PE X e te):PS X (.Return (some e) pos) (EV te):=by
 intro pins s σ H D I h;exact wpAny_Return_some (a_ (he pins s σ H _ I h) λv s1 ⟨x,H1,I1,r1,q1⟩=>⟨x,σ,H1,I1,r1,q1⟩)
def EW(c:TT)(t u:TS):TS:=λD σ H=>c σ H λb H1=>if b=true then t D σ H1 else u D σ H1
theorem EX(hc:PT X c tc)(ha:eA X a t)(hb:eA X b u):PS X (.If c a b pos) (EW tc t u):=by
 intro pins s σ H D I h;refine wpAny_If (a_ (hc pins s σ H _ I h) λd s1 ⟨H1,I1,q1⟩=>?_)
 cases d with
 | true=>exact ha pins s1 σ H1 D I1 q1
 | false=>exact hb pins s1 σ H1 D I1 q1
end
abbrev TG:=V->St->Hp->(St->Hp->Prop)->Prop
abbrev kS:=List V->St->Hp->(St->Hp->Prop)->Prop
def PG(X:Cx)(target:Expr)(t:TG):Prop :=
 ∀ (pins:List (Addr×Obj)) (s:W2) (σ:St) (H:Hp) (v:V) (u:Value) (Q:St->Hp->Prop),Inv X pins σ H s->RelV v u->t v σ H Q ->
  W7 (model X.prog X.w) X.A (assign target X.env u) (λ_ s'=>∃ σ' H',Inv X pins σ' H' s'/\Q σ' H') X.xe s
def il(X:Cx)(ts:List Expr)(t:kS):Prop :=
 ∀ (pins:List (Addr×Obj)) (s:W2) (σ:St) (H:Hp) (vs:List V) (us:List Value) (Q:St->Hp->Prop),Inv X pins σ H s->Vals vs us->t vs σ H Q ->
  W7 (model X.prog X.w) X.A (assignInOrder ((Qk ts X.env).map (·.2)) us) (λ_ s'=>∃ σ' H',Inv X pins σ' H' s'/\Q σ' H') X.xe s
abbrev ym:=V->V->V->Hp->(Hp->Prop)->Prop
def yn(X:Cx)(t:ym):Prop :=
 ∀ (pins:List (Addr×Obj)) (s:W2) (σ:St) (H:Hp) (o i v:V) (ov iv u:Value) (Q:Hp->Prop),Inv X pins σ H s->RelV o ov->RelV i iv->RelV v u->t o i v H Q ->
  W7 (model X.prog X.w) X.A (setItem ov iv u) (λ_ s'=>∃ H',Inv X pins σ H' s'/\Q H') X.xe s
section
variable {X:Cx} {pos:Pos}
def mX(i:Nat):TG:=λv σ H Q=>Q (σ.set i (some v)) H
theorem qA(hN:X.N.Nodup)(hi:X.N[i]? = some x)(hx:Loc X.env.scope x)(hf:X.fn x=true\/X.env.scope.names.lookup x=some .local:=by first | exact .inl rfl | exact .inr rfl | assumption):PG X (.Name x pos) (mX i):=by
 intro pins s σ H v u Q I r h;exact wpAny_assign_Name (yh I hN hi hx r (λs' I'=>⟨_,H,I',h⟩) hf)
def yo:kS:=λvs σ H Q=>vs=[]/\Q σ H
def tO(t:TG)(u:kS):kS:=λvs σ H Q=>∃ v r,vs=v :: r/\t v σ H λσ' H'=>u r σ' H' Q
theorem tP:il X [] yo:=by
 intro pins s σ H vs us Q I r h;obtain⟨e,h⟩:=h;subst e
 cases r;exact assignInOrder_nil ⟨σ,H,I,h⟩
theorem qB(h1:PG X e t)(h2:il X es u)
  (hs:(Qk (e :: es) X.env).map (·.2)=assign e X.env :: (Qk es X.env).map (·.2):=by rfl):il X (e :: es) (tO t u):=by
 intro pins s σ H vs us Q I r h;obtain⟨v,vr,e1,h⟩:=h;subst e1
 cases r with
 | cons r rr =>
  rw[hs];refine assignInOrder_cons (a_ (h1 pins s σ H _ _ _ I r h) λ_ s1 ⟨σ1,H1,I1,q1⟩=>?_);exact h2 pins s1 σ1 H1 _ _ Q I1 rr q1
def yp(K:W4)(n:Nat)(t:kS):TG:=λv σ H Q=>∃ a xs,v = .ref a/\dA K H a xs/\xs.length=n/\t xs σ H Q
theorem tQ(hc:X.calm=true)(h:il X es t)
  (hn:(Qk es X.env).length=n:=by rfl) (iU:(Qk es X.env).findIdx? (·.1)=none:=by rfl):PG X (.Tuple es k pos) (yp X.K n t):=by
 intro pins s σ H v u Q I r hw;obtain⟨a,xs,e1,hq,hl,hw⟩:=hw;subst e1
 cases r;obtain⟨ag,rv,ht,hz⟩:=I.tuple hq;refine assign_Tuple_tuple (I.ok.hd hc) ht (by simp[hn,<- hl,rv.length]) iU λh' hx=>?_
 have I1:Inv X pins σ H { s with heap:=h' }:=I.kept (t':=s.toks) λb o e=>hx b o (WW (Wp e)) e
 exact h pins _ σ H xs _ Q I1 (by simpa using rv) hw
def EY(to ti:TE)(t:ym):TG:=λv σ H Q=>to σ H λo H1=>ti σ H1 λi H2=>t o i v H2 λH3=>Q σ H3
theorem EZ(ho:PE X o to)(hi:PE X i ti)(hs:yn X t)
  (ha:∀ v,assign (.Subscript o i pos) X.env v=(do
   let ov <- holding [v] (eval o X.env)
   let iv <- holding [v,ov] (eval i X.env)
   standAt pos
   holding [v,ov,iv] (setItem ov iv v)
   release [v,ov,iv] []):=by intro _; rfl):PG X (.Subscript o i pos) (EY to ti t):=by
 intro pins s σ H v u Q I r h;rw[ha];refine W0 (WB (a_ (ho pins s σ H _ I h) λov s1 ⟨x,H1,I1,r1,q1⟩=>?_));refine W0 (WB (a_ (hi pins s1 σ H1 _ I1 q1) λiv s2 ⟨y,H2,I2,r2,q2⟩=>?_));refine W0 (wpAny_standAt (W0 (WB (a_ (hs pins s2 σ H2 x y v ov iv u _ I2 r1 r2 r q2) λ_ s3 ⟨H3,I3,q3⟩=>?_))));exact wpAny_release ⟨σ,H3,I3,q3⟩
def qC(te:TE)(g:TG):TS:=λD σ H=>te σ H λx H1=>g x σ H1 D.nx
theorem yq(he:PE X e te)(hg:PG X tg g)(hs:swapsWithSole [tg] e pos.line X.env=pure false:=by rfl)(hw:swappedStores [tg] e X.env=pure none:=by rfl)
  (h1:(Qk [tg] X.env).map (·.2)=[assign tg X.env]:=by rfl):PS X (.Assign [tg] e pos) (qC te g):=by
 intro pins s σ H D I h;refine wpAny_Assign_stores (a_ (he pins s σ H _ I h) λv s1 ⟨x,H1,I1,r1,q1⟩=>?_) hs hw;rw[h1];exact a_ (hg pins s1 σ H1 x v _ I1 r1 q1) λ_ s2 q=>q
theorem yr(hN:X.N.Nodup)(hi:X.N[i]? = some x)(hx:Loc X.env.scope x)(he:PE X e te)(hs:Jg e (some (.Name x pos')) pos.line X.env=pure false:=by rfl)(hf:X.fn x=true\/X.env.scope.names.lookup x=some .local:=by first | exact .inl rfl | exact .inr rfl | assumption) :
  PS X (.Assign [.Name x pos'] e pos) (qC te (mX i)):=by
 intro pins s σ H D I h;refine wpAny_Assign_Name (a_ (he pins s σ H _ I h) λv s1 ⟨y,H1,I1,r1,q1⟩=>?_) hs;exact yh I1 hN hi hx r1 (λs2 I2=>⟨_,H1,I2,q1⟩) hf
end
section
variable {X:Cx} {pos:Pos}
def yt(c:TT)(tb:TS):TS:=λD σ H=>∃ W:Nat->St->Hp->Prop,(∃ m,W m σ H)/\∀ m σ H,W m σ H ->
 c σ H λb H1=>if b=true then ∃ N:St->Hp->Prop,(∀ σ' H',N σ' H'->∃ m',m' < m/\W m' σ' H')/\tb { D with nx:=N,ct:=N,bk:=D.nx } σ H1 else D.nx σ H1
theorem yu(hp:PassesOwn (model X.prog X.w) X.A X.env X.xe)(hc:PT X c tc)(hb:eA X body tb):PS X (.While c body [] pos) (yt tc tb):=by
 intro pins s σ H D I h;obtain⟨W,⟨m0,w0⟩,turn⟩:=h;refine wpAny_While (codeAny_whileLoop (λn s'=>∃ σ' H',Inv X pins σ' H' s'/\W n σ' H') ?_ m0 ⟨σ,H,I,w0⟩);rintro n s1 ⟨σ1,H1,I1,w1⟩;refine J7 hp (a_ (hc pins s1 σ1 H1 _ I1 (turn n σ1 H1 w1)) λb s2 ⟨H2,I2,q2⟩=>?_)
 cases b with
 | true =>
  obtain⟨N,hN,q2⟩:=q2;rw[if_pos rfl];refine J7 hp (a_ (hb pins s2 σ1 H2 _ I2 q2) λf s3 q3=>?_)
  cases f with
  | next =>
   obtain⟨σ3,H3,I3,n3⟩:=q3;obtain⟨m',hm,w3⟩:=hN σ3 H3 n3;exact⟨m',hm,σ3,H3,I3,w3⟩
  | cont =>
   obtain⟨σ3,H3,I3,n3⟩:=q3;obtain⟨m',hm,w3⟩:=hN σ3 H3 n3;exact⟨m',hm,σ3,H3,I3,w3⟩
  | brk=>exact q3
  | ret v=>exact q3
 | false =>
  rw[if_neg Wv];exact wpAny_execs_nil ⟨σ1,H2,I2,q2⟩
end
structure It where
 go:Nat->Hp->Prop
 oS:Nat->Hp->V->Hp->Prop
 stop:Nat->Hp->Prop
def gJ(X:Cx)(pins:List (Addr×Obj))(H:Hp)(b:Addr):Prop :=
 H b=none/\b≠X.env.locals/\b ∉ X.fs/\(b ∈ X.ex\/X.s₀.heap.objs.size<=b)/\(∀ x c,X.env.cells.lookup x=some c->c≠b)/\∀ p ∈ X.pn ++ pins,p.1≠b
theorem Inv.jP(I:Inv X pins σ H s)(hb:s.heap.objs.size<=b)(hn:H' b=none):gJ X pins H' b:=by
 refine⟨hn,JE (WF I.lt hb),I.Et hb,.inr (Qo I.sz hb),λx c e z=>?_,λp hp z=>?_⟩
 ·obtain⟨v,q⟩:=I.cell x c e;exact absurd (WF q.lt (by rw[z]; exact hb)) (Qn _)
 ·exact absurd (WF (Wp (I.pin p hp).1) (by rw[z]; exact hb)) (Qn _)
structure Turn(P:Wm)(w:Wr)(K:W4)(tg:Expr)(J:It)(fp:List Addr)(it:Addr)(tn:Nat->Heap->Prop):Prop where
 mem:it ∈ fp
 obj:∀ i h,tn i h->∀ b ∈ fp,∃ o,h.get? b=some o/\∀ v,o.data≠.cell v
 keep:∀ i h h',tn i h->(∀ b ∈ fp,∀ o,h.get? b=some o->h'.get? b=some o)->tn i h'
 item:∀ (X:Cx),X.prog=P->X.w=w->X.K=K->X.calm=true->∀ (i:Nat) (pins:List (Addr×Obj)) (s:W2) (σ:St) (H:Hp) (E:Value->W2->Prop),Inv X pins σ H s->(∀ b ∈ fp,gJ X pins H b)->tn i s.heap->J.go i H ->
  W7 (model P w) X.A (Qu (.ref it)) (λr s1=>∃ u,r=some u /\
   W7 (model P w) X.A (letOwnedTupleGo tg (.ref it) u) (λ_ s2=>∃ x H',Inv X pins σ H' s2/\RelV x u/\J.oS i H x H'/\tn (i + 1) s2.heap/\∀ b ∈ fp,H' b=none) E s1) E s
 done:∀ (X:Cx),X.prog=P->X.w=w->X.K=K->X.calm=true->∀ (i:Nat) (pins:List (Addr×Obj)) (s:W2) (σ:St) (H:Hp) (E:Value->W2->Prop),Inv X pins σ H s->(∀ b ∈ fp,gJ X pins H b)->tn i s.heap->J.stop i H ->
  W7 (model P w) X.A (Qu (.ref it)) (λr s1=>r=none/\Inv X pins σ H s1) E s
 self:∀ (A:Ws) (i:Nat) (s:W2) (Q:Value->W2->Prop) (E:Value->W2->Prop),tn i s.heap->Q (.ref it) s->W7 (model P w) A (pyIter (.ref it)) Q E s
abbrev TI:=St->Hp->(It->Hp->Prop)->Prop
def yv(X:Cx)(pins:List (Addr×Obj))(σ:St)(tg:Expr)(R:It->Hp->Prop)(qD:Value)(s2:W2):Prop :=
 ∃ (it:Addr) (fp:List Addr) (tn:Nat->Heap->Prop) (J:It) (H':Hp),qD = .ref it/\Inv X pins σ H' s2/\Turn X.prog X.w X.K tg J fp it tn/\tn 0 s2.heap/\(∀ b ∈ fp,gJ X pins H' b)/\R J H'
def PI(X:Cx)(tg iter:Expr)(wi:TI):Prop :=
 ∀ (pins:List (Addr×Obj)) (s:W2) (σ:St) (H:Hp) (R:It->Hp->Prop),Inv X pins σ H s->wi σ H R ->
  W7 (model X.prog X.w) X.A (eval iter X.env) (λv s1=>W7 (model X.prog X.w) X.A (pyIter v) (yv X pins σ tg R) X.xe s1) X.xe s
theorem oT(ho:s.heap.get? it=some o)(hc:o.cls = .type n)(hd:o.data = .fields vs)
  (hn:["enumerate","zip","dict_itemiterator","dict_reverseitemiterator","odict_iterator","itertools.zip_longest","itertools.pairwise"].contains n=false) (hQ:Q () s):W7 M A (letOwnedTupleGo tg (.ref it) u) Q E s:=by
 unfold letOwnedTupleGo
 cases tg <;> first
  | exact W1 hQ
  | (cases u <;> first
    | exact W1 hQ
    | (refine W0 (wpAny_load ho ?_); rw[hc,hd]; show W7 M A (if (["enumerate","zip","dict_itemiterator","dict_reverseitemiterator","odict_iterator","itertools.zip_longest","itertools.pairwise"].contains n && vs[0]? == some (Q6 _))=true then _ else _) Q E s; rw[if_neg (by intro h; rw[hn,Bool.false_and] at h; cases h)]; exact W1 hQ))
def qE(K:W4)(a:Addr):It :=
 ⟨λi H=>∃ xs x,cx K H a xs/\xs[i]? = some x,λi H x H'=>H'=H/\∀ xs,cx K H a xs->xs[i]? = some x,λi H=>∃ xs,cx K H a xs/\xs.length<=i⟩
def tR(K:W4)(a:Addr):It :=
 ⟨λi H=>∃ xs x,dA K H a xs/\xs[i]? = some x,λi H x H'=>H'=H/\∀ xs,dA K H a xs->xs[i]? = some x,λi H=>∃ xs,dA K H a xs/\xs.length<=i⟩
def qF(lo:Int)(n:Nat):It:=⟨λi _=>i < n,λi H x H'=>H'=H/\x = .int (lo + i),λi _=>n<=i⟩
theorem E1{P:Wm}{w:Wr}{K:W4}{tg:Expr}(a it:Addr):Turn P w K tg (qE K a) [it] it (λi h=>h.IsListIter it a i) where
 mem:=by simp
 obj:=λi h st b hb=>by
  have e:b=it:=by simpa using hb
  subst e;obtain⟨o,e,c,d⟩:=st;exact⟨o,e,λv z=>by rw[d] at z; cases z⟩
 keep:=λi h h' st k=>st.at λo e=>k it (by simp) o e
 item:=by
  intro X hP hw hK hc i pins s σ H E I hf st hg;subst hP hw hK;obtain⟨xs,x,hq,hx⟩:=hg;obtain⟨ag,rv,p,hz⟩:=I.list hq;obtain⟨u,hu,ru⟩:=rv.get hx;obtain⟨f0,f1,f2,f3,f4,f5⟩:=hf it (by simp);refine wpAny_pyNext_list_item st p.isList (x:=u) (by simpa using hu) λh' cy sb=>?_
  have I1:Inv X pins σ H { s with heap:=h' }:=I.turned (t':=s.toks) (λb o hb e=>(sb.2 b hb).trans e) f0 f1 f3 f4 f5;obtain⟨o,e,c,d⟩:=id cy;exact⟨u,rfl,oT (s:={ s with heap:=h' }) e c d (by decide) ⟨x,H,I1,ru,⟨rfl,λys hy=>by rw[I.EN hy hq]; exact hx⟩,cy,λb hb=>(hf b hb).1⟩⟩
 done:=by
  intro X hP hw hK hc i pins s σ H E I hf st hg;subst hP hw hK;obtain⟨xs,hq,hx⟩:=hg;obtain⟨ag,rv,p,hz⟩:=I.list hq;obtain⟨f0,f1,f2,f3,f4,f5⟩:=hf it (by simp);have hl:=rv.length;exact wpAny_pyNext_list_end (I.ok.hd hc) st p.isList (by simp; omega) λh' eb=>⟨rfl,I.turned (t':=s.toks) (λb o hb e=>eb b o hb e) f0 f1 f3 f4 f5⟩
 self:=λ_ _ _ _ _ st h=>wpAny_pyIter_listiter st h
theorem E2{P:Wm}{w:Wr}{K:W4}{tg:Expr}(a it:Addr):Turn P w K tg (tR K a) [it] it (λi h=>h.IsTupleIter it a i) where
 mem:=by simp
 obj:=λi h st b hb=>by
  have e:b=it:=by simpa using hb
  subst e;obtain⟨o,e,c,d⟩:=st;exact⟨o,e,λv z=>by rw[d] at z; cases z⟩
 keep:=λi h h' st k=>st.at λo e=>k it (by simp) o e
 item:=by
  intro X hP hw hK hc i pins s σ H E I hf st hg;subst hP hw hK;obtain⟨xs,x,hq,hx⟩:=hg;obtain⟨ag,rv,p,hz⟩:=I.tuple hq;obtain⟨u,hu,ru⟩:=rv.get hx;obtain⟨f0,f1,f2,f3,f4,f5⟩:=hf it (by simp);refine wpAny_pyNext_tuple_item st (show s.heap.IsTuple a ag.toArray from p) (x:=u) (by simpa using hu) λh' cy sb=>?_
  have I1:Inv X pins σ H { s with heap:=h' }:=I.turned (t':=s.toks) (λb o hb e=>(sb.2 b hb).trans e) f0 f1 f3 f4 f5;obtain⟨o,e,c,d⟩:=id cy;exact⟨u,rfl,oT (s:={ s with heap:=h' }) e c d (by decide) ⟨x,H,I1,ru,⟨rfl,λys hy=>by rw[I.EO hy hq]; exact hx⟩,cy,λb hb=>(hf b hb).1⟩⟩
 done:=by
  intro X hP hw hK hc i pins s σ H E I hf st hg;subst hP hw hK;obtain⟨xs,hq,hx⟩:=hg;obtain⟨ag,rv,p,hz⟩:=I.tuple hq;obtain⟨f0,f1,f2,f3,f4,f5⟩:=hf it (by simp);have hl:=rv.length;exact wpAny_pyNext_tuple_end (I.ok.hd hc) st (show s.heap.IsTuple a ag.toArray from p) (by simp; omega) λh' eb=>⟨rfl,I.turned (t':=s.toks) (λb o hb e=>eb b o hb e) f0 f1 f3 f4 f5⟩
 self:=λ_ _ _ _ _ st h=>wpAny_pyIter_tupleiter st h
theorem E3{P:Wm}{w:Wr}{K:W4}{tg:Expr}(it:Addr)(lo:Int)(n:Nat):Turn P w K tg (qF lo n) [it] it (λi h=>IsRangeIter h it (lo + (i:Nat) * 1) ((n:Int) - (i:Nat)) 1) where
 mem:=by simp
 obj:=λi h st b hb=>by
  have e:b=it:=by simpa using hb
  subst e;exact⟨_,st,λv z=>by
   have z':Data.fields _=Data.cell v:=z
   cases z'⟩
 keep:=λi h h' st k=>k it (by simp) _ st
 item:=by
  intro X hP hw hK hc i pins s σ H E I hf st hg;subst hP hw hK;obtain⟨f0,f1,f2,f3,f4,f5⟩:=hf it (by simp);have W:=Walks.range (prog:=X.prog) (w:=X.w) (I.ok.hd hc) it lo 1 n;refine W.item i s _ _ hg st λv h' tk hv cy kk=>?_
  obtain⟨t,rfl⟩:=hv;have I1:Inv X pins σ H { s with heap:=h',toks:=tk }:=I.turned (λb o hb e=>kk b o (by simpa using hb) e) f0 f1 f3 f4 f5;refine⟨_,rfl,oT (s:={ s with heap:=h',toks:=tk }) (n:="range_iterator") cy rfl rfl (by decide) ⟨.int (lo + i),H,I1,⟨t,?_⟩,⟨rfl,rfl⟩,cy,λb hb=>(hf b hb).1⟩⟩;rw[Int.mul_one]
 done:=by
  intro X hP hw hK hc i pins s σ H E I hf st hg;subst hP hw hK;obtain⟨f0,f1,f2,f3,f4,f5⟩:=hf it (by simp);exact wpAny_pyNext_range_end (I.ok.hd hc) st (by have:n<=i:=hg; omega) λh' eb=>⟨rfl,I.turned (t':=s.toks) (λb o hb e=>eb b o hb e) f0 f1 f3 f4 f5⟩
 self:=λ_ _ _ _ _ st h=>wpAny_pyIter_rangeiter st h
section
variable {X:Cx} {tg:Expr}
theorem E4{pins:List (Addr×Obj)}{σ:St}{H:Hp}{s:W2}{R:It->Hp->Prop}{E:Value->W2->Prop}{lo hi:Int}{t u v:Tok}{tk:Nat}(I:Inv X pins σ H s)(h1 : -(2 ^ 62)<=lo)(h2:lo < 2 ^ 62)(h3 : -(2 ^ 62)<=hi)(h4:hi < 2 ^ 62)
  (q:R (qF lo (hi - lo).toNat) H):W7 (model X.prog X.w) X.A (pyIter (.ref s.heap.objs.size)) (yv X pins σ tg R) E { s with heap:=s.heap.push { cls:=.type "range",data:=.fields #[.int lo t,.int hi u,.int 1 v] },toks:=tk }:=by
 refine wpAny_pyIter_range (IsRange.new ..) (small_one h1 h2 h3 h4) ?_;have I1:Inv X pins σ H { s with heap:=s.heap.push { cls:=.type "range",data:=.fields #[.int lo t,.int hi u,.int 1 v] },toks:=tk }:=I.kept λb o e=>W8 _ e
 refine⟨(s.heap.push { cls:=.type "range",data:=.fields #[.int lo t,.int hi u,.int 1 v] }).objs.size,[(s.heap.push { cls:=.type "range",data:=.fields #[.int lo t,.int hi u,.int 1 v] }).objs.size],_,_,H,rfl,
  I1.kept (t':=tk) λb o e=>W8 _ e,E3 _ lo (hi - lo).toNat,?_,λb hb=>?_,q⟩
 ·have e1:lo + ((0:Nat):Int) * 1=lo:=by simp
  have e2:(((hi - lo).toNat:Nat):Int) - ((0:Nat):Int)=Builtin.Range.rangeSize lo hi 1:=by rw[rangeSize_one]; split <;> omega
  show IsRangeIter _ _ (lo + ((0:Nat):Int) * 1) ((((hi - lo).toNat:Nat):Int) - ((0:Nat):Int)) 1;rw[e1,e2];exact Wg _ rfl
 ·have e:b=(s.heap.push { cls:=.type "range",data:=.fields #[.int lo t,.int hi u,.int 1 v] }).objs.size:=by simpa using hb
  subst e;exact I1.jP (Wk _) (I1.aC.fresh (Wk _))
def E5(ta:TA):TI:=λσ H R=>ta σ H λvs H1=>∃ j:Int,vs=[.int j]/\-(2 ^ 62)<=j/\j < 2 ^ 62/\R (qF 0 j.toNat) H1
theorem E6 {a:Expr} {ta:TA} {p pos:Pos} (hg:Gl X "range") (hm:X.mg "range" = none) (ha:PA X [a] ta) (hs:Wj [a] X.env=[(false,eval a X.env)]:=by rfl):PI X tg (.Call (.Name "range" p) [a] [] pos) (E5 ta):=by
 intro pins s σ H R I h;refine Call_ (oR I hg hm boot_range (PyProof.Rows.callWith_type1 (a_ (ha pos pins s σ H _ I h) λus s1 ⟨vs,H1,I1,r1,q1⟩=>?_) hs rfl));obtain⟨j,e,q1,q2,q⟩:=q1;subst e
 cases r1 with
 | cons r rr =>
  cases rr;obtain⟨t,rfl⟩:=r;exact call_range_1 (E4 I1 (by omega) (by omega) q1 q2 (by simpa using q))
def E7(wi:TI)(g:TG)(tb:TS):TS:=λD σ H=>wi σ H λJ H1=>∃ W:Nat->Nat->St->Hp->Prop,(∃ m,W 0 m σ H1)/\∀ i m σ H,W i m σ H ->
 (J.stop i H/\D.nx σ H)\/(J.go i H/\∃ N:St->Hp->Prop,(∀ σ' H',N σ' H'->∃ m',m' < m/\W (i + 1) m' σ' H')/\∀ x H',J.oS i H x H'->g x σ H' λσ2 H2=>tb { D with nx:=N,ct:=N,bk:=D.nx } σ2 H2)
def oU(fp:List Addr)(h:Heap):List (Addr×Obj):=fp.filterMap λb=>(h.get? b).map λo=>(b,o)
theorem qG(hb:b ∈ fp)(e:h.get? b=some o):(b,o) ∈ oU fp h:=List.mem_filterMap.mpr ⟨b,hb,by rw[e]; rfl⟩
theorem E8(hp:p ∈ oU fp h):p.1 ∈ fp/\h.get? p.1=some p.2:=by
 obtain⟨b,hb,e⟩:=List.mem_filterMap.mp hp
 cases q:h.get? b with
 | none=>rw[q] at e; cases e
 | some o =>
  rw[q] at e;have e':(b,o)=p:=Wx e;subst e';exact⟨hb,q⟩
theorem Inv.pinned(I:Inv X pins σ H s)(hf:∀ b ∈ fp,gJ X pins H b)(ho:∀ b ∈ fp,∃ o,s.heap.get? b=some o/\∀ v,o.data≠.cell v):Inv X (pins ++ oU fp s.heap) σ H s :=
 I.yc λp hp=>(Qa.mp hp).elim (λz=>I.pin p (Q0 _ z)) λz=>by
  obtain⟨hb,e⟩:=E8 z;obtain⟨f0,f1,f2,_⟩:=hf p.1 hb;obtain⟨o,e',d⟩:=ho p.1 hb;rw[e] at e'; cases e'
  exact⟨e,f0,f1,f2,d⟩
theorem Inv.qH(I:Inv X (pins ++ pl) σ H s):Inv X pins σ H s:=I.yc λp hp=>I.pin p (Q0 _ (List.mem_append_left _ hp))
theorem yw(hp:PassesOwn (model X.prog X.w) X.A X.env X.xe)(hc:X.calm=true)(hi:PI X tg iter wi)(hg:PG X tg g)(hb:eA X body tb)
  (hs:∀ x,QD iter X.env x=pure x:=by intro _; rfl):PS X (.For tg iter body [] pos) (E7 wi g tb):=by
 intro pins s σ H D I h;refine wpAny_For (a_ (hi pins s σ H _ I h) λv s1 h1=>a_ h1 λqD s2 h2=>?_) hs;obtain⟨it,fp,tn,J,H2,e,I2,T,st2,f2,W,⟨m0,w0⟩,turn⟩:=h2;subst e;-- what stays true of the iterator's objects through the loop
 have tS:∀ {H':Hp},(∀ b ∈ fp,H' b=none)->∀ b ∈ fp,gJ X pins H' b:=λhn b hb=>⟨hn b hb,(f2 b hb).2⟩
 refine codeAny_forLoop_any (λn s'=>∃ i σ' H',Inv X pins σ' H' s'/\tn i s'.heap/\(∀ b ∈ fp,H' b=none)/\W i n σ' H') ?_ m0 ⟨0,σ,H2,I2,st2,λb hb=>(f2 b hb).1,w0⟩;rintro n s3 ⟨i,σ3,H3,I3,kT,fr3,w3⟩;rcases turn i n σ3 H3 w3 with ⟨stop,qn⟩ | ⟨go,N,hN,step⟩
 ·refine J7 hp (a_ (T.done X rfl rfl rfl hc i pins s3 σ3 H3 X.xe I3 (tS fr3) kT stop) λr s4 ⟨hr,I4⟩=>?_);subst hr;exact wpAny_execs_nil ⟨σ3,H3,I4,qn⟩
 ·refine J7 hp (a_ (T.item X rfl rfl rfl hc i pins s3 σ3 H3 X.xe I3 (tS fr3) kT go) λr s4 ⟨u,hr,h4⟩=>?_);subst hr;refine J7 hp (a_ h4 λ_ s5 ⟨x,H5,I5,r5,y5,st5,fr5⟩=>?_);have E9:=I5.pinned (tS fr5) (T.obj _ _ st5);refine J7 hp (a_ (hg _ s5 σ3 H5 x u _ E9 r5 (step x H5 y5)) λ_ s6 ⟨σ6,H6,I6,q6⟩=>?_);refine J7 hp (a_ (hb _ s6 σ6 H6 _ I6 q6) λf s7 q7=>?_);have again:∀ {σ7:St} {H7:Hp},Inv X (pins ++ oU fp s5.heap) σ7 H7 s7->N σ7 H7->∃ m,m < n/\∃ i σ' H',Inv X pins σ' H' s7/\tn i s7.heap/\(∀ b ∈ fp,H' b=none)/\W i m σ' H':=λ{σ7 H7} I7 n7=>by
   obtain⟨m',hm,w7⟩:=hN σ7 H7 n7;refine⟨m',hm,i + 1,σ7,H7,I7.qH,T.keep _ _ _ st5 λb hb o e=>(I7.pin (b,o) (Q0 _ (Q0 _ (qG hb e)))).1,λb hb=>?_,w7⟩;obtain⟨o,e,d⟩:=T.obj _ _ st5 b hb;exact(I7.pin (b,o) (Q0 _ (Q0 _ (qG hb e)))).2.1
  cases f with
  | next=>obtain⟨σ7,H7,I7,n7⟩:=q7; exact again I7 n7
  | cont=>obtain⟨σ7,H7,I7,n7⟩:=q7; exact again I7 n7
  | brk=>obtain⟨σ7,H7,I7,q7⟩:=q7; exact⟨σ7,H7,I7.qH,q7⟩
  | ret v=>obtain⟨x7,σ7,H7,I7,r7,q7⟩:=q7; exact⟨x7,σ7,H7,I7.qH,r7,q7⟩
end
abbrev R2:=V->V->Hp->VK->Prop
def bT(X:Cx)(f:Value->Value->Sem Value)(r:R2):Prop :=
 ∀ (pins:List (Addr×Obj)) (s:W2) (σ:St) (H:Hp) (x y:V) (v u:Value) (Q:VK),Inv X pins σ H s->RelV x v->RelV y u->r x y H Q ->
  W7 (model X.prog X.w) X.A (f v u) (EP X pins σ Q) X.xe s
def eB(X:Cx)(f:Value)(r:List V->Hp->VK->Prop):Prop :=
 ∀ (pins:List (Addr×Obj)) (s:W2) (σ:St) (H:Hp) (xs:List V) (us:List Value) (Q:VK),Inv X pins σ H s->Vals xs us->r xs H Q ->
  W7 (model X.prog X.w) X.A (call f us) (EP X pins σ Q) X.xe s
def l7(r:R2)(ta tb:TE):TE:=λσ H Q=>ta σ H λx H1=>tb σ H1 λy H2=>r x y H2 Q
def E_(r:V->Hp->VK->Prop)(ta:TE):TE:=λσ H Q=>ta σ H λx H1=>r x H1 Q
def rI(C:Int->Int->Prop)(g:Int->Int->V):R2:=λx y H Q=>∃ i j,x = .int i/\y = .int j/\C i j/\Q (g i j) H
def jl(g:Int->Int->V):R2:=λx y H Q=>∃ i j,x = .int i/\y = .int j/\Q (g i j) H
section
variable {X:Cx} {a b c:Expr} {ta tb tc:TE} {pos:Pos}
theorem tU(ha:PE X a ta)(hb:PE X b tb){pins:List (Addr×Obj)}{s:W2}{σ:St}{H:Hp}{R:V->V->Hp->Prop}(I:Inv X pins σ H s)
  (h:ta σ H λx H1=>tb σ H1 λy H2=>R x y H2) {Q:Value->W2->Prop} {f:Value->Value->Sem Value}
  (hf:∀ v u s2 x y H2,Inv X pins σ H2 s2->RelV x v->RelV y u->R x y H2->W7 (model X.prog X.w) X.A (f v u) Q X.xe s2) :
  W7 (model X.prog X.w) X.A (eval a X.env) (λv s₁=>W7 (model X.prog X.w) X.A (eval b X.env) (λu s₂=>W7 (model X.prog X.w) X.A (f v u) Q X.xe s₂) X.xe s₁) X.xe s:=by
 refine a_ (ha pins s σ H _ I h) λv s1 ⟨x,H1,I1,r1,q1⟩=>?_
 refine a_ (hb pins s1 σ H1 _ I1 q1) λu s2 ⟨y,H2,I2,r2,q2⟩=>?_
 exact hf v u s2 x y H2 I2 r1 r2 q2
theorem yx{op:Operator}{r:R2}(ho:bT X (Qy op) r)(ha:PE X a ta)(hb:PE X b tb):PE X (.BinOp a op b pos) (l7 r ta tb):=by
 intro pins s σ H Q I h;exact wpAny_BinOp (tU ha hb I h λv u s2 x y H2 I2 rx ry q=>ho pins s2 σ H2 x y v u Q I2 rx ry q)
theorem qI{f:Value->Value->Sem Value}{C:Int->Int->Prop}{g:Int->Int->Int}
  (rule:∀ (i j:Int) (t u:Tok) (s:W2) (Q:Value->W2->Prop) (E:Value->W2->Prop),C i j->Q (.int (g i j) s.toks) { s with toks:=s.toks + 1 }->W7 (model X.prog X.w) X.A (f (.int i t) (.int j u)) Q E s) :
  bT X f (rI C λi j=>.int (g i j)):=by
 intro pins s σ H x y v u Q I rx ry h;obtain⟨i,j,rfl,rfl,hc,q⟩:=h;obtain⟨t,rfl⟩:=rx;obtain⟨t',rfl⟩:=ry;exact rule i j t t' s _ _ hc ⟨.int (g i j),H,I.tok _,⟨_,rfl⟩,q⟩
theorem yy{f:Value->Value->Sem Value}{g:Int->Int->Int}
  (rule:∀ (i j:Int) (t u:Tok) (s:W2) (Q:Value->W2->Prop) (E:Value->W2->Prop),Q (.int (g i j) s.toks) { s with toks:=s.toks + 1 }->W7 (model X.prog X.w) X.A (f (.int i t) (.int j u)) Q E s) :
  bT X f (jl λi j=>.int (g i j)):=by
 intro pins s σ H x y v u Q I rx ry h;obtain⟨i,j,rfl,rfl,q⟩:=h;obtain⟨t,rfl⟩:=rx;obtain⟨t',rfl⟩:=ry;exact rule i j t t' s _ _ ⟨.int (g i j),H,I.tok _,⟨_,rfl⟩,q⟩
theorem tV{f:Value->Value->Sem Value}{g:Int->Int->Bool}
  (rule:∀ (i j:Int) (t u:Tok) (s:W2) (Q:Value->W2->Prop) (E:Value->W2->Prop),Q (.bool (g i j)) s->W7 (model X.prog X.w) X.A (f (.int i t) (.int j u)) Q E s) :
  bT X f (jl λi j=>.bl (g i j)):=by
 intro pins s σ H x y v u Q I rx ry h;obtain⟨i,j,rfl,rfl,q⟩:=h;obtain⟨t,rfl⟩:=rx;obtain⟨t',rfl⟩:=ry;exact rule i j t t' s _ _ ⟨.bl (g i j),H,I,rfl,q⟩
def yz(i j:Int):Prop:=0 < j/\j < 1073741824
def yA(i j:Int):Prop:=0<=j/\j<=1000000/\i.natAbs < 2 ^ 64
def oV(i j:Int):Prop:=(-(2 ^ 64) < i/\i < 2 ^ 64)\/(-(2 ^ 64) < j/\j < 2 ^ 64)
theorem oV.ok(h:oV i j):IntMulOk i j:=by
 rcases h with ⟨h1,h2⟩ | ⟨h1,h2⟩
 ·exact .of_left (intBits_le_64 h1 h2)
 ·exact .of_right (intBits_le_64 h1 h2)
theorem Fb:bT X (Qy .Add) (jl λi j=>.int (i + j)):=yy λ_ _ _ _ _ _ _ q=>add_int q
theorem Fd:bT X (Qy .Sub) (jl λi j=>.int (i - j)):=yy λ_ _ _ _ _ _ _ q=>sub_int q
theorem Fe:bT X (Qy .Mult) (rI oV λi j=>.int (i * j)):=qI λ_ _ _ _ _ _ _ hc q=>mul_int q hc.ok
theorem yB:bT X (Qy .FloorDiv) (rI yz λi j=>.int (i / j)):=qI λi j _ _ _ _ _ hc q=>by
 have h1:(0:Int) < j:=hc.1;have h2:j < 1073741824:=hc.2;exact floordiv_int (by omega) (by rw[Int.fdiv_eq_ediv_of_nonneg i (by omega)]; exact q) (.inl (PyProof.noPylong_small (by omega)))
theorem l8:bT X (Qy .Mod) (rI (λ_ j=>0 < j) λi j=>.int (i % j)):=qI λi j _ _ _ _ _ hc q=>by
 have h1:(0:Int) < j:=hc;exact mod_int' (by omega) (by rw[Int.fmod_eq_emod_of_nonneg i (by omega)]; exact q)
theorem zev:bT X (Qy .Pow) (rI yA λi j=>.int (i ^ j.toNat)):=qI λ_ _ _ _ _ _ _ hc q=>pow_int_small hc.1 hc.2.1 hc.2.2 q
end
section
variable {X:Cx} {a b c:Expr} {ta tb tc:TE} {pos:Pos}
theorem yC(I:Inv X pins σ H s)(q:Q (.bl k) H)(e:k=k'):EP X pins σ Q (.bool k') s:=by
 subst e;exact⟨.bl k,H,I,rfl,q⟩
theorem Ff:bT X (WN .Lt) (jl λi j=>.bl (decide (i < j))):=tV λ_ _ _ _ _ _ _ q=>lt_int q
theorem Fg:bT X (WN .Gt) (jl λi j=>.bl (decide (j < i))):=tV λ_ _ _ _ _ _ _ q=>gt_int q
theorem Fh:bT X (WN .GtE) (jl λi j=>.bl (decide (j<=i))):=tV λ_ _ _ _ _ _ _ q=>ge_int q
theorem Fi:bT X (WN .Lt) (λx y H Q=>∃ i j,x = .str i/\y = .str j/\Q (.bl (decide (i.cps.toList < j.cps.toList))) H):=by
 intro pins s σ H x y v u Q I rx ry h;obtain⟨i,j,rfl,rfl,q⟩:=h;obtain⟨t,rfl⟩:=rx;obtain⟨t',rfl⟩:=ry;exact lt_str (yC I q rfl)
theorem Fj:bT X (WN .NotIn) (λx y H Q=>∃ i j,x = .str i/\y = .str j/\Q (.bl (!(!(Builtin.Str.occurrences j i 0 j.length 1).isEmpty))) H):=by
 intro pins s σ H x y v u Q I rx ry h;obtain⟨i,j,rfl,rfl,q⟩:=h;obtain⟨t,rfl⟩:=rx;obtain⟨t',rfl⟩:=ry;exact notIn_str (yC I q rfl)
theorem bT.or(h:bT X f r)(h':bT X f r'):bT X f (λx y H Q=>r x y H Q\/r' x y H Q):=by
 intro pins s σ H x y v u Q I rx ry q;rcases q with q | q
 ·exact h pins s σ H x y v u Q I rx ry q
 ·exact h' pins s σ H x y v u Q I rx ry q
theorem ip(b:Expr)(h:op≠.In:=by decide)(h2:op≠.NotIn:=by decide):QA op b=false:=by
 have e1:(op == CmpOp.In)=false:=by cases op <;> first | rfl | exact absurd rfl h
 have e2:(op == CmpOp.NotIn)=false:=by cases op <;> first | rfl | exact absurd rfl h2
 cases b <;> simp[QA,e1,e2]
theorem yD{op:CmpOp}{r:R2}(ho:bT X (WN op) r)(ha:PE X a ta)(hb:PE X b tb)(hm:QA op b=false):PE X (.Compare a [op] [b] pos) (l7 r ta tb):=by
 intro pins s σ H Q I h;exact wpAny_Compare1 (tU ha hb I h λv u s2 x y H2 I2 rx ry q=>ho pins s2 σ H2 x y v u Q I2 rx ry q) hm
def Fm(t:TE):TT:=λσ H Q=>t σ H λx H'=>∃ k,x = .bl k/\Q k H'
theorem yE(ho:bT X (WN op) r)(ha:PE X a ta)(hb:PE X b tb)(hm:QA op b=false):PT X (.Compare a [op] [b] pos) (Fm (l7 r ta tb)):=by
 intro pins s σ H Q I h;refine wpAny_isTrue_Compare1 (a_ (ha pins s σ H _ I h) λv s1 ⟨x,H1,I1,r1,q1⟩=>a_ (hb pins s1 σ H1 _ I1 q1) λu s2 ⟨y,H2,I2,r2,q2⟩ =>
  a_ (ho pins s2 σ H2 x y v u _ I2 r1 r2 q2) λc s3 ⟨z,H3,I3,r3,k,e,q3⟩=>?_) hm
 subst e
 cases r3;exact QC ⟨H3,I3,q3⟩
theorem mY:(W9:Nat) < 2 ^ 63:=by rw[QG]; decide
theorem Fn:bT X (Qy .Add) (λx y H Q=>∃ i j,x = .str i/\y = .str j/\i.length + j.length<=W9/\Q (.str (i ++ j)) H):=by
 intro pins s σ H x y v u Q I rx ry h;obtain⟨i,j,rfl,rfl,hz,q⟩:=h;obtain⟨t,rfl⟩:=rx;obtain⟨t',rfl⟩:=ry;exact add_str (λt' tk=>⟨.str (i ++ j),H,I.tok _,⟨_,rfl⟩,q⟩) hz
theorem gY(r:Vals [x] us):∃ u,us=[u]/\RelV x u:=by
 cases r with
 | cons r1 r2=>cases r2; exact⟨_,rfl,r1⟩
theorem yF(r:Vals [x,y] us):∃ u w',us=[u,w']/\RelV x u/\RelV y w':=by
 cases r with
 | cons r1 r2 =>
  cases r2 with
  | cons r3 r4=>cases r4; exact⟨_,_,rfl,r1,r3⟩
theorem Fo (hc:X.calm=true):eB X (.builtin "max") (λxs H Q=>∃ i j,xs=[.int i,.int j]/\Q (.int (if j > i then j else i)) H):=by
 intro pins s σ H xs us Q I r h;obtain⟨i,j,rfl,q⟩:=h;obtain⟨u,w',rfl,⟨t,rfl⟩,⟨t',rfl⟩⟩:=yF r;refine max_two_ints (I.ok.hd hc) λh' tk k=>⟨_,H,I.kept k,?_,q⟩
 by_cases hj:j > i
 ·rw[if_pos hj,if_pos hj]; exact⟨_,rfl⟩
 ·rw[if_neg hj,if_neg hj]; exact⟨_,rfl⟩
theorem Fp:eB X (.type "int") (λxs H Q=>(∃ i,xs=[.int i]/\Q (.int i) H)\/∃ k,xs=[.bl k]/\Q (.int (if k then 1 else 0)) H):=by
 intro pins s σ H xs us Q I r h;rcases h with ⟨i,rfl,q⟩ | ⟨k,rfl,q⟩
 ·obtain⟨u,rfl,t,rfl⟩:=gY r;exact call_int_int ⟨.int i,H,I,⟨_,rfl⟩,q⟩
 ·obtain⟨u,rfl,r1⟩:=gY r
  cases r1;exact call_int_bool ⟨.int (if k then 1 else 0),H,I.tok _,⟨_,rfl⟩,q⟩
end
structure tW(h:Heap)(x dx C:Addr)(mA:Str->Option Value):Prop where
 obj:h.get? x=some (PySem.W.instObj C dx)
 ns:h.Ns1 dx mA
 ne:dx≠x
theorem Fq{h:Heap}{dx:Addr}{mA:Str->Option Value}(n:h.Ns1 dx mA):∃ od,h.get? dx=some od/\∀ name,PySem.W.lookIn name od=some (mA name):=by
 obtain⟨o,es,ep,ho,hd,hk,_,hm⟩:=n;refine⟨o,ho,λname=>?_⟩;have e:=hm name;unfold nsFind findBy at e;rw[<- Array.find?_toList] at e;unfold PySem.W.lookIn;rw[hd];dsimp only;split
 ·rename_i y q;rw[q] at e;exact congrArg some e
 ·rename_i q;rw[q] at e;have a:es.toList.any (·.refKey)=false:=by
   rw[Jc];intro y hy;obtain⟨z,t,qJ⟩:=hk y (Array.mem_toList_iff.mp hy);simp[DictEntry.refKey,qJ]
  have a':¬ es.toList.any (·.refKey)=true:=by rw[a]; exact Wv
  rw[if_neg a'];exact congrArg some e
theorem tW.look(I:tW h x dx C mA):∃ od,PySem.W.InstAt h x (PySem.W.instObj C dx) C (some od)/\∀ name,PySem.W.lookIn name od=some (mA name) :=
 let ⟨od,ho,hl⟩:=Fq I.ns
 ⟨od,⟨I.obj,rfl,rfl,ho⟩,hl⟩
section
variable {prog:Wm} {w:Wr} {A:Ws} {E:Value->W2->Prop} {s:W2} {K:W4} {x dx C f:Addr} {mA:Str->Option Value} {name:Str} {v:Value}
end
theorem fc.some_of(r:fc (some v) o):∃ u,o=some u/\RelV v u:=by
 cases o with
 | none=>exact(show False from r).elim
 | some u=>exact⟨u,rfl,r⟩
theorem fc.none_of(r:fc none o):o=none:=by
 cases o with
 | none=>rfl
 | some u=>exact(show False from r).elim
section
variable {P:Wm} {w:Wr} {H H':Hp} {h h':Heap} {a C dx:Addr} {fs Em:List (Str×V)}
theorem Fs(aC:cD P w H h)(e:H a=some (.ins C dx fs)):∃ mA,tW h a dx C mA/\(∀ f,fc (fs.lookup f) (mA f))/\PySem.Within mA (fs.map (·.1))/\fs.length<=1000/\H dx=some (.own a):=by
 obtain⟨d,z,ne,ob,mA,n,r,q⟩:=(show b0 P w H h a (.ins C dx fs) from aC a _ e)
 exact⟨mA,⟨ob,n,ne⟩,r,q,z,d⟩
end
structure tY(K:W4)(C:Addr):Prop where
 pg:PySem.W.plainGet K C Str.empty=true
 hd:PySem.W.hasDictIn K C=true
 po:PySem.W.plainOver K C=true
 sa:PySem.W.findIn K (.ref C) "__setattr__" = some (some (.builtin "object.__setattr__"))
theorem tY.get{K:W4}{C:Addr}(c:tY K C)(f:Str):PySem.W.plainGet K C f=true:=c.pg
section
variable {X:Cx} {pins:List (Addr×Obj)} {σ:St} {H:Hp} {s:W2} {a C dx:Addr} {fs:List (Str×V)} {f:Str} {v:V} {A:Ws} {E:Value->W2->Prop}
end
section
variable {X:Cx} {o e value:Expr} {f:Str} {pos pos' Ft:Pos} {ta tv:TE}
end
section
variable {X:Cx} {pins:List (Addr×Obj)} {σ:St} {H:Hp} {s:W2} {A:Ws} {E:Value->W2->Prop} {Q:Value->W2->Prop} {c:Value} {b:Bool}
inductive iV (K:W4) (H:Hp):V->Value->Prop where
 | a7:iV K H .a7 (.type "NoneType")
 | bl (x:Bool):iV K H (.bl x) (.type "bool")
 | int (i:Int):iV K H (.int i) (.type "int")
 | str (x:Str):iV K H (.str x) (.type "str")
 | flt (x:UInt64):iV K H (.flt x) (.type "float")
 | lst {a:Addr} {xs:List V} (e:H a=some (.lst xs)):iV K H (.ref a) (.type "list")
 | frz {a:Addr} {o:Obj} {xs:List V} (e:H a=some (.frz o (.lst xs))):iV K H (.ref a) (.type "list")
 | tup {a:Addr} {xs:List V} (e:H a=some (.tup xs)):iV K H (.ref a) (.type "tuple")
 | dK {a:Addr} {aa:List (Key×V)} (e:H a=some (.dK aa)):iV K H (.ref a) (.type "dict")
 | dT {a:Addr} {aa:List (List Key×V)} (e:H a=some (.dT aa)):iV K H (.ref a) (.type "dict")
 | ins {a C dx:Addr} {fs:List (Str×V)} (e:H a=some (.ins C dx fs)) (cl:tY K C) (ha:PySem.W.findIn K (.ref C) "__class__" = some (some (.builtin "object.__class__")))
   (hn:PySem.W.specialIn K (.builtin "object.__class__") "__get__" = some (some (.builtin "getset_descriptor.__get__"))) (yG:PySem.W.takesIn K (.builtin "object.__class__")=some true)
   (hm:PySem.W.mroIn K C (.type "object")=some true):iV K H (.ref a) (.ref C)
theorem kU(I:Inv X pins σ H s)(rx:RelV x u)(ty:iV X.K H x t)(e:J3 X.K t c=some b)(h:∀ tk,Q (.bool b) { s with toks:=tk }) :
  W7 (model X.prog X.w) A (call (.builtin "isinstance") [u,c]) Q E s:=by
 cases ty with
 | a7=>cases (show u=Value.none from rx); exact Qi PySem.W.kitx_none I.fL True.intro e (λz=>nomatch z) h
 | bl y=>cases (show u=Value.bool y from rx); exact Qi PySem.W.kitx_bool I.fL True.intro e (λz=>nomatch z) h
 | int i=>obtain⟨t,q⟩:=(show ∃ t,u=Value.int i t from rx); cases q; exact Qi PySem.W.kitx_int I.fL True.intro e (λz=>nomatch z) h
 | str y=>obtain⟨t,q⟩:=(show ∃ t,u=Value.str y t from rx); cases q; exact Qi PySem.W.kitx_str I.fL True.intro e (λz=>nomatch z) h
 | flt y=>obtain⟨t,q⟩:=(show ∃ t,u=Value.float y t from rx); cases q; exact Qi PySem.W.kitx_float I.fL True.intro e (λz=>nomatch z) h
 | @lst a xs ea =>
  cases (show u=Value.ref a from rx);obtain⟨_,_,n,_,h1⟩:=(show b0 X.prog X.w H s.heap a (.lst xs) from I.aC a _ ea)
  exact Qi PySem.W.kitx_list I.fL ⟨_,h1,rfl⟩ e (λz=>nomatch z) h
 | @frz a ob xs ea =>
  cases (show u=Value.ref a from rx);obtain⟨_,_,_,n,_,h1⟩:=(show b0 X.prog X.w H s.heap a (.frz ob (.lst xs)) from I.aC a _ ea)
  exact Qi PySem.W.kitx_list I.fL ⟨_,h1,rfl⟩ e (λz=>nomatch z) h
 | @tup a xs ea =>
  cases (show u=Value.ref a from rx);obtain⟨_,_,_,p⟩:=(show b0 X.prog X.w H s.heap a (.tup xs) from I.aC a _ ea)
  obtain⟨o,h1,h2,_⟩:=p.tup;exact Qi PySem.W.kitx_tuple I.fL ⟨o,h1,h2⟩ e (λz=>nomatch z) h
 | @dK a aa ea =>
  cases (show u=Value.ref a from rx);obtain⟨_,_,vs,_,p⟩:=(show b0 X.prog X.w H s.heap a (.dK aa) from I.aC a _ ea)
  obtain⟨o,es,ep,h1,h2,_⟩:=p;exact Qi PySem.W.kitx_dict I.fL ⟨o,h1,h2.1⟩ e (λz=>nomatch z) h
 | @dT a aa ea =>
  cases (show u=Value.ref a from rx);obtain⟨_,_,xs,_,o,es,ep,h1,h2,_⟩:=(show b0 X.prog X.w H s.heap a (.dT aa) from I.aC a _ ea)
  exact Qi PySem.W.kitx_dict I.fL ⟨o,h1,h2.1⟩ e (λz=>nomatch z) h
 | @ins a C dx fs ea cl ha hn yG hm =>
  cases (show u=Value.ref a from rx);obtain⟨mA,O,_⟩:=Fs I.aC ea;obtain⟨od,J,_⟩:=O.look;exact Qi (PySem.W.kitx_own (cl.get _) cl.hd ha hn yG hm) I.fL J e (λz=>nomatch z) h
end
structure eN(k:Nat)(A:Ws):Prop where
 hd:A.handled=none
 dp:A.depth + 3 * k + 5 < recursionLimit
 un:A.units + 16 * k + 200 < WE
theorem eN.mono(r:eN k A)(h:j<=k):eN j A:=⟨r.hd,by have:=r.dp; omega,by have:=r.un; omega⟩
theorem eN.deeper(r:eN (k + 1) A)(env:Env):eN k (A.deeper env) :=
 ⟨r.hd,by have:=r.dp; show A.depth + 1 + 3 * k + 5 < _; omega,by have:=r.un; show A.units + 3 + 16 * k + 200 < _; omega⟩
theorem eN.depth(r:eN k A):A.depth < recursionLimit:=by have:=r.dp; omega
def mZ:TA:=λ_ H Q=>Q [] H
def oW(ta:TE)(tr:TA):TA:=λσ H Q=>ta σ H λx H1=>tr σ H1 λxs H2=>Q (x :: xs) H2
section
variable {X:Cx} {e:Expr} {es:List Expr} {te:TE} {t:TA} {pos:Pos}
theorem iq:PA X [] mZ:=λ_ _ _ _ H Q I h=>Calls.spliced_nil ⟨[],H,I,.nil,h⟩
theorem fO(ha:PE X e te)(hr:PA X es t)(hs:Wj (e :: es) X.env=(false,eval e X.env) :: Wj es X.env:=by rfl):PA X (e :: es) (oW te t):=by
 intro pos pins s σ H Q I h;rw[hs];show W7 _ _ (spliced ((false,eval e X.env) :: QJ pos (Wj es X.env))) _ _ s;refine Calls.spliced_cons (a_ (ha pins s σ H _ I h) λu s1 ⟨x,H1,I1,r1,q1⟩=>?_);exact a_ (hr pos pins s1 σ H1 _ I1 q1) λus s2 ⟨xs,H2,I2,r2,q2⟩=>⟨x :: xs,H2,I2,.cons r1 r2,q2⟩
def Fu(t:TA):TE:=λσ H Q=>t σ H λxs H1=>xs.length<=W9/\∀ p,H1 p=none->Q (.ref p) (upd H1 p (.tup xs))
def tZ(t:TA):TE:=λσ H Q=>t σ H λxs H1=>xs.length<=W9/\∀ p,H1 p=none->Q (.ref p) (upd H1 p (.lst xs))
theorem Fv{x1}(h:PA X es t):PE X (.Tuple es x1 pos) (Fu t):=by
 intro pins s σ H Q I hq;refine wpAny_Tuple_spliced (a_ (h pos pins s σ H _ I hq) λus s1 ⟨xs,H1,I1,r,z,q⟩=>⟨by rw[<- r.length]; exact z,?_⟩);have hf:H1 s1.heap.objs.size=none:=I1.aC.fresh (Wk _);refine⟨.ref s1.heap.objs.size,upd H1 s1.heap.objs.size (.tup xs),I1.laid (t':=s1.toks) (λb u e=>W8 _ e) (Wk _) ?_,rfl,q _ hf⟩;exact⟨z,us,r,⟨_,Wg _ rfl⟩⟩
theorem yH(h:PA X es t):PE X (.List es pos) (tZ t):=by
 intro pins s σ H Q I hq;refine wpAny_List_spliced (a_ (h pos pins s σ H _ I hq) λus s1 ⟨xs,H1,I1,r,z,q⟩=>⟨by rw[<- r.length]; exact z,?_⟩);have hf:H1 s1.heap.objs.size=none:=I1.aC.fresh (Wk _);refine⟨.ref s1.heap.objs.size,upd H1 s1.heap.objs.size (.lst xs),I1.laid (t':=s1.toks) (λb u e=>W8 _ e) (Wk _) ?_,rfl,q _ hf⟩;exact⟨z,us,0,r,Wg _ rfl⟩
end
abbrev Sp:=List V->Hp->VK->XK->Prop
abbrev jm:=List Env->Hp->W2->XK->Value->W2->Prop
structure qK(P:Wm)(w:Wr)(K:W4)(mg:Str->Option Value)(base:Heap)(A:Ws)(outer:List Env)(s:W2)(H:Hp):Prop where
 frames:A.frames=some outer
 mod:Mod K mg base
 bs:∀ b o,base.get? b=some o->s.heap.get? b=some o/\H b=none
 kP:base.objs.size<=s.heap.objs.size
 ji:s.heap.FunFrames base outer
 mV:∀ b ∈ ik outer,H b=none
 aC:cD P w H s.heap
 bare:AllBare s.gens
def CE(outer:List Env)(P:Wm)(w:Wr)(H:Hp)(s:W2)(Q:VK)(u:Value)(s':W2):Prop :=
 ∃ v H',s'.os=s.os/\AllBare s'.gens/\Un (ik outer) [] H H' s.heap s'.heap/\cD P w H' s'.heap/\RelV v u/\Q v H'
def CR(CX:jm)(outer:List Env)(P:Wm)(w:Wr)(H:Hp)(s:W2)(Q:VK)(E:XK)(r:Result)(s':W2):Prop :=
 match r with
 | .ok (.ret u)=>CE outer P w H s Q u s'
 | .ok _=>False
 | .error e=>CX outer H s E e s'
structure jn(P:Wm)(w:Wr)(K:W4)(mg:Str->Option Value)(base:Heap)(CX:jm)(k:Nat)(f:Addr)(fd:Ql)(ps:List Str)(sp:Sp):Prop where
 len:∀ vs H Q E,sp vs H Q E->vs.length=ps.length
 run:∀ (A:Ws) (outer:List Env) (s:W2) (H:Hp) (args:Args) (us:List Value) (vs:List V) (Q:VK) (E:XK),eN k A->qK P w K mg base A outer s H->BindsTo s fd args (ps.zip us)->Vals vs us->sp vs H Q E ->
  Jw (model P w) A (.call (.ref f) args) (CR CX outer P w H s Q E) s
section
variable {X:Cx} {pins:List (Addr×Obj)} {σ:St} {H:Hp} {s s':W2}
theorem Inv.Fw(I:Inv X pins σ H s):qK X.prog X.w X.K X.mg X.base X.A X.stack s H :=
 ⟨I.ok.frames,I.ok.mod,I.bs,Qo I.ok.kP I.sz,I.stack,I.ya,I.aC,I.bare⟩
theorem Inv.after(I:Inv X pins σ H s)(h:CE X.stack X.prog X.w H s Q u s'):EP X pins σ Q u s':=by
 obtain⟨v,H',os,bare,un,aC,r,q⟩:=h;obtain⟨hh,g,d,t,os'⟩:=s';obtain rfl:os'=s.os:=os;exact⟨v,H',I.call (h':=hh) (g':=g) (d':=d) (t':=t) (ch:=[]) un aC bare (λb z=>absurd z (by simp)),r,q⟩
end
def t4(sp:Sp)(kW:List V)(E:XK)(t:TA):TE:=λσ H Q=>t σ H λvs H1=>sp (vs ++ kW) H1 Q E
def Binds(K:W4)(fd:Ql)(ps:List Str)(ds:List Value):Prop :=
 ∀ (s:W2) (us:List Value),K.In s.heap->(us ++ ds).length=ps.length->BindsTo s fd ⟨us,[]⟩ (ps.zip (us ++ ds))
theorem Binds.all{K:W4}{fd:Ql}{ps:List Str}(h:∀ us:List Value,us.length=ps.length->bindArgs fd ⟨us,[]⟩=pure (ps.zip us)):Binds K fd ps []:=λs us _ hl=>by
 rw[Qv] at hl ⊢;exact .of_eq (h us hl)
def t5(CX:jm)(X:Cx)(E:XK):Prop:=∀ (pins:List (Addr×Obj)) (σ:St) (H:Hp) (s:W2) (e:Value) (s':W2),Inv X pins σ H s->CX X.stack H s E e s'->X.xe e s'
section
variable {X:Cx} {CX:jm} {k:Nat} {f C:Addr} {fd:Ql} {ps:List Str} {sp:Sp} {kW:List V} {ds:List Value} {E:XK} {x m:Str} {p pos apos:Pos} {e o:Expr} {es:List Expr} {ta:TE} {t:TA}
theorem Fx(F:jn X.prog X.w X.K X.mg X.base CX k f fd ps sp)(hr:eN k X.A)(hb:Binds X.K fd ps ds)(hd:Vals kW ds)(hx:t5 CX X E)
  (I:Inv X pins σ H s) (r:Vals vs us) (h:sp (vs ++ kW) H Q E):W7 (model X.prog X.w) X.A (call (.ref f) us) (EP X pins σ Q) X.xe s:=by
 have r2:Vals (vs ++ kW) (us ++ ds):=r.append hd;have hl:(us ++ ds).length=ps.length:=by rw[<- r2.length]; exact F.len _ _ _ _ h
 refine wpAny_call (codeAny_mono (F.run X.A X.stack s H ⟨us,[]⟩ (us ++ ds) (vs ++ kW) Q E hr I.Fw (hb s us I.fL hl) r2 h) λr s' hq=>?_)
 cases r with
 | error e=>exact hx pins σ H s e s' I hq
 | ok fl =>
  cases fl with
  | ret u=>exact I.after hq
  | next=>exact False.elim hq
  | brk=>exact False.elim hq
  | cont=>exact False.elim hq
theorem yI(F:jn X.prog X.w X.K X.mg X.base CX k f fd ps sp)(hr:eN k X.A)(hg:Gl X x)(hm:X.mg x=some (.ref f))(hk:JL X.K (.ref f)=true)(hb:Binds X.K fd ps ds)(hd:Vals kW ds)(hx:t5 CX X E)
  (ha:PA X (e :: es) t) (ir:(x == ("__debug__" : Str))=false:=by decide) (he:Wj (e :: es) X.env=(false,eval e X.env) :: Wj es X.env:=by rfl) (c_:(QJ pos (Wj es X.env)).any (·.1)=false:=by rfl) :
  PE X (.Call (.Name x p) (e :: es) [] pos) (t4 sp kW E t):=by
 intro pins s σ H Q I h;refine wpAny_Call_Name_kw (EB I hg hm ?_ ir);refine PySem.W.callWith_K (h₀:=X.base) I.ok.mod.tM hk (a_ (ha pos pins s σ H _ I h) λus s1 ⟨vs,H1,I1,r,q⟩=>⟨I1.fL,?_⟩) he c_;exact Fx F hr hb hd hx I1 r q
end
section
variable {X:Cx} {CX:jm} {k:Nat} {f C:Addr} {fd:Ql} {ps ks:List Str} {sp:Sp} {E:XK} {x m:Str} {p pos apos P7:Pos} {e o:Expr} {es:List Expr} {P8:List Keyword} {te ta:TE} {t tk:TA} {nm:Option Str}
variable {g:List Value->List Value->List Value} {gV:List V->List V->List V}
end
structure eS(N P:List Str)(sc:Scope):Prop where
 kind:sc.kind = .function
 co:sc.isCoroutine=false
 gen:sc.isGenerator=false
 nd:N.Nodup
 pre:N.take P.length=P
 par:∀ x ∈ P,sc.names.lookup x=some .local\/sc.names.lookup x=some .cell
 t7:∀ y ∈ sc.names,y.2≠.free
theorem scc{N P:List Str}{sc:Scope}(kind:sc.kind = .function:=by rfl)(co:sc.isCoroutine=false:=by rfl)(gen:sc.isGenerator=false:=by rfl)(nd:N.Nodup:=by decide +kernel)(pre:N.take P.length=P:=by rfl)(par:∀ x ∈ P,sc.names.lookup x=some .local\/sc.names.lookup x=some .cell:=by decide +kernel)(t7:∀ y ∈ sc.names,y.2≠.free:=by decide +kernel):eS N P sc:=⟨kind,co,gen,nd,pre,par,t7⟩
theorem yJ{kindOf:Str->Option NameKind}{x:Str}:∀ {binds:List (Str×Value)} {m:Str->Option Value},(∀ v,(x,v) ∉ binds)->bindL kindOf binds m x=m x
 | [],_,_=>rfl
 | (n,v) :: r,m,h=>by
  unfold bindL;rw[yJ λw hw=>h w (Wc _ hw)];split
  ·have:x≠n:=by rintro rfl; exact h v We
   simp[this]
  ·rfl
theorem yK{kindOf:Str->Option NameKind}{x:Str}:∀ {binds:List (Str×Value)} {m:Str->Option Value},(∀ v,(x,v) ∉ binds)->bindC kindOf binds m x=m x
 | [],_,_=>rfl
 | (n,v) :: r,m,h=>by
  unfold bindC;rw[yK λw hw=>h w (Wc _ hw)];split
  ·rfl
  ·have:x≠n:=by rintro rfl; exact h v We
   simp[this]
theorem yL{kindOf:Str->Option NameKind}{x:Str}{v:Value}:∀ {P:List Str} {vs:List Value} {i:Nat} {m:Str->Option Value},P.Nodup->P[i]? = some x->vs[i]? = some v->kindOf x=some .local ->
  bindL kindOf (P.zip vs) m x=some v
 | [],_,_,_,_,h,_,_=>by simp at h
 | _ :: _,[],_,_,_,_,h,_=>by simp at h
 | p :: P,w :: vs,0,m,nd,h1,h2,hk=>by
  simp at h1 h2; subst h1; subst h2
  show bindL kindOf ((p,w) :: P.zip vs) m p=_;unfold bindL;rw[yJ λv hv=>(WL.mp nd).1 (List.of_mem_zip hv).1,if_pos hk];simp
 | p :: P,w :: vs,i + 1,m,nd,h1,h2,hk=>by
  show bindL kindOf ((p,w) :: P.zip vs) m x=_;unfold bindL;exact yL (i:=i) (WL.mp nd).2 (by simpa using h1) (by simpa using h2) hk
theorem yM{kindOf:Str->Option NameKind}{x:Str}{v:Value}:∀ {P:List Str} {vs:List Value} {i:Nat} {m:Str->Option Value},P.Nodup->P[i]? = some x->vs[i]? = some v->kindOf x≠some .local ->
  bindC kindOf (P.zip vs) m x=some v
 | [],_,_,_,_,h,_,_=>by simp at h
 | _ :: _,[],_,_,_,_,h,_=>by simp at h
 | p :: P,w :: vs,0,m,nd,h1,h2,hk=>by
  simp at h1 h2; subst h1; subst h2
  show bindC kindOf ((p,w) :: P.zip vs) m p=_;unfold bindC;rw[yK λv hv=>(WL.mp nd).1 (List.of_mem_zip hv).1,if_neg hk];simp
 | p :: P,w :: vs,i + 1,m,nd,h1,h2,hk=>by
  show bindC kindOf ((p,w) :: P.zip vs) m x=_;unfold bindC;exact yM (i:=i) (WL.mp nd).2 (by simpa using h1) (by simpa using h2) hk
def jQ(N:List Str)(vs:List V):St:=vs.map some ++ Wf (N.length - vs.length) none
def kX(CX:jm)(P:Wm)(w:Wr)(K:W4)(mg:Str->Option Value)(base:Heap)(N:List Str)(qual:Str)(scope:Scope)(f:Addr)(cd:Value)(A:Ws)(outer:List Env)(s:W2)(H:Hp)(E:XK):Cx where
 prog:=P
 w:=w
 K:=K
 mg:=mg
 base:=base
 A:=A.deeper (envOfC qual scope s.heap.objs.size f cd)
 N:=N
 s₀:=s
 H₀:=H
 env:=envOfC qual scope s.heap.objs.size f cd
 outer:=outer
 stack:=envOfC qual scope s.heap.objs.size f cd :: outer
 ex:=[]
 calm:=true
 fn:=λ_=>true
 pn:=[]
 xe:=λe s'=>W7 (model P w) (A.deeper (envOfC qual scope s.heap.objs.size f cd)) (leaving (envOfC qual scope s.heap.objs.size f cd) e) (λ_ oX=>CX outer H s E e oX) (λe' oX=>CX outer H s E e' oX) s'
theorem yN{sc:Scope}{n:Nat}{x:Str}(h:sc.names.lookup x=some .cell):∃ c,(QK n sc.names []).lookup x=some c:=by
 have q:=PySem.W.cellsFrom_some sc.names n [] (.inl h);exact Qf.mp q
theorem Fy{CX:jm}{P:Wm}{w:Wr}{K:W4}{mg:Str->Option Value}{base:Heap}{N ps:List Str}{qual:Str}{scope:Scope}{f:Addr}{cd:Value}{A:Ws}{outer:List Env}{s s1:W2}{H:Hp}{E:XK}{us:List Value}{vs:List V}
  (S:eS N ps scope) (hd:A.handled=none) (e0:qK P w K mg base A outer s H) (hl:vs.length=ps.length) (r:Vals vs us)
  (x:InCallC s s.heap.objs.size (bindL (envOfC qual scope s.heap.objs.size f cd).kindOf (ps.zip us) λ_=>none) (QK (s.heap.objs.size + 1) scope.names []) (bindC (envOfC qual scope s.heap.objs.size f cd).kindOf (ps.zip us) λ_=>none) s1) :
  Inv (kX CX P w K mg base N qual scope f cd A outer s H E) [] (jQ N vs) H s1:=by
 have c_:ps.length<=N.length:=by have:=congrArg QH S.pre; rw[JY] at this; omega
 obtain⟨h1,tk,rfl,hk⟩:=x.done;have oY:∀ b:Addr,b ∉ (kX CX P w K mg base N qual scope f cd A outer s H E).ex:=λb z=>absurd (show b ∈ ([]:List Addr) from z) (by simp)
 refine⟨⟨e0.mod,S.kind,rfl,rfl,Wk _,λy z c h1 h2=>?_,λy hy=>?_,λy c _ h=>?_,λ_=>hd,Around.frames_deeper e0.frames,.inr ⟨rfl,rfl⟩,λb z=>absurd z (oY b),e0.bs,e0.kP,λb _ _=>oY b,λb z=>absurd z (oY b),e0.ji,e0.mV⟩,
  rfl,e0.bare,Un.kept hk,⟨_,x.toInCall.ns,λi y v h1 h2 h3=>?_⟩,λy c h=>⟨_,x.cell y c h⟩,e0.aC.fresh (Wk _),λy c h=>?_,λp hp=>absurd (show p ∈ ([]:List (Addr×Obj)) from hp) (by simp),e0.aC.kept hk,?_⟩
 ·exact name_of_addr x.apart (WC h1) (WC h2)
 ·have hy:scope.names.lookup y=some .cell\/scope.names.lookup y=some .free:=hy;rcases hy with hy | hy
  ·exact yN hy
  ·exact absurd rfl (S.t7 _ (WC hy))
 ·exact JZ (x.above y c (WC h))
 ·have hi:i < vs.length:=by
   unfold jQ at h2;by_cases hi:i < vs.length
   ·exact hi
   ·rw[List.getElem?_append_right (by simpa using hi)] at h2;rw[List.getElem?_replicate] at h2;split at h2 <;> cases h2
  have ha:vs[i]? = some v:=by
   unfold jQ at h2;rw[Jd (by simpa using hi),Wl] at h2
   cases e:vs[i]? with
   | none=>rw[e] at h2; cases h2
   | some a=>rw[e] at h2; cases h2; rfl
  obtain⟨u,hu,rv⟩:=r.get ha;have hp:ps[i]? = some y:=by
   rw[<- S.pre,List.getElem?_take_of_lt (by omega)]; exact h1
  have yO:ps.Nodup:=by rw[<- S.pre]; exact S.nd.sublist (List.take_sublist _ _)
  refine⟨u,rv,?_⟩;rcases S.par y (Wh hp) with k | k
  ·exact .inl ⟨k,yL yO hp hu k⟩
  ·obtain⟨c,e⟩:=yN (n:=s.heap.objs.size + 1) k;refine .inr ⟨.inl k,c,e,?_⟩;have q:=x.cell y c e;rw[yM yO hp hu (by show scope.names.lookup y≠_; rw[k]; decide)] at q;exact q
 ·exact e0.aC.fresh (JZ (x.above y c (WC h)))
 ·unfold jQ;show _=N.length;rw[WX,Wi,List.length_replicate];omega
theorem Fz{CX:jm}{P:Wm}{w:Wr}{K:W4}{mg:Str->Option Value}{base:Heap}{k:Nat}{f:Addr}{name qual:Str}{params:Arguments}{body:List Stmt}{scope:Scope}{dV kV doc pm bR ct oc:Value}{an od:Option Addr}
  {kY:Array (Option Value)} {N ps:List Str} {sp:Sp} (lk:K.lookup f=some ⟨oc,od,.func (QR name qual params body scope dV kV doc pm an bR ct),kY⟩) (jk:PySem.W.codeIn K bR qual=true) (S:eS N ps scope)
  (len:∀ vs H Q E,sp vs H Q E->vs.length=ps.length)
  (kh:∀ (A:Ws) (outer:List Env) (s:W2) (H:Hp) (vs:List V) (Q:VK) (E:XK),eN k (A.deeper (envOfC qual scope s.heap.objs.size f bR))->sp vs H Q E ->
   ∃ t,eA (kX CX P w K mg base N qual scope f bR A outer s H E) body t/\t { nx:=λ_ H'=>Q .a7 H',rt:=Q } (jQ N vs) H) :
  jn P w K mg base CX (k + 1) f (QR name qual params body scope dV kV doc pm an bR ct) ps sp:=by
 refine⟨len,λA outer s H args us vs Q E hr e0 hb r kZ=>?_⟩;have hl:=len _ _ _ _ kZ;have KX:K.In s.heap:=e0.mod.tM.keeps λb o e=>(e0.bs b o e).1
 have lim:s.heap.NoLimit:=e0.mod.nolimit.keeps λb o e=>(e0.bs b o e).1
 have FA:∀ y ∈ ps.zip us,scope.names.lookup y.1=some .local\/(scope.names.lookup y.1=some .cell/\((QK (s.heap.objs.size + 1) scope.names []).lookup y.1).isSome=true):=λ⟨n,v⟩ hy=>by
  rcases S.par n (List.of_mem_zip hy).1 with q | q
  ·exact .inl q
  ·exact .inr ⟨q,PySem.W.cellsFrom_some _ _ _ (.inl q)⟩
 refine codeAny_call_function hr.depth (KX _ _ lk) rfl S.co S.gen rfl (PySem.W.codeRec_of KX jk) (hb _ _ _ _ ?_);refine wpAny_newFunctionEnv_cells S.kind FA λenv he s1 x=>?_
 subst he;refine⟨lim.keeps x.toInCall.keep,codeAny_func ?_⟩;obtain⟨t,ht,hq⟩:=kh A outer s H vs Q E (hr.deeper _) kZ;have I:Inv (kX CX P w K mg base N qual scope f bR A outer s H E) [] (jQ N vs) H s1:=Fy S hr.hd e0 hl r x;refine QB (ht [] s1 (jQ N vs) H _ I hq) (λfl s' hs=>?_) λe s' hs=>hs
 have fin:∀ {σ':St} {H':Hp} {v:V} {u:Value},Inv (kX CX P w K mg base N qual scope f bR A outer s H E) [] σ' H' s'->RelV v u->Q v H'->CE outer P w H s Q u s' :=
  λ{σ' H' v u} J rv q=>⟨v,H',J.os,J.bare,J.base,J.aC,rv,q⟩
 cases fl with
 | ret u =>
  obtain⟨v,σ',H',J,rv,q⟩:=hs;exact fin J rv q
 | next =>
  obtain⟨σ',H',J,q⟩:=hs;exact fin (v:=V.a7) (u:=Value.none) J rfl q
 | brk =>
  obtain⟨_,_,_,q⟩:=hs;exact False.elim q
 | cont =>
  obtain⟨_,_,_,q⟩:=hs;exact False.elim q
section
variable {X:Cx} {x:Str} {p pos:Pos} {e:Expr} {es:List Expr} {t:TA} {id T:String} {r:List V->Hp->VK->Prop}
def yP(r:List V->Hp->VK->Prop)(t:TA):TE:=λσ H Q=>t σ H λvs H1=>r vs H1 Q
theorem t8 (hc:eB X (.builtin id) r) (hg:Gl X x) (hm:X.mg x=none) (hv:Qx x=some (.builtin id)) (ha:PA X (e :: es) t) (hn:x≠"__name__":=by decide) (ir:(x == ("__debug__" : Str))=false:=by decide)
  (he:Wj (e :: es) X.env=(false,eval e X.env) :: Wj es X.env:=by rfl) (c_:(QJ pos (Wj es X.env)).any (·.1)=false:=by rfl):PE X (.Call (.Name x p) (e :: es) [] pos) (yP r t):=by
 intro pins s σ H Q I h;refine wpAny_Call_Name_kw (oR I hg hm hv ?_ hn ir);exact PyProof.Rows.callWith_builtin1 (a_ (ha pos pins s σ H _ I h) λus s1 ⟨vs,H1,I1,r1,q1⟩=>hc pins s1 σ H1 vs us Q I1 r1 q1) he c_
theorem FC (hc:eB X (.type T) r) (hg:Gl X x) (hm:X.mg x=none) (hv:Qx x=some (.type T)) (ha:PA X (e :: es) t) (hn:x≠"__name__":=by decide) (ir:(x == ("__debug__" : Str))=false:=by decide)
  (he:Wj (e :: es) X.env=(false,eval e X.env) :: Wj es X.env:=by rfl) (c_:(QJ pos (Wj es X.env)).any (·.1)=false:=by rfl):PE X (.Call (.Name x p) (e :: es) [] pos) (yP r t):=by
 intro pins s σ H Q I h;refine wpAny_Call_Name_kw (oR I hg hm hv ?_ hn ir);exact PyProof.Rows.callWith_type1 (a_ (ha pos pins s σ H _ I h) λus s1 ⟨vs,H1,I1,r1,q1⟩=>hc pins s1 σ H1 vs us Q I1 r1 q1) he c_
end
end L2
namespace HT
open PySem PyProof.Rows
section
open PySem.SeqAt
open PySem.AutoSeq1 (wpAny_loadPart')
open PySem.MeetsSeq PySem.MeetsSeq2 PySem.MeetsSeq3
end
section
variable {prog:Wm} {w:Wr} {A:Ws} {E:Value->W2->Prop} {s:W2}
theorem FE(ht:IsTup s.heap t vs.toArray)(hb:IsTup s.heap b ws.toArray)(hv:vs≠[])
  (h1:ws=[]->Q (.ref t) s) (h2:ws≠[]->Q (.ref s.heap.objs.size) { s with heap:=s.heap.push { cls:=.type "tuple",data:=.seq (vs ++ ws).toArray } })
  (hsz:vs.length + ws.length<=W9):W7 (model prog w) A (Qy .Add (.ref t) (.ref b)) Q E s:=by
 obtain⟨⟨cls,dd,data,sl⟩,ho,hc,n,hd⟩:=id ht;obtain⟨⟨cls2,l9,data2,k6⟩,ho2,hc2,n2,hd2⟩:=id hb;simp only at hc hd hc2 hd2;subst hc hd hc2 hd2;have e:vs.toArray ++ ws.toArray=(vs ++ ws).toArray:=by simp
 by_cases hw:ws=[]
 ·exact concat_meets ⟨_,ho,rfl⟩ ⟨_,ho2,rfl⟩ noFill_tuple_add seq_tuple_add PySem.F.slot_tuple_add PySem.F.entry_tuple_add (PySem.F.args_tuple_add_2 _ _)
   (tuple_addW1 t b vs.toArray ws.toArray n n2 dd l9 sl k6 (by simpa using hv) (by simp[hw])) ⟨ho,ho2,h1 hw⟩
 ·refine concat_meets ⟨_,ho,rfl⟩ ⟨_,ho2,rfl⟩ noFill_tuple_add seq_tuple_add PySem.F.slot_tuple_add PySem.F.entry_tuple_add (PySem.F.args_tuple_add_2 _ _)
   (tuple_addW2 t b vs.toArray ws.toArray n n2 dd l9 sl k6 (by simpa using hv) (by simpa using hw) (by rw[Wq,Wq]; exact hsz)) ⟨ho,ho2,?_⟩
  rw[e];exact h2 hw
def aT(n d:Nat):Option Int->Nat
 | none=>d
 | some v=>if v < 0 then(v + (n:Int)).toNat else min v.toNat n
theorem t9(n d:Nat)(hd:d<=n)(o:Option Int):aT n d o<=n:=by
 cases o with
 | none=>exact hd
 | some v =>
  show(if v < 0 then(v + (n:Int)).toNat else min v.toNat n)<=n;by_cases hv:v < 0
  ·rw[if_pos hv]; omega
  ·rw[if_neg hv]; exact Nat.min_le_right _ _
theorem yQ(v:Int)(n d:Nat):(if v < 0 then max (v + (n:Int)) 0 else min v (n:Int))=((aT n d (some v):Nat):Int):=by
 show(if v < 0 then max (v + (n:Int)) 0 else min v (n:Int))=(((if v < 0 then(v + (n:Int)).toNat else min v.toNat n):Nat):Int);by_cases hv:v < 0
 ·simp only[if_pos hv]; omega
 ·simp only[if_neg hv]; omega
theorem FG(lo hi:Option Int)(n:Nat):Builtin.Slice.sliceAdjust lo hi 1 (n:Int)=(((aT n 0 lo:Nat):Int),((aT n n hi:Nat):Int)):=by
 have h1:¬ ((1:Int) < 0):=by omega
 unfold Builtin.Slice.sliceAdjust;simp only[h1,if_false];refine Prod.ext ?_ ?_
 ·cases lo with
  | none=>rfl
  | some v=>exact yQ v n 0
 ·cases hi with
  | none=>rfl
  | some v=>exact yQ v n n
theorem FH(i j:Nat):Je (i:Int) (j:Int) 1=j - i:=by
 unfold Je;have h1:(1:Int) > 0:=by omega
 simp only[h1,if_true,Int.ediv_one];split <;> omega
theorem yR(p:IsPart v o)(h:Q o s):W7 (model prog w) A (Builtin.Slice.slicePartIndex v) Q E s:=by
 cases p with
 | none=>exact slicePart_none h
 | int i t=>exact slicePart_int h
theorem yS{sl:Addr}{vl vu:Value}{lo hi:Option Int}{n:Nat}{Q:Int×Int×Nat->W2->Prop}(hs:s.heap.IsSliceOf sl vl vu .none)(pl:IsPart vl lo)(pu:IsPart vu hi)
  (h:Q (((aT n 0 lo:Nat):Int),1,aT n n hi - aT n 0 lo) s):W7 (model prog w) A (Builtin.Slice.sliceApplied (.ref sl) (pure (n:Int))) Q E s:=by
 obtain⟨os,hos,hcs,k7⟩:=id hs;unfold Builtin.Slice.sliceApplied Builtin.Slice.sliceFields;refine W0 (W0 (WQ hos k7 (x:=vl) rfl (W0 (WQ hos k7 (x:=vu) rfl (W0 (WQ hos k7 (x:=.none) rfl (W1 ?_)))))));refine W0 (slicePart_none ?_);show W7 _ _ (if ((1:Int) == 0)=true then _ else _) _ _ s;rw[if_neg (by decide)];refine W0 (yR pl (W0 (yR pu (W0 (W1 ?_)))));show W7 _ _ (match Builtin.Slice.sliceAdjust lo hi 1 (n:Int) with | (lo,hi)=>pure (lo,(1:Int),Je lo hi 1)) _ _ s;rw[FG lo hi n];show W7 _ _ (pure (((aT n 0 lo:Nat):Int),(1:Int),Je ((aT n 0 lo:Nat):Int) ((aT n n hi:Nat):Int) 1)) _ _ s;rw[FH];exact W1 h
theorem FI(xs:Array Value)(i k:Nat):((Q9 k).filterMap λ(m:Nat)=>xs[((i:Int) + (m:Int) * 1).toNat]?).toArray=((xs.toList.drop i).take k).toArray:=by
 have e:(λ(m:Nat)=>xs[((i:Int) + (m:Int) * 1).toNat]?)=λm=>xs[i + m]?:=by
  funext m
  have:((i:Int) + (m:Int) * 1).toNat=i + m:=by omega
  rw[this]
 rw[e];have:=pick_run xs i k;rw[List.filterMap_map] at this;have e2:((λx=>xs[x]?) ∘ λx=>i + x)=λm=>xs[i + m]?:=rfl
 rw[e2] at this;rw[this]
theorem FJ{t sl:Addr}{items:Array Value}{vl vu:Value}{lo hi:Option Int}{Q:Value->W2->Prop}(ht:IsTup s.heap t items)(hs:s.heap.IsSliceOf sl vl vu .none)(pl:IsPart vl lo)(pu:IsPart vu hi)
  (hw:¬ (aT items.size 0 lo=0/\aT items.size items.size hi=items.size))
  (h:Q (.ref s.heap.objs.size) { s with heap:=s.heap.push { cls:=.type "tuple",data:=.seq ((items.toList.drop (aT items.size 0 lo)).take (aT items.size items.size hi - aT items.size 0 lo)).toArray } })
  (hsz:items.size<=W9):W7 (model prog w) A (JM (.ref t) (.ref sl)) Q E s:=by
 have qL:sizeOk (.seq ((items.toList.drop (aT items.size 0 lo)).take (aT items.size items.size hi - aT items.size 0 lo)).toArray):=by
  show((items.toList.drop (aT items.size 0 lo)).take (aT items.size items.size hi - aT items.size 0 lo)).toArray.size<=W9;rw[Wq,JY,List.length_drop,WP];omega
 have hj:aT items.size items.size hi<=items.size:=t9 _ _ (Wk _) hi;obtain⟨os,hos,hcs,k7⟩:=id hs;have t_:s.TypeIs (.ref sl) "slice":=⟨os,hos,hcs⟩
 unfold JM;try with_reducible refine WB ?_
 first | refine W0 (W1 ?_) | skip
 refine W0 (JR ht.typeIs (by decide) ?_);refine W0 (WD (name:=Str.ofString "__getitem__") ht.typeIs QQ
  (Ww QQ ht.typeIs entry_tuple_getitem ?_ (args_tuple_getitem _ _)))
 show W7 _ _ (Builtin.Tuple.tupleItemsOf (.ref t) >>= _) _ _ s;refine W0 (tupleItemsOf_ ht ?_);refine W0 (JF t_ ?_);rw[if_pos (by decide)];refine W0 (yS hs pl pu ?_);have dX:¬ ((((aT items.size 0 lo:Nat):Int) == 0 && (1:Int) == 1 && (aT items.size items.size hi - aT items.size 0 lo) == items.size)=true):=by
  intro q;rw[Wt,Wt] at q;have q1:((aT items.size 0 lo:Nat):Int)=0:=eq_of_beq q.1.1;have q2:aT items.size items.size hi - aT items.size 0 lo=items.size:=eq_of_beq q.2;exact hw ⟨by omega,by omega⟩
 show W7 _ _ (if (((aT items.size 0 lo:Nat):Int) == 0 && (1:Int) == 1 && (aT items.size items.size hi - aT items.size 0 lo) == items.size)=true then _ else _) _ _ s;rw[if_neg dX,FI];first
  | exact W0 (m:=Ji _) (WK (W1 ⟨_,rfl,W1 h⟩) qL)
  | exact W0 (m:=Ji _) (WK (W0 (W1 (W1 ⟨_,rfl,W1 h⟩))) qL)
  | exact W0 (W0 (m:=Ji _) (WK (W1 (W1 ⟨_,rfl,W1 h⟩)) qL))
  | exact W0 (W0 (m:=Ji _) (WK (W1 ⟨_,rfl,W1 h⟩) qL))
end
end HT
namespace L2
open PySem PySem.Spec PyProof.Rows
abbrev TO:=St->Hp->(Option Int->Hp->Prop)->Prop
def PO(X:Cx)(e:Option Expr)(t:TO):Prop :=
 ∀ (pins:List (Addr×Obj)) (s:W2) (σ:St) (H:Hp) (Q:Option Int->Hp->Prop),Inv X pins σ H s->t σ H Q ->
  W7 (model X.prog X.w) X.A (evalPart e X.env) (λu s'=>∃ o H',Inv X pins σ H' s'/\IsPart u o/\Q o H') X.xe s
def FK:TO:=λ_ H Q=>Q none H
def FL(t:TE):TO:=λσ H Q=>t σ H λx H1=>∃ i,x = .int i/\Q (some i) H1
section
variable {X:Cx} {e:Expr} {te:TE} {lo hi:Option Expr} {tl th:TO} {pos p2:Pos}
theorem FN:PO X none FK:=by
 intro pins s σ H Q I h;rw[evalPart_none];exact W1 ⟨none,H,I,.none,h⟩
theorem FO(h:PE X e te):PO X (some e) (FL te):=by
 intro pins s σ H Q I hw;rw[evalPart_some];refine a_ (h pins s σ H _ I hw) λu s1 ⟨x,H1,I1,r1,q1⟩=>?_
 obtain⟨i,rfl,q⟩:=q1;obtain⟨t,rfl⟩:=r1;exact⟨some i,H1,I1,.int i t,q⟩
def jR(X:Cx)(r:V->Option Int->Option Int->Hp->VK->Prop):Prop :=
 ∀ (pins:List (Addr×Obj)) (s:W2) (σ:St) (H:Hp) (x:V) (v vl vu:Value) (lo hi:Option Int) (sl:Addr) (Q:VK),Inv X pins σ H s->RelV x v->s.heap.IsSliceOf sl vl vu .none->IsPart vl lo->IsPart vu hi->r x lo hi H Q ->
  ∃ T id,typeLookup (.type T) "__getitem__" = pure (some (.builtin id))/\s.TypeIs v T/\W7 (model X.prog X.w) X.A (JM v (.ref sl)) (EP X pins σ Q) X.xe s
theorem jR.or(h:jR X r)(h':jR X r'):jR X (λx lo hi H Q=>r x lo hi H Q\/r' x lo hi H Q):=by
 intro pins s σ H x v vl vu lo hi sl Q I rx hs pl pu q;rcases q with q | q
 ·exact h pins s σ H x v vl vu lo hi sl Q I rx hs pl pu q
 ·exact h' pins s σ H x v vl vu lo hi sl Q I rx hs pl pu q
def FP(r:V->Option Int->Option Int->Hp->VK->Prop)(te:TE)(tl th:TO):TE:=λσ H Q=>te σ H λx H1=>tl σ H1 λl H2=>th σ H2 λu H3=>r x l u H3 Q
theorem yT(hr:jR X r)(he:PE X e te)(hl:PO X lo tl)(hu:PO X hi th):PE X (.Subscript e (.Slice lo hi none p2) pos) (FP r te tl th):=by
 intro pins s σ H Q I h;refine Subscript_ (a_ (he pins s σ H _ I h) λv s1 ⟨x,H1,I1,r1,q1⟩=>?_);refine wpAny_Slice (a_ (hl pins s1 σ H1 _ I1 q1) λvl s2 ⟨l,H2,I2,pl,q2⟩=>a_ (hu pins s2 σ H2 _ I2 q2) λvu s3 ⟨u,H3,I3,pu,q3⟩=>?_);rw[evalPart_none];refine W1 ?_;have I4:Inv X pins σ H3 { s3 with heap:=s3.heap.push { cls:=.type "slice",data:=.fields #[vl,vu,.none] } }:=I3.kept (t':=s3.toks) λb ob q=>W8 _ q
 obtain⟨T,id,hT,ht,hg⟩:=hr pins { s3 with heap:=s3.heap.push { cls:=.type "slice",data:=.fields #[vl,vu,.none] } } σ H3 x v vl vu l u s3.heap.objs.size Q I4 r1 (Heap.IsSliceOf.new ..) pl pu q3;show W7 (model X.prog X.w) X.A (subscriptTail e (.Slice lo hi none p2) v (.ref s3.heap.objs.size)) (EP X pins σ Q) X.xe { s3 with heap:=s3.heap.push { cls:=.type "slice",data:=.fields #[vl,vu,.none] } };exact tail_any (ops:=[.ref s3.heap.objs.size,v]) ht hT hg (by with_unfolding_all rfl)
def k8(xs:List V)(lo hi:Option Int):List V:=(xs.drop (HT.aT xs.length 0 lo)).take (HT.aT xs.length xs.length hi - HT.aT xs.length 0 lo)
theorem yU(xs:List V)(lo hi:Option Int):(k8 xs lo hi).length<=xs.length:=by
 unfold k8;rw[JY,List.length_drop];omega
def FQ(K:W4):V->Option Int->Option Int->Hp->VK->Prop:=λx lo hi H Q=>∃ a xs,x = .ref a/\dA K H a xs /\
 ¬ (HT.aT xs.length 0 lo=0/\HT.aT xs.length xs.length hi=xs.length)/\∀ p,H p=none->Q (.ref p) (upd H p (.tup (k8 xs lo hi)))
theorem qM:jR X (FQ X.K):=by
 intro pins s σ H x v vl vu lo hi sl Q I rx hs pl pu h;obtain⟨a,xs,rfl,hx,hw,q⟩:=h
 cases rx;obtain⟨ag,r,ht,hz⟩:=I.tuple hx;have hlen:ag.toArray.size=xs.length:=by rw[Wq]; exact r.length.symm
 refine⟨"tuple",_,PyProof.Rows.slot_tuple_getitem.lookup,ht.typeIs,?_⟩;refine HT.FJ ht hs pl pu (by rw[hlen]; exact hw) ?_ (by rw[hlen]; exact hz);rw[hlen];refine⟨.ref s.heap.objs.size,_,I.laid (t':=s.toks) (o:=.tup (k8 xs lo hi)) (λb ob q=>W8 _ q) (Wk _) ?_,rfl,q _ (I.aC.fresh (Wk _))⟩;exact⟨Qo (yU xs lo hi) hz,_,(r.drop (HT.aT xs.length 0 lo)).take (HT.aT xs.length xs.length hi - HT.aT xs.length 0 lo),iT.new _ _⟩
def yV(K:W4):R2:=λx y H Q=>∃ a b xs ys,x = .ref a/\y = .ref b/\dA K H a xs/\dA K H b ys/\xs≠[]/\xs.length + ys.length<=W9 /\
 (ys=[]->Q (.ref a) H)/\(ys≠[]->∀ p,H p=none->Q (.ref p) (upd H p (.tup (xs ++ ys))))
theorem Vals.qN(r:Vals xs us):us=[] ↔ xs=[]:=by
 cases r with
 | nil=>simp
 | cons _ _=>simp
theorem FR:bT X (Qy .Add) (yV X.K):=by
 intro pins s σ H x y v u Q I rx ry h;obtain⟨a,b,xs,ys,rfl,rfl,ha,hb,hx,hz,q1,q2⟩:=h
 cases rx
 cases ry;obtain⟨ag,r1,p1,_⟩:=I.tuple ha;obtain⟨its2,r2,p2,_⟩:=I.tuple hb;refine HT.FE p1 p2 (λz=>hx (r1.qN.mp z)) (λz=>⟨.ref a,H,I,rfl,q1 (r2.qN.mp z)⟩) (λz=>?_) (by rw[<- r1.length,<- r2.length]; exact hz);refine⟨.ref s.heap.objs.size,_,I.laid (t':=s.toks) (o:=.tup (xs ++ ys)) (λb ob q=>W8 _ q) (Wk _) ?_,rfl,q2 (λw=>z (r2.qN.mpr w)) _ (I.aC.fresh (Wk _))⟩;exact⟨by rw[WX]; exact hz,_,r1.append r2,iT.new _ _⟩
end
def fg(n:Nat)(i:Int):Option Nat:=if 0<=i then(if i < n then some i.toNat else none) else if -(n:Int)<=i then some (i + n).toNat else none
def dB{α:Type}(xs:List α)(i:Int):Option α:=(fg xs.length i).bind λj=>xs[j]?
theorem yW(h:fg n i=some j):seqIndex? i n=some j/\j < n/\-(n:Int)<=i/\i < n:=by
 unfold fg at h;by_cases h0:0<=i
 ·rw[if_pos h0] at h;by_cases h1:i < n
  ·rw[if_pos h1] at h;have e:i.toNat=j:=Wx h;exact⟨by rw[seqIndex_of h0 h1,e],by omega,by omega,h1⟩
  ·rw[if_neg h1] at h; cases h
 ·rw[if_neg h0] at h;by_cases h1 : -(n:Int)<=i
  ·rw[if_pos h1] at h;have e:(i + n).toNat=j:=Wx h;exact⟨by rw[seqIndex_neg (by omega) h1,e],by omega,h1,by omega⟩
  ·rw[if_neg h1] at h; cases h
theorem ua(h:dB xs i=some v):∃ j,seqIndex? i xs.length=some j/\xs[j]? = some v/\j < xs.length/\-(xs.length:Int)<=i/\i < xs.length:=by
 unfold dB at h
 cases e:fg xs.length i with
 | none=>rw[e] at h; cases h
 | some j =>
  rw[e] at h;obtain⟨h1,h2,h3,h4⟩:=yW e;exact⟨j,h1,h,h2,h3,h4⟩
def ub(b:Expr):Prop:=∀ o i,subscripted b false o i=operate [o,i] (JM o i)
def gL(X:Cx)(r:R2):Prop :=
 ∀ (value slice:Expr) (pins:List (Addr×Obj)) (s:W2) (σ:St) (H:Hp) (x y:V) (v u:Value) (Q:VK),Inv X pins σ H s->RelV x v->RelV y u->r x y H Q ->
  subscripted slice false v u=operate [v,u] (JM v u)->W7 (model X.prog X.w) X.A (subscriptTail value slice v u) (EP X pins σ Q) X.xe s
def uc(X:Cx)(id:String)(r:V->List V->Hp->VK->Prop):Prop :=
 ∀ (pins:List (Addr×Obj)) (s:W2) (σ:St) (H:Hp) (x:V) (xs:List V) (v:Value) (us:List Value) (Q:VK),Inv X pins σ H s->RelV x v->Vals xs us->r x xs H Q ->
  W7 (model X.prog X.w) X.A (call (.builtin id) (v :: us)) (EP X pins σ Q) X.xe s
section
variable {X:Cx} {a b:Expr} {ta tb:TE} {pos:Pos}
theorem gL.or(h:gL X r)(h':gL X r'):gL X (λx y H Q=>r x y H Q\/r' x y H Q):=by
 intro value slice pins s σ H x y v u Q I rx ry q hs;rcases q with q | q
 ·exact h value slice pins s σ H x y v u Q I rx ry q hs
 ·exact h' value slice pins s σ H x y v u Q I rx ry q hs
theorem yX(hr:gL X r)(ha:PE X a ta)(hb:PE X b tb)(hs:ub b):PE X (.Subscript a b pos) (l7 r ta tb):=by
 intro pins s σ H Q I h;exact Subscript_ (tU ha hb I h λv u s2 x y H2 I2 rx ry q=>hr a b pins s2 σ H2 x y v u Q I2 rx ry q (hs _ _))
def yY(K:W4):R2:=λx y H Q=>∃ p xs i v,x = .ref p/\y = .int i/\cx K H p xs/\dB xs i=some v/\Q v H
def yZ(K:W4):R2:=λx y H Q=>∃ p xs i v,x = .ref p/\y = .int i/\dA K H p xs/\dB xs i=some v/\Q v H
def y0:R2:=λx y H Q=>∃ z i c,x = .str z/\y = .int i/\z.length<=W9/\dB z.cps.toList i=some c/\Q (.str ⟨#[c]⟩) H
theorem FT:gL X (yY X.K):=by
 intro value slice pins s σ H x y v u Q I rx ry h hs;obtain⟨p,xs,i,z,rfl,rfl,hq,he,q⟩:=h
 cases rx;obtain⟨t,rfl⟩:=ry;obtain⟨ag,r,pl,hz⟩:=I.list hq;obtain⟨j,h1,h2,h3,h4,h5⟩:=ua he;obtain⟨w,ew,aL⟩:=r.get h2;have hl:=r.length;have hn:=mY;have fin:EP X pins σ Q w s:=⟨z,H,I,aL,q⟩
 by_cases h0:0<=i
 ·have hj:i.toNat=j:=by
   rw[seqIndex_of h0 h5] at h1;exact Wx h1
  exact item_listR pl.isList h0 (by omega) (by rw[hj]; simpa using ew) fin hs
 ·have hj:(i + (ag.toArray.size:Int)).toNat=j:=by
   rw[seqIndex_neg (by omega) h4] at h1;rw[Wq,<- hl];exact Wx h1
  exact subscriptTail_builtinR (x:=w) pl.isList.typeIs slot_list_getitem.lookup
   (wpAny_getItem_list_neg (Q:=λr s'=>r=w/\EP X pins σ Q r s') pl.isList (by omega) (by rw[Wq] <;> omega) (by omega) (by rw[hj]; simpa using ew) ⟨rfl,fin⟩) hs
theorem FU:gL X (yZ X.K):=by
 intro value slice pins s σ H x y v u Q I rx ry h hs;obtain⟨p,xs,i,z,rfl,rfl,hq,he,q⟩:=h
 cases rx;obtain⟨t,rfl⟩:=ry;obtain⟨ag,r,pl,hz⟩:=I.tuple hq;obtain⟨j,h1,h2,h3,h4,h5⟩:=ua he;obtain⟨w,ew,aL⟩:=r.get h2;have hl:=r.length;have hn:=mY;have fin:EP X pins σ Q w s:=⟨z,H,I,aL,q⟩
 exact subscriptTail_builtinR (x:=w) pl.typeIs slot_tuple_getitem.lookup
  (getItem_tuple (j:=j) (Q:=λr s'=>r=w/\EP X pins σ Q r s') pl (by omega) (by omega) (by rw[Wq,<- hl]; exact h1) (by simpa using ew) ⟨rfl,fin⟩) hs
theorem FV:gL X y0:=by
 intro value slice pins s σ H x y v u Q I rx ry h hs;obtain⟨z,i,c,rfl,rfl,hz,he,q⟩:=h;obtain⟨t,rfl⟩:=rx;obtain⟨t',rfl⟩:=ry;obtain⟨j,h1,h2,h3,h4,h5⟩:=ua he;have hl:z.cps.toList.length=z.length:=by simp[Str.length]
 rw[hl] at h1 h4 h5;have hn:=mY;exact tail_any (typeIs_str s z t) slot_str_getitem.lookup (getItem_str (c:=c) (by
  have e1:decide (i < -(2 ^ 63:Int))=false:=decide_eq_false (by omega);have e2:decide (i ≥ 2 ^ 63)=false:=decide_eq_false (by omega);rw[e1,e2,Bool.or_false]) (by rw[h1]; simpa using h2) ⟨.str ⟨#[c]⟩,H,I.tok _,⟨_,rfl⟩,q⟩) hs
def m_(K:W4):R2:=λx y H Q=>yY K x y H Q\/yZ K x y H Q\/y0 x y H Q
theorem ck:gL X (m_ X.K):=FT.or (FU.or FV)
theorem FW (ag:List Value) (n j:Nat) (u:Value):Obj.mapSeq (·.setIfInBounds j u) { cls:=.type "list",data:=.seq ag.toArray n } = { cls:=.type "list",data:=.seq (ag.set j u).toArray n }:=by
 simp[Obj.mapSeq]
theorem Inv.lst(I:Inv X pins σ H s)(h:H p=some (.lst xs)) :
  ∃ (ag:List Value) (n:Nat),Vals xs ag/\s.heap.get? p=some { cls:=.type "list",data:=.seq ag.toArray n }/\xs.length<=W9:=by
 obtain⟨z,ag,n,r,e⟩:=I.aC p _ h;exact⟨ag,n,r,e,z⟩
theorem Inv.FX{pins:List (Addr×Obj)}{σ:St}{H:Hp}{s:W2}{p:Addr}{xs ys:List V}{ag its':List Value}{n n':Nat}{f:Obj->Obj}(I:Inv X pins σ H s)(h:H p=some (.lst xs))
  (ho:s.heap.get? p=some { cls:=.type "list",data:=.seq ag.toArray n }) (hf:f { cls:=.type "list",data:=.seq ag.toArray n } = { cls:=.type "list",data:=.seq its'.toArray n' }) (r:Vals ys its') (hz:ys.length<=W9) (t:Nat) :
  Inv X pins σ (upd H p (.lst ys)) { s with heap:=s.heap.update p f,toks:=t }:=by
 have e:(s.heap.update p f).get? p=some { cls:=.type "list",data:=.seq its'.toArray n' }:=by
  rw[QL f ho (by rw[hf] <;> rfl),hf]
 refine I.write (x:=p) (e:=p) (by rw[h]; trivial) (.inl rfl) (λb u hb q=>(Jq _ _ (Ne.symm hb)).trans q) ⟨_,e⟩ ?_;exact⟨hz,its',n',r,e⟩
def FY:V->V->V->Hp->(Hp->Prop)->Prop:=λo i v H Q=>∃ p xs k j,o = .ref p/\i = .int k/\H p=some (.lst xs)/\fg xs.length k=some j/\Q (upd H p (.lst (xs.set j v)))
theorem FZ:yn X FY:=by
 intro pins s σ H o i v ov iv u Q I ro ri rv h;obtain⟨p,xs,k,j,rfl,rfl,hp,hj,q⟩:=h
 cases ro;obtain⟨t,rfl⟩:=ri;obtain⟨ag,n,r,ho,hz⟩:=I.lst hp;obtain⟨h1,h2,h3,h4⟩:=yW hj;have hl:=r.length;have hn:=mY;have I':Inv X pins σ (upd H p (.lst (xs.set j v))) { s with heap:=s.heap.update p (Obj.mapSeq (·.setIfInBounds j u)) } :=
  I.FX hp ho (FW ag n j u) (r.set rv j) (by rw[WT]; exact hz) s.toks
 by_cases h0:0<=k
 ·have hk:k.toNat=j:=by
   rw[seqIndex_of h0 h4] at h1;exact Wx h1
  exact PySem.W.ki_setAt ho h0 (by omega) (by rw[Wq,<- hl]; exact h4) (by rw[hk]; exact⟨_,I',q⟩)
 ·have hk:(k + (ag.toArray.size:Int)).toNat=j:=by
   rw[seqIndex_neg (by omega) h3] at h1;rw[Wq,<- hl];exact Wx h1
  exact PySem.W.ki_setBack ho (by omega) (by rw[Wq,<- hl]; exact h3) (by omega) (by rw[hk]; exact⟨_,I',q⟩)
theorem F_(lo hi:Option Int)(n:Nat):(JC lo hi none n).1=((HT.aT n 0 lo:Nat):Int)/\(JC lo hi none n).2.1=((HT.aT n n hi:Nat):Int)/\(JC lo hi none n).2.2=1:=by
 refine⟨?_,?_,rfl⟩
 ·cases lo with
  | none=>simp[JC,HT.aT]
  | some i =>
   simp only[JC,HT.aT,Option.getD_none,show(1:Int) > 0 by decide,if_true];by_cases h:i < 0
   ·simp only[h,if_true] <;> omega
   ·simp only[h,if_false] <;> omega
 ·cases hi with
  | none=>simp[JC,HT.aT]
  | some i =>
   simp only[JC,HT.aT,Option.getD_none,show(1:Int) > 0 by decide,if_true];by_cases h:i < 0
   ·simp only[h,if_true] <;> omega
   ·simp only[h,if_false] <;> omega
theorem Ga(ag:List Value)(lo hi:Option Int):slicePick ag.toArray lo hi none=((ag.drop (HT.aT ag.length 0 lo)).take (HT.aT ag.length ag.length hi - HT.aT ag.length 0 lo)).toArray:=by
 obtain⟨h1,h2,h3⟩:=F_ lo hi ag.toArray.size;unfold slicePick;rw[h1,h2,h3];simp only[sliceRange_one,pick_run,Wq] <;> rfl
def y8(K:W4):V->Option Int->Option Int->Hp->VK->Prop:=λx lo hi H Q=>∃ a xs,x = .ref a/\cx K H a xs/\∀ p,H p=none->Q (.ref p) (upd H p (.lst (k8 xs lo hi)))
theorem Gb:jR X (y8 X.K):=by
 intro pins s σ H x v vl vu lo hi sl Q I rx hs pl pu h;obtain⟨a,xs,rfl,hx,q⟩:=h
 cases rx;obtain⟨ag,r,ht,hz⟩:=I.list hx;have hlen:=r.length;refine⟨"list",_,slot_list_getitem.lookup,ht.isList.typeIs,?_⟩;refine wpAny_getItem_list_slice ht.isList hs pl pu .none (by simp) ?_ (by rw[Wq] <;> omega);rw[Ga,<- hlen];refine⟨.ref s.heap.objs.size,_,I.laid (t':=s.toks) (o:=.lst (k8 xs lo hi)) (λb ob q=>W8 _ q) (Wk _) ?_,rfl,q _ (I.aC.fresh (Wk _))⟩;exact⟨Qo (yU xs lo hi) hz,_,0,(r.drop (HT.aT xs.length 0 lo)).take (HT.aT xs.length xs.length hi - HT.aT xs.length 0 lo),Wg _ rfl⟩
def ki:V->Bool
 | .a7=>true
 | .bl _=>true
 | .int _=>true
 | .str _=>true
 | _=>false
def k9:V->V->Bool
 | .a7,.a7=>true
 | .bl a,.bl b=>a == b
 | .bl a,.int b=>(if a then 1 else 0) == b
 | .int a,.bl b=>a == (if b then 1 else 0)
 | .int a,.int b=>a == b
 | .str a,.str b=>a == b
 | _,_=>false
theorem Gd(ry:RelV y u)(rx:RelV x v)(fy:ki y=true)(fx:ki x=true):SeqAt.EqAt A s u v (k9 y x):=by
 cases y with
 | a7 =>
  cases ry
  cases x with
  | a7=>cases rx; exact SeqAt.EqAt.same _
  | bl b=>cases rx; exact SeqAt.EqAt.none_bool b
  | int b=>obtain⟨t,rfl⟩:=rx; exact SeqAt.EqAt.none_int b t
  | str b=>obtain⟨t,rfl⟩:=rx; exact SeqAt.EqAt.none_str b t
  | _=>exact absurd (show false=true from fx) Wv
 | bl a =>
  cases ry
  cases x with
  | a7=>cases rx; exact SeqAt.EqAt.bool_none a
  | bl b=>cases rx; exact SeqAt.EqAt.bool_bool a b
  | int b=>obtain⟨t,rfl⟩:=rx; exact SeqAt.EqAt.bool_int a b t
  | str b=>obtain⟨t,rfl⟩:=rx; exact SeqAt.EqAt.bool_str a b t
  | _=>exact absurd (show false=true from fx) Wv
 | int a =>
  obtain⟨t',rfl⟩:=ry
  cases x with
  | a7=>cases rx; exact SeqAt.EqAt.int_none a t'
  | bl b=>cases rx; exact SeqAt.EqAt.int_bool a t' b
  | int b=>obtain⟨t,rfl⟩:=rx; exact SeqAt.EqAt.int_int a t' b t
  | str b=>obtain⟨t,rfl⟩:=rx; exact SeqAt.EqAt.int_str a t' b t
  | _=>exact absurd (show false=true from fx) Wv
 | str a =>
  obtain⟨t',rfl⟩:=ry
  cases x with
  | a7=>cases rx; exact SeqAt.EqAt.str_none a t'
  | bl b=>cases rx; exact SeqAt.EqAt.str_bool a t' b
  | int b=>obtain⟨t,rfl⟩:=rx; exact SeqAt.EqAt.str_int a t' b t
  | str b=>obtain⟨t,rfl⟩:=rx; exact SeqAt.EqAt.str_str a t' b t
  | _=>exact absurd (show false=true from fx) Wv
 | _=>exact absurd (show false=true from fy) Wv
def kj(x:V)(u:Value):Bool:=match u with
 | .none=>k9 .a7 x
 | .bool b=>k9 (.bl b) x
 | .int i _=>k9 (.int i) x
 | .str z _=>k9 (.str z) x
 | _=>false
theorem y9(r:RelV y u)(f:ki y=true):kj x u=k9 y x:=by
 cases y with
 | a7=>cases r; rfl
 | bl b=>cases r; rfl
 | int i=>obtain⟨t,rfl⟩:=r; rfl
 | str z=>obtain⟨t,rfl⟩:=r; rfl
 | _=>exact absurd (show false=true from f) Wv
theorem ud:∀ {xs:List V} {us:List Value},Vals xs us->xs.all ki=true->us.any (kj x)=xs.any λy=>k9 y x
 | _,_,.nil,_=>rfl
 | y :: xs,u :: us,.cons r t,f=>by
  rw[JB,Wt] at f;rw[WV,WV,y9 r f.1,ud t f.2]
theorem ue(rx:RelV x v)(fx:ki x=true):∀ {xs:List V} {us:List Value},Vals xs us->xs.all ki=true->∀ u ∈ us,SeqAt.EqAt A s u v (kj x u)
 | _,_,.nil,_=>λu hu=>by cases hu
 | y :: xs,u :: us,.cons r t,f=>λu' hu=>by
  rw[JB,Wt] at f;rcases Wo.mp hu with rfl | hu
  ·rw[y9 r f.1]; exact Gd r rx f.1 fx
  ·exact ue rx fx t f.2 u' hu
def qO(x:V)(xs:List V):Bool:=xs.any λy=>k9 y x
def y_(K:W4)(neg:Bool):R2:=λx y H Q=>∃ p xs,y = .ref p/\(cx K H p xs\/dA K H p xs)/\ki x=true/\xs.all ki=true/\Q (.bl (if neg then !qO x xs else qO x xs)) H
theorem Ge:bT X (WN .NotIn) (y_ X.K true):=by
 intro pins s σ H x y v u Q I rx ry h;obtain⟨p,xs,rfl,hq,fx,fs,q⟩:=h
 cases ry;rcases hq with hq | hq
 ·obtain⟨ag,r,pl,hz⟩:=I.list hq;refine SeqAt.notIn_listAt (kj x) pl.isList (λw hw=>ue rx fx r fs w (by simpa using hw)) ⟨.bl _,H,I,rfl,?_⟩;rw[show ag.toArray.any (kj x)=ag.any (kj x) by simp,ud r fs];exact q
 ·obtain⟨ag,r,pl,hz⟩:=I.tuple hq;refine SeqAt.notIn_tupleAt (kj x) pl (λw hw=>ue rx fx r fs w (by simpa using hw)) ⟨.bl _,H,I,rfl,?_⟩;rw[show ag.toArray.any (kj x)=ag.any (kj x) by simp,ud r fs];exact q
theorem Gf:eB X (.builtin "len") (λxs H Q=>∃ p ys,xs=[.ref p]/\(cx X.K H p ys\/dA X.K H p ys)/\Q (.int ys.length) H):=by
 intro pins s σ H xs us Q I r h;obtain⟨p,ys,rfl,hq,q⟩:=h;obtain⟨u,rfl,rx⟩:=gY r
 cases rx;have hn:=mY;rcases hq with hq | hq
 ·obtain⟨ag,r',pl,hz⟩:=I.list hq;have hlen:=r'.length;exact Calls.call_len_list pl.isList (by simp only[Wq] <;> omega) ⟨.int ys.length,H,I.tok _,⟨s.toks + 1,by rw[Wq,hlen]⟩,q⟩
 ·obtain⟨ag,r',pl,hz⟩:=I.tuple hq;have hlen:=r'.length;exact len_tuple pl (by simp only[Wq] <;> omega) ⟨.int ys.length,H,I.tok _,⟨s.toks + 1,by rw[Wq,hlen]⟩,q⟩
theorem Gg:eB X (.builtin "len") (λxs H Q=>∃ z,xs=[.str z]/\z.length<=W9/\Q (.int z.length) H):=by
 intro pins s σ H xs us Q I r h;obtain⟨z,rfl,hz,q⟩:=h;obtain⟨u,rfl,t,rfl⟩:=gY r;have hn:=mY;exact len_str (by omega) ⟨.int z.length,H,I.tok _,⟨_,rfl⟩,q⟩
theorem eB.or(h:eB X f r)(h':eB X f r'):eB X f (λxs H Q=>r xs H Q\/r' xs H Q):=by
 intro pins s σ H xs us Q I rs q;rcases q with q | q
 ·exact h pins s σ H xs us Q I rs q
 ·exact h' pins s σ H xs us Q I rs q
theorem Gh:eB X (.type "tuple") (λxs H Q=>∃ p ys,xs=[.ref p]/\((cx X.K H p ys/\∀ l,H l=none->Q (.ref l) (upd H l (.tup ys)))\/(dA X.K H p ys/\Q (.ref p) H))):=by
 intro pins s σ H xs us Q I r h;obtain⟨p,ys,rfl,h⟩:=h;obtain⟨u,rfl,rx⟩:=gY r
 cases rx;rcases h with ⟨hq,q⟩ | ⟨hq,q⟩
 ·obtain⟨ag,r',pl,hz⟩:=I.list hq;have hlen:=r'.length;refine call_tuple_list pl.isList (λh' kp=>?_) (by simp only[Wq] <;> omega);have I1:Inv X pins σ H { s with heap:=h' }:=I.kept (t':=s.toks) kp;have I2:Inv X pins σ (upd H h'.objs.size (.tup ys)) { s with heap:=h'.push { cls:=.type "tuple",data:=.seq ag.toArray } } :=
   I1.laid (t':=s.toks) (λb o e=>W8 _ e) (Wk _) (show b0 X.prog X.w _ _ _ (.tup ys) from⟨hz,ag,r',iT.new _ _⟩)
  exact⟨.ref h'.objs.size,_,I2,rfl,q _ (I1.aC.fresh (Wk _))⟩
 ·obtain⟨ag,r',pl,hz⟩:=I.tuple hq;exact call_tuple_same pl ⟨.ref p,H,I,rfl,q⟩
def uf(K:W4)(T:String)(x:V)(H:Hp):Prop:=match x with
 | .str _=>T = "str"
 | .int _=>T = "int"
 | .ref p=>(T = "list"/\∃ xs,cx K H p xs)\/(T = "tuple"/\∃ o,K.lookup p=some o/\o.cls = .type "tuple"/\o.dict=none) \/
   (T = "dict"/\((∃ aa,H p=some (.dK aa))\/∃ aa,H p=some (.dT aa)))\/(T = "set"/\∃ S n,H p=some (.set S n))
 | _=>False
theorem Gi(I:Inv X pins σ H s)(r:RelV x v)(ty:uf X.K T x H) :
  s.TypeIs v T/\∀ a,v = .ref a->∃ ob,s.heap.get? a=some ob/\ob.dict=none:=by
 cases x with
 | str z =>
  obtain⟨t,rfl⟩:=r
  cases (show T = "str" from ty);exact⟨typeIs_str s z t,λ_ e=>nomatch e⟩
 | int i =>
  obtain⟨t,rfl⟩:=r
  cases (show T = "int" from ty);exact⟨JN s i t,λ_ e=>nomatch e⟩
 | ref p =>
  cases r;rcases ty with ⟨rfl,xs,hq⟩ | ⟨rfl,o,hk,hc,hd⟩ | ⟨rfl,hk⟩ | ⟨rfl,S,n,hk⟩
  ·obtain⟨ag,_,pl,_⟩:=I.list hq;refine⟨pl.isList.typeIs,λa e=>?_⟩
   cases e;obtain⟨o,n,e,c,hd,_⟩:=pl;exact⟨o,e,hd⟩
  ·refine⟨⟨o,I.fL p o hk,hc⟩,λa e=>?_⟩
   cases e;exact⟨o,I.fL _ o hk,hd⟩
  ·have z:∃ o,s.heap.get? p=some o/\o.ExactDict:=by
    rcases hk with ⟨aa,hk⟩ | ⟨aa,hk⟩
    ·obtain⟨_,_,_,_,o,_,_,e,ex,_⟩:=I.aC p _ hk;exact⟨o,e,ex⟩
    ·obtain⟨_,_,_,_,o,_,_,e,ex,_⟩:=I.aC p _ hk;exact⟨o,e,ex⟩
   obtain⟨o,e,ex⟩:=z;refine⟨⟨o,e,ex.1⟩,λa e2=>?_⟩
   cases e2;exact⟨o,e,ex.2.1⟩
  ·obtain⟨o,_,_,_,e,ex,_⟩:=I.aC p _ hk;refine⟨⟨o,e,ex.1⟩,λa e2=>?_⟩
   cases e2;exact⟨o,e,ex.2.1⟩
 | _=>exact False.elim ty
def qP(K:W4)(T:String)(r:V->List V->Hp->VK->Prop)(to:TE)(t:TA):TE:=λσ H Q=>to σ H λx H1=>uf K T x H1/\t σ H1 λxs H2=>r x xs H2 Q
variable {o e:Expr} {es:List Expr} {to:TE} {t:TA} {name:Str} {apos bE:Pos} {T id:String} {r:V->List V->Hp->VK->Prop}
theorem qQ (pa:PlainAttrs T) (slot:Slot T name id) (Gj:typeOf (.builtin id)=pure (.type "method_descriptor")) (hm:uc X id r) (ho:PE X o to) (ha:PA X (e :: es) t)
  (l_:QY o name X.env (eval o X.env)=eval o X.env:=by rfl)
  (ma:((QJ bE (Wj (e :: es) X.env)).all (λx=>!x.1) && (backToKw bE (keywordEach [] X.env)).all (λx=>x.1.isSome)
   && decide ((e :: es).length + ([]:List Keyword).length + (if ([]:List Keyword).isEmpty then 0 else 1) < 30))=true:=by rfl)
  (gZ:(apos.endLine == bE.line)=true:=by rfl) (hs:Wj (e :: es) X.env=(false,eval e X.env) :: Wj es X.env:=by rfl) (Gk:(QJ bE (Wj es X.env)).any (·.1)=false:=by rfl) :
  PE X (.Call (.Attribute o name apos) (e :: es) [] bE) (qP X.K T r to t):=by
 intro pins s σ H Q I h;refine wpAny_Call_method_late l_ ma gZ rfl (a_ (ho pins s σ H _ I h) λv s1 ⟨x,H1,I1,r1,ty,q1⟩=>?_);obtain⟨h1,h2⟩:=Gi I1 r1 ty;refine⟨T,id,pa,slot,Gj,h1,h2,?_⟩;have hA:=ha bE pins s1 σ H1 _ I1 q1;rw[hs] at hA ⊢;refine Calls.callWith_builtin (by show(false || (QJ bE (Wj es X.env)).any (·.1))=false; rw[Gk] <;> rfl) (Calls.evalArgs_plain ?_);exact a_ hA λus s2 ⟨vs,H2,I2,r2,q2⟩=>hm pins s2 σ H2 x vs v us Q I2 r1 r2 q2
end
def Gm(X:Cx)(id:String)(r:V->List V->Hp->VK->Prop):Prop :=
 ∀ (pins:List (Addr×Obj)) (s:W2) (σ:St) (H:Hp) (x:V) (xs:List V) (v:Value) (us:List Value) (Q:VK),Inv X pins σ H s->RelV x v->Vals xs us->r x xs H Q ->
  W7 (model X.prog X.w) X.A (call (.builtin id) (v :: us)) (EP X pins σ Q) X.xe s
theorem Vals.one:∀ {x:V} {us:List Value},Vals [x] us->∃ u,us=[u]/\RelV x u
 | _,_,.cons r .nil=>⟨_,rfl,r⟩
theorem Vals.two:∀ {x y:V} {us:List Value},Vals [x,y] us->∃ u v,us=[u,v]/\RelV x u/\RelV y v
 | _,_,_,.cons r (.cons q .nil)=>⟨_,_,rfl,r,q⟩
theorem Vals.rep(h:Vals xs us):∀ k:Nat,Vals (Wf k xs).flatten (Wf k us).flatten
 | 0=>.nil
 | k + 1=>by
  rw[WR,WR,QW,QW];exact Vals.append h (Vals.rep h k)
theorem za(ag:List Value):∀ (k:Nat) (acc:List Value),
  List.foldl (λx1 x2=>x1 ++ x2) acc.toArray (Wf k ag.toArray)=(acc ++ (Wf k ag).flatten).toArray
 | 0,acc=>by simp
 | k + 1,acc=>by
  have e:acc.toArray ++ ag.toArray=(acc ++ ag).toArray:=by simp
  have e2:(acc ++ ag) ++ (Wf k ag).flatten=acc ++ (Wf (k + 1) ag).flatten:=by
   rw[WR,QW,List.append_assoc]
  rw[<- e2,<- za ag k (acc ++ ag),<- e,WR,J9]
section
variable {X:Cx} {pins:List (Addr×Obj)} {σ:St} {H:Hp} {s:W2} {l b:Addr} {xs ys zs:List V}
theorem Inv.Gn{ag its':List Value}{n:Nat}{f:Array Value->Array Value}{t':Nat}(I:Inv X pins σ H s)(hH:H l=some (.lst xs))
  (e:s.heap.get? l=some { cls:=.type "list",data:=.seq ag.toArray n }) (hf:f ag.toArray=its'.toArray) (hv:Vals ys its') (hz:ys.length<=W9) :
  Inv X pins σ (upd H l (.lst ys)) { s with heap:=s.heap.update l (Obj.mapSeq f),toks:=t' }:=by
 have q:=PySem.IsL.update e f;rw[hf] at q;refine I.write (x:=l) (e:=l) (by rw[hH]; exact trivial) (.inl rfl) (λb' u hb hu=>(Jq s.heap (Obj.mapSeq f) (Ne.symm hb)).trans hu) ⟨_,q⟩ ?_;exact⟨hz,its',_,hv,q⟩
theorem Inv.Gp(I:Inv X pins σ H s)(hv:Vals ys ag)(hz:ys.length<=W9) :
  Inv X pins σ (upd H s.heap.objs.size (.lst ys)) { s with heap:=s.heap.push { cls:=.type "list",data:=.seq ag.toArray },toks:=t' } :=
 I.laid (λ_ _ q=>W8 _ q) (Wk _) ⟨hz,ag,0,hv,Wg _ rfl⟩
theorem Inv.fresh(I:Inv X pins σ H s):H s.heap.objs.size=none:=I.aC.fresh (Wk _)
theorem Inv.Gq (I:Inv X pins σ H s) (hH:H l=some (.lst xs)):xs.length<=W9/\∃ (ag:List Value) (n:Nat),Vals xs ag/\xs.length=ag.length/\s.heap.get? l=some { cls:=.type "list",data:=.seq ag.toArray n }:=by
 obtain⟨z,ag,n,r,e⟩:=I.aC l _ hH;exact⟨z,ag,n,r,r.length,e⟩
end
section
variable {X:Cx}
def qR:V->List V->Hp->VK->Prop:=λx vs H Q=>∃ l xs y,x = .ref l/\vs=[y]/\H l=some (.lst xs)/\xs.length < W9/\Q .a7 (upd H l (.lst (xs ++ [y])))
theorem ug:Gm X "list.append" qR:=by
 intro pins s σ H x vs v us Q I rx rv h;obtain⟨l,xs,y,rfl,rfl,hH,hz,q⟩:=h
 cases rx;obtain⟨u,rfl,ru⟩:=rv.one;obtain⟨z,ag,n,r,hl,e⟩:=I.Gq hH;refine call_meets F.slot_list_append ⟨_,e,rfl⟩ F.entry_list_append (F.args_list_append_2 _ _) (PySem.list_append l ag.toArray n u (by rw[Wq]; omega)) ⟨e,?_⟩;refine⟨.a7,_,I.Gn (its':=ag ++ [u]) hH e (by simp) (r.append (.cons ru .nil)) ?_,rfl,q⟩;rw[WX,List.length_singleton];omega
theorem uh(xs:List α)(k:Nat):(Wf k xs).flatten.length=k * xs.length:=by
 induction k with
 | zero=>simp
 | succ k ih=>rw[WR,QW,WX,ih,U0,Nat.add_comm]
end
section
variable {prog:Wm} {w:Wr} {A:Ws} {E:Value->W2->Prop} {s:W2}
set_option maxRecDepth 100000 in
end
section
variable {X:Cx}
end
section
variable {κ:Type} [DecidableEq κ]
def fP(aa:List (κ×V))(k:κ):Option V:=(aa.find? λkv=>decide (kv.1=k)).map (·.2)
def putK(aa:List (κ×V))(k:κ)(v:V):List (κ×V) :=
 if (aa.any λkv=>decide (kv.1=k))=true then aa.map (λkv=>if kv.1=k then(kv.1,v) else kv) else aa ++ [(k,v)]
theorem qS{p:κ×V}{r:List (κ×V)}{k:κ}(e:p.1=k):fP (p :: r) k=some p.2:=by simp[fP,WM,e]
theorem qT{p:κ×V}{r:List (κ×V)}{k:κ}(e:¬ p.1=k):fP (p :: r) k=fP r k:=by simp[fP,WM,e]
theorem zc(k:κ):∀ aa:List (κ×V),(aa.any λkv=>decide (kv.1=k))=(fP aa k).isSome
 | []=>rfl
 | p :: r=>by
  rw[WV];by_cases e:p.1=k
  ·simp only[qS e,decide_eq_true e,Bool.true_or,Option.isSome_some]
  ·rw[qT e,decide_eq_false e,Bool.false_or]; exact zc k r
theorem qU(aa:List (κ×V))(k:κ)(v:V):(putK aa k v).length<=aa.length + 1:=by
 unfold putK;split
 ·rw[Wi]; omega
 ·rw[WX,WG,QS]; omega
theorem fc.oZ(r:fc o u):o.isSome=u.isSome:=by
 cases o with
 | none=>cases u with
  | none=>rfl
  | some _=>exact(show False from r).elim
 | some _=>cases u with
  | none=>exact(show False from r).elim
  | some _=>rfl
theorem KV.val{aa:List (κ×V)}{vs:List (κ×Value)}(r:KV aa vs)(k:κ):fc (fP aa k) (valueAt vs k):=by
 unfold KV at r;induction r with
 | nil=>exact True.intro
 | @cons p q ps qs h t ih =>
  obtain⟨h1,h2⟩:=h;by_cases e:p.1=k
  ·have e':q.1=k:=h1.symm.trans e;have b:valueAt (q :: qs) k=some q.2:=by simp[valueAt,WM,e']
   rw[qS e,b]; exact h2
  ·have e':¬ q.1=k:=λz=>e (h1.trans z)
   have b:valueAt (q :: qs) k=valueAt qs k:=by simp[valueAt,WM,e']
   rw[qT e,b]; exact ih
theorem KV.any(r:KV aa vs)(k:κ):(aa.any λkv=>decide (kv.1=k))=vs.any λkv=>decide (kv.1=k):=by
 unfold KV at r;induction r with
 | nil=>rfl
 | cons h t ih=>rw[WV,WV,ih,h.1]
theorem KV.ui(r:KV aa vs)(k:κ)(ry:RelV y u) :
  KV (aa.map λkv=>if kv.1=k then(kv.1,y) else kv) (vs.map λkv=>if kv.1=k then(kv.1,u) else kv):=by
 unfold KV at r ⊢;induction r with
 | nil=>exact .nil
 | @cons p q ps qs h t ih =>
  rw[Wd,Wd];refine .cons ?_ ih;obtain⟨h1,h2⟩:=h;by_cases e:p.1=k
  ·rw[if_pos e,if_pos (h1.symm.trans e)]; exact⟨h1,ry⟩
  ·rw[if_neg e,if_neg (λz=>e (h1.trans z))]; exact⟨h1,h2⟩
theorem KV.put(r:KV aa vs)(k:κ)(ry:RelV y u):KV (putK aa k y) (stored vs k u):=by
 unfold putK stored;rw[r.any k];by_cases e:(vs.any λkv=>decide (kv.1=k))=true
 ·rw[if_pos e,if_pos e]; exact r.ui k ry
 ·rw[if_neg e,if_neg e]; exact Paired.snoc r ⟨rfl,ry⟩
theorem KV.length(r:KV aa vs):aa.length=vs.length:=Paired.length r
end
theorem md(r:RelV (kV k) u):(e_ P w).is k u=true:=by
 cases k with
 | inl i=>obtain⟨t,e⟩:=(show ∃ t,u=Value.int i t from r); subst e; exact Eg P w i t
 | inr x=>obtain⟨t,e⟩:=(show ∃ t,u=Value.str x t from r); subst e; exact Eh P w x t
theorem ze:∀ {ks:List Key} {us:List Value},Vals (ks.map kV) us->ItemsAre (e_ P w) ks us
 | [],_,r=>by rw[U1] at r; cases r; exact .nil
 | k :: ks,_,r=>by
  rw[Wd] at r
  cases r with
  | cons h t=>exact .cons (md h) (ze t)
abbrev KT(H:Hp):List (List Key×V)->List (List Key×Addr×Value)->Prop:=Paired λp q=>p.1=q.1/\H q.2.1=some (.tup (p.1.map kV))/\RelV p.2 q.2.2
theorem KT.val{H:Hp}{aa:List (List Key×V)}{xs:List (List Key×Addr×Value)}(r:KT H aa xs)(k:List Key):fc (fP aa k) ((atKey xs k).map (·.2)):=by
 induction r with
 | nil=>exact True.intro
 | @cons p q ps qs h t ih =>
  obtain⟨h1,_,h2⟩:=h;by_cases e:p.1=k
  ·have e':q.1=k:=h1.symm.trans e;have b:atKey (q :: qs) k=some q.2:=by simp[atKey,WM,e']
   rw[qS e,b]; exact h2
  ·have e':¬ q.1=k:=λz=>e (h1.trans z)
   have b:atKey (q :: qs) k=atKey qs k:=by simp[atKey,WM,e']
   rw[qT e,b]; exact ih
theorem KT.ui(r:KT H aa xs)(k:List Key)(ry:RelV y u) :
  KT H (aa.map λkv=>if kv.1=k then(kv.1,y) else kv) (xs.map (putAt k u)):=by
 induction r with
 | nil=>exact .nil
 | @cons p q ps qs h t ih =>
  rw[Wd,Wd];refine .cons ?_ ih;obtain⟨h1,h2,h3⟩:=h;unfold putAt;by_cases e:p.1=k
  ·rw[if_pos e,if_pos (h1.symm.trans e)]; exact⟨h1,h2,ry⟩
  ·rw[if_neg e,if_neg (λz=>e (h1.trans z))]; exact⟨h1,h2,h3⟩
theorem KT.put(r:KT H aa xs)(k:List Key)(hb:H b=some (.tup (k.map kV)))(ry:RelV y u) :
  KT H (putK aa k y) (storedH xs k b u):=by
 have e:(aa.any λkv=>decide (kv.1=k))=(atKey xs k).isSome:=by
  rw[zc,(r.val k).oZ,Option.isSome_map]
 unfold putK storedH;rw[e];by_cases q:(atKey xs k).isSome=true
 ·rw[if_pos q,if_pos q]; exact r.ui k ry
 ·rw[if_neg q,if_neg q]; exact Paired.snoc r ⟨rfl,hb,ry⟩
theorem KT.keeps(r:KT H aa xs)(ht:∀ b ys,H b=some (.tup ys)->H' b=some (.tup ys)):KT H' aa xs :=
 Paired.tL r λ_ _ z=>⟨z.1,ht _ _ z.2.1,z.2.2⟩
section
variable {P:Wm} {w:Wr} {H:Hp} {h:Heap} {a:Addr}
theorem zf(ok:cD P w H h)(e:Rd H a u):b0 P w H h a u:=e.ok ok
theorem o_(ok:cD P w H h)(e:Rd H a (.dK aa)):aa.length<=W9/\(a == Q8)=false/\∃ vs,KV aa vs/\h.DictOf (e_ P w) a vs :=
 show b0 P w H h a (.dK aa) from zf ok e
theorem uj(ok:cD P w H h)(e:H a=some (.dK aa)):aa.length<=W9/\(a == Q8)=false/\∃ vs,KV aa vs/\h.DictOf (e_ P w) a vs:=o_ ok (.inl e)
theorem pb(ok:cD P w H h)(e:H a=some (.tup (ks.map kV))):(tupleKind (e_ P w)).is h ks a:=by
 obtain⟨_,ag,r,p⟩:=(show b0 P w H h a (.tup (ks.map kV)) from ok a _ e)
 obtain⟨o,h1,h2,n,h3⟩:=p.tup;exact⟨o,ag.toArray,n,h1,h2,h3,by simpa using ze r⟩
theorem qV(ok:cD P w H h)(e:Rd H a (.dT aa)):aa.length<=W9/\(a == Q8)=false /\
  ∃ xs,KT H aa xs/\h.DictOfH (tupleKind (e_ P w)) a xs:=by
 obtain⟨z,y,xs,r,o,es,ep,h1,h2,h3,h4,h5⟩:=(show b0 P w H h a (.dT aa) from zf ok e)
 refine⟨z,y,xs,r,o,es,ep,h1,h2,h3,h4,λx hx=>?_,h5⟩;have all:∀ {l:List (List Key×V)} {m:List (List Key×Addr×Value)},KT H l m->∀ x ∈ m,(tupleKind (e_ P w)).is h x.1 x.2.1:=by
  intro l m q;induction q with
  | nil=>intro x hx; exact nomatch hx
  | @cons p q ps qs hq t ih =>
   intro x hx;rcases Wo.mp hx with e | hx
   ·subst e;exact pb ok (by rw[<- hq.1]; exact hq.2.1)
   ·exact ih x hx
 exact all r x hx
theorem Gr(ok:cD P w H h)(e:H a=some (.dT aa)):aa.length<=W9/\(a == Q8)=false /\
  ∃ xs,KT H aa xs/\h.DictOfH (tupleKind (e_ P w)) a xs:=qV ok (.inl e)
end
def k_(H:Hp)(a:Addr)(y:V)(r:Option V):Prop :=
 (∃ aa k,Rd H a (.dK aa)/\y=kV k/\r=fP aa k)\/∃ aa k b,Rd H a (.dT aa)/\y = .ref b/\H b=some (.tup (k.map kV))/\r=fP aa k
def pf(H:Hp)(a:Addr)(y v:V)(H':Hp):Prop :=
 (∃ aa k,H a=some (.dK aa)/\y=kV k/\aa.length < W9/\H'=upd H a (.dK (putK aa k v))) \/
 ∃ aa k b,H a=some (.dT aa)/\y = .ref b/\H b=some (.tup (k.map kV))/\aa.length < W9/\H'=upd H a (.dT (putK aa k v))
theorem k_.k{H:Hp}{a:Addr}{aa:List (Key×V)}{k:Key}(e:H a=some (.dK aa)):k_ H a (kV k) (fP aa k):=.inl ⟨aa,k,.inl e,rfl,rfl⟩
theorem pf.k{H:Hp}{a:Addr}{aa:List (Key×V)}{k:Key}{v:V}(e:H a=some (.dK aa))(hl:aa.length < W9):pf H a (kV k) v (upd H a (.dK (putK aa k v))):=.inl ⟨aa,k,e,rfl,hl,rfl⟩
section
variable {X:Cx} {pins:List (Addr×Obj)} {σ:St} {H:Hp} {s:W2} {a:Addr} {y v:V} {u r:Value} {o:Option V} {A:Ws} {E:Value->W2->Prop}
theorem Inv.big(I:Inv X pins σ H s):Q8 < s.heap.objs.size:=by
 have h:WH < s.heap.objs.size:=(I.mod.glob.keeps I.bk).lt;exact Nat.lt_trans (by decide) h
theorem Gs(hu:A.units + 1 < WE)(I:Inv X pins σ H s)(g:k_ H a y (some v))(ry:RelV y u)(h:∀ w' s',Inv X pins σ H s'->RelV v w'->Q w' s') :
  W7 (model X.prog X.w) A (JM (.ref a) u) Q E s:=by
 rcases g with ⟨aa,k,e,ey,l⟩ | ⟨aa,k,b,e,ey,eb,l⟩
 ·subst ey;obtain⟨z,hd,vs,rel,dd⟩:=o_ I.aC e;obtain⟨w',hw,aL⟩:=fc.some_of (v:=v) (o:=valueAt vs k) (by rw[l]; exact rel.val k);exact wpAny_getItem_of (md ry) dd.mapOf hw (h w' _ (I.tok _) aL)
 ·subst ey
  cases (show u=Value.ref b from ry);obtain⟨z,hd,xs,rel,dd⟩:=qV I.aC e;obtain⟨w',hw,aL⟩:=fc.some_of (v:=v) (o:=(atKey xs k).map (·.2)) (by rw[l]; exact rel.val k);obtain⟨p,hp,hp2⟩:=Option.map_eq_some_iff.mp hw;refine wpAny_getItem_heap (JG hu) (pb I.aC eb) dd hp ?_;rw[hp2];exact h w' _ (I.tok _) aL
theorem Gu(hu:A.units + 1 < WE)(I:Inv X pins σ H s)(g:k_ H a y o)(ry:RelV y u)(h:∀ s',Inv X pins σ H s'->Q (.bool o.isSome) s') :
  W7 (model X.prog X.w) A (WN .In u (.ref a)) Q E s:=by
 rcases g with ⟨aa,k,e,ey,l⟩ | ⟨aa,k,b,e,ey,eb,l⟩
 ·subst ey;obtain⟨z,hd,vs,rel,dd⟩:=o_ I.aC e;refine wpAny_in_of (md ry) hd dd.mapOf ?_;rw[<- (rel.val k).oZ,<- l];exact h _ (I.tok _)
 ·subst ey
  cases (show u=Value.ref b from ry);obtain⟨z,hd,xs,rel,dd⟩:=qV I.aC e;refine wpAny_in_heap (JG hu) (pb I.aC eb) hd dd ?_;have q:=(rel.val k).oZ;rw[Option.isSome_map] at q;rw[<- q,<- l];exact h _ (I.tok _)
theorem Gv(hu:A.units + 1 < WE)(I:Inv X pins σ H s)(g:k_ H a y o)(ry:RelV y u)(h:∀ s',Inv X pins σ H s'->Q (.bool (!o.isSome)) s') :
  W7 (model X.prog X.w) A (WN .NotIn u (.ref a)) Q E s:=by
 rcases g with ⟨aa,k,e,ey,l⟩ | ⟨aa,k,b,e,ey,eb,l⟩
 ·subst ey;obtain⟨z,hd,vs,rel,dd⟩:=o_ I.aC e;refine wpAny_notIn_of (md ry) hd dd.mapOf ?_;rw[<- (rel.val k).oZ,<- l];exact h _ (I.tok _)
 ·subst ey
  cases (show u=Value.ref b from ry);obtain⟨z,hd,xs,rel,dd⟩:=qV I.aC e;refine wpAny_notIn_heap (JG hu) (pb I.aC eb) hd dd ?_;have q:=(rel.val k).oZ;rw[Option.isSome_map] at q;rw[<- q,<- l];exact h _ (I.tok _)
theorem ph(I:Inv X pins σ H s)(mu:oJ (H a))(hs:Qp a s.heap h')(he:∃ q,h'.get? a=some q)(new:b0 X.prog X.w (upd H a ob) h' a ob) :
  Inv X pins σ (upd H a ob) { s with heap:=h',toks:=t' } :=
 I.write (x:=a) (e:=a) mu (.inl rfl) (λb q hb z=>(hs.2 b hb).trans z) he new
theorem zg(z:aa.length<=W9)(hd:(a == Q8)=false)(rel:KV aa vs)(dd:h'.DictOf (e_ P w) a vs) :
  b0 P w H' h' a (.dK aa):=⟨z,hd,vs,rel,dd⟩
theorem Gw(hu:A.units + 1 < WE)(I:Inv X pins σ H s)(g:pf H a y v H')(ry:RelV y u)(rv:RelV v r)(h:∀ s',Inv X pins σ H' s'->Q () s') :
  W7 (model X.prog X.w) A (setItem (.ref a) u r) Q E s:=by
 rcases g with ⟨aa,k,e,ey,l,eH⟩ | ⟨aa,k,b,e,ey,eb,l,eH⟩
 ·subst ey eH;obtain⟨z,hd,vs,rel,dd⟩:=uj I.aC e;have hz:vs.length<=W9:=by rw[<- rel.length]; exact z
  have hl:(putK aa k v).length<=W9:=by have:=qU aa k v; omega
  refine wpAny_setItem_pairs (hsz:=hz) (md ry) dd λh' me hs=>h _ ?_
  have he:∃ q,h'.get? a=some q:=let ⟨q,_,_,hq,_⟩:=me; ⟨q,hq⟩
  exact ph I (by rw[e]; exact True.intro) hs he (zg hl hd (rel.put k rv) me)
 ·subst ey eH
  cases (show u=Value.ref b from ry);obtain⟨z,hd,xs,rel,dd⟩:=Gr I.aC e;have hz:xs.length<=W9:=by rw[<- Paired.length rel]; exact z
  have hl:(putK aa k v).length<=W9:=by have:=qU aa k v; omega
  refine wpAny_setItem_heap (hsz:=hz) (JG hu) (pb I.aC eb) dd λh' me hs=>h _ ?_
  obtain⟨q,es,ep,hq,h2,h3,h4,_,h5⟩:=me;refine ph I (by rw[e]; exact True.intro) hs ⟨q,hq⟩ ⟨hl,hd,_,(rel.put k eb rv).keeps λc ys ec=>?_,q,es,ep,hq,h2,h3,h4,h5⟩;rw[ba (Ej ec e (λz=>nomatch z))];exact ec
end
section
variable {X:Cx} {pins:List (Addr×Obj)} {σ:St} {H:Hp} {s:W2} {a:Addr} {aa:List (Key×V)} {k:Key} {u:Value} {A:Ws} {E:Value->W2->Prop}
theorem Gx (I:Inv X pins σ H s) (e:Rd H a (.dK aa)) (h:∀ t s',Inv X pins σ H s'->Q (.int aa.length t) s'):W7 (model X.prog X.w) A (call (.builtin "len") [.ref a]) Q E s:=by
 obtain⟨z,hd,vs,rel,dd⟩:=o_ I.aC e;refine call_len_dict hd dd (by rw[<- rel.length]; rw[QG] at z; omega) ?_;rw[<- rel.length];exact h _ _ (I.tok _)
end
def Gy(td ty tv:TE):TS:=λD σ H=>tv σ H λv H1=>td σ H1 λx H2=>ty σ H2 λy H3=>∃ a H4,x = .ref a/\pf H3 a y v H4/\D.nx σ H4
section
variable {X:Cx} {o i e value:Expr} {pos pos' Ft:Pos} {td ty tv:TE}
theorem Gz(hu:X.A.units + 1 < WE)(ho:PE X o td)(hi:PE X i ty)(hv:PE X value tv)(hs:Jg value (some (.Subscript o i pos')) pos.line X.env=pure false) :
  PS X (.Assign [.Subscript o i pos'] value pos) (Gy td ty tv):=by
 intro pins s σ H D I h;refine wpAny_Assign_Subscript (a_ (hv pins s σ H _ I h) λr s1 ⟨v,H1,I1,rv,q1⟩=>a_ (ho pins s1 σ H1 _ I1 q1) λu s2 ⟨x,H2,I2,rx,q2⟩=>a_ (hi pins s2 σ H2 _ I2 q2) λiv s3 ⟨y,H3,I3,ry,a,H4,ex,g,q3⟩=>?_) hs;subst ex;obtain rfl:u=Value.ref a:=rx;exact Gw hu I3 g ry rv λs4 I4=>⟨σ,H4,I4,q3⟩
end
theorem zh (h:Heap) (hb:Q8 < h.objs.size):b0 P w H (h.push { cls:=.type "dict",data:=.dict #[] }) h.objs.size (.dK []) :=
 ⟨Qc _,beq_eq_false_iff_ne.mpr (Ne.symm (WW hb)),[],.nil,Heap.DictOf.new h⟩
def GF:TE:=λ_ H Q=>∀ p,H p=none->Q (.ref p) (upd H p (.dK []))
section
variable {X:Cx} {pos:Pos}
theorem GH:PE X (.Dict [] [] pos) GF:=λpins s σ H Q I h =>
 wpAny_Dict_empty ⟨.ref s.heap.objs.size,_,I.laid (a:=s.heap.objs.size) (o:=.dK []) (t':=s.toks) (λ_ _ q=>W8 _ q) (Wk _) (zh s.heap I.big),rfl,h _ (I.aC.fresh (Wk _))⟩
end
structure M2(X:Cx)(o:Expr)(m:Str)(apos:Pos)(e f:Expr)(bE:Pos):Prop where
 base:QY o m X.env (eval o X.env)=eval o X.env
 GJ:((QJ bE (Wj [e,f] X.env)).all (λx=>!x.1) && (backToKw bE (keywordEach [] X.env)).all (λx=>x.1.isSome)
  && decide (([e,f]:List Expr).length + ([]:List Keyword).length + (if ([]:List Keyword).isEmpty then 0 else 1) < 30))=true
 line:(apos.endLine == bE.line)=true
 trees:QJ bE (Wj [e,f] X.env)=[(false,eval e X.env),(false,eval f X.env)]
section
variable {X:Cx} {pins:List (Addr×Obj)} {σ:St} {H:Hp} {s:W2} {a:Addr} {y d:V} {u r:Value} {o:Option V} {A:Ws} {E:Value->W2->Prop}
end
section
variable {X:Cx} {o e f:Expr} {apos bE:Pos} {td ty tx:TE}
end
section
variable {X:Cx} {pins:List (Addr×Obj)} {σ:St} {H:Hp} {s:W2} {a:Addr} {aa:List (Key×V)} {A:Ws} {E:Value->W2->Prop}
end
section
variable {X:Cx} {pins:List (Addr×Obj)} {σ:St} {H:Hp} {s:W2} {a:Addr} {y:V} {u:Value} {A:Ws} {E:Value->W2->Prop}
end
end L2
namespace Att
open PySem PySem.W PySem.Calls PyProof.Rows
theorem GK:∀ (ns:List Int) (vs:List Value),WellAll P h vs (ns.map WData.int)->IntsAre vs ns:=by
 intro ns;induction ns with
 | nil =>
  intro vs w;rw[U1] at w
  cases w;exact .nil
 | cons n ns ih =>
  intro vs w;rw[Wd] at w
  cases w with
  | cons a b =>
   cases a;exact .cons _ _ (ih _ b)
theorem GL{l:OpenLaw}{n:Nat}(hn:l.most=some n){P:Params}{h:Heap}{args:List WData}{vals:List Value}
  (ng:l.row.toRowW.claim.pre args=true) (uk:WellAll P h vals args) :
  ∃ a vs ns,vals=[Value.ref a]/\args=[WData.list (ns.map WData.int)]/\h.get? a=some { cls:=.type "list",data:=.seq vs.toArray }/\IntsAre vs ns/\ns.length<=n:=by
 have GO:WShape.hasAll [] args [.list .int]=true:=(pre_splitW ng).1;have hc:l.pre.holds [] { args:=args } = true:=(pre_splitW ng).2;obtain⟨d,r,rfl,h1,h2⟩:=hasAllW_cons GO;obtain rfl:=hasAllW_nil h2;obtain⟨xs,rfl,h3⟩:=hasW_list h1;obtain⟨ns,rfl⟩:=items_int h3;have hlen:ns.length<=n:=by
  unfold OpenLaw.pre at hc;have h4:(WTm.not (.lt (.lit (.int (n:Int))) (.len (.arg 0)))).holds [] { args:=[.list (ns.map .int)] } = true:=by
   have h4:=(holds_andW hc).1;rw[hn] at h4;exact h4
  have h5:=condW_of h4 (w_not (w_lt w_lit (w_len_list (w_arg rfl))));rw[Wi] at h5;refine Nat.le_of_not_lt λq=>?_
  have q':(n:Int) < ((ns.length:Nat):Int):=by omega
  first
   | (rw[decide_eq_true q'] at h5; exact absurd h5 (by decide))
   | (simp at h5; omega)
 cases uk with
 | cons w1 w2 =>
  cases w2
  cases w1 with
  | list ho hall=>exact⟨_,_,ns,rfl,rfl,ho,GK ns _ hall,hlen⟩
theorem GQ(l:OpenLaw)(args:List WData):l.row.toRowW.claim.post args (.bool true) args=true :=
 postW_of (r:=l.row.toRowW) (X:=(true == true))
  (show WShape.has [] (.bool true) .bool=true by first | rfl | decide | simp[WShape.has,WShape.arms,WShape.armsAll])
  (show(WTm.eq .res (.lit (.bool true))).value [] { args:=args,res:=some (.bool true),after:=args } = some (.bool (true == true)) from w_eq_bool (w_res rfl) w_lit) rfl
theorem GV{l:OpenLaw}{n:Nat}{q:Wm}{loose:List Str}{XP:(Str->Option Value)->Heap->Prop}{YP:Wr->Heap->Prop}{d:DefRec}
  (hn:l.most=some n) (pj:d.params.defaults=[])
  (call:∀ (w:Wr) (s₀ s₁:W2) (mg mb:Str->Option Value) (fa:Addr) (o:Obj) (pm cd doc:Value) (a:Addr) (vs:List Value) (ns:List Int),
   Ground q loose [] XP w s₀ mg mb s₁.heap->YP w s₁.heap ->
   s₁.heap.get? fa=some o->o.data = .func (docDef d.name d.params d.body d.scope pm cd doc)->s₁.heap.CodeRec cd d.name->mg d.name=some (.ref fa) ->
   s₁.heap.get? a=some { cls:=.type "list",data:=.seq vs.toArray }->IntsAre vs ns->ns.length<=n->s₁.gens = #[] ->
   Jw (model l.prog w) callerA (.call (.ref fa) ⟨[.ref a],[]⟩) (λr s'=>r = .ok (.ret (.bool true))/\OldK s₁.heap s'.heap/\s'.os=s₁.os/\AllBare s'.gens) s₁) :
  WalkO q loose XP YP l.row.toRowW d [] (λf vs=>PySem.call f vs):=by
 intro w s₀ s₁ mg mb G Y fa o pm cd doc dV kV ho hd jk hD pk hg args vals as ng hlay hrd uk zi;obtain rfl:dV = .none:=Dflts.none hD pj;obtain rfl:kV = .none:=Dflts.noKw hD;obtain⟨a,vs,ns,rfl,rfl,um,hints,hlen⟩:=GL hn ng uk;refine enter_call (codeAny_mono (call w s₀ s₁ mg mb fa o pm cd doc a vs ns G Y ho (fd_plain hd) jk pk um hints hlen hg) λr s' hq=>?_);obtain⟨rfl,h2,h3,h4⟩:=hq;exact⟨.inl ⟨.bool true,.bool true,[],rfl,λ_=>rfl,.bool true,GQ l _,λ_=>⟨List.Pairwise.nil,λ_ hm=>(nomatch hm)⟩⟩,h2,h3,h4⟩
section
variable {prog:Wm} {w:Wr} {A:Ws} {E:Value->W2->Prop} {s:W2} {K:Frag}
end
end Att
namespace L2
open PySem PySem.Spec PyProof.Rows
theorem zj:∀ {vs:List Value} {ns:List Int},IntsAre vs ns->Vals (ns.map V.int) vs
 | _,_,.nil=>.nil
 | _,_,.cons n t h=>.cons ⟨t,rfl⟩ (zj h)
def uo(H:Hp):Prop:=∀ b,H b=none\/∃ o xs,H b=some (.frz o (.lst xs))
theorem GW{P:Wm}{w:Wr}{K:W4}{mg mb:Str->Option Value}{CX:jm}{k:Nat}{fa a:Addr}{fd:Ql}{x:Str}{sp:Sp}{s₁:W2}{vs:List Value}{ns:List Int}
  (KX:K.In s₁.heap) (zk:s₁.heap.Ns WH mg) (hb:s₁.heap.Ns builtinsNs mb) (GY:∀ x:Str,x≠"__name__"->mb x=Qx x) (GZ:s₁.heap.NoLimit) (hg:s₁.gens = #[])
  (ha:s₁.heap.get? a=some { cls:=.type "list",data:=.seq vs.toArray }) (hi:IntsAre vs ns) (hl:ns.length<=W9) (hr:eN k callerA)
  (F:∀ base:Heap,K.In base->base.Ns WH mg->jn P w K mg base CX k fa fd [x] sp) (G4:∀ (s:W2) (u:Value),BindsTo s fd ⟨[u],[]⟩ [(x,u)])
  (kZ:∀ H:Hp,uo H->cx K H a (ns.map V.int)->sp [.ref a] H (λv _=>v = .bl true) λ_ _ _=>False)
  (uq:∀ H e s',CX [] H s₁ (λ_ _ _=>False) e s'->False) :
  Jw (model P w) callerA (.call (.ref fa) ⟨[.ref a],[]⟩) (λr s'=>r = .ok (.ret (.bool true))/\OldK s₁.heap s'.heap/\s'.os=s₁.os/\AllBare s'.gens) s₁:=by
 have rv:=zj hi;have G5:=hi.length;-- from an abstract heap in which nothing but the script may be tracked
 have core:∀ H:Hp,uo H->cx K H a (ns.map V.int)->cD P w H s₁.heap->(∀ b,H b≠none->b=a)->(H a≠none->K.lookup a=none) ->
   Jw (model P w) callerA (.call (.ref fa) ⟨[.ref a],[]⟩) (λr s'=>r = .ok (.ret (.bool true))/\OldK s₁.heap s'.heap/\s'.os=s₁.os/\AllBare s'.gens) s₁:=by
  intro H hO hS aC hA hK;have zm:∀ {b:Addr} {o:Obj},s₁.heap.get? b=some o->H b=none->(kg s₁.heap H).get? b=some o:=λe n=>Eo e n
  have oY:∀ {b:Addr} {o:Obj} {es:Array DictEntry} {ep:Nat},s₁.heap.get? b=some o->o.data = .dict es ep->H b=none:=λ{b o es ep} e d=>by
   cases q:H b with
   | none=>rfl
   | some u =>
    have e':b=a:=hA b (by rw[q]; simp);subst e';rw[ha] at e; cases e
    have d':Data.seq vs.toArray _=Data.dict es ep:=d
    cases d'
  have qW:∀ {b:Addr} {m:Str->Option Value},s₁.heap.Ns b m->(kg s₁.heap H).Ns b m:=λ{b m} ⟨o,es,ep,e,d,r⟩=>⟨o,es,ep,zm e (oY e d),d,r⟩
  have zo:K.In (kg s₁.heap H):=λb o e=>zm (KX b o e) (by
   cases q:H b with
   | none=>rfl
   | some u =>
    have e':b=a:=hA b (by rw[q]; simp);subst e';rw[hK (by rw[q]; simp)] at e; cases e)
  have hM:Mod K mg (kg s₁.heap H):=⟨zo,qW zk,⟨mb,qW hb,GY⟩,let ⟨mc,h1,h2⟩:=GZ; ⟨mc,qW h1,h2⟩⟩
  have e0:qK P w K mg (kg s₁.heap H) callerA [] s₁ H:=⟨rfl,hM,λb o e=>Ep e,Nat.le_of_eq (En _ _),trivial,λb hb=>absurd (show b ∈ ([]:List Addr) from hb) (by simp),aC,.of_eq hg⟩
  refine codeAny_mono ((F _ zo (qW zk)).run callerA [] s₁ H ⟨[.ref a],[]⟩ [.ref a] [.ref a] _ _ hr e0 (G4 s₁ (.ref a)) (.cons rfl .nil) (kZ H hO hS)) λr s' h=>?_
  cases r with
  | error e=>exact(uq H e s' h).elim
  | ok fl =>
   cases fl with
   | next=>exact False.elim h
   | brk=>exact False.elim h
   | cont=>exact False.elim h
   | ret u =>
    obtain⟨v,H',os,bare,un,hok',r',q⟩:=h;have q':v = .bl true:=q;subst q';obtain rfl:u=Value.bool true:=r';refine⟨rfl,OldK.of_keep λb o e=>?_,os,bare⟩
    cases q:H b with
    | none=>exact un.keep b o e q (by intro z; exact absurd (show b ∈ ([]:List Addr) from z) (by simp)) (by simp)
    | some u =>
     rcases hO b with z | ⟨ob,xs,z⟩
     ·rw[q] at z; cases z
     ·have z2:=un.kf b ob _ z;obtain⟨e1,_⟩:=aC b _ z;obtain⟨e2,_⟩:=hok' b _ z2;rw[e] at e1; cases e1
      exact e2
 cases hk:K.lookup a with
 | some o =>
  -- the script is one of the module's own objects
  have e:=KX a o hk;rw[ha] at e
  cases e;refine core (λ_=>none) (λ_=>.inl rfl) (.inr ⟨_,vs.toArray,_,hk,rfl,rfl,rfl,by rw[Wq,G5]; exact hl,by simpa using rv⟩) (λb u z=>by have z':(none:Option HO)=some u:=z; cases z') (λb z=>absurd rfl z) λz=>absurd rfl z
 | none =>
  refine core (λb=>if b=a then some (.frz { cls:=.type "list",data:=.seq vs.toArray } (.lst (ns.map V.int))) else none) (λb=>?_) (.inl (.inr ⟨{ cls:=.type "list",data:=.seq vs.toArray },if_pos rfl⟩)) (λb u z=>?_) (λb z=>?_) λ_=>hk
  ·by_cases hb:b=a
   ·exact .inr ⟨_,_,if_pos hb⟩
   ·exact .inl (if_neg hb)
  ·by_cases hb:b=a
   ·have z':=(if_pos hb).symm.trans z
    cases z';subst hb;exact⟨ha,by rw[Wi]; exact hl,vs,_,rv,ha⟩
   ·have z':=(if_neg hb).symm.trans z
    cases z'
  ·by_cases hb:b=a
   ·exact hb
   ·exact absurd (if_neg hb) z
abbrev P9{K:W4}{h:Heap}(_:K.In h):W4:=K
theorem G6{l:PySem.W.OpenLaw}{n k:Nat}{q:Wm}{loose:List Str}{XP:(Str->Option Value)->Heap->Prop}{YP:Wr->Heap->Prop}{d:DefRec}{K:Params->W4}{CX:Wr->jm}{sp:Wr->Sp}{x:Str}
  (hn:l.most=some n) (mf:n<=W9) (pj:d.params.defaults=[]) (hr:eN k callerA)
  (hY:∀ (w:Wr) (h:Heap),YP w h->(K w.params).In h)
  (F:∀ (w:Wr) (mg:Str->Option Value) (fa:Addr) (h:Heap),(K w.params).In h->h.Ns WH mg->mg d.name=some (.ref fa) ->
   ∃ fd:Ql,(∀ (s:W2) (u:Value),BindsTo s fd ⟨[u],[]⟩ [(x,u)]) /\
    ∀ base:Heap,(K w.params).In base->base.Ns WH mg->jn l.prog w (K w.params) mg base (CX w) k fa fd [x] (sp w))
  (kZ:∀ (w:Wr) (H:Hp) (a:Addr) (ns:List Int),ns.length<=n->uo H->cx (K w.params) H a (ns.map V.int)->sp w [.ref a] H (λv _=>v = .bl true) λ_ _ _=>False)
  (uq:∀ (w:Wr) (H:Hp) (s:W2) (e:Value) (s':W2),CX w [] H s (λ_ _ _=>False) e s'->False) :
  PySem.W.WalkO q loose XP YP l.row.toRowW d [] (λf vs=>PySem.call f vs):=by
 refine Att.GV hn pj λw s₀ s₁ mg mb fa o pm cd doc a vs ns G Y ho hd jk pk um hints hlen hg=>?_
 have KX:=hY w _ Y;obtain⟨fd,hb,hF⟩:=F w mg fa _ KX G.T.g pk;exact GW KX G.T.g G.T.b G.T.builtins G.T.nolimit hg um hints (Qo hlen mf) hr hF hb (λH hO hS=>kZ w H a ns hlen hO hS) λH e s'=>uq w H s₁ e s'
def lg(s:Stmt):Arguments:=match s with
 | .FunctionDef _ a _ _ _ _ _ _ _ _=>a
 | _=>{ posonlyargs:=[],args:=[],vararg:=none,kwonlyargs:=[],kw_defaults:=[],kwarg:=none,defaults:=[] }
def jo(s:Stmt):List Stmt:=match s with
 | .FunctionDef _ _ b _ _ _ _ _ _ _=>b
 | _=>[]
def cW(s:Stmt):Scope:=match s with
 | .FunctionDef _ _ _ _ _ _ sc _ _ _=>sc
 | _=>{ kind:=.function,names:=[],isGenerator:=false,isCoroutine:=false }
abbrev jq:jm:=λ_ _ _ _ _ _=>False
abbrev E0:XK:=λ_ _ _=>False
theorem zp:t5 jq X E0:=λ_ _ _ _ _ _ _ h=>h.elim
structure dI(K:W4)(x qual:Str)(st:Stmt)(f:Addr)(fd:Ql):Prop where
 ex:∃ (oc:Value) (od:Option Addr) (kV doc pm:Value) (an:Option Addr) (bR ct:Value) (kY:Array (Option Value)),
  fd=QR x qual (lg st) (jo st) (cW st) .none kV doc pm an bR ct/\K.lookup f=some ⟨oc,od,.func fd,kY⟩/\PySem.W.codeIn K bR qual=true
 kp:JL K (.ref f)=true
section
variable {P:Wm} {w:Wr} {K:W4} {mg:Str->Option Value} {base:Heap}
theorem dI.ok{x qual:Str}{st:Stmt}{f:Addr}{fd:Ql}{N ps:List Str}{k:Nat}{sp:Sp}(F:dI K x qual st f fd)(S:eS N ps (cW st))(len:∀ vs H Q E,sp vs H Q E->vs.length=ps.length)
  (kh:∀ (bR:Value) (A:Ws) (outer:List Env) (s:W2) (H:Hp) (vs:List V) (Q:VK) (E:XK),eN k (A.deeper (envOfC qual (cW st) s.heap.objs.size f bR))->sp vs H Q E ->
   ∃ t,eA (kX jq P w K mg base N qual (cW st) f bR A outer s H E).mW (jo st) t/\t { nx:=λ_ H'=>Q .a7 H',rt:=Q } (jQ N vs) H):jn P w K mg base jq (k + 1) f fd ps sp:=by
 obtain⟨oc,od,kV,doc,pm,an,bR,ct,kY,rfl,lk,jk⟩:=F.ex;refine Fz lk jk S len λA outer s H vs Q E hr kZ=>?_
 obtain⟨t,h,q⟩:=kh bR A outer s H vs Q E hr kZ;exact⟨t,h.mW,q⟩
theorem dI.binds{x qual:Str}{st:Stmt}{f:Addr}{fd:Ql}{ps:List Str}(F:dI K x qual st f fd)
  (h:∀ (kV doc pm:Value) (an:Option Addr) (bR ct:Value) (us:List Value),us.length=ps.length->bindArgs (QR x qual (lg st) (jo st) (cW st) .none kV doc pm an bR ct) ⟨us,[]⟩=pure (ps.zip us)):Binds K fd ps []:=by
 obtain⟨oc,od,kV,doc,pm,an,bR,ct,kY,rfl,lk,jk⟩:=F.ex;exact .all (h kV doc pm an bR ct)
theorem zq{x qual:Str}{st:Stmt}{f:Addr}{oc:Value}{od an:Option Addr}{kY:Array (Option Value)}{kV doc pm bR ct:Value}(l:K.lookup f=some ⟨oc,od,.func (QR x qual (lg st) (jo st) (cW st) .none kV doc pm an bR ct),kY⟩)
  (c:PySem.W.codeIn K bR qual=true) (k:JL K (.ref f)=true):dI K x qual st f (QR x qual (lg st) (jo st) (cW st) .none kV doc pm an bR ct):=⟨⟨oc,od,kV,doc,pm,an,bR,ct,kY,rfl,l,c⟩,k⟩
end
theorem G7(h:n<=1000):n < W9:=Nat.lt_of_le_of_lt h (by decide)
section
variable {X:Cx}
theorem pv (i:Nat) (hN:X.N[i]? = some x:=by rfl) (hv:qt X.env.scope x:=by first | exact Or.inl rfl | exact Or.inr (Or.inl rfl) | exact Or.inr (Or.inr rfl)) (hd:(x == ("__debug__" : Str))=false:=by decide)
  (jk:(x == ("__classdict__" : Str))=false:=by decide):PE X (.Name x pos) (c9 i):=Ex hN hv hd jk
theorem G8:eB X (.builtin "len") (λxs H Q=>∃ a aa,xs=[V.ref a]/\H a=some (.dK aa)/\Q (.int aa.length) H):=by
 intro pins s σ H xs us Q I r h;obtain⟨a,aa,rfl,ha,q⟩:=h;obtain⟨u,rfl,ru⟩:=gY r
 cases ru;exact Gx I (.inl ha) λt s' I'=>⟨.int aa.length,H,I',⟨t,rfl⟩,q⟩
end
section
variable {κ:Type} [DecidableEq κ]
end
def fQ(cells:List (Str×Addr)):List (Str×NameKind)->List (Str×Addr)->List (Str×Addr)
 | [],acc=>acc
 | (n,k) :: r,acc=>fQ cells r (if k == .free then(match cells.lookup n with | some a=>(n,a) :: acc | none=>acc) else acc)
theorem ur(f:Str×NameKind->List (Str×Addr)->Sem (ForInStep (List (Str×Addr))))
  (hf:∀ name kind cs,f (name,kind) cs=if kind == .free then(do let a <- cellOf env name; pure (.yield ((name,a) :: cs))) else pure (.yield cs)) :
  ∀ (names:List (Str×NameKind)) (acc:List (Str×Addr)),(∀ x ∈ names,x.2=NameKind.free->∃ c,env.cells.lookup x.1=some c)->(forIn names acc f:Sem (List (Str×Addr)))=pure (fQ env.cells names acc)
 | [],acc,_=>by rw[JO]; rfl
 | (n,k) :: r,acc,h=>by
  rw[JD,hf];unfold fQ;by_cases hk:(k == NameKind.free)=true
  ·obtain⟨c,hc⟩:=h (n,k) We (by simpa using hk);have fN:env.cells.lookup n=some c:=hc;have e:cellOf env n=pure c:=by unfold cellOf; rw[fN]
   rw[if_pos hk,if_pos hk,e,fN];exact ur f hf r _ λx hx=>h x (Wc _ hx)
  ·rw[if_neg hk,if_neg hk];exact ur f hf r _ λx hx=>h x (Wc _ hx)
theorem zr(h:∀ x ∈ scope.names,x.2=NameKind.free->∃ c,env.cells.lookup x.1=some c):closureFor scope env=pure (fQ env.cells scope.names []):=by
 unfold closureFor;dsimp only;rw[ur (env:=env) _ (λname kind cs=>by cases hkc:kind == NameKind.free <;> simp[hkc]) scope.names [] h];rfl
theorem zt:∀ (names:List (Str×NameKind)) (acc:List (Str×Addr)),(n,c) ∈ fQ cells names acc->(n,c) ∈ acc\/((n,NameKind.free) ∈ names/\cells.lookup n=some c)
 | [],acc,h=>.inl h
 | (y,k) :: r,acc,h=>by
  unfold fQ at h;rcases zt r _ h with q | ⟨q,e⟩
  ·by_cases hk:(k == NameKind.free)=true
   ·rw[if_pos hk] at q;have mh:k=NameKind.free:=by simpa using hk
    cases e:cells.lookup y with
    | none=>rw[e] at q; exact .inl q
    | some a =>
     rw[e] at q;rcases Wo.mp q with z | z
     ·cases z;exact .inr ⟨by rw[mh]; exact We,e⟩
     ·exact .inl z
   ·rw[if_neg hk] at q; exact .inl q
  ·exact .inr ⟨Wc _ q,e⟩
theorem zu:∀ (names:List (Str×NameKind)) (acc:List (Str×Addr)),(acc.lookup n).isSome=true\/((n,NameKind.free) ∈ names/\(cells.lookup n).isSome=true)->((fQ cells names acc).lookup n).isSome=true
 | [],acc,h=>h.elim id λz=>absurd z.1 (by simp)
 | (y,k) :: r,acc,h=>by
  unfold fQ;apply zu r;by_cases hk:(k == NameKind.free)=true
  ·rw[if_pos hk]
   cases e:cells.lookup y with
   | none =>
    rcases h with h | ⟨h1,h2⟩
    ·exact .inl h
    ·rcases Wo.mp h1 with z | z
     ·cases z;rw[e] at h2; cases h2
     ·exact .inr ⟨z,h2⟩
   | some a =>
    by_cases hn:(n == y)=true
    ·refine .inl ?_;show(List.lookup n ((y,a) :: acc)).isSome=true;rw[Qm,hn];rfl
    ·rcases h with h | ⟨h1,h2⟩
     ·refine .inl ?_;show(List.lookup n ((y,a) :: acc)).isSome=true;have jN:(n == y)=false:=by simpa using hn
      rw[Qm,jN];exact h
     ·rcases Wo.mp h1 with z | z
      ·cases z;exact absurd (by simp) hn
      ·exact .inr ⟨z,h2⟩
  ·rw[if_neg hk];rcases h with h | ⟨h1,h2⟩
   ·exact .inl h
   ·rcases Wo.mp h1 with z | z
    ·cases z;exact absurd rfl hk
    ·exact .inr ⟨z,h2⟩
theorem uv:∀ (names:List (Str×NameKind)) (h:Heap) (acc:List (Str×Addr)),(n,c) ∈ QK h.objs.size names acc ->
  (n,c) ∈ acc\/((n,NameKind.cell) ∈ names/\h.objs.size<=c/\(JH h names).IsCell c none)
 | [],_,_,h=>.inl h
 | (y,k) :: r,h,acc,hm=>by
  unfold QK at hm;unfold JH;by_cases hk:(k == NameKind.cell)=true
  ·rw[if_pos hk] at hm;rw[if_pos hk];have mh:k=NameKind.cell:=by simpa using hk
   have sz:(h.push { cls:=.type "cell",data:=.cell none }).objs.size=h.objs.size + 1:=Qr ..;rw[<- sz] at hm;rcases uv r _ _ hm with q | ⟨q1,q2,q3⟩
   ·rcases Wo.mp q with z | z
    ·cases z;refine .inr ⟨by rw[mh]; exact We,Wk _,?_⟩;exact Heap.IsCell.keeps ⟨_,Wg _ rfl,rfl⟩ (pushCells_keeps r _)
    ·exact .inl z
   ·exact .inr ⟨Wc _ q1,by rw[sz] at q2; omega,q3⟩
  ·rw[if_neg hk] at hm;rw[if_neg hk];rcases uv r _ _ hm with q | ⟨q1,q2,q3⟩
   ·exact .inl q
   ·exact .inr ⟨Wc _ q1,q2,q3⟩
theorem uw:∀ (names:List (Str×NameKind)) (k:Nat) (acc:List (Str×Addr)),(∀ n n' c,(n,c) ∈ acc->(n',c) ∈ acc->n=n')->(∀ n c,(n,c) ∈ acc->c < k) ->
  ∀ n n' c,(n,c) ∈ QK k names acc->(n',c) ∈ QK k names acc->n=n'
 | [],_,_,h,_=>h
 | (y,kd) :: r,k,acc,h,hb=>by
  unfold QK;by_cases hk:(kd == NameKind.cell)=true
  ·rw[if_pos hk];refine uw r (k + 1) _ (λn n' c h1 h2=>?_) λn c hm=>?_
   ·rcases Wo.mp h1 with e | h1 <;> rcases Wo.mp h2 with e' | h2
    ·cases e; cases e'; rfl
    ·cases e; exact absurd (hb _ _ h2) (Qn _)
    ·cases e'; exact absurd (hb _ _ h1) (Qn _)
    ·exact h n n' c h1 h2
   ·rcases Wo.mp hm with e | hm
    ·cases e; exact Nat.lt_succ_self _
    ·exact Nat.lt_succ_of_lt (hb _ _ hm)
  ·rw[if_neg hk];exact uw r k acc h hb
theorem mi{env:Env}{x:Str}:∀ {names:List (Str×NameKind)} {k:NameKind},
  (names.map λ(y:Str×NameKind)=>if (y.2 == NameKind.free && env.scope.kind == .function && env.kindOf y.1 == some .cell) then(y.1,NameKind.cell) else(y.1,y.2)).lookup x=some k ->
  names.lookup x=some k\/(k=NameKind.cell/\names.lookup x=some .free)
 | [],_,h=>by simp at h
 | (n,kd) :: r,k,h=>by
  rw[Wd] at h;have ih:=@mi env x r k
  cases hx:x == n with
  | true =>
   by_cases hc:(kd == NameKind.free && env.scope.kind == .function && env.kindOf n == some .cell)=true
   ·rw[if_pos hc,Qm,hx] at h
    cases h;simp only[Wt] at hc;have:kd=NameKind.free:=by simpa using hc.1.1
    exact .inr ⟨rfl,by rw[Qm,hx,this]⟩
   ·rw[if_neg hc,Qm,hx] at h
    cases h;exact .inl (by rw[Qm,hx])
  | false =>
   have h':(r.map λ(y:Str×NameKind)=>if (y.2 == NameKind.free && env.scope.kind == .function && env.kindOf y.1 == some .cell) then(y.1,NameKind.cell) else(y.1,y.2)).lookup x=some k:=by
    by_cases hc:(kd == NameKind.free && env.scope.kind == .function && env.kindOf n == some .cell)=true
    ·rw[if_pos hc,Qm,hx] at h; exact h
    ·rw[if_neg hc,Qm,hx] at h; exact h
   rw[Qm,hx];exact ih h'
def eC(X:Cx)(scope:Scope)(s₀:W2)(H₀:Hp)(ex:List Addr):Cx :=
 { X with
  env:={ scope:=relabel scope X.env,locals:=s₀.heap.objs.size,globals:=X.env.globals,cells:=QK (s₀.heap.objs.size + 1) scope.names (fQ X.env.cells scope.names []),qual:=X.env.qual,func:=none,code:=X.env.code,frame:=X.env.frame,builtins:=X.env.builtins }
  s₀:=s₀
  H₀:=H₀
  outer:=X.stack
  ex:=ex
  fn:=λx=>scope.names.lookup x == some .cell
  pn:=[]
  xe:=λ_ _=>False }
structure lh(X:Cx)(scope:Scope)(cs:List Nat):Prop where
 kind:scope.kind = .function
 names:∀ x ∈ scope.names,x.2 = .local->scope.names.lookup x.1=some .local
 free:∀ x ∈ scope.names,x.2 = .free->X.env.kindOf x.1=some .cell\/X.env.kindOf x.1=some .free
 nd:(scope.names.map (·.1)).Nodup
 own:∀ (i:Nat) x,X.N[i]? = some x->scope.names.lookup x=some .local\/scope.names.lookup x=some .cell->i ∈ cs
def bL(cs:List Nat)(σ:St):St:=cs.foldl (λσ i=>σ.set i none) σ
theorem qX(cs:List Nat):∀ σ:St,(bL cs σ).length=σ.length:=by
 induction cs with
 | nil=>intro σ; rfl
 | cons i r ih =>
  intro σ;show(bL r (σ.set i none)).length=_;rw[ih]; simp
theorem lj:∀ (cs:List Nat) (σ:St) (i:Nat) (v:V),(bL cs σ)[i]? = some (some v)->σ[i]? = some (some v)/\i ∉ cs:=by
 intro cs;induction cs with
 | nil=>intro σ i v h; exact⟨h,by simp⟩
 | cons j r ih =>
  intro σ i v h;have h':(bL r (σ.set j none))[i]? = some (some v):=h;obtain⟨h1,h2⟩:=ih _ i v h';by_cases e:j=i
  ·subst e;rw[Q3] at h1;simp at h1
  ·rw[W5 e] at h1;exact⟨h1,by simp only[Wo,not_or]; exact⟨Ne.symm e,h2⟩⟩
theorem ux:∀ {l:List (Str×α)},(l.map (·.1)).Nodup->(x,k) ∈ l->(x,k') ∈ l->k=k'
 | (y,j) :: r,nd,h1,h2=>by
  rw[Wd,WL] at nd;rcases Wo.mp h1 with e | g1 <;> rcases Wo.mp h2 with e' | g2
  ·cases e; cases e'; rfl
  ·cases e; exact absurd (Wy (f:=(·.1)) g2) nd.1
  ·cases e'; exact absurd (Wy (f:=(·.1)) g1) nd.1
  ·exact ux nd.2 g1 g2
section
variable {X:Cx} {pins:List (Addr×Obj)} {σ:St} {H:Hp} {s:W2} {scope:Scope} {cs:List Nat} {fp:List Addr}
theorem G9(I:Inv X pins σ H s)(S:lh X scope cs)(hf:∀ b ∈ fp,gJ X pins H b)(bu:∀ b ∈ fp,b < s.heap.objs.size) :
  Inv (eC X scope s H fp) [] (bL cs σ) H { s with heap:=JH (s.heap.push { cls:=.type "dict",data:=.dict #[] }) scope.names }:=by
 have sz:(s.heap.push { cls:=.type "dict",data:=.dict #[] }).objs.size=s.heap.objs.size + 1:=Qr ..;have kp:∀ b o,s.heap.get? b=some o->(JH (s.heap.push { cls:=.type "dict",data:=.dict #[] }) scope.names).get? b=some o:=λb o e=>pushCells_keeps _ _ b o (W8 _ e)
 have qY:∀ n c,(n,c) ∈ fQ X.env.cells scope.names []->(n,NameKind.free) ∈ scope.names/\X.env.cells.lookup n=some c:=λn c h=>(zt _ _ h).elim (λz=>absurd z (by simp)) id
 have G_:∀ n c,(n,c) ∈ fQ X.env.cells scope.names []->c < s.heap.objs.size:=λn c h=>by
  obtain⟨v,q⟩:=I.cell n c (qY n c h).2;exact q.lt
 have pq:∀ n c,(n,c) ∈ QK (s.heap.objs.size + 1) scope.names (fQ X.env.cells scope.names []) ->
   ((n,NameKind.free) ∈ scope.names/\X.env.cells.lookup n=some c)\/((n,NameKind.cell) ∈ scope.names/\s.heap.objs.size + 1<=c/\(JH (s.heap.push { cls:=.type "dict",data:=.dict #[] }) scope.names).IsCell c none):=λn c h=>by
  rw[<- sz] at h;rcases uv _ _ _ h with q | q
  ·exact .inl (qY n c q)
  ·rw[sz] at q; exact .inr q
 have Ha:=uw scope.names (s.heap.objs.size + 1) (fQ X.env.cells scope.names []) (λn n' c h1 h2=>I.ok.inj n n' c (qY n c h1).2 (qY n' c h2).2) (λn c h=>Nat.lt_succ_of_lt (G_ n c h));have pw:∀ x ∈ scope.names,x.2 = .free->∃ c,X.env.cells.lookup x.1=some c:=λx hx hk=>I.ok.has x.1 (S.free x hx hk)
 have Hb:∀ b ∈ fp,b ∉ ik X.stack:=λb hb z=>by
  obtain⟨_,f1,f2,_⟩:=hf b hb;rcases Wo.mp (I.tN b z) with e | e
  ·exact f1 e
  ·exact f2 e
 have Hc:∀ x,(eC X scope s H fp).env.kindOf x=some .cell\/(eC X scope s H fp).env.kindOf x=some .free->scope.names.lookup x=some .cell\/scope.names.lookup x=some .free:=λx h=>by
  rcases h with h | h
  ·have h':(relabel scope X.env).names.lookup x=some .cell:=h;rcases mi (env:=X.env) (names:=scope.names) h' with q | ⟨_,q⟩
   ·exact .inl q
   ·exact .inr q
  ·have h':(relabel scope X.env).names.lookup x=some .free:=h;rcases mi (env:=X.env) (names:=scope.names) h' with q | ⟨q,_⟩
   ·exact .inr q
   ·cases q
 have zv:∀ x,scope.names.lookup x=some .cell\/scope.names.lookup x=some .free->∃ c,(QK (s.heap.objs.size + 1) scope.names (fQ X.env.cells scope.names [])).lookup x=some c:=λx h=>by
  refine Qf.mp (PySem.W.cellsFrom_some scope.names _ _ ?_);rcases h with h | h
  ·exact .inl h
  ·refine .inr (zu _ _ (.inr ⟨WC h,?_⟩));obtain⟨c,hc⟩:=pw _ (WC h) rfl;exact Option.isSome_iff_exists.mpr ⟨c,hc⟩
 have Hd:(JH (s.heap.push { cls:=.type "dict",data:=.dict #[] }) scope.names).Ns s.heap.objs.size λ_=>none:=(Heap.Ns.new s.heap (.type "dict")).keeps (pushCells_keeps _ _)
 refine⟨⟨I.ok.mod,S.kind,I.ok.glob,I.ok.blt,Wk _,λy z c h1 h2=>Ha y z c (WC h1) (WC h2),λx hx=>zv x (Hc x hx),λx c oQ h=>?_,I.ok.hd,I.ok.frames,.inl rfl,
  λb hb=>⟨WW (bu b hb),λx c h e=>?_⟩,I.bs,Qo I.ok.kP I.sz,λb o e hb=>?_,Hb,I.stack,I.ya⟩,
  rfl,I.bare,Un.kept kp,⟨λ_=>none,Hd,λi x v h1 h2 h3=>?_⟩,λx c h=>?_,I.aC.fresh (Wk _),λx c h=>?_,λp hp=>absurd (show p ∈ ([]:List (Addr×Obj)) from hp) (by simp),I.aC.kept kp,(qX cs σ).trans I.len⟩
 ·rcases pq x c (WC h) with q | q
  ·have He:scope.names.lookup x=some .cell:=by
    have:(scope.names.lookup x == some .cell)=true:=oQ;exact eq_of_beq this
   have:=ux S.nd q.1 (WC He)
   cases this
  ·exact Nat.le_of_succ_le q.2.1
 ·subst e;rcases pq x c (WC h) with q | q
  ·exact(hf c hb).2.2.2.2.1 x c q.2 rfl
  ·exact absurd (WF (bu c hb) (Nat.le_of_succ_le q.2.1)) (Qn _)
 ·obtain⟨_,_,_,f3,_⟩:=hf b hb;rcases f3 with z | z
  ·exact I.ok.oN b o e z
  ·exact absurd (WF (Wp (I.ok.bs b o e).1) z) (Qn _)
 ·obtain⟨mj,hni⟩:=lj cs σ i v h2;have zw:¬ (scope.names.lookup x=some .local\/scope.names.lookup x=some .cell):=λz=>hni (S.own i x h1 z)
  have l6:scope.names.lookup x=some .free:=by
   rcases h3 with h3 | h3 | h3
   ·rcases mi (env:=X.env) (names:=scope.names) h3 with q | ⟨q,_⟩
    ·exact absurd (.inl q) zw
    ·cases q
   ·rcases mi (env:=X.env) (names:=scope.names) h3 with q | ⟨_,q⟩
    ·exact absurd (.inr q) zw
    ·exact q
   ·rcases mi (env:=X.env) (names:=scope.names) h3 with q | ⟨q,_⟩
    ·exact q
    ·cases q
  have hk:=S.free _ (WC l6) rfl;obtain⟨m,hn,hl⟩:=I.loc;have Hf:qt X.env.scope x:=by
   rcases hk with hk | hk
   ·exact .inr (.inl hk)
   ·exact .inr (.inr hk)
  obtain⟨u,r,l⟩:=hl i x v h1 mj Hf;refine⟨u,r,?_⟩;rcases l with ⟨k,_⟩ | ⟨_,c,hc,hcell⟩
  ·have k':X.env.kindOf x=some .local:=k;rcases hk with hk | hk
   ·rw[show X.env.kindOf x=some .cell from hk] at k'; cases k'
   ·rw[show X.env.kindOf x=some .free from hk] at k'; cases k'
  ·obtain⟨c',fN⟩:=zv x (.inr l6);have e:c'=c:=by
    rcases pq x c' (WC fN) with q | q
    ·have q2:=q.2;rw[hc] at q2; exact(Wx q2).symm
    ·have:=ux S.nd q.1 (WC l6)
     cases this
   subst e;refine .inr ⟨?_,c',fN,hcell.keeps kp⟩;rcases h3 with h3 | h3 | h3
   ·rcases mi (env:=X.env) (names:=scope.names) h3 with q | ⟨q,_⟩
    ·rw[l6] at q; cases q
    ·cases q
   ·exact .inl h3
   ·exact .inr h3
 ·rcases pq x c (WC h) with q | q
  ·obtain⟨v,z⟩:=I.cell x c q.2;exact⟨v,z.keeps kp⟩
  ·exact⟨none,q.2.2⟩
 ·rcases pq x c (WC h) with q | q
  ·exact I.jj x c q.2
  ·exact I.aC.fresh (Nat.le_of_succ_le q.2.1)
end
abbrev km:Value->W2->Prop:=λ_ _=>False
def zy(ifs:List Expr)(env:Env):Sem Bool:=forIn ifs true λc r=>if r=true then do let ok <- isTrue c env (eval c env); pure (ForInStep.yield ok) else pure (ForInStep.yield r)
theorem Hg(I:Nat->W2->Prop)
  (turn:∀ n s,I n s->W7 (model prog w) A (Qu it) (λr s₁=>match r with
   | none=>R (.ok .next) s₁
   | some v=>W7 (model prog w) A (letOwnedTupleGo target it v) (λ_ zz=>W7 (model prog w) A (assign target env v) (λ_ s₂ =>
     W7 (model prog w) A (zy ifs env) (λok s₃ =>
      if ok=true then W7 (model prog w) A (eval elt env) (λx s₄ =>
       W7 (model prog w) A (call (.builtin "list.append") [acc,x]) (λ_ s₅=>∃ m,m < n/\I m s₅) km s₄) km s₃
      else ∃ m,m < n/\I m s₃) km s₂) km zz) km s₁) km s)
  (n:Nat) (h:I n s) :
  Jw (model prog w) A (.compLoop (.ListComp elt [⟨target,iter,ifs,0⟩] scope pos) 0 it acc env) R s:=by
 refine codeAny_loop rfl I (λn s hI=>?_) n h;show W7 _ A ((compTurn (.ListComp elt [⟨target,iter,ifs,0⟩] scope pos) 0 it acc env).onRaise (λx=>do noteFrame x env; theTreesLotGoes x)) _ _ s;refine wpAny_noted ?_;rw[compTurn_list];refine W0 (wpAny_standAt (W0 (QB (turn n s hI) (λr s₁ h₁=>?_) λ_ _ h'=>h'.elim)))
 cases r with
 | none=>exact W1 h₁
 | some v =>
  refine W0 (QB h₁ (λ_ zz Hh=>?_) λ_ _ h'=>h'.elim);refine W0 (QB Hh (λ_ s₂ h₂=>W0 (QB h₂ (λok s₃ h₃=>?_) λ_ _ h'=>h'.elim)) λ_ _ h'=>h'.elim)
  cases ok with
  | false=>exact W1 ⟨rfl,h₃⟩
  | true =>
   exact W0 (W0 (QB h₃ (λx s₄ h₄=>W0 (QB h₄ (λ_ s₅ h₅=>W1 (W1 ⟨rfl,h₅⟩)) λ_ _ h'=>h'.elim)) λ_ _ h'=>h'.elim))
theorem Hi
  (h:Q { scope,locals:=s.heap.objs.size,globals,cells:=QK (s.heap.objs.size + 1) scope.names cl,qual,func:=none,code:=env.code,frame:=env.frame,builtins:=env.builtins }
   { s with heap:=JH (s.heap.push { cls:=.type "dict",data:=.dict #[] }) scope.names }):W7 M A (newFunctionEnv scope globals cl [] qual none .none (some env)) Q E s:=by
 simp only[newFunctionEnv,Option.isSome_some,if_true];refine W0 (wpAny_alloc ?_);refine W0 (wpAny_layCells _ (λname kind cells=>by cases hkc:kind == NameKind.cell <;> simp[hkc]) _ _ _ _ ?_);rw[show({ s with heap:=s.heap.push { cls:=.type "dict",data:=.dict #[] } }:W2).heap.objs.size=s.heap.objs.size + 1 from Qr ..];exact W0 (W1 (W1 h))
def nh(X:Cx)(ifs:List Expr)(t:TT):Prop :=
 ∀ (pins:List (Addr×Obj)) (s:W2) (σ:St) (H:Hp) (Q:Bool->Hp->Prop),Inv X pins σ H s->t σ H Q->W7 (model X.prog X.w) X.A (zy ifs X.env) (TP X pins σ Q) X.xe s
def Hj:TT:=λ_ H Q=>Q true H
theorem Hk:nh X [] Hj:=λpins s σ H Q I h=>wpAny_tests_nil ⟨H,I,h⟩
theorem Hl(h:PT X c t):nh X [c] t:=λpins s σ H Q I q=>wpAny_tests_one (h pins s σ H Q I q)
def Le(σ σ':St):Prop:=σ'.length=σ.length/\∀ (i:Nat) (v:V),σ[i]? = some (some v)->σ'[i]? = some (some v)
def zA(cs:List Nat)(g:TG)(tt:TT)(te:TE)(σ:St)(Q:VK)(J:It)(H1:Hp):Prop :=
 ∀ l,H1 l=none->∃ W:Nat->Nat->Hp->Prop,(∃ m,W 0 m (upd H1 l (.lst [])))/\∀ i m H2,W i m H2 ->
  (J.stop i H2/\Q (.ref l) H2) \/
  (J.go i H2/\∀ x H3,J.oS i H2 x H3->g x (bL cs σ) H3 λσ4 H4=>Le (bL cs σ) σ4/\tt σ4 H4 λb H5 =>
   if b=true then te σ4 H5 λv H6=>∃ ys m',H6 l=some (.lst ys)/\ys.length < W9/\m' < m/\W (i + 1) m' (upd H6 l (.lst (ys ++ [v]))) else ∃ m',m' < m/\W (i + 1) m' H5)
def qZ(cs:List Nat)(wi:TI)(g:TG)(tt:TT)(te:TE):TE:=λσ H Q=>wi σ H λJ H1=>zA cs g tt te σ Q J H1
section
variable {X:Cx} {pins:List (Addr×Obj)} {σ:St} {H:Hp} {s:W2} {scope:Scope} {cs:List Nat} {elt tg iter:Expr} {ifs:List Expr} {pos:Pos} {g:TG} {tt:TT} {te:TE}
theorem zC{it:Addr}{fp:List Addr}{tn:Nat->Heap->Prop}{J:It}{Q:VK}{E:Value->W2->Prop}{RR:Value->Addr->Result->W2->Prop}(hc:X.calm=true)(I:Inv X pins σ H s)(S:lh X scope cs)
  (T:Turn X.prog X.w X.K tg J fp it tn) (st:tn 0 s.heap) (hf:∀ b ∈ fp,gJ X pins H b)
  (hg:∀ s₀ H₀ ex,PG (eC X scope s₀ H₀ ex) tg g) (ht:∀ s₀ H₀ ex,nh (eC X scope s₀ H₀ ex) ifs tt) (he:∀ s₀ H₀ ex,PE (eC X scope s₀ H₀ ex) elt te) (q:zA cs g tt te σ Q J H)
  (Hm:∀ l C s' H',Inv X pins σ H' s'->gJ X pins H' C->(∃ m,s'.heap.Ns C m)->Q (.ref l) H'->RR (.ref l) C (.ok .next) s') :
  W7 (model X.prog X.w) X.A (newList []) (λacc s₃=>W7 (model X.prog X.w) X.A (newFunctionEnv scope X.env.globals (fQ X.env.cells scope.names []) [] X.env.qual none .none (some X.env)) (λzD s₄ =>
   Jw (model X.prog X.w) X.A (.compStart (.ListComp elt [⟨tg,iter,ifs,0⟩] scope pos) 0 (.ref it) acc { zD with scope:=relabel scope X.env }) (RR acc zD.locals) s₄) E s₃) E s:=by
 refine WK ?_;have jr:H s.heap.objs.size=none:=I.aC.fresh (Wk _);obtain⟨W,⟨m0,w0⟩,turn⟩:=q s.heap.objs.size jr;generalize hl:s.heap.objs.size=l at *;have I3:Inv X pins σ (upd H l (.lst [])) { s with heap:=s.heap.push { cls:=.type "list",dict:=none,data:=.seq ([]:List Value).toArray } } :=
  I.laid (t':=s.toks) (λb u e=>W8 _ e) (Nat.le_of_eq hl) ⟨Qc _,[],0,.nil,by rw[<- hl]; exact Wg _ rfl⟩
 have Hn:∀ b o,s.heap.get? b=some o->(s.heap.push { cls:=.type "list",dict:=none,data:=.seq ([]:List Value).toArray }).get? b=some o:=λb o e=>W8 _ e
 have jS:∀ b ∈ fp,b≠l:=λb hb e=>by
  obtain⟨o,ho,_⟩:=T.obj 0 _ st b hb;exact absurd (Wp ho) (by rw[e,hl]; exact Qn _)
 have uy:∀ b ∈ fp,gJ X pins (upd H l (.lst [])) b:=λb hb=>⟨by rw[ba (jS b hb)]; exact(hf b hb).1,(hf b hb).2⟩
 have kT:tn 0 (s.heap.push { cls:=.type "list",dict:=none,data:=.seq ([]:List Value).toArray }):=T.keep 0 _ _ st λb _ o e=>Hn b o e
 generalize hs3:({ s with heap:=s.heap.push { cls:=.type "list",dict:=none,data:=.seq ([]:List Value).toArray } }:W2)=s3 at I3;have zE:tn 0 s3.heap:=by rw[<- hs3]; exact kT
 have Ho:∀ b ∈ fp,b < s3.heap.objs.size:=λb hb=>by
  obtain⟨o,ho,_⟩:=T.obj 0 _ zE b hb;exact Wp ho
 refine Hi ?_;have I4:=G9 I3 S uy Ho;generalize hX:eC X scope s3 (upd H l (.lst [])) fp=X' at I4;generalize hs4:({ s3 with heap:=JH (s3.heap.push { cls:=.type "dict",data:=.dict #[] }) scope.names }:W2)=s4 at I4 ⊢;have q_:=hg s3 (upd H l (.lst [])) fp;have rd:=ht s3 (upd H l (.lst [])) fp;have rf:=he s3 (upd H l (.lst [])) fp;rw[hX] at q_ rd rf;have zF:tn 0 s4.heap:=T.keep 0 _ _ zE λb _ o e=>by rw[<- hs4]; exact pushCells_keeps _ _ b o (W8 _ e)
 have hP:X'.prog=X.prog:=by rw[<- hX]; rfl
 have hw:X'.w=X.w:=by rw[<- hX]; rfl
 have hA:X'.A=X.A:=by rw[<- hX]; rfl
 have hK:X'.K=X.K:=by rw[<- hX]; rfl
 have fN:X'.calm=true:=by rw[<- hX]; exact hc
 have rg:X'.xe=km:=by rw[<- hX]; rfl
 have zG:X'.env.locals=s3.heap.objs.size:=by rw[<- hX]; rfl
 have Hq:({ scope:=relabel scope X.env,locals:=s3.heap.objs.size,globals:=X.env.globals,cells:=QK (s3.heap.objs.size + 1) scope.names (fQ X.env.cells scope.names []),qual:=X.env.qual,func:=none,code:=X.env.code,frame:=X.env.frame,builtins:=X.env.builtins }:Env)=X'.env:=by rw[<- hX]; rfl
 have uz:∀ {H':Hp},(∀ b ∈ fp,H' b=none)->∀ b ∈ fp,gJ X' [] H' b:=λ{H'} hn b hb=>by
  have ex:X'.ex=fp:=by rw[<- hX]; rfl
  have pn:X'.pn=[]:=by rw[<- hX]; rfl
  refine⟨hn b hb,(I4.ok.qv b (by rw[ex]; exact hb)).1,I4.ok.oO b (by rw[ex]; exact hb),.inl (by rw[ex]; exact hb),(I4.ok.qv b (by rw[ex]; exact hb)).2,λp hp=>?_⟩;rw[pn] at hp;simp at hp
 show Jw (model X.prog X.w) X.A (.compStart (.ListComp elt [⟨tg,iter,ifs,0⟩] scope pos) 0 (.ref it) (.ref l) ({ scope:=relabel scope X.env,locals:=s3.heap.objs.size,globals:=X.env.globals,cells:=QK (s3.heap.objs.size + 1) scope.names (fQ X.env.cells scope.names []),qual:=X.env.qual,func:=none,code:=X.env.code,frame:=X.env.frame,builtins:=X.env.builtins }:Env)) (RR (.ref l) s3.heap.objs.size) s4;rw[Hq];have loop:Jw (model X.prog X.w) X.A (.compLoop (.ListComp elt [⟨tg,iter,ifs,0⟩] scope pos) 0 (.ref it) (.ref l) X'.env) (RR (.ref l) s3.heap.objs.size) s4:=by
  refine Hg (λn s'=>∃ i H',Inv X' [] (bL cs σ) H' s'/\tn i s'.heap/\(∀ b ∈ fp,H' b=none)/\W i n H') ?_ m0 ⟨0,_,I4,zF,λb hb=>(uy b hb).1,w0⟩;rintro n s5 ⟨i,H5,I5,st5,fr5,w5⟩;rcases turn i n H5 w5 with ⟨stop,qn⟩ | ⟨go,step⟩
  ·have:=T.done X' hP hw hK fN i [] s5 (bL cs σ) H5 km I5 (uz fr5) st5 stop;rw[hA] at this;refine a_ this λr s6 ⟨hr,I6⟩=>?_
   subst hr;have b6:=I6.base;have e1:X'.fs=ik X.stack:=by rw[<- hX]; rfl
   have e2:X'.ex=fp:=by rw[<- hX]; rfl
   have e3:X'.H₀=upd H l (.lst []):=by rw[<- hX]; rfl
   have e4:X'.s₀=s3:=by rw[<- hX]; rfl
   rw[e1,e2,e3,e4] at b6;have o6:s6.os=s3.os:=by rw[<- e4]; exact I6.os
   have Hr:cD X.prog X.w H5 s6.heap:=by rw[<- hP,<- hw]; exact I6.aC
   have J6:Inv X pins σ H5 s6:=I3.Ew o6 b6 Hr I6.bare λb hb=>by
    obtain⟨_,f1,_,f3,f4,f5⟩:=uy b hb;exact⟨f3,f1,f4,f5⟩
   obtain⟨m6,n6,_⟩:=I6.loc;rw[zG] at n6;refine Hm l s3.heap.objs.size s6 H5 J6 (I3.jP (Wk _) ?_) ⟨m6,n6⟩ qn;rw[<- zG];exact I6.free
  ·have:=T.item X' hP hw hK fN i [] s5 (bL cs σ) H5 km I5 (uz fr5) st5 go;rw[hA] at this;refine a_ this λr s6 ⟨u,hr,h6⟩=>?_
   subst hr;refine a_ h6 λ_ s7 ⟨x,H7,I7,r7,y7,st7,fr7⟩=>?_
   have Ht:=I7.pinned (uz fr7) (T.obj _ _ st7);have a8:=q_ _ s7 (bL cs σ) H7 x u _ Ht r7 (step x H7 y7);rw[hP,hw,hA,rg] at a8;refine a_ a8 λ_ s8 ⟨σ8,H8,I8,le8,q8⟩=>?_
   have a9:=rd _ s8 σ8 H8 _ I8 q8;rw[hP,hw,hA,rg] at a9;refine a_ a9 λok s9 ⟨H9,I9,q9⟩=>?_
   have back:∀ {H':Hp} {s':W2},Inv X' ([] ++ oU fp s7.heap) σ8 H' s'->Inv X' [] (bL cs σ) H' s'/\tn (i + 1) s'.heap/\∀ b ∈ fp,H' b=none:=λ{H' s'} J=>by
    refine⟨J.qH.weak (le8.1.symm) le8.2,T.keep _ _ _ st7 λb hb o e=>(J.pin (b,o) (Q0 _ (Q0 _ (qG hb e)))).1,λb hb=>?_⟩;obtain⟨o,e,d⟩:=T.obj _ _ st7 b hb;exact(J.pin (b,o) (Q0 _ (Q0 _ (qG hb e)))).2.1
   cases ok with
   | false =>
    rw[if_neg Wv] at q9 ⊢;obtain⟨m',hm,w9⟩:=q9;obtain⟨b1,b2,b3⟩:=back I9;exact⟨m',hm,i + 1,H9,b1,b2,b3,w9⟩
   | true =>
    rw[if_pos rfl] at q9 ⊢;have zH:=rf _ s9 σ8 H9 _ I9 q9;rw[hP,hw,hA,rg] at zH;refine a_ zH λx10 iW ⟨v,H10,I10,r10,ys,m',hy,hz,hm,w10⟩=>?_
    have zI:=ug (X:=X') _ iW σ8 H10 (.ref l) [v] (.ref l) [x10] (λ_ H'=>W (i + 1) m' H') I10 rfl (.cons r10 .nil) ⟨l,ys,v,rfl,rfl,hy,hz,w10⟩;rw[hP,hw,hA,rg] at zI;refine a_ zI λ_ s11 ⟨_,H11,I11,_,w11⟩=>?_
    obtain⟨b1,b2,b3⟩:=back I11;exact⟨m',hm,i + 1,H11,b1,b2,b3,w11⟩
 exact codeAny_compStart_list loop (T.self X.A 0 s4 _ _ zF loop)
theorem zJ(hc:X.calm=true)(S:lh X scope cs)(hi:PI X tg iter wi)(hg:∀ s₀ H₀ ex,PG (eC X scope s₀ H₀ ex) tg g)(ht:∀ s₀ H₀ ex,nh (eC X scope s₀ H₀ ex) ifs tt)(he:∀ s₀ H₀ ex,PE (eC X scope s₀ H₀ ex) elt te)
  (hs:∀ x,QD iter X.env x=pure x:=by intro _; rfl):PE X (.ListComp elt [⟨tg,iter,ifs,0⟩] scope pos) (qZ cs wi g tt te):=by
 intro pins s σ H Q I h;have pw:∀ x ∈ scope.names,x.2 = .free->∃ c,X.env.cells.lookup x.1=some c:=λx hx hk=>I.ok.has x.1 (S.free x hx hk)
 rw[eval_ListComp];refine wpAny_comprehension_free (use:=none) rfl hs (zr pw) S.kind S.names (a_ (hi pins s σ H _ I h) λxv s1 h1=>a_ h1 λqD s2 h2=>?_);obtain⟨it,fp,tn,J,H2,e,I2,T,st2,f2,q2⟩:=h2;subst e;refine zC (RR:=λacc C=>compPost (model X.prog X.w) X.A X.xe none (EP X pins σ Q) acc C) hc I2 S T st2 f2 hg ht he q2 ?_;intro l C s' H' I' fC ⟨m,n⟩ q;exact⟨m,n,λh' ni=>⟨.ref l,H',I'.turned (t':=s'.toks) (λb o hb e=>(ni.2 b hb).trans e) fC.1 fC.2.1 fC.2.2.2.1 fC.2.2.2.2.1 fC.2.2.2.2.2,rfl,q⟩⟩
theorem Hu(hc:X.calm=true)(S:lh X scope cs)(hN:X.N.Nodup)(gr:X.N[i]? = some y)(hy:X.env.scope.names.lookup y=some .local)
  (hi:PI X tg iter wi) (hg:∀ s₀ H₀ ex,PG (eC X scope s₀ H₀ ex) tg g) (ht:∀ s₀ H₀ ex,nh (eC X scope s₀ H₀ ex) ifs tt) (he:∀ s₀ H₀ ex,PE (eC X scope s₀ H₀ ex) elt te)
  (px:Jg (.ListComp elt [⟨tg,iter,ifs,0⟩] scope pos) (some (.Name y py)) rh.line X.env=pure true:=by rfl)
  (hs:∀ x,QD iter X.env x=pure x:=by intro _; rfl):PS X (.Assign [.Name y py] (.ListComp elt [⟨tg,iter,ifs,0⟩] scope pos) rh) (qC (qZ cs wi g tt te) (mX i)):=by
 intro pins s σ H D I h;have pw:∀ x ∈ scope.names,x.2 = .free->∃ c,X.env.cells.lookup x.1=some c:=λx hx hk=>I.ok.has x.1 (S.free x hx hk)
 rw[exec_Assign_Name_used _ _ _ _ px];refine W0 (wpAny_standAt (W0 ?_));show W7 _ X.A (do let _ <- comprehension (.ListComp elt [⟨tg,iter,ifs,0⟩] scope pos) scope X.env _ (newList []) false (eval iter X.env) (some (assign (.Name y py) X.env))) _ _ s;refine W0 (QB (wpAny_comprehension_free (use:=some (assign (.Name y py) X.env)) (Q:=λ_ s'=>SP X pins D .next s') rfl hs (zr pw) S.kind S.names
  (a_ (hi pins s σ H _ I h) λxv s1 h1=>a_ h1 λqD s2 h2=>?_)) (λ_ s' hq=>W1 (W1 hq)) λ_ _ e=>e)
 obtain⟨it,fp,tn,J,H2,e,I2,T,st2,f2,q2⟩:=h2;subst e;refine zC (RR:=λacc C=>compPost (model X.prog X.w) X.A X.xe (some (assign (.Name y py) X.env)) (λ_ s'=>SP X pins D .next s') acc C) hc I2 S T st2 f2 hg ht he q2 ?_;intro l C s' H' I' fC ⟨m,n⟩ q;show W7 _ X.A (assign (.Name y py) X.env (.ref l)) _ _ _;refine wpAny_assign_Name (yf I' hN gr (.inl hy) (v:=.ref l) rfl (λoX I'' ⟨a,hsb,ha⟩=>?_) (.inr hy));have cn:C≠a:=by
  rcases ha with rfl | ha
  ·exact fC.2.1
  ·exactλe=>fC.2.2.2.2.1 y a ha e.symm
 refine⟨m,n.sameBut hsb cn,λh' ni=>⟨_,H',I''.turned (t':=oX.toks) (λb o hb e=>(ni.2 b hb).trans e) fC.1 fC.2.1 fC.2.2.2.1 fC.2.2.2.2.1 fC.2.2.2.2.2,q⟩⟩
end
end L2
set_option maxHeartbeats 4000000
namespace DV
open PySem PySem.Spec PyProof.Rows L2
abbrev Tx:=List Nat
def toS(x:Tx):Str:=⟨x.toArray⟩
theorem nj(x:Tx):(toS x).cps.toList=x:=by simp[toS]
theorem jT(x:Tx):(toS x).length=x.length:=by simp[toS,Str.length]
theorem rj(h:toS x=toS y):x=y:=by
 have:=congrArg (λz:Str=>z.cps.toList) h;simpa[toS] using this
theorem zK(z:Str):z=toS z.cps.toList:=by simp[toS]
abbrev cb:=Sum Int Tx
def dY:cb->Key
 | .inl i=>.inl i
 | .inr x=>.inr (toS x)
inductive D where
 | a7 | bl (b:Bool) | int (i:Int) | str (x:Tx) | tup (xs:List D) | lst (xs:List D) | bA (aa:List (cb×D)) | exc (n:Nat) (fl:D) | xd (fs:List (Tx×D)) | fn (a:Nat) | dic (aa:List (D×D))
mutual
def cz:Nat->D->Option NK
 | _,.int i=>some (.i i)
 | _,.bl b=>some (.i (if b then 1 else 0))
 | _,.str x=>some (.s (toS x))
 | n + 1,.tup xs=>(fR n xs).map .t
 | _,_=>none
def fR:Nat->List D->Option (List NK)
 | _,[]=>some []
 | n,x :: xs=>(cz n x).bind λk=>(fR n xs).map λks=>k :: ks
end
def excAt(C:Addr)(v:V)(a:Addr):Heap->Prop:=λh=>∃ o,h.get? a=some o/\o.cls = .ref C/\(∀ x,v = .ref x->o.dict=some x)/\∃ vs,o.data = .fields vs
def Hv(fs:List (Str×V))(x:Addr):Heap->Prop:=λh=>∃ mA,h.Ns1 x mA/\∀ f,fc (fs.lookup f) (mA f)
inductive S where
 | pure (d:D)
 | own (d:D)
def S.d:S->D
 | .pure d=>d
 | .own d=>d
abbrev Dl:=List (Option S)
abbrev St:=L2.St
inductive Rep (H:Hp) (O:Addr->Prop):V->D->Prop
 | a7:Rep H O .a7 .a7
 | bl (b:Bool):Rep H O (.bl b) (.bl b)
 | int (i:Int):Rep H O (.int i) (.int i)
 | str (x:Tx):Rep H O (.str (toS x)) (.str x)
 | tup {a:Addr} {vs:List V} {ds:List D}:¬ O a->H a=some (.tup vs)->vs.length=ds.length->(∀ (i:Nat) v d,vs[i]? = some v->ds[i]? = some d->Rep H O v d)->Rep H O (.ref a) (.tup ds)
 | lst {a:Addr} {vs:List V} {ds:List D}:¬ O a->Rd H a (.lst vs)->vs.length=ds.length->(∀ (i:Nat) v d,vs[i]? = some v->ds[i]? = some d->Rep H O v d)->Rep H O (.ref a) (.lst ds)
 | bA {a:Addr} {ws:List (Key×V)} {ds:List (cb×D)}:¬ O a->H a=some (.dK ws)->ws.map (·.1)=ds.map (λp=>dY p.1)->(∀ (i:Nat) p q,ws[i]? = some p->ds[i]? = some q->Rep H O p.2 q.2)->Rep H O (.ref a) (.bA ds)
 | exc {a:Addr} {n:Nat} {v:V} {fl:D}:¬ O a->H a=some (.ext (excAt n v a))->Rep H O v fl->Rep H O (.ref a) (.exc n fl)
 | xd {x:Addr} {fs:List (Str×V)} {ds:List (Tx×D)}:¬ O x->H x=some (.ext (Hv fs x))->fs.map (·.1)=ds.map (λp=>toS p.1)->(∀ (i:Nat) p q,fs[i]? = some p->ds[i]? = some q->Rep H O p.2 q.2)->Rep H O (.ref x) (.xd ds)
 | fn (a:Addr):Rep H O (.ref a) (.fn a)
 | dic {a:Addr} {ep:Nat} {ws:List (NK×V×V)} {ds:List (D×D)}:¬ O a->H a=some (.dN ep ws)->ws.length=ds.length->(∀ (i:Nat) p q,ws[i]? = some p->ds[i]? = some q->Rep H O p.2.1 q.1)->(∀ (i:Nat) p q,ws[i]? = some p->ds[i]? = some q->Rep H O p.2.2 q.2)->(∀ (i:Nat) p q,ws[i]? = some p->ds[i]? = some q->cz 6 q.1=some p.1)->Rep H O (.ref a) (.dic ds)
abbrev aD(H:Hp)(O:Addr->Prop)(vs:List V)(ds:List D):Prop:=vs.length=ds.length/\∀ (i:Nat) v d,vs[i]? = some v->ds[i]? = some d->Rep H O v d
structure DN(H:Hp)(O:Addr->Prop)(ws:List (NK×V×V))(ds:List (D×D)):Prop where
 len:ws.length=ds.length
 key:∀ (i:Nat) p q,ws[i]? = some p->ds[i]? = some q->Rep H O p.2.1 q.1
 val:∀ (i:Nat) p q,ws[i]? = some p->ds[i]? = some q->Rep H O p.2.2 q.2
 ml:∀ (i:Nat) p q,ws[i]? = some p->ds[i]? = some q->cz 6 q.1=some p.1
def fj(H:Hp)(O:Addr->Prop)(a:Addr):D->Prop
 | .lst ds=>∃ vs,H a=some (.lst vs)/\aD H O vs ds
 | .bA ds=>∃ ws:List (Key×V),H a=some (.dK ws)/\ws.map (·.1)=ds.map (λp=>dY p.1)/\∀ (i:Nat) p q,ws[i]? = some p->ds[i]? = some q->Rep H O p.2 q.2
 | .dic ds=>∃ (ep:Nat) (ws:List (NK×V×V)),H a=some (.dN ep ws)/\DN H O ws ds
 | _=>False
section
variable {H H':Hp} {O O':Addr->Prop} {v:V} {d:D} {vs:List V} {ds:List D} {a:Addr}
theorem Rd.keep(h:Rd H a u)(k:∀ o,H a=some o->H' a=some o):Rd H' a u:=by
 rcases h with h | ⟨o,h⟩
 ·exact .inl (k _ h)
 ·exact .inr ⟨o,k _ h⟩
theorem Rd.some(h:Rd H a u):∃ o,H a=some o:=by
 rcases h with h | ⟨o,h⟩
 ·exact⟨_,h⟩
 ·exact⟨_,h⟩
theorem Rep.keep(h:Rep H O v d)(k:∀ a o,H a=some o->¬ O a->H' a=some o):Rep H' O v d:=by
 induction h with
 | a7=>exact .a7
 | bl b=>exact .bl b
 | int i=>exact .int i
 | str x=>exact .str x
 | tup h1 h2 h3 _ ih=>exact .tup h1 (k _ _ h2 h1) h3 ih
 | lst h1 h2 h3 _ ih=>exact .lst h1 (Rd.keep h2 λo e=>k _ o e h1) h3 ih
 | bA h1 h2 h3 _ ih=>exact .bA h1 (k _ _ h2 h1) h3 ih
 | exc h1 h2 _ ih=>exact .exc h1 (k _ _ h2 h1) ih
 | xd h1 h2 h3 _ ih=>exact .xd h1 (k _ _ h2 h1) h3 ih
 | fn a=>exact .fn a
 | dic h1 h2 h3 _ _ h6 ih ih'=>exact .dic h1 (k _ _ h2 h1) h3 ih ih' h6
theorem Rep.aJ(h:Rep H O v d)(k:∀ a,O' a->O a\/H a=none):Rep H O' v d:=by
 have no:∀ {a:Addr} {u:HO},¬ O a->Rd H a u->¬ O' a:=λ{a u} h1 h2 z=>by
  rcases k a z with q | q
  ·exact h1 q
  ·obtain⟨o,e⟩:=Rd.some h2;rw[q] at e; cases e
 induction h with
 | a7=>exact .a7
 | bl b=>exact .bl b
 | int i=>exact .int i
 | str x=>exact .str x
 | tup h1 h2 h3 _ ih=>exact .tup (no h1 (.inl h2)) h2 h3 ih
 | lst h1 h2 h3 _ ih=>exact .lst (no h1 h2) h2 h3 ih
 | bA h1 h2 h3 _ ih=>exact .bA (no h1 (.inl h2)) h2 h3 ih
 | exc h1 h2 _ ih=>exact .exc (no h1 (.inl h2)) h2 ih
 | xd h1 h2 h3 _ ih=>exact .xd (no h1 (.inl h2)) h2 h3 ih
 | fn a=>exact .fn a
 | dic h1 h2 h3 _ _ h6 ih ih'=>exact .dic (no h1 (.inl h2)) h2 h3 ih ih' h6
theorem DN.keep{ws:List (NK×V×V)}{ds:List (D×D)}(h:DN H O ws ds)(k:∀ a o,H a=some o->¬ O a->H' a=some o):DN H' O ws ds:=⟨h.len,λi p q e1 e2=>(h.key i p q e1 e2).keep k,λi p q e1 e2=>(h.val i p q e1 e2).keep k,h.ml⟩
theorem DN.aJ{ws:List (NK×V×V)}{ds:List (D×D)}(h:DN H O ws ds)(k:∀ a,O' a->O a\/H a=none):DN H O' ws ds:=⟨h.len,λi p q e1 e2=>(h.key i p q e1 e2).aJ k,λi p q e1 e2=>(h.val i p q e1 e2).aJ k,h.ml⟩
theorem aD.keep(h:aD H O vs ds)(k:∀ a o,H a=some o->¬ O a->H' a=some o):aD H' O vs ds:=⟨h.1,λi v d e1 e2=>(h.2 i v d e1 e2).keep k⟩
theorem aD.aJ(h:aD H O vs ds)(k:∀ a,O' a->O a\/H a=none):aD H O' vs ds:=⟨h.1,λi v d e1 e2=>(h.2 i v d e1 e2).aJ k⟩
theorem aD.nil:aD H O [] []:=⟨rfl,λi v d e _=>by simp at e⟩
theorem aD.cons(h:Rep H O v d)(r:aD H O vs ds):aD H O (v :: vs) (d :: ds):=by
 refine⟨by simp[r.1],λi v' d' e1 e2=>?_⟩
 cases i with
 | zero=>simp at e1 e2; subst e1; subst e2; exact h
 | succ i=>exact r.2 i v' d' (by simpa using e1) (by simpa using e2)
theorem aD.head(r:aD H O (v :: vs) (d :: ds)):Rep H O v d:=r.2 0 v d rfl rfl
theorem aD.tail(r:aD H O (v :: vs) (d :: ds)):aD H O vs ds:=⟨by simpa using r.1,λi v' d' e1 e2=>r.2 (i + 1) v' d' (by simpa using e1) (by simpa using e2)⟩
theorem aD.append(h:aD H O vs ds)(h':aD H O iu dJ):aD H O (vs ++ iu) (ds ++ dJ):=by
 induction vs generalizing ds with
 | nil =>
  cases ds with
  | nil=>exact h'
  | cons d r=>have:=h.1; simp at this
 | cons v r ih =>
  cases ds with
  | nil=>have:=h.1; simp at this
  | cons d q=>exact .cons h.head (ih h.tail)
theorem aD.get{i:Nat}(h:aD H O vs ds)(e:ds[i]? = some d):∃ v,vs[i]? = some v/\Rep H O v d:=by
 have hi:i < ds.length:=(W3.mp e).1;have hv:i < vs.length:=by rw[h.1]; exact hi
 exact⟨vs[i],by simp[hv],h.2 i _ d (by simp[hv]) e⟩
theorem aD.take(n:Nat)(h:aD H O vs ds):aD H O (vs.take n) (ds.take n):=by
 refine⟨by simp[h.1],λi v d e1 e2=>?_⟩;by_cases hi:i < n
 ·rw[List.getElem?_take_of_lt hi] at e1 e2;exact h.2 i v d e1 e2
 ·rw[List.getElem?_take_eq_none (by omega)] at e1; cases e1
theorem aD.drop(n:Nat)(h:aD H O vs ds):aD H O (vs.drop n) (ds.drop n):=by
 refine⟨by simp[h.1],λi v d e1 e2=>?_⟩;rw[List.getElem?_drop] at e1 e2;exact h.2 (n + i) v d e1 e2
theorem aD.set(h:aD H O vs ds)(r:Rep H O v d)(j:Nat):aD H O (vs.set j v) (ds.set j d):=by
 refine⟨by simp[h.1],λi v' d' e1 e2=>?_⟩;by_cases hi:j=i
 ·subst hi;rw[Q3] at e1 e2;simp at e1 e2;obtain⟨_,rfl⟩:=e1;obtain⟨_,rfl⟩:=e2;exact r
 ·rw[W5 hi] at e1 e2;exact h.2 i v' d' e1 e2
theorem fj.keep(h:fj H O a d)(hk:∀ b o,H b=some o->¬ O b->H' b=some o)(ha:∀ o,H a=some o->H' a=some o):fj H' O a d:=by
 cases d <;> first
  | exact h.elim
  | (obtain⟨vs,e,r⟩:=h; exact⟨vs,ha _ e,aD.keep r hk⟩)
  | (obtain⟨ws,e,r,q⟩:=h; exact⟨ws,ha _ e,r,λi p p' e1 e2=>(q i p p' e1 e2).keep hk⟩)
  | (obtain⟨ep,ws,e,r⟩:=h; exact⟨ep,ws,ha _ e,r.keep hk⟩)
theorem fj.aJ(h:fj H O a d)(k:∀ a,O' a->O a\/H a=none):fj H O' a d:=by
 cases d <;> first
  | exact h.elim
  | (obtain⟨vs,e,r⟩:=h; exact⟨vs,e,aD.aJ r k⟩)
  | (obtain⟨ws,e,r,q⟩:=h; exact⟨ws,e,r,λi p p' e1 e2=>(q i p p' e1 e2).aJ k⟩)
  | (obtain⟨ep,ws,e,r⟩:=h; exact⟨ep,ws,e,r.aJ k⟩)
theorem fj.some(h:fj H O a d):∃ o,H a=some o:=by
 cases d <;> first
  | exact h.elim
  | (obtain⟨vs,e,r⟩:=h; exact⟨_,e⟩)
  | (obtain⟨ep,vs,e,r⟩:=h; exact⟨_,e⟩)
theorem fj.rep(h:fj H O a d)(ho:¬ O a):Rep H O (.ref a) d:=by
 cases d with
 | lst ds=>obtain⟨vs,e,r⟩:=h; exact .lst ho (.inl e) r.1 r.2
 | bA ds=>obtain⟨ws,e,r,q⟩:=h; exact .bA ho e r q
 | dic ds=>obtain⟨ep,ws,e,r⟩:=h; exact .dic ho e r.len r.key r.val r.ml
 | _=>exact h.elim
end
structure Xc where
 cls:Tx
 P_:D
structure Fc where
 H₀:Hp
 B:Addr->Prop
 pin:List (Nat×Addr)
 xc:Xc->Dl->Prop:=λ_ _=>False
def Fc.plus(c:Fc)(p:Addr):Fc:={ c with B:=λa=>c.B a\/a=p }
def Fc.I(c:Fc)(a:Addr):Prop:=∃ i,(i,a) ∈ c.pin
def Own(σ:St)(δ:Dl)(a:Addr):Prop:=∃ (i:Nat) (d:D),δ[i]? = some (some (.own d))/\σ[i]? = some (some (.ref a))
def Av(c:Fc)(σ:St)(δ:Dl)(a:Addr):Prop:=c.B a\/Own σ δ a
structure Ok(c:Fc)(σ:St)(δ:Dl)(H:Hp):Prop where
 keep:∀ a o,c.H₀ a=some o->¬ c.I a->H a=some o
 bd:∀ a,c.B a->∃ o,H a=some o
 dM:∀ a,c.I a->∃ o,H a=some o
 len:δ.length=σ.length
 slot:∀ (i:Nat) d,δ[i]? = some (some (.pure d))->∃ v,σ[i]? = some (some v)/\Rep H (Av c σ δ) v d
 own:∀ (i:Nat) d,δ[i]? = some (some (.own d))->∃ a,σ[i]? = some (some (.ref a))/\fj H (Av c σ δ) a d/\(c.I a\/c.H₀ a=none)/\¬ c.B a
 inj:∀ (i j:Nat) a d d',δ[i]? = some (some (.own d))->δ[j]? = some (some (.own d'))->σ[i]? = some (some (.ref a))->σ[j]? = some (some (.ref a))->i=j
 pinned:∀ p ∈ c.pin,σ[p.1]? = some (some (.ref p.2))
structure aQ(c:Fc)(σ:St)(δ:Dl)(H:Hp)(σ':St)(δ':Dl)(H':Hp):Prop where
 ok:Ok c σ' δ' H'
 keep:∀ a o,H a=some o->¬ Own σ δ a->H' a=some o
 own:∀ a,Own σ' δ' a->Own σ δ a\/H a=none
 there:∀ a o,H a=some o->∃ o',H' a=some o'
section
variable {c:Fc} {σ σ' σ'':St} {δ δ' δ'':Dl} {H H' zL:Hp} {v:V} {d:D} {a p:Addr}
theorem Ok.Hw(k:Ok c σ δ H)(h:c.B a):∃ o,H a=some o:=k.bd a h
theorem Ok.nq(k:Ok c σ δ H)(h:Own σ δ a):∃ o,H a=some o:=by
 obtain⟨i,d,e1,e2⟩:=h;obtain⟨b,e3,q,_⟩:=k.own i d e1;rw[e2] at e3; cases e3
 exact q.some
theorem Ok.zM(k:Ok c σ δ H)(h:Av c σ δ a):∃ o,H a=some o:=h.elim k.Hw k.nq
theorem Ok.iX(k:Ok c σ δ H)(h:H a=none):¬ Av c σ δ a:=λz=>by
 obtain⟨o,e⟩:=k.zM z;rw[h] at e; cases e
theorem aQ.refl(k:Ok c σ δ H):aQ c σ δ H σ δ H:=⟨k,λ_ _ e _=>e,λ_ h=>.inl h,λ_ o e=>⟨o,e⟩⟩
theorem aQ.trans(x:aQ c σ δ H σ' δ' H')(y:aQ c σ' δ' H' σ'' δ'' zL):aQ c σ δ H σ'' δ'' zL:=by
 refine⟨y.ok,λa o e n=>?_,λa h=>?_,λa o e=>?_⟩
 ·refine y.keep a o (x.keep a o e n) λz=>?_
  rcases x.own a z with q | q
  ·exact n q
  ·rw[q] at e; cases e
 ·rcases y.own a h with q | q
  ·exact x.own a q
  ·right
   cases e:H a with
   | none=>rfl
   | some o =>
    obtain⟨o',e'⟩:=x.there a o e;rw[q] at e'; cases e'
 ·obtain⟨o',e'⟩:=x.there a o e;exact y.there a o' e'
theorem aQ.av(x:aQ c σ δ H σ' δ' H'):∀ a,Av c σ' δ' a->Av c σ δ a\/H a=none:=λa h=>by
 rcases h with h | h
 ·exact .inl (.inl h)
 ·rcases x.own a h with q | q
  ·exact .inl (.inr q)
  ·exact .inr q
theorem Rep.dO(h:Rep H (Av c σ δ) v d)(x:aQ c σ δ H σ' δ' H'):Rep H' (Av c σ' δ') v d:=by
 have h1:Rep H (λa=>Av c σ δ a\/Av c σ' δ' a) v d:=Rep.aJ h λa z=>z.elim .inl (x.av a)
 exact(h1.keep λa o e n=>x.keep a o e λz=>n (.inl (.inr z))).aJ λa z=>.inl (.inr z)
theorem aD.dO(h:aD H (Av c σ δ) vs ds)(x:aQ c σ δ H σ' δ' H'):aD H' (Av c σ' δ') vs ds:=⟨h.1,λi v d e1 e2=>Rep.dO (h.2 i v d e1 e2) x⟩
def bp(c:Fc)(σ:St)(δ:Dl)(Hs H:Hp)(v:V):S->Prop
 | .pure d=>Rep H (Av c σ δ) v d
 | .own d=>∃ a,v = .ref a/\fj H (Av (c.plus a) σ δ) a d/\¬ c.B a/\c.H₀ a=none/\Ok (c.plus a) σ δ H/\Hs a=none
theorem nr(k:Ok (c.plus a) σ δ H):¬ Own σ δ a:=λ⟨i,d,e1,e2⟩=>by
 obtain⟨b,e3,_,_,n⟩:=k.own i d e1;rw[e2] at e3; cases e3
 exact n (.inr rfl)
theorem bp.rep(h:bp c σ δ Hs H v r):Rep H (Av c σ δ) v r.d:=by
 cases r with
 | pure d=>exact h
 | own d =>
  obtain⟨a,rfl,o,n,f,k,_⟩:=h;refine(o.aJ λb z=>.inl ?_).rep λz=>z.elim n (nr k)
  exact z.elim (λz=>.inl (.inl z)) .inr
theorem bp.back(h:bp c σ δ Hs H v r)(x:aQ c σ₀ δ₀ H' σ' δ' Hs):bp c σ δ H' H v r:=by
 cases r with
 | pure d=>exact h
 | own d =>
  obtain⟨a,e,o,n,f,k,hs⟩:=h;refine⟨a,e,o,n,f,k,?_⟩
  cases q:H' a with
  | none=>rfl
  | some o =>
   obtain⟨o',e'⟩:=x.there a o q;rw[hs] at e'; cases e'
theorem bp.Hx(h:bp c σ δ Hs H v r):bp c σ δ c.H₀ H v r:=by
 cases r with
 | pure d=>exact h
 | own d =>
  obtain⟨a,e,o,n,f,k,hs⟩:=h;exact⟨a,e,o,n,f,k,f⟩
theorem Ok.alloc(k:Ok c σ δ H)(hp:H p=none)(o:HO):Ok c σ δ (upd H p o):=by
 have up:∀ a w,H a=some w->upd H p o a=some w:=λa w e=>by
  rw[ba (gq e hp)]; exact e
 refine⟨λa w e n=>up a w (k.keep a w e n),λa z=>(k.bd a z).elim λw e=>⟨w,up a w e⟩,λa z=>(k.dM a z).elim λw e=>⟨w,up a w e⟩,k.len,λi d e=>?_,λi d e=>?_,k.inj,k.pinned⟩
 ·obtain⟨v,e1,r⟩:=k.slot i d e;exact⟨v,e1,r.keep λa w q _=>up a w q⟩
 ·obtain⟨a,e1,r,q⟩:=k.own i d e;exact⟨a,e1,r.keep (λb w q _=>up b w q) λw q=>up a w q,q⟩
theorem aQ.alloc(k:Ok c σ δ H)(hp:H p=none)(o:HO):aQ c σ δ H σ δ (upd H p o):=by
 have up:∀ a w,H a=some w->upd H p o a=some w:=λa w e=>by
  rw[ba (gq e hp)]; exact e
 exact⟨k.alloc hp o,λa w e _=>up a w e,λa h=>.inl h,λa w e=>⟨w,up a w e⟩⟩
theorem Ok.nt(k:Ok c σ δ H)(hp:H p=none):c.H₀ p=none:=by
 cases e:c.H₀ p with
 | none=>rfl
 | some o =>
  by_cases q:c.I p
  ·obtain⟨w,e'⟩:=k.dM p q;rw[hp] at e'; cases e'
  ·have:=k.keep p o e q;rw[hp] at this; cases this
theorem Ok.plus(k:Ok c σ δ H)(hp:H p=none)(o:HO):Ok (c.plus p) σ δ (upd H p o):=by
 have k':=k.alloc hp o;have sub:∀ b,Av (c.plus p) σ δ b->Av c σ δ b\/b=p:=λb z=>by
  rcases z with (z | z) | z
  ·exact .inl (.inl z)
  ·exact .inr z
  ·exact .inl (.inr z)
 have rm:∀ b,Av (c.plus p) σ δ b->Av c σ δ b\/H b=none:=λb z=>(sub b z).elim .inl λe=>.inr (by rw[e]; exact hp)
 have up:∀ a w,H a=some w->upd H p o a=some w:=λa w e=>by
  rw[ba (gq e hp)]; exact e
 refine⟨k'.keep,λa z=>?_,k'.dM,k.len,λi d e=>?_,λi d e=>?_,k.inj,k.pinned⟩
 ·rcases z with z | z
  ·exact k'.bd a z
  ·exact⟨o,by rw[z]; exact dq⟩
 ·obtain⟨v,e1,r⟩:=k.slot i d e;exact⟨v,e1,(r.aJ rm).keep λa w q _=>up a w q⟩
 ·obtain⟨a,e1,r,q,nb⟩:=k.own i d e;refine⟨a,e1,(r.aJ rm).keep (λb w q _=>up b w q) (λw q=>up a w q),q,λz=>?_⟩;rcases z with z | z
  ·exact nb z
  ·obtain⟨w,ew⟩:=r.some;rw[z,hp] at ew; cases ew
theorem bp.nu(k:Ok c σ δ H)(r:aD H (Av c σ δ) vs ds)(hp:H p=none):bp c σ δ H (upd H p (.lst vs)) (.ref p) (.own (.lst ds)):=by
 have up:∀ a w,H a=some w->upd H p (.lst vs) a=some w:=λa w e=>by
  rw[ba (gq e hp)]; exact e
 refine⟨p,rfl,⟨vs,dq,?_⟩,λz=>k.iX hp (.inl z),k.nt hp,k.plus hp _,hp⟩;have r1:aD H (Av (c.plus p) σ δ) vs ds:=aD.aJ r λb z=>by
  rcases z with (z | z) | z
  ·exact .inl (.inl z)
  ·exact .inr (by rw[z]; exact hp)
  ·exact .inl (.inr z)
 exact aD.keep r1 λb w e _=>up b w e
theorem bp.nv(k:Ok c σ δ H)(r:aD H (Av c σ δ) vs ds)(hp:H p=none):bp c σ δ H (upd H p (.tup vs)) (.ref p) (.pure (.tup ds)):=by
 have up:∀ a w,H a=some w->upd H p (.tup vs) a=some w:=λa w e=>by
  rw[ba (gq e hp)]; exact e
 have r1:=aD.keep r (H':=upd H p (.tup vs)) λb w e _=>up b w e
 exact .tup (k.iX hp) dq r1.1 r1.2
end
inductive Rs (α:Type) where
 | ok (a:α) (δ:Dl)
 | exc (x:Xc) (δ:Dl)
 | stuck
def Rs.bind{α β:Type}(r:Rs α)(f:α->Dl->Rs β):Rs β:=match r with
 | .ok a δ=>f a δ
 | .exc x δ=>.exc x δ
 | .stuck=>.stuck
abbrev DE:=Dl->Rs S
def XC(c:Fc)(x:Xc)(δ:Dl):Prop:=c.xc x δ
def post{α:Type}(c:Fc)(r:Rs α)(k:α->Dl->Prop):Prop:=match r with
 | .ok a δ=>k a δ
 | .exc x δ=>XC c x δ
 | .stuck=>False
theorem bC:post c (r.bind f) k ↔ post c r λa δ=>post c (f a δ) k:=by
 cases r <;> exact Iff.rfl
theorem aU(h:post c r k)(m:∀ a δ,k a δ->k' a δ):post c r k':=by
 cases r with
 | ok a δ=>exact m a δ h
 | exc x δ=>exact h
 | stuck=>exact h
def tD(c:Fc)(f:DE):TE:=λσ H Q=>∃ δ,Ok c σ δ H/\post c (f δ) λr δ'=>∀ v H',aQ c σ δ H σ δ' H'->bp c σ δ' H H' v r->Q v H'
abbrev SE(X:Cx)(c:Fc)(e:Expr)(f:DE):Prop:=PE X e (tD c f)
def cO(c:Fc)(σ:St)(δ:Dl)(H:Hp)(v:V)(d:D):Prop:=Rep H (Av c σ δ) v d\/∃ a,v = .ref a/\fj H (Av c σ δ) a d
abbrev BE:=Dl->Rs D
def tB(c:Fc)(f:BE):TE:=λσ H Q=>∃ δ,Ok c σ δ H/\post c (f δ) λd δ'=>∀ v H',aQ c σ δ H σ δ' H'->cO c σ δ' H' v d->Q v H'
abbrev SB(X:Cx)(c:Fc)(e:Expr)(f:BE):Prop:=PE X e (tB c f)
theorem PE.weak(h:PE X e t)(w:∀ σ H Q,t' σ H Q->t σ H Q):PE X e t':=λpins s σ H Q I q=>h pins s σ H Q I (w σ H Q q)
def aq(f:DE):BE:=λδ=>(f δ).bind λr δ'=>.ok r.d δ'
theorem bp.b(h:bp c σ δ Hs H v r):cO c σ δ H v r.d:=.inl h.rep
theorem aR{X:Cx}{c:Fc}{e:Expr}{f:DE}(h:SE X c e f):SB X c e (aq f):=PE.weak h λσ H Q ⟨δ,k,p⟩=>⟨δ,k,by
 unfold aq at p;rw[bC] at p;exact aU p λr δ' q v H' a s=>q v H' a s.b⟩
def aj(i:Nat):BE:=λδ=>match δ[i]? with
 | some (some r)=>.ok r.d δ
 | _=>.stuck
def af(i:Nat):DE:=λδ=>match δ[i]? with
 | some (some (.pure d))=>.ok (.pure d) δ
 | some (some (.own d))=>.ok (.pure d) (δ.set i (some (.pure d)))
 | _=>.stuck
def eD(d:D):DE:=λδ=>.ok (.pure d) δ
section
variable {X:Cx} {c:Fc}
theorem bM{i:Nat}{e:Expr}(h:PE X e (c9 i)):SB X c e (aj i):=PE.weak h λσ H Q ⟨δ,k,p⟩=>by
 unfold aj at p
 cases e:δ[i]? with
 | none=>rw[e] at p; exact p.elim
 | some o =>
  cases o with
  | none=>rw[e] at p; exact p.elim
  | some r =>
   rw[e] at p
   cases r with
   | pure d =>
    obtain⟨v,e1,r⟩:=k.slot i d e;exact⟨v,e1,p v H (.refl k) (.inl r)⟩
   | own d =>
    obtain⟨a,e1,r,_⟩:=k.own i d e;exact⟨.ref a,e1,p _ H (.refl k) (.inr ⟨a,rfl,r⟩)⟩
theorem Own.sub(h:Own σ (δ.set i (some (.pure d))) a):Own σ δ a:=by
 obtain⟨j,d',e1,e2⟩:=h;by_cases hj:i=j
 ·subst hj;rw[Q3] at e1;simp at e1
 ·rw[W5 hj] at e1;exact⟨j,d',e1,e2⟩
theorem Ok.give(k:Ok c σ δ H)(e:δ[i]? = some (some (.own d))) :
  ∃ a,σ[i]? = some (some (.ref a))/\aQ c σ δ H σ (δ.set i (some (.pure d))) H/\Rep H (Av c σ (δ.set i (some (.pure d)))) (.ref a) d:=by
 obtain⟨a,e1,r,q,nb⟩:=k.own i d e;have hi:i < δ.length:=(W3.mp e).1;have sub:∀ b,Av c σ (δ.set i (some (.pure d))) b->Av c σ δ b:=λb z=>z.elim .inl λz=>.inr z.sub
 have na:¬ Av c σ (δ.set i (some (.pure d))) a:=by
  rintro (z | ⟨j,d',f1,f2⟩)
  ·exact nb z
  ·by_cases hj:i=j
   ·subst hj;rw[Q3] at f1;simp at f1
   ·rw[W5 hj] at f1;exact hj (k.inj i j a d d' e f1 e1 f2)
 have rep:Rep H (Av c σ (δ.set i (some (.pure d)))) (.ref a) d:=(r.aJ λb z=>.inl (sub b z)).rep na;refine⟨a,e1,⟨⟨k.keep,k.bd,k.dM,by rw[WT]; exact k.len,λj d' f=>?_,λj d' f=>?_,λj l b d1 d2 f1 f2=>?_,k.pinned⟩,λ_ _ w _=>w,λb z=>.inl z.sub,λ_ o w=>⟨o,w⟩⟩,rep⟩
 ·by_cases hj:i=j
  ·subst hj;rw[Wn hi] at f
   cases f;exact⟨.ref a,e1,rep⟩
  ·rw[W5 hj] at f;obtain⟨v,g1,g2⟩:=k.slot j d' f;exact⟨v,g1,g2.aJ λb z=>.inl (sub b z)⟩
 ·by_cases hj:i=j
  ·subst hj;rw[Wn hi] at f
   cases f
  ·rw[W5 hj] at f;obtain⟨b,g1,g2,g3⟩:=k.own j d' f;exact⟨b,g1,g2.aJ λb z=>.inl (sub b z),g3⟩
 ·have h1:δ[j]? = some (some (.own d1)):=by
   by_cases hj:i=j
   ·subst hj; rw[Wn hi] at f1; cases f1
   ·rw[W5 hj] at f1; exact f1
  have h2:δ[l]? = some (some (.own d2)):=by
   by_cases hj:i=l
   ·subst hj; rw[Wn hi] at f2; cases f2
   ·rw[W5 hj] at f2; exact f2
  exact k.inj j l b d1 d2 h1 h2
theorem bh{i:Nat}{e:Expr}(h:PE X e (c9 i)):SE X c e (af i):=PE.weak h λσ H Q ⟨δ,k,p⟩=>by
 unfold af at p
 cases e:δ[i]? with
 | none=>rw[e] at p; exact p.elim
 | some o =>
  cases o with
  | none=>rw[e] at p; exact p.elim
  | some r =>
   rw[e] at p
   cases r with
   | pure d =>
    obtain⟨v,e1,r⟩:=k.slot i d e;exact⟨v,e1,p v H (.refl k) r⟩
   | own d =>
    obtain⟨a,e1,x,r⟩:=k.give e;exact⟨.ref a,e1,p _ H x r⟩
theorem aV{i j pos}:SE X c (.Constant (.int i) j pos) (eD (.int i)):=PE.weak Ey λσ H Q ⟨δ,k,p⟩=>p _ H (.refl k) (.int i)
theorem ll{b j pos}:SE X c (.Constant (.bool b) j pos) (eD (.bl b)):=PE.weak Ez λσ H Q ⟨δ,k,p⟩=>p _ H (.refl k) (.bl b)
theorem Hy{j pos}:SE X c (.Constant .none j pos) (eD .a7):=PE.weak EA λσ H Q ⟨δ,k,p⟩=>p _ H (.refl k) .a7
theorem rq{x j pos}(y:Tx)(h:x=toS y:=by decide +kernel):SE X c (.Constant (.str x) j pos) (eD (.str y)):=by
 subst h;exact PE.weak yi λσ H Q ⟨δ,k,p⟩=>p _ H (.refl k) (.str y)
end
open PySem PySem.Spec PyProof.Rows L2 PySem.SeqAt
mutual
def ax:D->D->Bool
 | .a7,.a7=>true
 | .bl a,.bl b=>a == b
 | .int a,.int b=>a == b
 | .bl a,.int b=>(if a then 1 else 0) == b
 | .int a,.bl b=>a == (if b then 1 else 0)
 | .str a,.str b=>a == b
 | .tup xs,.tup ys=>dP xs ys
 | .lst xs,.lst ys=>dP xs ys
 | _,_=>false
def dP:List D->List D->Bool
 | [],[]=>true
 | x :: xs,y :: ys=>ax x y && dP xs ys
 | _,_=>false
end
mutual
def flat:Nat->D->Bool
 | _,.a7=>true
 | _,.bl _=>true
 | _,.int _=>true
 | _,.str _=>true
 | 0,.tup _=>false
 | n + 1,.tup xs=>iw n xs
 | 0,.lst _=>false
 | n + 1,.lst xs=>iw n xs
 | _,.bA _=>false
 | _,.exc _ _=>false
 | _,.xd _=>false
 | _,.fn _=>false
 | _,.dic _=>false
def iw:Nat->List D->Bool
 | _,[]=>true
 | n,x :: xs=>flat n x && iw n xs
end
example:ax (.tup [.int 1,.str [2]]) (.tup [.int 1,.str [2]])=true:=by decide +kernel
theorem mq:∀ {xs:List D} {x:D},iw n xs=true->x ∈ xs->flat n x=true
 | [],_,_,h=>by simp at h
 | y :: ys,x,h,hm=>by
  simp only[iw,Wt] at h;rcases Wo.mp hm with e | hm
  ·rw[e]; exact h.1
  ·exact mq h.2 hm
theorem rA:∀ {xs ys:List D} {f:Nat->Bool},xs.length=ys.length->(∀ (j:Nat) x y,xs[j]? = some x->ys[j]? = some y->f j=ax x y)->(Q9 xs.length).all f=dP xs ys
 | [],[],f,_,_=>rfl
 | [],y :: ys,f,h,_=>by simp at h
 | x :: xs,[],f,h,_=>by simp at h
 | x :: xs,y :: ys,f,h,hf=>by
  simp only[dP];rw[WG,List.range_succ_eq_map,JB,hf 0 x y rfl rfl,List.all_map];rw[<- rA (f:=λj=>f (j + 1)) (by simpa using h) (λj a b e1 e2=>hf (j + 1) a b (by simpa using e1) (by simpa using e2))];rfl
theorem rB:∀ {xs ys:List D},xs.length≠ys.length->dP xs ys=false
 | [],[],h=>absurd rfl h
 | [],y :: ys,_=>rfl
 | x :: xs,[],_=>rfl
 | x :: xs,y :: ys,h=>by
  simp only[dP];rw[rB (xs:=xs) (ys:=ys) (by intro e; exact h (by simp[e]))];simp
mutual
theorem rC:∀ {n:Nat} {d:D},flat n d=true->ax d d=true
 | _,.a7,_=>rfl
 | _,.bl b,_=>by simp[ax]
 | _,.int i,_=>by simp[ax]
 | _,.str x,_=>by simp[ax]
 | 0,.tup xs,h=>by simp[flat] at h
 | n + 1,.tup xs,h=>by simp only[ax]; exact uA (n:=n) (by simpa[flat] using h)
 | 0,.lst xs,h=>by simp[flat] at h
 | n + 1,.lst xs,h=>by simp only[ax]; exact uA (n:=n) (by simpa[flat] using h)
 | _,.bA xs,h=>by simp[flat] at h
 | _,.exc n _,h=>by simp[flat] at h
 | _,.xd n,h=>by simp[flat] at h
theorem uA:∀ {n:Nat} {ds:List D},iw n ds=true->dP ds ds=true
 | _,[],_=>rfl
 | n,x :: xs,h=>by
  simp only[iw,Wt] at h;simp only[dP];rw[rC h.1,uA h.2];rfl
end
abbrev da:Addr->Prop:=λ_=>False
theorem Rep.un(h:Rep H O v d):Rep H da v d:=Rep.aJ h λ_ z=>z.elim
theorem cO.un(h:cO c σ δ H v d):Rep H da v d:=by
 rcases h with h | ⟨a,rfl,o⟩
 ·exact Rep.un h
 ·exact(o.aJ (O':=da) λ_ z=>z.elim).rep λz=>z
section
variable {X:Cx} {pins:List (Addr×Obj)} {σ:St} {H:Hp} {s:W2}
theorem Inv.g0(I:Inv X pins σ H s)(h:Rd H a (.lst vs)):∃ ag:List Value,Vals vs ag/\s.heap.IsList a ag.toArray:=by
 obtain⟨ag,r,p,_⟩:=I.list (.inl h);exact⟨ag,r,p.isList⟩
theorem Inv.g6(I:Inv X pins σ H s)(h:H a=some (.tup vs)):∃ ag:List Value,Vals vs ag/\s.heap.IsTuple a ag.toArray:=by
 obtain⟨ag,r,p,_⟩:=I.tuple (.of h);exact⟨ag,r,p⟩
theorem ny(x y:Tx):((toS x:Str) == toS y)=(x == y):=by
 rw[Jp];simp only[beq_iff_eq];exact⟨rj,λe=>by rw[e]⟩
theorem Hz(A:Ws):A.in1.units=A.units + 1:=rfl
theorem Rd.inj(h:Rd H a u)(k:Rd H a w)(hu:∀ o z,u≠.frz o z)(hw:∀ o z,w≠.frz o z):u=w:=by
 rcases h with h | ⟨o,h⟩ <;> rcases k with k | ⟨o',k⟩
 ·rw[h] at k; exact Wx k
 ·rw[h] at k; exact absurd (Wx k) (hu _ _)
 ·rw[h] at k; exact absurd (Wx k).symm (hw _ _)
 ·rw[h] at k;have:=Wx k;injection this
theorem aD.inj{vs:List V}:∀ {ds es:List D},vs.length=ds.length->vs.length=es.length->(∀ (i:Nat) v d e,vs[i]? = some v->ds[i]? = some d->es[i]? = some e->d=e)->ds=es:=by
 intro ds es h1 h2 h;apply List.ext_getElem?;intro i;by_cases hi:i < vs.length
 ·have a1:i < ds.length:=by omega
  have a2:i < es.length:=by omega
  rw[W6 a1,W6 a2];rw[h i vs[i] ds[i] es[i] (by simp[hi]) (by simp[a1]) (by simp[a2])]
 ·rw[Q1 (by omega),Q1 (by omega)]
theorem Rep.inj{O:Addr->Prop}{v:V}{d:D}(h:Rep H O v d):∀ {n:Nat} {e:D},flat n d=true->flat n e=true->Rep H O v e->d=e:=by
 induction h with
 | a7=>intro n e _ _ k; cases k; rfl
 | bl b=>intro n e _ _ k; cases k; rfl
 | int i=>intro n e _ _ k; cases k; rfl
 | str x =>
  intro n e _ _ k;generalize hz:V.str (toS x)=z at k
  cases k with
  | str y=>injection hz with hz; rw[rj hz]
  | _=>cases hz
 | @tup a vs ds h1 h2 h3 h4 ih =>
  intro n e fd fe k
  cases n with
  | zero=>simp[flat] at fd
  | succ n =>
   simp only[flat] at fd
   cases k with
   | @tup _ ws es k1 k2 k3 k4 =>
    simp only[flat] at fe;have e1:=Rd.inj (.inl h2) (.inl k2) (λ_ _ z=>by cases z) (λ_ _ z=>by cases z);injection e1 with e1
    subst e1;rw[aD.inj h3 k3 λi v d e q1 q2 q3=>ih i v d q1 q2 (mq fd (Wh q2)) (mq fe (Wh q3)) (k4 i v e q1 q3)]
   | lst k1 k2=>exact absurd (Rd.inj (.inl h2) k2 (λ_ _ z=>by cases z) (λ_ _ z=>by cases z)) (λz=>by cases z)
   | bA k1 k2=>exact absurd (Rd.inj (.inl h2) (.inl k2) (λ_ _ z=>by cases z) (λ_ _ z=>by cases z)) (λz=>by cases z)
   | exc k1 k2=>simp[flat] at fe
   | xd k1 k2=>simp[flat] at fe
   | fn _=>simp[flat] at fe
   | dic _=>simp[flat] at fe
 | @lst a vs ds h1 h2 h3 h4 ih =>
  intro n e fd fe k
  cases n with
  | zero=>simp[flat] at fd
  | succ n =>
   simp only[flat] at fd
   cases k with
   | @lst _ ws es k1 k2 k3 k4 =>
    simp only[flat] at fe;have e1:=Rd.inj h2 k2 (λ_ _ z=>by cases z) (λ_ _ z=>by cases z);injection e1 with e1
    subst e1;rw[aD.inj h3 k3 λi v d e q1 q2 q3=>ih i v d q1 q2 (mq fd (Wh q2)) (mq fe (Wh q3)) (k4 i v e q1 q3)]
   | tup k1 k2=>exact absurd (Rd.inj h2 (.inl k2) (λ_ _ z=>by cases z) (λ_ _ z=>by cases z)) (λz=>by cases z)
   | bA k1 k2=>exact absurd (Rd.inj h2 (.inl k2) (λ_ _ z=>by cases z) (λ_ _ z=>by cases z)) (λz=>by cases z)
   | exc k1 k2=>simp[flat] at fe
   | xd k1 k2=>simp[flat] at fe
   | fn _=>simp[flat] at fe
   | dic _=>simp[flat] at fe
 | bA h1 h2 h3 h4 ih =>
  intro n e fd _ _
  cases n <;> simp[flat] at fd
 | exc h1 h2 =>
  intro n e fd _ _
  cases n <;> simp[flat] at fd
 | xd h1 h2 =>
  intro n e fd _ _
  cases n <;> simp[flat] at fd
 | fn _ =>
  intro n e fd _ _
  cases n <;> simp[flat] at fd
 | dic h1 h2 =>
  intro n e fd _ _
  cases n <;> simp[flat] at fd
def uD(H:Hp)(s:W2)(n:Nat):Prop:=∀ (A:Ws) (x y:V) (u w:Value) (d e:D),A.units + n + 1 < WE->flat n d=true->flat n e=true->Rep H da x d->Rep H da y e->RelV x u->RelV y w->EqAt A s u w (ax d e)
def mr(H:Hp)(s:W2)(A:Ws)(n:Nat):Prop:=match n with
 | 0=>True
 | m + 1=>A.units + m + 2 < WE/\uD H s m
def rD(ds es:List D)(j:Nat):Bool:=match ds[j]?,es[j]? with
 | some p,some q=>ax p q
 | _,_=>false
theorem rE(j:Nat)(p q:D)(e1:ds[j]? = some p)(e2:es[j]? = some q):rD ds es j=ax p q:=by unfold rD; rw[e1,e2]
theorem rF{n:Nat}{A:Ws}{vs ws:List V}{ds es:List D}{ag g7:List Value}(hu:A.units + n + 2 < WE)(ih:uD H s n)(r1:Vals vs ag)(r2:Vals ws g7)(l1:vs.length=ds.length)(l2:ws.length=es.length)
  (g1:∀ (i:Nat) v d,vs[i]? = some v->ds[i]? = some d->Rep H da v d) (g2:∀ (i:Nat) v d,ws[i]? = some v->es[i]? = some d->Rep H da v d) (f1:iw n ds=true) (f2:iw n es=true) :
  ∀ j (h1:j < ag.toArray.size) (h2:j < g7.toArray.size),EqAt A.in1 s ag.toArray[j] g7.toArray[j] (rD ds es j):=by
 intro j h1 h2;have e1:=r1.length;have e2:=r2.length;simp at h1 h2;have hd:j < ds.length:=by omega
 have he:j < es.length:=by omega
 have hv:j < vs.length:=by omega
 have hw:j < ws.length:=by omega
 obtain⟨u',uE,ru'⟩:=r1.get (i:=j) (x:=vs[j]) (by simp[hv]);obtain⟨w',hw',rw''⟩:=r2.get (i:=j) (x:=ws[j]) (by simp[hw]);have eu:ag.toArray[j]=u':=by simpa[h1] using uE
 have ew:g7.toArray[j]=w':=by simpa[h2] using hw'
 rw[eu,ew,rE j ds[j] es[j] (by simp[hd]) (by simp[he])];exact ih A.in1 vs[j] ws[j] u' w' ds[j] es[j] (by rw[Hz]; omega) (mq f1 (J4 hd)) (mq f2 (J4 he)) (g1 j _ _ (by simp[hv]) (by simp[hd])) (g2 j _ _ (by simp[hw]) (by simp[he])) ru' rw''
theorem zN(h1:n=ds.length)(h2:m=es.length):((Q9 (min n m)).all (rD ds es) && n == m)=dP ds es:=by
 subst h1 h2;by_cases hl:ds.length=es.length
 ·rw[<- hl,Nat.min_self,rA hl rE];simp
 ·rw[rB hl];simp[hl]
theorem HA(I:Inv X pins σ H s)(n:Nat)(A:Ws)(bN:A.units < WE)(t1:s.heap.IsTuple a ag.toArray)(t2:s.heap.IsTuple b g7.toArray)(r1:Vals vs ag)(r2:Vals ws g7)(l1:vs.length=ds.length)(l2:ws.length=es.length)
  (g1:∀ (i:Nat) v d,vs[i]? = some v->ds[i]? = some d->Rep H da v d) (g2:∀ (i:Nat) v d,ws[i]? = some v->es[i]? = some d->Rep H da v d) (f1:flat n (.tup ds)=true) (f2:flat n (.tup es)=true) (ih:mr H s A n) :
  RcAt A s (.ref a) (.ref b) (dP ds es):=by
 cases n with
 | zero=>simp[flat] at f1
 | succ n =>
  simp only[flat] at f1 f2;obtain⟨hu,ih⟩:=ih;have q:=RcAt.tuples (A:=A) (s:=s) t1 t2 bN (rF hu ih r1 r2 l1 l2 g1 g2 f1 f2);rw[zN (by have:=r1.length; simp; omega) (by have:=r2.length; simp; omega)] at q;exact q
theorem HB(I:Inv X pins σ H s)(n:Nat)(A:Ws)(bN:A.units < WE)(t1:s.heap.IsTuple a ag.toArray)(t2:s.heap.IsTuple b g7.toArray)(r1:Vals vs ag)(r2:Vals ws g7)(l1:vs.length=ds.length)(l2:ws.length=es.length)
  (g1:∀ (i:Nat) v d,vs[i]? = some v->ds[i]? = some d->Rep H da v d) (g2:∀ (i:Nat) v d,ws[i]? = some v->es[i]? = some d->Rep H da v d) (f1:flat n (.tup ds)=true) (f2:flat n (.tup es)=true) (ih:mr H s A n) :
  RcNeAt A s (.ref a) (.ref b) (!dP ds es):=by
 cases n with
 | zero=>simp[flat] at f1
 | succ n =>
  simp only[flat] at f1 f2;obtain⟨hu,ih⟩:=ih;have q:=RcNeAt.tuples (A:=A) (s:=s) t1 t2 bN (rF hu ih r1 r2 l1 l2 g1 g2 f1 f2);rw[zN (by have:=r1.length; simp; omega) (by have:=r2.length; simp; omega)] at q;exact q
theorem HC(I:Inv X pins σ H s)(n:Nat)(A:Ws)(bN:A.units < WE)(t1:s.heap.IsList a ag.toArray)(t2:s.heap.IsList b g7.toArray)(r1:Vals vs ag)(r2:Vals ws g7)(l1:vs.length=ds.length)(l2:ws.length=es.length)
  (g1:∀ (i:Nat) v d,vs[i]? = some v->ds[i]? = some d->Rep H da v d) (g2:∀ (i:Nat) v d,ws[i]? = some v->es[i]? = some d->Rep H da v d) (f1:flat n (.lst ds)=true) (f2:flat n (.lst es)=true) (ih:mr H s A n) :
  RcAt A s (.ref a) (.ref b) (dP ds es):=by
 cases n with
 | zero=>simp[flat] at f1
 | succ n =>
  simp only[flat] at f1 f2;obtain⟨hu,ih⟩:=ih;have z1:ag.toArray.size=ds.length:=by have:=r1.length; simp; omega
  have z2:g7.toArray.size=es.length:=by have:=r2.length; simp; omega
  by_cases hl:ds.length=es.length
  ·have q:=RcAt.lists (A:=A) (s:=s) t1 t2 (by rw[z1,z2]; exact hl) bN (rF hu ih r1 r2 l1 l2 g1 g2 f1 f2);rw[z1,rA hl rE] at q;exact q
  ·rw[rB hl];exact RcAt.lists_lengths (A:=A) (s:=s) t1 t2 (by rw[z1,z2]; simpa using hl) bN
theorem HD(I:Inv X pins σ H s)(n:Nat)(A:Ws)(bN:A.units < WE)(t1:s.heap.IsList a ag.toArray)(t2:s.heap.IsList b g7.toArray)(r1:Vals vs ag)(r2:Vals ws g7)(l1:vs.length=ds.length)(l2:ws.length=es.length)
  (g1:∀ (i:Nat) v d,vs[i]? = some v->ds[i]? = some d->Rep H da v d) (g2:∀ (i:Nat) v d,ws[i]? = some v->es[i]? = some d->Rep H da v d) (f1:flat n (.lst ds)=true) (f2:flat n (.lst es)=true) (ih:mr H s A n) :
  RcNeAt A s (.ref a) (.ref b) (!dP ds es):=by
 cases n with
 | zero=>simp[flat] at f1
 | succ n =>
  simp only[flat] at f1 f2;obtain⟨hu,ih⟩:=ih;have z1:ag.toArray.size=ds.length:=by have:=r1.length; simp; omega
  have z2:g7.toArray.size=es.length:=by have:=r2.length; simp; omega
  by_cases hl:ds.length=es.length
  ·have q:=RcNeAt.lists (A:=A) (s:=s) t1 t2 (by rw[z1,z2]; exact hl) bN (rF hu ih r1 r2 l1 l2 g1 g2 f1 f2);rw[z1,rA hl rE] at q;exact q
  ·rw[rB hl];exact RcNeAt.lists_lengths (A:=A) (s:=s) t1 t2 (by rw[z1,z2]; simpa using hl) bN
theorem uF(I:Inv X pins σ H s)(n:Nat)(A:Ws)(x y:V)(u w:Value)(d e:D)(bN:A.units < WE)(fd:flat n d=true)(fe:flat n e=true)(ih:mr H s A n)(rx:Rep H da x d)(ry:Rep H da y e)(ru:RelV x u)(aL:RelV y w):RcAt A s u w (ax d e):=by
 cases rx with
 | a7 =>
  cases ru
  cases ry with
  | a7 =>
   cases aL;simp only[ax]; exact RcAt.none_none
  | bl q =>
   cases aL;simp only[ax]; exact RcAt.none_bool _
  | int q =>
   obtain⟨t2,rfl⟩:=aL;simp only[ax]; exact RcAt.none_int _ _
  | str q =>
   obtain⟨t2,rfl⟩:=aL;simp only[ax]; exact RcAt.none_str _ _
  | tup k1 k2 k3 k4 =>
   cases aL; obtain⟨its2,r2,t2⟩:=Inv.g6 I k2
   simp only[ax]; exact RcAt.none_tuple t2 bN
  | lst k1 k2 k3 k4 =>
   cases aL; obtain⟨its2,r2,t2⟩:=Inv.g0 I k2
   simp only[ax]; exact RcAt.none_list t2 bN
  | bA k1 k2 k3 k4=>(cases n <;> simp[flat] at fe)
  | exc k1 k2=>(cases n <;> simp[flat] at fe)
  | xd k1 k2=>(cases n <;> simp[flat] at fe)
  | fn _=>(cases n <;> simp[flat] at fe)
  | dic _=>(cases n <;> simp[flat] at fe)
 | bl p =>
  cases ru
  cases ry with
  | a7 =>
   cases aL;simp only[ax]; exact RcAt.bool_none _
  | bl q =>
   cases aL;simp only[ax]; exact RcAt.bool_bool _ _
  | int q =>
   obtain⟨t2,rfl⟩:=aL;simp only[ax]; exact RcAt.bool_int _ _ _
  | str q =>
   obtain⟨t2,rfl⟩:=aL;simp only[ax]; exact RcAt.bool_str _ _ _
  | tup k1 k2 k3 k4 =>
   cases aL; obtain⟨its2,r2,t2⟩:=Inv.g6 I k2
   simp only[ax]; exact RcAt.bool_tuple _ t2 bN
  | lst k1 k2 k3 k4 =>
   cases aL; obtain⟨its2,r2,t2⟩:=Inv.g0 I k2
   simp only[ax]; exact RcAt.bool_list _ t2 bN
  | bA k1 k2 k3 k4=>(cases n <;> simp[flat] at fe)
  | exc k1 k2=>(cases n <;> simp[flat] at fe)
  | xd k1 k2=>(cases n <;> simp[flat] at fe)
  | fn _=>(cases n <;> simp[flat] at fe)
  | dic _=>(cases n <;> simp[flat] at fe)
 | int p =>
  obtain⟨t1,rfl⟩:=ru
  cases ry with
  | a7 =>
   cases aL;simp only[ax]; exact RcAt.int_none _ _
  | bl q =>
   cases aL;simp only[ax]; exact RcAt.int_bool _ _ _
  | int q =>
   obtain⟨t2,rfl⟩:=aL;simp only[ax]; exact RcAt.int_int _ _ _ _
  | str q =>
   obtain⟨t2,rfl⟩:=aL;simp only[ax]; exact RcAt.int_str _ _ _ _
  | tup k1 k2 k3 k4 =>
   cases aL; obtain⟨its2,r2,t2⟩:=Inv.g6 I k2
   simp only[ax]; exact RcAt.int_tuple _ _ t2 bN
  | lst k1 k2 k3 k4 =>
   cases aL; obtain⟨its2,r2,t2⟩:=Inv.g0 I k2
   simp only[ax]; exact RcAt.int_list _ _ t2 bN
  | bA k1 k2 k3 k4=>(cases n <;> simp[flat] at fe)
  | exc k1 k2=>(cases n <;> simp[flat] at fe)
  | xd k1 k2=>(cases n <;> simp[flat] at fe)
  | fn _=>(cases n <;> simp[flat] at fe)
  | dic _=>(cases n <;> simp[flat] at fe)
 | str p =>
  obtain⟨t1,rfl⟩:=ru
  cases ry with
  | a7 =>
   cases aL;simp only[ax]; exact RcAt.str_none _ _
  | bl q =>
   cases aL;simp only[ax]; exact RcAt.str_bool _ _ _
  | int q =>
   obtain⟨t2,rfl⟩:=aL;simp only[ax]; exact RcAt.str_int _ _ _ _
  | str q =>
   obtain⟨t2,rfl⟩:=aL;simp only[ax]; rw[<- ny]; exact RcAt.str_str _ _ _ _
  | tup k1 k2 k3 k4 =>
   cases aL; obtain⟨its2,r2,t2⟩:=Inv.g6 I k2
   simp only[ax]; exact RcAt.str_tuple _ _ t2 bN
  | lst k1 k2 k3 k4 =>
   cases aL; obtain⟨its2,r2,t2⟩:=Inv.g0 I k2
   simp only[ax]; exact RcAt.str_list _ _ t2 bN
  | bA k1 k2 k3 k4=>(cases n <;> simp[flat] at fe)
  | exc k1 k2=>(cases n <;> simp[flat] at fe)
  | xd k1 k2=>(cases n <;> simp[flat] at fe)
  | fn _=>(cases n <;> simp[flat] at fe)
  | dic _=>(cases n <;> simp[flat] at fe)
 | tup h1 h2 h3 h4 =>
  cases ru; obtain⟨its1,r1,t1⟩:=Inv.g6 I h2
  cases ry with
  | a7 =>
   cases aL;simp only[ax]; exact RcAt.tuple_none t1 bN
  | bl q =>
   cases aL;simp only[ax]; exact RcAt.tuple_bool _ t1 bN
  | int q =>
   obtain⟨t2,rfl⟩:=aL;simp only[ax]; exact RcAt.tuple_int _ _ t1 bN
  | str q =>
   obtain⟨t2,rfl⟩:=aL;simp only[ax]; exact RcAt.tuple_str _ _ t1 bN
  | tup k1 k2 k3 k4 =>
   cases aL; obtain⟨its2,r2,t2⟩:=Inv.g6 I k2
   simp only[ax]; exact HA I n A bN t1 t2 r1 r2 h3 k3 h4 k4 fd fe ih
  | lst k1 k2 k3 k4 =>
   cases aL; obtain⟨its2,r2,t2⟩:=Inv.g0 I k2
   simp only[ax]; exact RcAt.tuple_list t1 t2 bN
  | bA k1 k2 k3 k4=>(cases n <;> simp[flat] at fe)
  | exc k1 k2=>(cases n <;> simp[flat] at fe)
  | xd k1 k2=>(cases n <;> simp[flat] at fe)
  | fn _=>(cases n <;> simp[flat] at fe)
  | dic _=>(cases n <;> simp[flat] at fe)
 | lst h1 h2 h3 h4 =>
  cases ru; obtain⟨its1,r1,t1⟩:=Inv.g0 I h2
  cases ry with
  | a7 =>
   cases aL;simp only[ax]; exact RcAt.list_none t1 bN
  | bl q =>
   cases aL;simp only[ax]; exact RcAt.list_bool _ t1 bN
  | int q =>
   obtain⟨t2,rfl⟩:=aL;simp only[ax]; exact RcAt.list_int _ _ t1 bN
  | str q =>
   obtain⟨t2,rfl⟩:=aL;simp only[ax]; exact RcAt.list_str _ _ t1 bN
  | tup k1 k2 k3 k4 =>
   cases aL; obtain⟨its2,r2,t2⟩:=Inv.g6 I k2
   simp only[ax]; exact RcAt.list_tuple t1 t2 bN
  | lst k1 k2 k3 k4 =>
   cases aL; obtain⟨its2,r2,t2⟩:=Inv.g0 I k2
   simp only[ax]; exact HC I n A bN t1 t2 r1 r2 h3 k3 h4 k4 fd fe ih
  | bA k1 k2 k3 k4=>(cases n <;> simp[flat] at fe)
  | exc k1 k2=>(cases n <;> simp[flat] at fe)
  | xd k1 k2=>(cases n <;> simp[flat] at fe)
  | fn _=>(cases n <;> simp[flat] at fe)
  | dic _=>(cases n <;> simp[flat] at fe)
 | bA h1 h2 h3 h4=>(cases n <;> simp[flat] at fd)
 | exc h1 h2=>(cases n <;> simp[flat] at fd)
 | xd h1 h2=>(cases n <;> simp[flat] at fd)
 | fn _=>(cases n <;> simp[flat] at fd)
 | dic _=>(cases n <;> simp[flat] at fd)
theorem HE(I:Inv X pins σ H s)(n:Nat)(A:Ws)(x y:V)(u w:Value)(d e:D)(bN:A.units < WE)(fd:flat n d=true)(fe:flat n e=true)(ih:mr H s A n)(rx:Rep H da x d)(ry:Rep H da y e)(ru:RelV x u)(aL:RelV y w):RcNeAt A s u w (!ax d e):=by
 cases rx with
 | a7 =>
  cases ru
  cases ry with
  | a7 =>
   cases aL;simp only[ax]; exact RcNeAt.none_none
  | bl q =>
   cases aL;simp only[ax]; exact RcNeAt.none_bool _
  | int q =>
   obtain⟨t2,rfl⟩:=aL;simp only[ax]; exact RcNeAt.none_int _ _
  | str q =>
   obtain⟨t2,rfl⟩:=aL;simp only[ax]; exact RcNeAt.none_str _ _
  | tup k1 k2 k3 k4 =>
   cases aL; obtain⟨its2,r2,t2⟩:=Inv.g6 I k2
   simp only[ax]; exact RcNeAt.none_tuple t2 bN
  | lst k1 k2 k3 k4 =>
   cases aL; obtain⟨its2,r2,t2⟩:=Inv.g0 I k2
   simp only[ax]; exact RcNeAt.none_list t2 bN
  | bA k1 k2 k3 k4=>(cases n <;> simp[flat] at fe)
  | exc k1 k2=>(cases n <;> simp[flat] at fe)
  | xd k1 k2=>(cases n <;> simp[flat] at fe)
  | fn _=>(cases n <;> simp[flat] at fe)
  | dic _=>(cases n <;> simp[flat] at fe)
 | bl p =>
  cases ru
  cases ry with
  | a7 =>
   cases aL;simp only[ax]; exact RcNeAt.bool_none _
  | bl q =>
   cases aL;simp only[ax]; exact RcNeAt.bool_bool _ _
  | int q =>
   obtain⟨t2,rfl⟩:=aL;simp only[ax]; exact RcNeAt.bool_int _ _ _
  | str q =>
   obtain⟨t2,rfl⟩:=aL;simp only[ax]; exact RcNeAt.bool_str _ _ _
  | tup k1 k2 k3 k4 =>
   cases aL; obtain⟨its2,r2,t2⟩:=Inv.g6 I k2
   simp only[ax]; exact RcNeAt.bool_tuple _ t2 bN
  | lst k1 k2 k3 k4 =>
   cases aL; obtain⟨its2,r2,t2⟩:=Inv.g0 I k2
   simp only[ax]; exact RcNeAt.bool_list _ t2 bN
  | bA k1 k2 k3 k4=>(cases n <;> simp[flat] at fe)
  | exc k1 k2=>(cases n <;> simp[flat] at fe)
  | xd k1 k2=>(cases n <;> simp[flat] at fe)
  | fn _=>(cases n <;> simp[flat] at fe)
  | dic _=>(cases n <;> simp[flat] at fe)
 | int p =>
  obtain⟨t1,rfl⟩:=ru
  cases ry with
  | a7 =>
   cases aL;simp only[ax]; exact RcNeAt.int_none _ _
  | bl q =>
   cases aL;simp only[ax]; exact RcNeAt.int_bool _ _ _
  | int q =>
   obtain⟨t2,rfl⟩:=aL;simp only[ax]; exact RcNeAt.int_int _ _ _ _
  | str q =>
   obtain⟨t2,rfl⟩:=aL;simp only[ax]; exact RcNeAt.int_str _ _ _ _
  | tup k1 k2 k3 k4 =>
   cases aL; obtain⟨its2,r2,t2⟩:=Inv.g6 I k2
   simp only[ax]; exact RcNeAt.int_tuple _ _ t2 bN
  | lst k1 k2 k3 k4 =>
   cases aL; obtain⟨its2,r2,t2⟩:=Inv.g0 I k2
   simp only[ax]; exact RcNeAt.int_list _ _ t2 bN
  | bA k1 k2 k3 k4=>(cases n <;> simp[flat] at fe)
  | exc k1 k2=>(cases n <;> simp[flat] at fe)
  | xd k1 k2=>(cases n <;> simp[flat] at fe)
  | fn _=>(cases n <;> simp[flat] at fe)
  | dic _=>(cases n <;> simp[flat] at fe)
 | str p =>
  obtain⟨t1,rfl⟩:=ru
  cases ry with
  | a7 =>
   cases aL;simp only[ax]; exact RcNeAt.str_none _ _
  | bl q =>
   cases aL;simp only[ax]; exact RcNeAt.str_bool _ _ _
  | int q =>
   obtain⟨t2,rfl⟩:=aL;simp only[ax]; exact RcNeAt.str_int _ _ _ _
  | str q =>
   obtain⟨t2,rfl⟩:=aL;simp only[ax]; rw[<- ny]; exact RcNeAt.str_str _ _ _ _
  | tup k1 k2 k3 k4 =>
   cases aL; obtain⟨its2,r2,t2⟩:=Inv.g6 I k2
   simp only[ax]; exact RcNeAt.str_tuple _ _ t2 bN
  | lst k1 k2 k3 k4 =>
   cases aL; obtain⟨its2,r2,t2⟩:=Inv.g0 I k2
   simp only[ax]; exact RcNeAt.str_list _ _ t2 bN
  | bA k1 k2 k3 k4=>(cases n <;> simp[flat] at fe)
  | exc k1 k2=>(cases n <;> simp[flat] at fe)
  | xd k1 k2=>(cases n <;> simp[flat] at fe)
  | fn _=>(cases n <;> simp[flat] at fe)
  | dic _=>(cases n <;> simp[flat] at fe)
 | tup h1 h2 h3 h4 =>
  cases ru; obtain⟨its1,r1,t1⟩:=Inv.g6 I h2
  cases ry with
  | a7 =>
   cases aL;simp only[ax]; exact RcNeAt.tuple_none t1 bN
  | bl q =>
   cases aL;simp only[ax]; exact RcNeAt.tuple_bool _ t1 bN
  | int q =>
   obtain⟨t2,rfl⟩:=aL;simp only[ax]; exact RcNeAt.tuple_int _ _ t1 bN
  | str q =>
   obtain⟨t2,rfl⟩:=aL;simp only[ax]; exact RcNeAt.tuple_str _ _ t1 bN
  | tup k1 k2 k3 k4 =>
   cases aL; obtain⟨its2,r2,t2⟩:=Inv.g6 I k2
   simp only[ax]; exact HB I n A bN t1 t2 r1 r2 h3 k3 h4 k4 fd fe ih
  | lst k1 k2 k3 k4 =>
   cases aL; obtain⟨its2,r2,t2⟩:=Inv.g0 I k2
   simp only[ax]; exact RcNeAt.tuple_list t1 t2 bN
  | bA k1 k2 k3 k4=>(cases n <;> simp[flat] at fe)
  | exc k1 k2=>(cases n <;> simp[flat] at fe)
  | xd k1 k2=>(cases n <;> simp[flat] at fe)
  | fn _=>(cases n <;> simp[flat] at fe)
  | dic _=>(cases n <;> simp[flat] at fe)
 | lst h1 h2 h3 h4 =>
  cases ru; obtain⟨its1,r1,t1⟩:=Inv.g0 I h2
  cases ry with
  | a7 =>
   cases aL;simp only[ax]; exact RcNeAt.list_none t1 bN
  | bl q =>
   cases aL;simp only[ax]; exact RcNeAt.list_bool _ t1 bN
  | int q =>
   obtain⟨t2,rfl⟩:=aL;simp only[ax]; exact RcNeAt.list_int _ _ t1 bN
  | str q =>
   obtain⟨t2,rfl⟩:=aL;simp only[ax]; exact RcNeAt.list_str _ _ t1 bN
  | tup k1 k2 k3 k4 =>
   cases aL; obtain⟨its2,r2,t2⟩:=Inv.g6 I k2
   simp only[ax]; exact RcNeAt.list_tuple t1 t2 bN
  | lst k1 k2 k3 k4 =>
   cases aL; obtain⟨its2,r2,t2⟩:=Inv.g0 I k2
   simp only[ax]; exact HD I n A bN t1 t2 r1 r2 h3 k3 h4 k4 fd fe ih
  | bA k1 k2 k3 k4=>(cases n <;> simp[flat] at fe)
  | exc k1 k2=>(cases n <;> simp[flat] at fe)
  | xd k1 k2=>(cases n <;> simp[flat] at fe)
  | fn _=>(cases n <;> simp[flat] at fe)
  | dic _=>(cases n <;> simp[flat] at fe)
 | bA h1 h2 h3 h4=>(cases n <;> simp[flat] at fd)
 | exc h1 h2=>(cases n <;> simp[flat] at fd)
 | xd h1 h2=>(cases n <;> simp[flat] at fd)
 | fn _=>(cases n <;> simp[flat] at fd)
 | dic _=>(cases n <;> simp[flat] at fd)
theorem zO(h:RcAt A s u w k)(hs:u=w->k=true)(hf:∀ b t,u≠Value.float b t):EqAt A s u w k:=λprog w' E Q hq=>by
 unfold eqBool;refine WB ?_;refine wpAny_ite_split (λjt=>?_) (λ_=>?_)
 ·have e:=eq_of_beq jt;rw[hs e] at hq;exact W0 (QT (W1 hq))
 ·cases u with
  | float b t=>exact absurd rfl (hf b t)
  | _=>exact W0 (h prog w' E _ (QC hq))
theorem zP(r:Rep H da x d)(ru:RelV x u)(b:UInt64)(t:Tok):u≠Value.float b t:=by
 intro e;subst e
 cases r <;> first | (cases ru; done) | (obtain⟨t',e⟩:=ru; cases e)
theorem HF(I:Inv X pins σ H s)(n:Nat):uD H s n:=by
 induction n with
 | zero =>
  intro A x y u w d e hu fd fe rx ry ru aL;refine zO (uF I 0 A x y u w d e (by omega) fd fe trivial rx ry ru aL) (λh=>?_) (zP rx ru);subst h;have:=ru.inj aL;subst this;rw[Rep.inj rx fd fe ry];exact rC fe
 | succ n ih =>
  intro A x y u w d e hu fd fe rx ry ru aL;refine zO (uF I (n + 1) A x y u w d e (by omega) fd fe ⟨by omega,ih⟩ rx ry ru aL) (λh=>?_) (zP rx ru);subst h;have:=ru.inj aL;subst this;rw[Rep.inj rx fd fe ry];exact rC fe
theorem uG(I:Inv X pins σ H s):∀ n:Nat,A.units + n + 1 < WE->mr H s A n
 | 0,_=>trivial
 | n + 1,h=>⟨by omega,HF I n⟩
def zQ:R2:=λx y H Q=>∃ d e,Rep H da x d/\Rep H da y e/\flat 50 d=true/\flat 50 e=true/\Q (.bl (ax d e)) H
def zR:R2:=λx y H Q=>∃ d e,Rep H da x d/\Rep H da y e/\flat 50 d=true/\flat 50 e=true/\Q (.bl (!ax d e)) H
theorem lp(hu:X.A.units + 64 < WE):bT X (WN .Eq) zQ:=by
 intro pins s σ H x y v u Q I rx ry h;obtain⟨d,e,r1,r2,f1,f2,q⟩:=h;exact uF I 50 X.A x y v u d e (by omega) f1 f2 (uG I 50 (by omega)) r1 r2 rx ry X.prog X.w X.xe _ ⟨.bl _,H,I,rfl,q⟩
theorem zS(hu:X.A.units + 64 < WE):bT X (WN .NotEq) zR:=by
 intro pins s σ H x y v u Q I rx ry h;obtain⟨d,e,r1,r2,f1,f2,q⟩:=h;exact HE I 50 X.A x y v u d e (by omega) f1 f2 (uG I 50 (by omega)) r1 r2 rx ry X.prog X.w X.xe _ ⟨.bl _,H,I,rfl,q⟩
end
def cE{α:Type}(xs:List α)(lo hi:Option Int):List α:=(xs.drop (HT.aT xs.length 0 lo)).take (HT.aT xs.length xs.length hi - HT.aT xs.length 0 lo)
theorem zT(xs:List V)(lo hi:Option Int):cE xs lo hi=k8 xs lo hi:=rfl
theorem HG(xs:List α)(lo hi:Option Int):(cE xs lo hi).length<=xs.length:=by
 unfold cE;rw[JY,List.length_drop];omega
theorem aD.cut(lo hi:Option Int)(h:aD H O vs ds):aD H O (cE vs lo hi) (cE ds lo hi):=by
 unfold cE;rw[h.1];exact aD.take _ (aD.drop _ h)
theorem HH{α:Type}{xs:List α}{lo hi:Option Int}(h:HT.aT xs.length 0 lo=0/\HT.aT xs.length xs.length hi=xs.length):cE xs lo hi=xs:=by
 unfold cE;rw[h.1,h.2];simp
section
variable {prog:Wm} {w:Wr} {A:Ws} {E:Value->W2->Prop} {s:W2}
theorem HI{t sl:Addr}{items:Array Value}{vl vu:Value}{lo hi:Option Int}{Q:Value->W2->Prop}(ht:IsTup s.heap t items)(hs:s.heap.IsSliceOf sl vl vu .none)(pl:IsPart vl lo)(pu:IsPart vu hi)
  (hw:HT.aT items.size 0 lo=0/\HT.aT items.size items.size hi=items.size) (h:Q (.ref t) s):W7 (model prog w) A (JM (.ref t) (.ref sl)) Q E s:=by
 obtain⟨os,hos,hcs,k7⟩:=id hs;have t_:s.TypeIs (.ref sl) "slice":=⟨os,hos,hcs⟩
 unfold JM;try with_reducible refine WB ?_
 first | refine W0 (W1 ?_) | skip
 refine W0 (JR ht.typeIs (by decide) ?_);refine W0 (WD (name:=Str.ofString "__getitem__") ht.typeIs QQ
  (Ww QQ ht.typeIs entry_tuple_getitem ?_ (args_tuple_getitem _ _)))
 show W7 _ _ (Builtin.Tuple.tupleItemsOf (.ref t) >>= _) _ _ s;refine W0 (tupleItemsOf_ ht ?_);refine W0 (JF t_ ?_);rw[if_pos (by decide)];refine W0 (HT.yS hs pl pu ?_);show W7 _ _ (if (((HT.aT items.size 0 lo:Nat):Int) == 0 && (1:Int) == 1 && (HT.aT items.size items.size hi - HT.aT items.size 0 lo) == items.size)=true then _ else _) _ _ s;rw[hw.1,hw.2];rw[if_pos (by simp)];refine W0 (m:=Builtin.Tuple.tupleIsExact (.ref t)) ?_;unfold Builtin.Tuple.tupleIsExact;refine W0 (JF ht.typeIs (W1 ?_));rw[if_pos (by decide)];exact W0 (QT (W0 (W1 (W1 ⟨_,rfl,W1 h⟩))))
end
section
variable {X:Cx}
def zU(K:W4):V->Option Int->Option Int->Hp->VK->Prop:=λx lo hi H Q=>∃ a xs,x = .ref a/\dA K H a xs /\
 ((HT.aT xs.length 0 lo=0/\HT.aT xs.length xs.length hi=xs.length)->Q (.ref a) H)/\(¬ (HT.aT xs.length 0 lo=0/\HT.aT xs.length xs.length hi=xs.length)->∀ p,H p=none->Q (.ref p) (upd H p (.tup (k8 xs lo hi))))
theorem HJ:jR X (zU X.K):=by
 intro pins s σ H x v vl vu lo hi sl Q I rx hs pl pu h;obtain⟨a,xs,rfl,hx,q1,q2⟩:=h;by_cases hw:HT.aT xs.length 0 lo=0/\HT.aT xs.length xs.length hi=xs.length
 ·cases rx;obtain⟨ag,r,ht,hz⟩:=I.tuple hx;have hlen:ag.toArray.size=xs.length:=by rw[Wq]; exact r.length.symm
  refine⟨"tuple",_,PyProof.Rows.slot_tuple_getitem.lookup,ht.typeIs,?_⟩;exact HI ht hs pl pu (by rw[hlen]; exact hw) ⟨.ref a,H,I,rfl,q1 hw⟩
 ·exact qM pins s σ H (.ref a) v vl vu lo hi sl Q I rx hs pl pu ⟨a,xs,rfl,hx,hw,q2 hw⟩
theorem HK(a b:Nat):sliceRange (a:Int) (b:Int) 1=(Q9 (b - a)).map (λk=>a + k):=by
 have h0:((1:Int) > 0)=True:=by simp
 unfold sliceRange;simp only[h0,if_true];by_cases bu:(a:Int) < (b:Int)
 ·rw[if_pos bu];have e3:(((b:Int) - (a:Int) + 1 - 1) / 1).toNat=b - a:=by
   rw[Int.ediv_one]; omega
  rw[e3];refine WS λk _=>?_
  omega
 ·rw[if_neg bu];have:b - a=0:=by omega
  rw[this];rfl
theorem zV(lo hi:Option Int)(n:Nat):QE lo hi 1 n=(Q9 (HT.aT n n hi - HT.aT n 0 lo)).map (λk=>HT.aT n 0 lo + k):=by
 have c:∀ (i:Int) (d:Nat),max 0 (min (if i < 0 then i + (n:Int) else i) (n:Int))=((HT.aT n d (some i):Nat):Int):=by
  intro i d;show max 0 (min (if i < 0 then i + (n:Int) else i) (n:Int))=(((if i < 0 then(i + (n:Int)).toNat else min i.toNat n):Nat):Int);by_cases hi:i < 0
  ·simp only[if_pos hi]; omega
  ·simp only[if_neg hi]; omega
 have h0:((1:Int) > 0)=True:=by simp
 rw[<- HK];unfold QE;simp only[h0,if_true]
 cases lo with
 | none =>
  cases hi with
  | none=>rfl
  | some j=>show sliceRange 0 (max 0 (min (if j < 0 then j + (n:Int) else j) (n:Int))) 1=_; rw[c j n]; rfl
 | some i =>
  cases hi with
  | none=>show sliceRange (max 0 (min (if i < 0 then i + (n:Int) else i) (n:Int))) (n:Int) 1=_; rw[c i 0]; rfl
  | some j=>show sliceRange (max 0 (min (if i < 0 then i + (n:Int) else i) (n:Int))) (max 0 (min (if j < 0 then j + (n:Int) else j) (n:Int))) 1=_; rw[c i 0,c j n]
theorem HL(x:Tx)(lo hi:Option Int):(⟨((QE lo hi 1 (toS x).length).filterMap ((toS x).cps[·]?)).toArray⟩:Str)=toS (cE x lo hi):=by
 unfold toS;congr 1
 rw[zV];have:=pick_run (x.toArray) (HT.aT x.length 0 lo) (HT.aT x.length x.length hi - HT.aT x.length 0 lo);have hl:({ cps:=x.toArray }:Str).length=x.length:=by simp[Str.length]
 rw[hl];rw[this];rfl
def zW:V->Option Int->Option Int->Hp->VK->Prop:=λx lo hi H Q=>∃ z:Tx,x = .str (toS z)/\z.length<=W9/\Q (.str (toS (cE z lo hi))) H
theorem zX(p:IsPart v o):∃ q:Option (Int×Tok),v=partValue q/\q.map (·.1)=o:=by
 cases p with
 | none=>exact⟨none,rfl,rfl⟩
 | int i t=>exact⟨some (i,t),rfl,rfl⟩
theorem HM:jR X zW:=by
 intro pins s σ H x v vl vu lo hi sl Q I rx hs pl pu h;obtain⟨z,rfl,hz,q⟩:=h;obtain⟨t,rfl⟩:=rx;obtain⟨l,rfl,el⟩:=zX pl;obtain⟨u,rfl,eu⟩:=zX pu;obtain⟨o,ho,hc,hd⟩:=hs;refine⟨"str",_,F.slot_str_getitem.lookup,typeIs_str s _ t,?_⟩;refine wpAny_getItem_str_slice (l:=l) (u:=u) (st:=none) ⟨o,ho,hc,hd⟩ rfl ?_;unfold sliceMade;have e:(slicePicked (toS z) l u none)=QE lo hi 1 (toS z).length:=by
  unfold slicePicked;rw[el,eu];rfl
 rw[e];by_cases hw:(((none:Option (Int×Tok)).map (·.1)).getD 1 == 1 && (QE lo hi 1 (toS z).length).length == (toS z).length)=true
 ·rw[if_pos hw];refine⟨.str (toS (cE z lo hi)),H,I,⟨t,?_⟩,q⟩;congr 1
  rw[Wt] at hw;have uH:=eq_of_beq hw.2;rw[zV,Wi,Js,jT] at uH;have h1:=HT.t9 z.length 0 (Qc _) lo;have h2:=HT.t9 z.length z.length (Wk _) hi;unfold cE;congr 1
  by_cases h0:z.length=0
  ·have:z=[]:=List.eq_nil_of_length_eq_zero h0;subst this;simp
  ·have a1:HT.aT z.length 0 lo=0:=by omega
   rw[a1] at uH ⊢;rw[uH];simp
 ·rw[if_neg hw];show Made.post (.str _) _ _;rw[HL];exact⟨by rw[jT]; exact Qo (HG z lo hi) hz,.str (toS (cE z lo hi)),H,I.tok _,⟨_,rfl⟩,q⟩
theorem HN:bT X (Qy .Add) (λx y H Q=>∃ a b ys,x = .ref a/\y = .ref b/\dA X.K H a []/\dA X.K H b ys/\Q (.ref b) H):=by
 intro pins s σ H x y v u Q I rx ry h;obtain⟨a,b,ys,rfl,rfl,ha,hb,q⟩:=h
 cases rx
 cases ry;obtain⟨ag,r1,p1,_⟩:=I.tuple ha;obtain⟨its2,r2,p2,_⟩:=I.tuple hb
 cases r1;obtain⟨⟨cls,dd,data,sl⟩,ho,hc,n,hd⟩:=id p1;obtain⟨⟨cls2,l9,data2,k6⟩,ho2,hc2,n2,hd2⟩:=id p2;simp only at hc hd hc2 hd2;subst hc hd hc2 hd2;exact concat_meets ⟨_,ho,rfl⟩ ⟨_,ho2,rfl⟩ noFill_tuple_add seq_tuple_add PySem.F.slot_tuple_add PySem.F.entry_tuple_add (PySem.F.args_tuple_add_2 _ _)
   (tuple_addW0 a b #[] its2.toArray n n2 dd l9 sl k6 rfl) ⟨ho,ho2,.ref b,H,I,rfl,q⟩
def zY(K:W4):R2:=λx y H Q=>∃ l b xs zs,x = .ref l/\y = .ref b/\cx K H l xs/\cx K H b zs/\xs.length + zs.length<=W9/\∀ p,H p=none->Q (.ref p) (upd H p (.lst (xs ++ zs)))
theorem HP:bT X (Qy .Add) (zY X.K):=by
 intro pins s σ H x y v u Q I rx ry h;obtain⟨l,b,xs,zs,rfl,rfl,hH,hB,hz,q⟩:=h
 cases rx
 cases ry;obtain⟨ag,r,⟨⟨cls,dd,data,sl⟩,n,e,hc,eF,hd⟩,z⟩:=I.list hH;obtain⟨its2,r2,⟨⟨cls2,l9,data2,k6⟩,n2,e2,hc2,hdd2,hd2⟩,z2⟩:=I.list hB;simp only at hc hd eF hc2 hd2 hdd2;subst hc hd eF hc2 hd2 hdd2;have hl:=r.length;have kn:=r2.length;refine concat_meets ⟨_,e,rfl⟩ ⟨_,e2,rfl⟩ noFill_list_add seq_list_add PySem.F.slot_list_add PySem.F.entry_list_add (PySem.F.args_list_add_2 _ _)
   (list_addW l b ag.toArray its2.toArray n n2 none none sl k6 (by rw[Wq,Wq]; omega)) ⟨e,e2,?_⟩
 have ea:ag.toArray ++ its2.toArray=(ag ++ its2).toArray:=by simp
 rw[ea];exact⟨.ref _,_,I.Gp (t':=s.toks) (r.append r2) (by rw[WX]; omega),rfl,q _ I.fresh⟩
theorem rG:∀ {ys:List Str} {us:List Value},Vals (ys.map V.str) us->StrsAre us ys
 | [],us,r=>by cases r; exact .nil
 | y :: ys,us,r=>by
  cases r with
  | cons r1 r2 =>
   obtain⟨t,rfl⟩:=r1;exact .cons y t (rG r2)
theorem zZ:∀ {ys:List Str} {us:List Value},StrsAre us ys->Vals (ys.map V.str) us
 | _,_,.nil=>.nil
 | _,_,.cons y t h=>.cons ⟨t,rfl⟩ (zZ h)
def rH(K:W4):V->List V->Hp->VK->Prop:=λx vs H Q=>∃ (z:Str) (a:Addr) (ys:List Str),x = .str z/\vs=[.ref a]/\(cx K H a (ys.map V.str)\/dA K H a (ys.map V.str)) /\
 (ys.map (·.length)).sum + ys.length * z.length<=16777216/\Q (.str (Txt.join z ys)) H
theorem HQ:uc X "str.join" (rH X.K):=by
 intro pins s σ H x vs v us Q I rx rv h;obtain⟨z,a,ys,rfl,rfl,hq,hz,q⟩:=h;obtain⟨t,rfl⟩:=rx;obtain⟨u,rfl,ru⟩:=rv.one
 cases ru;rcases hq with hq | hq
 ·obtain⟨ag,r,p,_⟩:=I.list hq;exact join_list p.isList (by simpa using rG r) hz λt' k=>⟨.str _,H,I.tok _,⟨t',rfl⟩,q⟩
 ·obtain⟨ag,r,p,_⟩:=I.tuple hq;exact join_tuple p (by simpa using rG r) hz λt' k=>⟨.str _,H,I.tok _,⟨t',rfl⟩,q⟩
theorem uI:∀ {bs:List Bool} {us:List Value},Vals (bs.map V.bl) us->∀ (i:Nat) v,us[i]? = some v->∃ b,bs[i]? = some b/\v = .bool b
 | [],us,r,i,v,e=>by cases r; simp at e
 | b :: bs,us,r,i,v,e=>by
  cases r with
  | cons r1 r2 =>
   cases i with
   | zero =>
    simp at e;subst e;exact⟨b,rfl,r1⟩
   | succ i=>exact uI r2 i v (by simpa using e)
theorem z0:∀ bs:List Bool,((Q9 bs.length).all λi=>(bs[i]?).getD true)=bs.all id
 | []=>rfl
 | b :: bs=>by
  rw[WG,List.range_succ_eq_map,JB,List.all_map];have:=z0 bs;simp only[Qj,Jz,JB,id];rw[<- this];rfl
theorem z5:∀ bs:List Bool,((Q9 bs.length).any λi=>(bs[i]?).getD false)=bs.any id
 | []=>rfl
 | b :: bs=>by
  rw[WG,List.range_succ_eq_map,WV,Jj];have:=z5 bs;simp only[Qj,Jz,WV,id];rw[<- this];rfl
theorem HR (hc:X.calm=true):eB X (.builtin "all") (λxs H Q=>∃ (a:Addr) (bs:List Bool),xs=[.ref a]/\cx X.K H a (bs.map V.bl)/\Q (.bl (bs.all (λb=>b))) H):=by
 intro pins s σ H xs us Q I r h;obtain⟨a,bs,rfl,hq,q⟩:=h;obtain⟨u,rfl,ru⟩:=gY r
 cases ru;obtain⟨ag,r',p,_⟩:=I.list hq;have hl:=p.isList;have bu:a < s.heap.objs.size:=by obtain⟨_,e,_⟩:=hl; exact Wp e
 have hlen:=r'.length;rw[Wi] at hlen;refine call_all_walk (JS hl ?_);refine⟨s.heap.objs.size,[s.heap.objs.size,a],[s.heap.objs.size],ag.toArray.size,_,_,λi=>(bs[i]?).getD true,rfl,Walks.list (A:=X.A.in1) (I.ok.hd hc) _ a (WW bu) ag.toArray,
  ⟨⟨_,Wg _ rfl,rfl,rfl⟩,hl.push _⟩,λi v s' Q' E' hP hQ=>?_,λh' tk hk=>?_⟩
 ·obtain⟨b,e,rfl⟩:=uI r' i v (by simpa using hP);simp only[e,Jz] at hQ;exact QC hQ
 ·have e:((Q9 ag.toArray.size).all λi=>(bs[i]?).getD true)=bs.all id:=by
   rw[Wq,<- hlen]; exact z0 bs
  rw[e];exact⟨.bl _,H,I.kept λb o e=>hk b o (λhm=>by rw[List.mem_singleton.mp hm] at e; exact Qn _ (Wp e)) (W8 _ e),rfl,q⟩
theorem HS (hc:X.calm=true):eB X (.builtin "any") (λxs H Q=>∃ (a:Addr) (bs:List Bool),xs=[.ref a]/\cx X.K H a (bs.map V.bl)/\Q (.bl (bs.any (λb=>b))) H):=by
 intro pins s σ H xs us Q I r h;obtain⟨a,bs,rfl,hq,q⟩:=h;obtain⟨u,rfl,ru⟩:=gY r
 cases ru;obtain⟨ag,r',p,_⟩:=I.list hq;have hl:=p.isList;have bu:a < s.heap.objs.size:=by obtain⟨_,e,_⟩:=hl; exact Wp e
 have hlen:=r'.length;rw[Wi] at hlen;refine call_any_walk (JS hl ?_);refine⟨s.heap.objs.size,[s.heap.objs.size,a],[s.heap.objs.size],ag.toArray.size,_,_,λi=>(bs[i]?).getD false,rfl,Walks.list (A:=X.A.in1) (I.ok.hd hc) _ a (WW bu) ag.toArray,
  ⟨⟨_,Wg _ rfl,rfl,rfl⟩,hl.push _⟩,λi v s' Q' E' hP hQ=>?_,λh' tk hk=>?_⟩
 ·obtain⟨b,e,rfl⟩:=uI r' i v (by simpa using hP);simp only[e,Jz] at hQ;exact QC hQ
 ·have e:((Q9 ag.toArray.size).any λi=>(bs[i]?).getD false)=bs.any id:=by
   rw[Wq,<- hlen]; exact z5 bs
  rw[e];exact⟨.bl _,H,I.kept λb o e=>hk b o (λhm=>by rw[List.mem_singleton.mp hm] at e; exact Qn _ (Wp e)) (W8 _ e),rfl,q⟩
def ko(x:Tx):List Tx->List Tx
 | []=>[x]
 | y :: r=>if y < x then y :: ko x r else x :: y :: r
def iy:List Tx->List Tx
 | []=>[]
 | x :: r=>ko x (iy r)
theorem uJ(x:Tx):∀ l:List Tx,(ko x l).Perm (x :: l)
 | []=>.refl _
 | y :: r=>by
  unfold ko;split
  ·exact((uJ x r).cons y).trans (.swap x y r)
  ·exact .refl _
theorem uK:∀ l:List Tx,(iy l).Perm l
 | []=>.refl _
 | x :: r=>(uJ x _).trans ((uK r).cons x)
abbrev iY(a b:Tx):Prop:=¬ b < a
theorem z6(h1:iY a b)(h2:iY b c):iY a c:=List.not_lt.mpr (List.le_trans (List.not_lt.mp h1) (List.not_lt.mp h2))
theorem HU(h1:iY a b)(h2:iY b a):a=b:=List.le_antisymm (List.not_lt.mp h1) (List.not_lt.mp h2)
theorem z7(x:Tx):∀ l:List Tx,l.Pairwise iY->(ko x l).Pairwise iY
 | [],_=>by simp[ko]
 | y :: r,h=>by
  unfold ko;obtain⟨h1,h2⟩:=List.pairwise_cons.mp h;split
  ·rename_i bu;refine JI.mpr ⟨λz hz=>?_,z7 x r h2⟩;rcases Wo.mp ((uJ x r).mem_iff.mp hz) with e | hz
   ·subst e;intro q;exact absurd (List.lt_trans bu q) (List.lt_irrefl _)
   ·exact h1 z hz
  ·rename_i hge;refine JI.mpr ⟨λz hz=>?_,h⟩;rcases Wo.mp hz with e | hz
   ·subst e; exact hge
   ·exact z6 hge (h1 z hz)
theorem z8:∀ l:List Tx,(iy l).Pairwise iY
 | []=>.nil
 | x :: r=>z7 x _ (z8 r)
theorem HV(hp:l'.Perm l)(hs:l'.Pairwise iY):l'=iy l :=
 List.Perm.eq_of_pairwise (λ_ _ _ _ h1 h2=>HU h1 h2) hs (z8 l) (hp.trans (uK l).symm)
theorem z9:∀ (x:Str) (r:List Str),risingS x r=true->((x :: r).map λz:Str=>z.cps.toList).Pairwise iY
 | x,[],_=>by simp
 | x,y :: r,h=>by
  have h':(!ltCps y.cps.toList x.cps.toList && risingS y r)=true:=h;rw[Wt] at h';have ih:=z9 y r h'.2;have uL:iY x.cps.toList y.cps.toList:=by
   have:=h'.1;rw[ltCps_eq] at this;simpa using this
  rw[Wd];refine JI.mpr ⟨λz hz=>?_,ih⟩;rw[Wd] at hz ih;rcases Wo.mp hz with e | hz
  ·subst e; exact uL
  ·exact z6 uL ((List.pairwise_cons.mp ih).1 z hz)
theorem HW:eB X (.builtin "sorted") (λxs H Q=>∃ (a:Addr) (ts:List Tx),xs=[.ref a]/\cx X.K H a (ts.map λz=>V.str (toS z))/\ts.length < 64/\∀ p,H p=none->Q (.ref p) (upd H p (.lst ((iy ts).map λz=>V.str (toS z))))):=by
 intro pins s σ H xs us Q I r h;obtain⟨a,ts,rfl,hq,hz,q⟩:=h;obtain⟨u,rfl,ru⟩:=gY r
 cases ru;obtain⟨ag,r',p,_⟩:=I.list hq;have r2:Vals ((ts.map toS).map V.str) ag:=by rw[Wu]; exact r'
 have hlen:=r'.length;rw[Wi] at hlen;refine sorted_strs p.isList (rG r2) (by omega) λout ss hS hp hs=>?_
 have e:ss=(iy ts).map toS:=by
  have HX:(ss.map λz:Str=>z.cps.toList).Pairwise iY:=by
   cases ss with
   | nil=>simp
   | cons x r=>exact z9 x r hs
  have pz:(ss.map λz:Str=>z.cps.toList).Perm ts:=by
   have:=hp.map λz:Str=>z.cps.toList
   rw[Wu] at this;have e2:ts.map ((λz:Str=>z.cps.toList) ∘ toS)=ts:=by
    rw[show((λz:Str=>z.cps.toList) ∘ toS)=id from funext λz=>nj z,List.map_id]
   rw[e2] at this;exact this
  rw[<- HV pz HX,Wu];have:(toS ∘ λz:Str=>z.cps.toList)=id:=funext λz=>(zK z).symm
  rw[this,List.map_id]
 obtain⟨ep,he⟩:=sortedAll_at s.heap ag out;have hv:Vals ((iy ts).map λz=>V.str (toS z)) out.toList:=by
  have:=zZ hS;rw[e,Wu] at this;exact this
 have kn:((iy ts).map λz=>V.str (toS z)).length<=W9:=by
  rw[Wi,(uK ts).length_eq];exact Qo (JZ hz) (by rw[QG]; decide)
 refine⟨.ref (s.heap.objs.size + 1),_,I.laid (a:=s.heap.objs.size + 1) (o:=.lst ((iy ts).map λz=>V.str (toS z))) (t':=s.toks) (λb u e=>sortedAll_old e) (JW _) ?_,rfl,q _ (I.aC.fresh (JW _))⟩;exact⟨kn,out.toList,ep,hv,by simpa[Qg] using he⟩
end
def p2(p:D->D->Option S)(x y:D)(δ:Dl):Rs S:=match p x y with
 | some s=>.ok s δ
 | none=>.stuck
def bj(p:D->D->Option S)(fa:DE)(fb:BE):DE:=λδ=>(fa δ).bind λx δ1=>(fb δ1).bind λy δ2=>p2 p x.d y δ2
def bG(p:D->D->Option S)(i:Nat)(fb:BE):DE:=λδ=>(fb δ).bind λy δ1=>(aj i δ1).bind λx δ2=>p2 p x y δ2
def cQ(r:R2)(p:D->D->Option S):Prop:=∀ (c:Fc) (σ:St) (δ:Dl) (H:Hp) (x y:V) (d e:D) (s:S) (Q:VK),Ok c σ δ H->cO c σ δ H x d->cO c σ δ H y e->p d e=some s ->
 (∀ v H',aQ c σ δ H σ δ H'->bp c σ δ H H' v s->Q v H')->r x y H Q
section
variable {X:Cx} {c:Fc} {a b:Expr} {fa:DE} {fb:BE} {r:R2} {p:D->D->Option S} {pos:Pos}
theorem uM(hp:cQ r p)(k:Ok c σ δ H)(rx:cO c σ δ H x d)(ry:cO c σ δ H y e)
  (h:post c (p2 p d e δ) λs δ'=>∀ v H',aQ c σ δ H σ δ' H'->bp c σ δ' H H' v s->Q v H'):r x y H Q:=by
 unfold p2 at h
 cases e1:p d e with
 | none=>rw[e1] at h; exact h.elim
 | some s=>rw[e1] at h; exact hp c σ δ H x y d e s Q k rx ry e1 h
theorem rJ(hp:cQ r p)(h:tD c (bj p fa fb) σ H Q):l7 r (tD c fa) (tB c fb) σ H Q:=by
 obtain⟨δ,k,q⟩:=h;refine⟨δ,k,?_⟩;unfold bj at q;rw[bC] at q;refine aU q λx δ1 q1 v H1 a1 r1=>⟨δ1,a1.ok,?_⟩
 rw[bC] at q1;refine aU q1 λy δ2 q2 u H2 a2 r2=>?_
 exact uM hp a2.ok (.inl (Rep.dO r1.rep a2)) r2 (aU q2 λs δ3 q3 v' H3 a3 r3=>q3 v' H3 (a1.trans (a2.trans a3)) (bp.back r3 (a1.trans a2)))
theorem HY(hp:cQ r p)(h:tD c (bG p i fb) σ H Q)(hv:∀ δ,Ok c σ δ H->post c (fb δ) (λ_ _=>True)->∃ v,σ[i]? = some (some v)):l7 r (c9 i) (tB c fb) σ H Q:=by
 obtain⟨δ,k,q⟩:=h;unfold bG at q;rw[bC] at q;obtain⟨v,ev⟩:=hv δ k (aU q λ_ _ _=>trivial);refine⟨v,ev,δ,k,aU q λy δ1 q1 u H1 a1 r1=>?_⟩;rw[bC] at q1;unfold aj at q1
 cases e:δ1[i]? with
 | none=>rw[e] at q1; exact q1.elim
 | some o =>
  cases o with
  | none=>rw[e] at q1; exact q1.elim
  | some w =>
   rw[e] at q1;have uN:post c (p2 p w.d y δ1) λs δ'=>∀ v H',aQ c σ δ H σ δ' H'->bp c σ δ' H H' v s->Q v H':=q1
   have rb:cO c σ δ1 H1 v w.d:=by
    cases w with
    | pure d =>
     obtain⟨v',e1,r⟩:=a1.ok.slot i d e;rw[ev] at e1; cases e1
     exact .inl r
    | own d =>
     obtain⟨a,e1,r,_⟩:=a1.ok.own i d e;rw[ev] at e1; cases e1
     exact .inr ⟨a,rfl,r⟩
   exact uM hp a1.ok rb r1 (aU uN λs δ3 q3 v' H3 a3 r3=>q3 v' H3 (a1.trans a3) (bp.back r3 a1))
theorem uO{i:Nat}{σ:St}{δ:Dl}{H:Hp}(k:Ok c σ δ H){w:S}(e:δ[i]? = some (some w)):∃ v,σ[i]? = some (some v):=by
 cases w with
 | pure d=>obtain⟨v,e1,_⟩:=k.slot i d e; exact⟨v,e1⟩
 | own d=>obtain⟨a,e1,_⟩:=k.own i d e; exact⟨_,e1⟩
end
def ah(p:D->D->Option S)(i:Nat)(fb:BE):DE:=λδ=>match δ[i]? with
 | some (some _)=>bG p i fb δ
 | _=>.stuck
section
variable {X:Cx} {c:Fc} {a b:Expr} {fa:DE} {fb:BE} {r:R2} {p:D->D->Option S} {pos:Pos}
theorem rK(hp:cQ r p){i:Nat}{σ:St}{H:Hp}{Q:VK}(h:tD c (ah p i fb) σ H Q):l7 r (c9 i) (tB c fb) σ H Q:=by
 obtain⟨δ,k,q⟩:=h;unfold ah at q
 cases e:δ[i]? with
 | none=>rw[e] at q; exact q.elim
 | some o =>
  cases o with
  | none=>rw[e] at q; exact q.elim
  | some w =>
   rw[e] at q;obtain⟨v,ev⟩:=uO k e;exact HY hp (i:=i) ⟨δ,k,q⟩ λ_ _ _=>⟨v,ev⟩
theorem dZ{op:Operator}(ho:bT X (Qy op) r)(hp:cQ r p)(ha:SE X c a fa)(hb:SB X c b fb):SE X c (.BinOp a op b pos) (bj p fa fb):=PE.weak (yx ho ha hb) λ_ _ _ h=>rJ hp h
theorem kr{op:Operator}{i:Nat}(ho:bT X (Qy op) r)(hp:cQ r p)(ha:PE X a (c9 i))(hb:SB X c b fb):SE X c (.BinOp a op b pos) (ah p i fb):=PE.weak (yx ho ha hb) λ_ _ _ h=>rK hp h
theorem HZ{op:CmpOp}(ho:bT X (WN op) r)(hp:cQ r p)(ha:SE X c a fa)(hb:SB X c b fb)(hm:QA op b=false):SE X c (.Compare a [op] [b] pos) (bj p fa fb):=PE.weak (yD ho ha hb hm) λ_ _ _ h=>rJ hp h
theorem H_{op:CmpOp}{i:Nat}(ho:bT X (WN op) r)(hp:cQ r p)(ha:PE X a (c9 i))(hb:SB X c b fb)(hm:QA op b=false):SE X c (.Compare a [op] [b] pos) (ah p i fb):=PE.weak (yD ho ha hb hm) λ_ _ _ h=>rK hp h
theorem rL(hr:gL X r)(hp:cQ r p)(ha:SE X c a fa)(hb:SB X c b fb)(hs:ub b):SE X c (.Subscript a b pos) (bj p fa fb):=PE.weak (yX hr ha hb hs) λ_ _ _ h=>rJ hp h
theorem bQ{i:Nat}(hr:gL X r)(hp:cQ r p)(ha:PE X a (c9 i))(hb:SB X c b fb)(hs:ub b):SE X c (.Subscript a b pos) (ah p i fb):=PE.weak (yX hr ha hb hs) λ_ _ _ h=>rK hp h
end
abbrev DT:=Dl->Rs Bool
def tT(c:Fc)(f:DT):TT:=λσ H Q=>∃ δ,Ok c σ δ H/\post c (f δ) λb δ'=>∀ H',aQ c σ δ H σ δ' H'->Q b H'
abbrev ST(X:Cx)(c:Fc)(e:Expr)(f:DT):Prop:=PT X e (tT c f)
theorem PT.weak(h:PT X e t)(w:∀ σ H Q,t' σ H Q->t σ H Q):PT X e t':=λpins s σ H Q I q=>h pins s σ H Q I (w σ H Q q)
def aS(f:DE):DT:=λδ=>(f δ).bind λr δ'=>match r with
 | .pure (.bl b)=>.ok b δ'
 | _=>.stuck
section
variable {X:Cx} {c:Fc} {a b:Expr} {fa f:DE} {fb:BE} {r:R2} {p:D->D->Option S} {pos:Pos}
theorem uP(h:tT c (aS f) σ H Q):tD c f σ H λx H'=>∃ k,x = .bl k/\Q k H':=by
 obtain⟨δ,k,q⟩:=h;refine⟨δ,k,?_⟩;unfold aS at q;rw[bC] at q;refine aU q λr δ1 q1 v H1 a1 r1=>?_
 cases r with
 | own d=>exact q1.elim
 | pure d =>
  cases d <;> first | exact q1.elim | skip
  rename_i b
  cases r1;exact⟨b,rfl,q1 H1 a1⟩
theorem lq{op:CmpOp}(ho:bT X (WN op) r)(hp:cQ r p)(ha:SE X c a fa)(hb:SB X c b fb)(hm:QA op b=false):ST X c (.Compare a [op] [b] pos) (aS (bj p fa fb)) :=
 PT.weak (yE ho ha hb hm) λσ H Q h=>rJ hp (uP h)
theorem pA{op:CmpOp}{i:Nat}(ho:bT X (WN op) r)(hp:cQ r p)(ha:PE X a (c9 i))(hb:SB X c b fb)(hm:QA op b=false):ST X c (.Compare a [op] [b] pos) (aS (ah p i fb)) :=
 PT.weak (yE ho ha hb hm) λσ H Q h=>rK hp (uP h)
theorem mv{e:Expr}(h:SE X c e f)(he:∀ whole,isTrue e X.env whole=(do let v <- whole; standAt e.pos; holding [v] (truthy v)):=by intro _; rfl):ST X c e (aS f) :=
 PT.weak (EE h he) λσ H Q h=>uP h
def rM(t u:DT):DT:=λδ=>(t δ).bind λb δ1=>if b then u δ1 else .ok false δ1
def mw(t u:DT):DT:=λδ=>(t δ).bind λb δ1=>if b then .ok true δ1 else u δ1
def iZ(t:DT):DT:=λδ=>(t δ).bind λb δ1=>.ok (!b) δ1
abbrev SW(X:Cx)(c:Fc)(e:Expr)(f:DT):Prop:=PW X e (tT c f)
theorem PW.weak(h:PW X e t)(w:∀ σ H Q,t' σ H Q->t σ H Q):PW X e t':=λwh pins s σ H Q I q=>h wh pins s σ H Q I (w σ H Q q)
variable {t u:DT} {rest:List Expr}
theorem Ia(ha:ST X c a t):SW X c (.BoolOp .And [a] pos) t:=EI ha
theorem Ib(ha:ST X c a t):SW X c (.BoolOp .Or [a] pos) t:=EJ ha
theorem Ic(ha:ST X c a t)(hb:SW X c (.BoolOp .And (b :: rest) pos) u):SW X c (.BoolOp .And (a :: b :: rest) pos) (rM t u):=PW.weak (EK ha hb) λσ H Q ⟨δ,k,q⟩=>by
 unfold rM at q;rw[bC] at q;refine⟨δ,k,aU q λx δ1 q1 H1 a1=>?_⟩
 cases x with
 | true=>exact⟨δ1,a1.ok,aU q1 λy δ2 q2 H2 a2=>q2 H2 (a1.trans a2)⟩
 | false=>exact q1 H1 a1
theorem z_(ha:ST X c a t)(hb:SW X c (.BoolOp .Or (b :: rest) pos) u):SW X c (.BoolOp .Or (a :: b :: rest) pos) (mw t u):=PW.weak (pw_or ha hb) λσ H Q ⟨δ,k,q⟩=>by
 unfold mw at q;rw[bC] at q;refine⟨δ,k,aU q λx δ1 q1 H1 a1=>?_⟩
 cases x with
 | false=>exact⟨δ1,a1.ok,aU q1 λy δ2 q2 H2 a2=>q2 H2 (a1.trans a2)⟩
 | true=>exact q1 H1 a1
theorem Aa(h:SW X c a t):ST X c a t:=PW.pt h
theorem rN(ha:ST X c a t):ST X c (.UnaryOp .Not a pos) (iZ t):=PT.weak (EL ha) λσ H Q ⟨δ,k,q⟩=>by
 unfold iZ at q;rw[bC] at q;exact⟨δ,k,q⟩
def Ie(t:DT)(f g:DE):DE:=λδ=>(t δ).bind λb δ1=>if b then f δ1 else g δ1
variable {g:DE}
end
section
variable {c:Fc} {σ:St} {δ:Dl} {H:Hp} {x:V}
theorem cO.int(h:cO c σ δ H x (.int i)):x = .int i:=by
 rcases h with h | ⟨_,_,h⟩
 ·cases h; rfl
 ·exact h.elim
theorem cO.bl(h:cO c σ δ H x (.bl b)):x = .bl b:=by
 rcases h with h | ⟨_,_,h⟩
 ·cases h; rfl
 ·exact h.elim
theorem cO.str(h:cO c σ δ H x (.str z)):x = .str (toS z):=by
 rcases h with h | ⟨_,_,h⟩
 ·cases h; rfl
 ·exact h.elim
theorem cO.tup(h:cO c σ δ H x (.tup ds)):∃ a vs,x = .ref a/\H a=some (.tup vs)/\aD H (Av c σ δ) vs ds:=by
 rcases h with h | ⟨_,_,h⟩
 ·cases h with
  | tup h1 h2 h3 h4=>exact⟨_,_,rfl,h2,h3,h4⟩
 ·exact h.elim
theorem cO.lst(h:cO c σ δ H x (.lst ds)):∃ a vs,x = .ref a/\Rd H a (.lst vs)/\aD H (Av c σ δ) vs ds:=by
 rcases h with h | ⟨a,e,h⟩
 ·cases h with
  | lst h1 h2 h3 h4=>exact⟨_,_,rfl,h2,h3,h4⟩
 ·obtain⟨vs,h1,h2⟩:=h;exact⟨a,vs,e,.inl h1,h2⟩
theorem cO.bA(h:cO c σ δ H x (.bA ds)):∃ a ws,x = .ref a/\H a=some (.dK ws)/\ws.map (·.1)=ds.map (λp=>dY p.1)/\∀ (i:Nat) p q,ws[i]? = some p->ds[i]? = some q->Rep H (Av c σ δ) p.2 q.2:=by
 rcases h with h | ⟨a,e,h⟩
 ·cases h with
  | bA h1 h2 h3 h4=>exact⟨_,_,rfl,h2,h3,h4⟩
 ·obtain⟨ws,h1,h2,h3⟩:=h;exact⟨a,ws,e,h1,h2,h3⟩
end
theorem Ab(h:z.length<=W9):(toS z).length<=W9:=by rw[jT]; exact h
theorem Ig(x y:Tx):toS x ++ toS y=toS (x ++ y):=by
 show Str.append (toS x) (toS y)=_;simp[toS,Str.append]
def bH:D->D->Option S
 | .int i,.int j=>some (.pure (.int (i + j)))
 | .str x,.str y=>if x.length + y.length<=W9 then some (.pure (.str (x ++ y))) else none
 | .tup xs,.tup ys=>if xs.length + ys.length<=W9 then some (.pure (.tup (xs ++ ys))) else none
 | .lst xs,.lst ys=>if xs.length + ys.length<=W9 then some (.own (.lst (xs ++ ys))) else none
 | _,_=>none
def Ac(K:W4):R2:=λx y H Q=>jl (λi j=>V.int (i + j)) x y H Q\/(∃ i j,x = .str i/\y = .str j/\i.length + j.length<=W9/\Q (.str (i ++ j)) H) \/
 (∃ a b ys,x = .ref a/\y = .ref b/\dA K H a []/\dA K H b ys/\Q (.ref b) H)\/yV K x y H Q\/zY K x y H Q
theorem fB:bT X (Qy .Add) (Ac X.K):=Fb.or (Fn.or (HN.or (FR.or HP)))
theorem fD{K:W4}:cQ (Ac K) bH:=by
 intro c σ δ H x y d e s Q k rx ry hp q
 cases d <;> cases e <;> first
  | (simp[bH] at hp; done)
  | skip
 ·rename_i i j;simp only[bH,Wb] at hp;subst hp;exact .inl ⟨i,j,rx.int,ry.int,q _ H (.refl k) (.int _)⟩
 ·rename_i u w;simp only[bH] at hp;split at hp
  ·rename_i hz;simp only[Wb] at hp;subst hp;refine .inr (.inl ⟨toS u,toS w,rx.str,ry.str,by rw[jT,jT]; exact hz,?_⟩);rw[Ig];exact q _ H (.refl k) (.str _)
  ·cases hp
 ·rename_i us ws;simp only[bH] at hp;split at hp
  ·rename_i hz;simp only[Wb] at hp;subst hp;obtain⟨a,vs,ea,ha,ra⟩:=rx.tup;obtain⟨b,zs,eb,hb,rb⟩:=ry.tup
   cases vs with
   | nil =>
    have:us=[]:=by have:=ra.1; simpa using this.symm
    subst this;refine .inr (.inr (.inl ⟨a,b,zs,ea,eb,.of ha,.of hb,?_⟩));rw[eb] at ry;rcases ry with ry | ⟨_,_,ry⟩
    ·exact q _ H (.refl k) ry
    ·exact ry.elim
   | cons v0 vr =>
    refine .inr (.inr (.inr (.inl ⟨a,b,_,zs,ea,eb,.of ha,.of hb,by simp,by rw[ra.1,rb.1]; exact hz,λe0=>?_,λ_ p hp=>?_⟩)))
    ·subst e0;have:ws=[]:=by have:=rb.1; simpa using this.symm
     subst this;rw[ea] at rx;rcases rx with rx | ⟨_,_,rx⟩
     ·rw[Qv] at q;exact q _ H (.refl k) rx
     ·exact rx.elim
    ·exact q _ _ (.alloc k hp _) (bp.nv k (ra.append rb) hp)
  ·cases hp
 ·rename_i us ws;simp only[bH] at hp;split at hp
  ·rename_i hz;simp only[Wb] at hp;subst hp;obtain⟨a,vs,ea,ha,ra⟩:=rx.lst;obtain⟨b,zs,eb,hb,rb⟩:=ry.lst;exact .inr (.inr (.inr (.inr ⟨a,b,vs,zs,ea,eb,.inl ha,.inl hb,by rw[ra.1,rb.1]; exact hz,λp hp=>q _ _ (.alloc k hp _) (bp.nu k (ra.append rb) hp)⟩)))
  ·cases hp
def fT(C:Int->Int->Bool)(g:Int->Int->D):D->D->Option S
 | .int i,.int j=>if C i j then some (.pure (g i j)) else none
 | _,_=>none
theorem rO(hC:∀ i j,C' i j=true->C i j)(hg:∀ i j H O,Rep H O (g i j) (g' i j)):cQ (rI C g) (fT C' g'):=by
 intro c σ δ H x y d e s Q k rx ry hp q
 cases d <;> cases e <;> first
  | (simp[fT] at hp; done)
  | skip
 rename_i i j;simp only[fT] at hp;split at hp
 ·rename_i hc;simp only[Wb] at hp;subst hp;exact⟨i,j,rx.int,ry.int,hC i j hc,q _ H (.refl k) (hg i j H _)⟩
 ·cases hp
theorem Ih(hg:∀ i j H O,Rep H O (g i j) (g' i j)):cQ (jl g) (fT (λ_ _=>true) g'):=by
 intro c σ δ H x y d e s Q k rx ry hp q
 cases d <;> cases e <;> first
  | (simp[fT] at hp; done)
  | skip
 rename_i i j;simp only[fT,if_true,Wb] at hp;subst hp;exact⟨i,j,rx.int,ry.int,q _ H (.refl k) (hg i j H _)⟩
def uQ:=fT (λ_ _=>true) λi j=>.int (i - j)
theorem Ii:cQ (jl λi j=>V.int (i - j)) uQ:=Ih λ_ _ _ _=>.int _
def lr(i j:Int):Bool:=(decide (-(2 ^ 64) < i) && decide (i < 2 ^ 64)) || (decide (-(2 ^ 64) < j) && decide (j < 2 ^ 64))
def rP:=fT lr λi j=>.int (i * j)
theorem Ij:cQ (rI oV λi j=>V.int (i * j)) rP:=rO (λi j h=>by
 unfold lr at h;simp only[Bool.or_eq_true,Wt,decide_eq_true_eq] at h;exact h) λ_ _ _ _=>.int _
def pB(_ j:Int):Bool:=decide (0 < j) && decide (j < 1073741824)
def pC:=fT pB λi j=>.int (i / j)
theorem Ad:cQ (rI yz λi j=>V.int (i / j)) pC:=rO (λi j h=>by
 unfold pB at h;simp only[Wt,decide_eq_true_eq] at h;exact h) λ_ _ _ _=>.int _
def gu:=fT (λ_ j=>decide (0 < j)) λi j=>.int (i % j)
theorem mx:cQ (rI (λ_ j=>0 < j) λi j=>V.int (i % j)) gu:=rO (λi j h=>by simpa using h) λ_ _ _ _=>.int _
def uR(i j:Int):Bool:=decide (0<=j) && decide (j<=1000000) && decide (i.natAbs < 2 ^ 64)
def uS:=fT uR λi j=>.int (i ^ j.toNat)
theorem Ik:cQ (rI yA λi j=>V.int (i ^ j.toNat)) uS:=rO (λi j h=>by
 unfold uR at h;simp only[Wt,decide_eq_true_eq] at h;exact⟨h.1.1,h.1.2,h.2⟩) λ_ _ _ _=>.int _
def cP(d e:D):Option S:=if flat 50 d && flat 50 e then some (.pure (.bl (ax d e))) else none
def jU(d e:D):Option S:=if flat 50 d && flat 50 e then some (.pure (.bl (!ax d e))) else none
theorem lu:cQ zQ cP:=by
 intro c σ δ H x y d e s Q k rx ry hp q;unfold cP at hp;split at hp
 ·rename_i hf;rw[Wt] at hf;simp only[Wb] at hp;subst hp;exact⟨d,e,rx.un,ry.un,hf.1,hf.2,q _ H (.refl k) (.bl _)⟩
 ·cases hp
theorem Ae:cQ zR jU:=by
 intro c σ δ H x y d e s Q k rx ry hp q;unfold jU at hp;split at hp
 ·rename_i hf;rw[Wt] at hf;simp only[Wb] at hp;subst hp;exact⟨d,e,rx.un,ry.un,hf.1,hf.2,q _ H (.refl k) (.bl _)⟩
 ·cases hp
def i4(f:Int->Int->Bool)(g:Tx->Tx->Bool):D->D->Option S
 | .int i,.int j=>some (.pure (.bl (f i j)))
 | .str x,.str y=>some (.pure (.bl (g x y)))
 | _,_=>none
def pD(f:Int->Int->Bool)(g:List Nat->List Nat->Bool):R2:=λx y H Q=>jl (λi j=>V.bl (f i j)) x y H Q\/∃ i j,x = .str i/\y = .str j/\Q (.bl (g i.cps.toList j.cps.toList)) H
theorem uT:cQ (pD f g) (i4 f g):=by
 intro c σ δ H x y d e s Q k rx ry hp q
 cases d <;> cases e <;> first
  | (simp[i4] at hp; done)
  | skip
 ·rename_i i j;simp only[i4,Wb] at hp;subst hp;exact .inl ⟨i,j,rx.int,ry.int,q _ H (.refl k) (.bl _)⟩
 ·rename_i i j;simp only[i4,Wb] at hp;subst hp;refine .inr ⟨toS i,toS j,rx.str,ry.str,?_⟩;rw[nj,nj];exact q _ H (.refl k) (.bl _)
theorem Af{X:Cx}{op:CmpOp}{g:List Nat->List Nat->Bool}(rule:∀ (i j:Str) (t u:Tok) (Q:Value->W2->Prop) (s:W2),Q (.bool (g i.cps.toList j.cps.toList)) s->W7 (model X.prog X.w) X.A (WN op (.str i t) (.str j u)) Q X.xe s) :
  bT X (WN op) (λx y H Q=>∃ i j,x = .str i/\y = .str j/\Q (.bl (g i.cps.toList j.cps.toList)) H):=by
 intro pins s σ H x y v u Q I rx ry h;obtain⟨i,j,rfl,rfl,q⟩:=h;obtain⟨t,rfl⟩:=rx;obtain⟨t',rfl⟩:=ry;exact rule i j t t' _ s ⟨.bl _,H,I,rfl,q⟩
def rQ:=i4 (λi j=>decide (i < j)) λx y=>decide (x < y)
theorem Il:bT X (WN .Lt) (pD (λi j=>decide (i < j)) λx y=>decide (x < y)):=Ff.or Fi
theorem Im:cQ (pD (λi j=>decide (i < j)) λx y=>decide (x < y)) rQ:=uT
def aw:D->D->Option S
 | .lst ds,.int i=>(dB ds i).map .pure
 | .tup ds,.int i=>(dB ds i).map .pure
 | .str x,.int i=>if x.length<=W9 then(dB x i).map λn=>.pure (.str [n]) else none
 | _,_=>none
theorem Ag(r:aD H O vs ds)(h:dB ds i=some d):∃ v,dB vs i=some v/\Rep H O v d:=by
 unfold dB at h ⊢;rw[r.1]
 cases e:fg ds.length i with
 | none=>rw[e] at h; cases h
 | some j =>
  rw[e] at h;exact r.get h
theorem cm{K:W4}:cQ (m_ K) aw:=by
 intro c σ δ H x y d e s Q k rx ry hp q
 cases d <;> cases e <;> first
  | (simp[aw] at hp; done)
  | skip
 ·rename_i z i;simp only[aw] at hp;split at hp
  ·rename_i hz
   cases e1:dB z i with
   | none=>rw[e1] at hp; cases hp
   | some n =>
    rw[e1] at hp;simp only[WI,Wb] at hp;subst hp;refine .inr (.inr ⟨toS z,i,n,rx.str,ry.int,Ab hz,by rw[nj]; exact e1,?_⟩);exact q (.str (toS [n])) H (.refl k) (.str [n])
  ·cases hp
 ·rename_i ds i;simp only[aw] at hp
  cases e1:dB ds i with
  | none=>rw[e1] at hp; cases hp
  | some n =>
   rw[e1] at hp;simp only[WI,Wb] at hp;subst hp;obtain⟨a,vs,ea,ha,ra⟩:=rx.tup;obtain⟨v,e2,r2⟩:=Ag ra e1;exact .inr (.inl ⟨a,vs,i,v,ea,ry.int,.of ha,e2,q v H (.refl k) r2⟩)
 ·rename_i ds i;simp only[aw] at hp
  cases e1:dB ds i with
  | none=>rw[e1] at hp; cases hp
  | some n =>
   rw[e1] at hp;simp only[WI,Wb] at hp;subst hp;obtain⟨a,vs,ea,ha,ra⟩:=rx.lst;obtain⟨v,e2,r2⟩:=Ag ra e1;exact .inl ⟨a,vs,i,v,ea,ry.int,.inl ha,e2,q v H (.refl k) r2⟩
def uU:=i4 (λi j=>decide (j < i)) λx y=>decide (y < x)
def Ah:=i4 (λi j=>decide (j<=i)) λx y=>!decide (x < y)
theorem Io:bT X (WN .Gt) (pD (λi j=>decide (j < i)) λx y=>decide (y < x)):=Fg.or (Af (g:=λx y=>decide (y < x)) λ_ _ _ _ _ _ h=>PySem.P.gt_str h)
theorem Ip:bT X (WN .GtE) (pD (λi j=>decide (j<=i)) λx y=>!decide (x < y)):=Fh.or (Af (g:=λx y=>!decide (x < y)) λ_ _ _ _ _ _ h=>PySem.P.ge_str h)
abbrev DA:=Dl->Rs (List D)
def Iq(c:Fc)(f:DA):TA:=λσ H Q=>∃ δ,Ok c σ δ H/\post c (f δ) λds δ'=>∀ vs H',aQ c σ δ H σ δ' H'->aD H' (Av c σ δ') vs ds->Q vs H'
structure SA(X:Cx)(c:Fc)(es:List Expr)(f:DA):Prop where
 pa:PA X es (Iq c f)
 len:∀ δ ds δ',f δ = .ok ds δ'->ds.length=es.length
theorem PA.weak(h:PA X es t)(w:∀ σ H Q,t' σ H Q->t σ H Q):PA X es t':=λpos pins s σ H Q I q=>h pos pins s σ H Q I (w σ H Q q)
def aP:DA:=λδ=>.ok [] δ
def az(f:DE)(g:DA):DA:=λδ=>(f δ).bind λx δ1=>(g δ1).bind λxs δ2=>.ok (x.d :: xs) δ2
section
variable {X:Cx} {c:Fc} {e:Expr} {es:List Expr} {f:DE} {g:DA} {pos:Pos}
theorem de:SA X c [] aP:=⟨PA.weak iq λσ H Q ⟨δ,k,q⟩=>q [] H (.refl k) .nil,λδ ds δ' h=>by cases h; rfl⟩
theorem Ai(ha:SE X c e f)(hr:SA X c es g)(hs:Wj (e :: es) X.env=(false,eval e X.env) :: Wj es X.env:=by rfl):SA X c (e :: es) (az f g):=by
 refine⟨PA.weak (fO ha hr.pa hs) λσ H Q ⟨δ,k,q⟩=>?_,λδ ds δ' h=>?_⟩
 ·unfold az at q;rw[bC] at q;refine⟨δ,k,aU q λx δ1 q1 v H1 a1 r1=>⟨δ1,a1.ok,?_⟩⟩;rw[bC] at q1;exact aU q1 λxs δ2 q2 vs H2 a2 r2=>q2 (v :: vs) H2 (a1.trans a2) (.cons (Rep.dO r1.rep a2) r2)
 ·unfold az at h
  cases h1:f δ with
  | ok x δ1 =>
   rw[h1] at h
   cases h2:g δ1 with
   | ok xs δ2 =>
    simp only[Rs.bind,h2] at h
    cases h;simp[hr.len _ _ _ h2]
   | exc x δx=>simp only[Rs.bind,h2] at h; cases h
   | stuck=>simp only[Rs.bind,h2] at h; cases h
  | exc x δx=>rw[h1] at h; cases h
  | stuck=>rw[h1] at h; cases h
def bI(f:DA):DE:=λδ=>(f δ).bind λds δ'=>.ok (.pure (.tup ds)) δ'
def cA(f:DA):DE:=λδ=>(f δ).bind λds δ'=>.ok (.own (.lst ds)) δ'
theorem Aj(h:n<=1000):n<=W9:=JZ (G7 h)
theorem Al(h:post c r k):post c r λa δ=>r = .ok a δ/\k a δ:=by
 cases r with
 | ok a δ=>exact⟨rfl,h⟩
 | exc x δx=>exact h
 | stuck=>exact h
theorem eU{x1}(h:SA X c es g)(hz:es.length<=1000:=by decide):SE X c (.Tuple es x1 pos) (bI g):=PE.weak (Fv h.pa) λσ H Q ⟨δ,k,q⟩=>by
 unfold bI at q;rw[bC] at q;refine⟨δ,k,aU (Al q) λds δ1 ⟨e1,q1⟩ vs H1 a1 r1=>?_⟩;have hl:=h.len _ _ _ e1;exact⟨by rw[r1.1,hl]; exact Aj hz,λp hp=>q1 _ _ (a1.trans (.alloc a1.ok hp _)) (bp.back (bp.nv a1.ok r1 hp) a1)⟩
theorem ju(h:SA X c es g)(hz:es.length<=1000:=by decide):SE X c (.List es pos) (cA g):=PE.weak (yH h.pa) λσ H Q ⟨δ,k,q⟩=>by
 unfold cA at q;rw[bC] at q;refine⟨δ,k,aU (Al q) λds δ1 ⟨e1,q1⟩ vs H1 a1 r1=>?_⟩;have hl:=h.len _ _ _ e1;exact⟨by rw[r1.1,hl]; exact Aj hz,λp hp=>q1 _ _ (a1.trans (.alloc a1.ok hp _)) (bp.back (bp.nu a1.ok r1 hp) a1)⟩
end
def p1(p:D->Option S)(x:D)(δ:Dl):Rs S:=match p x with
 | some s=>.ok s δ
 | none=>.stuck
def aK(p:D->Option S)(fb:BE):DE:=λδ=>(fb δ).bind λx δ1=>p1 p x δ1
def jV(r:V->Hp->VK->Prop)(p:D->Option S):Prop:=∀ (c:Fc) (σ:St) (δ:Dl) (H:Hp) (x:V) (d:D) (s:S) (Q:VK),Ok c σ δ H->cO c σ δ H x d->p d=some s ->
 (∀ v H',aQ c σ δ H σ δ H'->bp c σ δ H H' v s->Q v H')->r x H Q
section
variable {X:Cx} {c:Fc} {e:Expr} {fb:BE} {r:V->Hp->VK->Prop} {p:D->Option S} {x:Str} {id T:String} {pp pos:Pos}
theorem uV(hp:jV r p)(k:Ok c σ δ H)(rx:cO c σ δ H v d)
  (h:post c (p1 p d δ) λs δ'=>∀ v H',aQ c σ δ H σ δ' H'->bp c σ δ' H H' v s->Q v H'):r v H Q:=by
 unfold p1 at h
 cases e1:p d with
 | none=>rw[e1] at h; exact h.elim
 | some s=>rw[e1] at h; exact hp c σ δ H v d s Q k rx e1 h
theorem uW(hp:jV r p)(h:tD c (aK p fb) σ H Q):E_ r (tB c fb) σ H Q:=by
 obtain⟨δ,k,q⟩:=h;unfold aK at q;rw[bC] at q;exact⟨δ,k,aU q λy δ1 q1 v H1 a1 r1=>uV hp a1.ok r1 (aU q1 λs δ2 q2 w H2 a2 r2=>q2 w H2 (a1.trans a2) (bp.back r2 a1))⟩
theorem nA(hc:eB X (.builtin id) rl)(hl:∀ v H Q,r v H Q->rl [v] H Q)(hp:jV r p)(hg:Gl X x)(hm:X.mg x=none)(hv:Qx x=some (.builtin id))(he:SB X c e fb)
  (hn:x≠"__name__":=by decide) (ir:(x == ("__debug__" : Str))=false:=by decide) (hs:Wj [e] X.env=(false,eval e X.env) :: Wj [] X.env:=by rfl) (c_:(QJ pos (Wj [] X.env)).any (·.1)=false:=by rfl) :
  SE X c (.Call (.Name x pp) [e] [] pos) (aK p fb):=PE.weak (t8 hc hg hm hv (fO he iq hs) hn ir hs c_) λσ H Q h=>by
 obtain⟨δ,k,q⟩:=uW hp h;exact⟨δ,k,aU q λy δ1 q1 v H1 a1 r1=>hl _ _ _ (q1 v H1 a1 r1)⟩
theorem rR(hc:eB X (.type T) rl)(hl:∀ v H Q,r v H Q->rl [v] H Q)(hp:jV r p)(hg:Gl X x)(hm:X.mg x=none)(hv:Qx x=some (.type T))(he:SB X c e fb)
  (hn:x≠"__name__":=by decide) (ir:(x == ("__debug__" : Str))=false:=by decide) (hs:Wj [e] X.env=(false,eval e X.env) :: Wj [] X.env:=by rfl) (c_:(QJ pos (Wj [] X.env)).any (·.1)=false:=by rfl) :
  SE X c (.Call (.Name x pp) [e] [] pos) (aK p fb):=PE.weak (FC hc hg hm hv (fO he iq hs) hn ir hs c_) λσ H Q h=>by
 obtain⟨δ,k,q⟩:=uW hp h;exact⟨δ,k,aU q λy δ1 q1 v H1 a1 r1=>hl _ _ _ (q1 v H1 a1 r1)⟩
def eJ:D->Option S
 | .lst ds=>some (.pure (.int ds.length))
 | .tup ds=>some (.pure (.int ds.length))
 | .str z=>if z.length<=W9 then some (.pure (.int z.length)) else none
 | .bA ds=>some (.pure (.int ds.length))
 | _=>none
def Ir(K:W4):V->Hp->VK->Prop:=λv H Q=>((∃ p ys,v = .ref p/\(cx K H p ys\/dA K H p ys)/\Q (.int ys.length) H)\/∃ z,v = .str z/\z.length<=W9/\Q (.int z.length) H)\/∃ a aa,v=V.ref a/\H a=some (.dK aa)/\Q (.int aa.length) H
theorem Iu{K:W4}:jV (Ir K) eJ:=by
 intro c σ δ H x d s Q k rx hp q
 cases d with
 | lst ds =>
  simp only[eJ,Wb] at hp;subst hp;obtain⟨a,vs,ea,ha,ra⟩:=rx.lst;exact .inl (.inl ⟨a,vs,ea,.inl (.inl ha),by rw[ra.1]; exact q _ H (.refl k) (.int _)⟩)
 | tup ds =>
  simp only[eJ,Wb] at hp;subst hp;obtain⟨a,vs,ea,ha,ra⟩:=rx.tup;exact .inl (.inl ⟨a,vs,ea,.inr (.of ha),by rw[ra.1]; exact q _ H (.refl k) (.int _)⟩)
 | str z =>
  simp only[eJ] at hp;split at hp
  ·rename_i hz;simp only[Wb] at hp;subst hp;exact .inl (.inr ⟨toS z,rx.str,Ab hz,by rw[jT]; exact q _ H (.refl k) (.int _)⟩)
  ·cases hp
 | bA ds =>
  simp only[eJ,Wb] at hp;subst hp;obtain⟨a,ws,ea,ha,h1,h2⟩:=rx.bA;have hl:ws.length=ds.length:=by have:=congrArg QH h1; simpa using this
  exact .inr ⟨a,ws,ea,ha,by rw[hl]; exact q _ H (.refl k) (.int _)⟩
 | _=>simp[eJ] at hp
theorem pE (hg:Gl X "len") (hm:X.mg "len" = none) (he:SB X c e fb) (hs:Wj [e] X.env=(false,eval e X.env) :: Wj [] X.env:=by rfl):SE X c (.Call (.Name "len" pp) [e] [] pos) (aK eJ fb) :=
 nA ((Gf.or Gg).or G8) (λv H Q h=>by
  rcases h with (⟨p,ys,e,h⟩ | ⟨z,e,h⟩) | ⟨a,aa,e,h⟩
  ·exact .inl (.inl ⟨p,ys,by rw[e],h⟩)
  ·exact .inl (.inr ⟨z,by rw[e],h⟩)
  ·exact .inr ⟨a,aa,by rw[e],h⟩) (Iu (K:=X.K)) hg hm PySem.boot_len he (by decide) (by decide) hs
def cp:D->Option S
 | .lst ds=>some (.pure (.tup ds))
 | .tup ds=>some (.pure (.tup ds))
 | _=>none
def Iv(K:W4):V->Hp->VK->Prop:=λv H Q=>∃ p ys,v = .ref p/\((cx K H p ys/\∀ l,H l=none->Q (.ref l) (upd H l (.tup ys)))\/(dA K H p ys/\Q (.ref p) H))
theorem Iw{K:W4}:jV (Iv K) cp:=by
 intro c σ δ H x d s Q k rx hp q
 cases d with
 | lst ds =>
  simp only[cp,Wb] at hp;subst hp;obtain⟨a,vs,ea,ha,ra⟩:=rx.lst;exact⟨a,vs,ea,.inl ⟨.inl ha,λl hl=>q _ _ (.alloc k hl _) (bp.nv k ra hl)⟩⟩
 | tup ds =>
  simp only[cp,Wb] at hp;subst hp;obtain⟨a,vs,ea,ha,ra⟩:=rx.tup;refine⟨a,vs,ea,.inr ⟨.of ha,?_⟩⟩;rw[ea] at rx;rcases rx with rx | ⟨_,_,rx⟩
  ·exact q _ H (.refl k) rx
  ·exact rx.elim
 | _=>simp[cp] at hp
theorem lx (hg:Gl X "tuple") (hm:X.mg "tuple" = none) (he:SB X c e fb) (hs:Wj [e] X.env=(false,eval e X.env) :: Wj [] X.env:=by rfl):SE X c (.Call (.Name "tuple" pp) [e] [] pos) (aK cp fb) :=
 rR Gh (λv H Q ⟨p,ys,e,h⟩=>⟨p,ys,by rw[e],h⟩) (Iw (K:=X.K)) hg hm PyProof.Rows.boot_tuple he (by decide) (by decide) hs
def nC:D->Option S
 | .int i=>some (.pure (.int i))
 | .bl b=>some (.pure (.int (if b then 1 else 0)))
 | _=>none
theorem Iy (hg:Gl X "int") (hm:X.mg "int" = none) (he:SB X c e fb) (hs:Wj [e] X.env=(false,eval e X.env) :: Wj [] X.env:=by rfl):SE X c (.Call (.Name "int" pp) [e] [] pos) (aK nC fb) :=
 rR (r:=λv H Q=>(∃ i,v = .int i/\Q (.int i) H)\/∃ k,v = .bl k/\Q (.int (if k then 1 else 0)) H) Fp (λv H Q h=>by
  rcases h with ⟨i,e,q⟩ | ⟨k,e,q⟩
  ·exact .inl ⟨i,by rw[e],q⟩
  ·exact .inr ⟨k,by rw[e],q⟩) (λc σ δ H x d s Q k rx hp q=>by
  cases d with
  | int i =>
   simp only[nC,Wb] at hp;subst hp;exact .inl ⟨i,rx.int,q _ H (.refl k) (.int _)⟩
  | bl b =>
   simp only[nC,Wb] at hp;subst hp;exact .inr ⟨b,rx.bl,q _ H (.refl k) (.int _)⟩
  | _=>simp[nC] at hp) hg hm PyProof.Rows.boot_int he (by decide) (by decide) hs
def gv:List D->Option (List Bool)
 | []=>some []
 | .bl b :: r=>(gv r).map (b :: ·)
 | _ :: _=>none
def fU:List D->Option (List Tx)
 | []=>some []
 | .str x :: r=>(fU r).map (x :: ·)
 | _ :: _=>none
theorem uX:∀ {ds:List D} {vs:List V} {bs:List Bool},gv ds=some bs->aD H O vs ds->vs=bs.map V.bl
 | [],vs,bs,h,r=>by
  simp only[gv,Wb] at h;subst h;have:=r.1;simpa using this
 | d :: ds,[],bs,h,r=>by have:=r.1; simp at this
 | d :: ds,v :: vs,bs,h,r=>by
  cases d with
  | bl b =>
   simp only[gv] at h
   cases e:gv ds with
   | none=>rw[e] at h; cases h
   | some bw =>
    rw[e] at h;simp only[WI,Wb] at h;subst h;have:=r.head
    cases this;rw[uX e r.tail];rfl
  | _=>simp[gv] at h
theorem nD:∀ {ds:List D} {vs:List V} {bs:List Tx},fU ds=some bs->aD H O vs ds->vs=bs.map λz=>V.str (toS z)
 | [],vs,bs,h,r=>by
  simp only[fU,Wb] at h;subst h;have:=r.1;simpa using this
 | d :: ds,[],bs,h,r=>by have:=r.1; simp at this
 | d :: ds,v :: vs,bs,h,r=>by
  cases d with
  | str b =>
   simp only[fU] at h
   cases e:fU ds with
   | none=>rw[e] at h; cases h
   | some bw =>
    rw[e] at h;simp only[WI,Wb] at h;subst h;have:=r.head
    cases this;rw[nD e r.tail];rfl
  | _=>simp[fU] at h
theorem Am:∀ ts:List Tx,aD H O (ts.map λz=>V.str (toS z)) (ts.map D.str)
 | []=>.nil
 | t :: ts=>.cons (.str t) (Am ts)
def nE:D->Option S
 | .lst ds=>(gv ds).map λbs=>.pure (.bl (bs.all (λb=>b)))
 | _=>none
def ly:D->Option S
 | .lst ds=>(gv ds).map λbs=>.pure (.bl (bs.any (λb=>b)))
 | _=>none
def nF:D->Option S
 | .lst ds=>match fU ds with
  | some ts=>if ts.length < 64 then some (.own (.lst ((iy ts).map D.str))) else none
  | none=>none
 | _=>none
theorem Iz:Qx "all" = some (.builtin "all"):=by decide +kernel
theorem IA:Qx "any" = some (.builtin "any"):=by decide +kernel
theorem IB (hc:X.calm=true) (hg:Gl X "all") (hm:X.mg "all" = none) (he:SB X c e fb) (hs:Wj [e] X.env=(false,eval e X.env) :: Wj [] X.env:=by rfl):SE X c (.Call (.Name "all" pp) [e] [] pos) (aK nE fb) :=
 nA (r:=λv H Q=>∃ (a:Addr) (bs:List Bool),v = .ref a/\cx X.K H a (bs.map V.bl)/\Q (.bl (bs.all (λb=>b))) H) (HR hc) (λv H Q ⟨a,bs,e,h⟩=>⟨a,bs,by rw[e],h⟩) (λc σ δ H x d s Q k rx hp q=>by
  cases d with
  | lst ds =>
   simp only[nE] at hp
   cases e:gv ds with
   | none=>rw[e] at hp; cases hp
   | some bs =>
    rw[e] at hp;simp only[WI,Wb] at hp;subst hp;obtain⟨a,vs,ea,ha,ra⟩:=rx.lst;have:=uX e ra;subst this;exact⟨a,bs,ea,.inl ha,q _ H (.refl k) (.bl _)⟩
  | _=>simp[nE] at hp) hg hm Iz he (by decide) (by decide) hs
theorem IC (hc:X.calm=true) (hg:Gl X "any") (hm:X.mg "any" = none) (he:SB X c e fb) (hs:Wj [e] X.env=(false,eval e X.env) :: Wj [] X.env:=by rfl):SE X c (.Call (.Name "any" pp) [e] [] pos) (aK ly fb) :=
 nA (r:=λv H Q=>∃ (a:Addr) (bs:List Bool),v = .ref a/\cx X.K H a (bs.map V.bl)/\Q (.bl (bs.any (λb=>b))) H) (HS hc) (λv H Q ⟨a,bs,e,h⟩=>⟨a,bs,by rw[e],h⟩) (λc σ δ H x d s Q k rx hp q=>by
  cases d with
  | lst ds =>
   simp only[ly] at hp
   cases e:gv ds with
   | none=>rw[e] at hp; cases hp
   | some bs =>
    rw[e] at hp;simp only[WI,Wb] at hp;subst hp;obtain⟨a,vs,ea,ha,ra⟩:=rx.lst;have:=uX e ra;subst this;exact⟨a,bs,ea,.inl ha,q _ H (.refl k) (.bl _)⟩
  | _=>simp[ly] at hp) hg hm IA he (by decide) (by decide) hs
theorem ID (hg:Gl X "sorted") (hm:X.mg "sorted" = none) (he:SB X c e fb) (hs:Wj [e] X.env=(false,eval e X.env) :: Wj [] X.env:=by rfl):SE X c (.Call (.Name "sorted" pp) [e] [] pos) (aK nF fb) :=
 nA (r:=λv H Q=>∃ (a:Addr) (ts:List Tx),v = .ref a/\cx X.K H a (ts.map λz=>V.str (toS z))/\ts.length < 64/\∀ p,H p=none->Q (.ref p) (upd H p (.lst ((iy ts).map λz=>V.str (toS z))))) HW (λv H Q ⟨a,bs,e,h⟩=>⟨a,bs,by rw[e],h⟩) (λc σ δ H x d s Q k rx hp q=>by
  cases d with
  | lst ds =>
   simp only[nF] at hp
   cases e:fU ds with
   | none=>rw[e] at hp; cases hp
   | some ts =>
    rw[e] at hp;simp only at hp;split at hp
    ·rename_i hz;simp only[Wb] at hp;subst hp;obtain⟨a,vs,ea,ha,ra⟩:=rx.lst;have:=nD e ra;subst this;exact⟨a,ts,ea,.inl ha,hz,λp hp=>q _ _ (.alloc k hp _) (bp.nu k (Am _) hp)⟩
    ·cases hp
  | _=>simp[nF] at hp) hg hm PyProof.Rows.boot_sorted he (by decide) (by decide) hs
def uY:D->D->Option S
 | .int i,.int j=>some (.pure (.int (if j > i then j else i)))
 | _,_=>none
def rS(f g:DE):DE:=λδ=>(f δ).bind λx δ1=>(g δ1).bind λy δ2=>p2 uY x.d y.d δ2
theorem IE {a b:Expr} {f g:DE} (hc:X.calm=true) (hg:Gl X "max") (hm:X.mg "max" = none) (ha:SE X c a f) (hb:SE X c b g) (hs:Wj [a,b] X.env=(false,eval a X.env) :: Wj [b] X.env:=by rfl)
  (nG:Wj [b] X.env=(false,eval b X.env) :: Wj [] X.env:=by rfl) (c_:(QJ pos (Wj [b] X.env)).any (·.1)=false:=by rfl):SE X c (.Call (.Name "max" pp) [a,b] [] pos) (rS f g) :=
 PE.weak (t8 (Fo hc) hg hm PyProof.Rows.boot_max (fO ha (fO hb iq nG) hs) (by decide) (by decide) hs c_) λσ H Q ⟨δ,k,q⟩=>by
  unfold rS at q;rw[bC] at q;refine⟨δ,k,aU q λx δ1 q1 v H1 a1 r1=>⟨δ1,a1.ok,?_⟩⟩;rw[bC] at q1;refine aU q1 λy δ2 q2 u H2 a2 r2=>?_
  unfold p2 at q2;have hx:cO c σ δ2 H2 v x.d:=.inl (Rep.dO r1.rep a2);have hy:=r2.b;generalize x.d=dx at q2 hx;generalize y.d=dy at q2 hy
  cases dx <;> cases dy <;> first
   | exact q2.elim
   | skip
  rename_i i j;exact⟨i,j,by rw[hx.int,hy.int],q2 _ H2 (a1.trans a2) (.int _)⟩
def nH(T:String):D->Option Bool
 | .a7=>some (T == "NoneType")
 | .bl _=>some (T == "bool" || T == "int")
 | .int _=>some (T == "int")
 | .str _=>some (T == "str")
 | .tup _=>some (T == "tuple")
 | .lst _=>some (T == "list")
 | .bA _=>some (T == "dict")
 | .exc _ _=>none
 | .xd _=>none
 | .fn _=>none
 | .dic _=>none
structure my(K:W4)(T:String):Prop where
 a7:J3 K (.type "NoneType") (.type T)=some (T == "NoneType")
 bl:J3 K (.type "bool") (.type T)=some (T == "bool" || T == "int")
 int:J3 K (.type "int") (.type T)=some (T == "int")
 str:J3 K (.type "str") (.type T)=some (T == "str")
 tup:J3 K (.type "tuple") (.type T)=some (T == "tuple")
 lst:J3 K (.type "list") (.type T)=some (T == "list")
 bA:J3 K (.type "dict") (.type T)=some (T == "dict")
def i7(T:String)(fb:BE):DE:=λδ=>(fb δ).bind λd δ'=>match nH T d with
 | some b=>.ok (.pure (.bl b)) δ'
 | none=>.stuck
theorem IF(ty:my X.K T)(I:Inv X pins σ H s)(ru:RelV v u)(r:Rep H da v d)(e:nH T d=some b)(q:Q (.bl b) H) :
  W7 (model X.prog X.w) X.A (call (.builtin "isinstance") [u,.type T]) (EP X pins σ Q) X.xe s:=by
 have fin:∀ tk,EP X pins σ Q (.bool b) { s with toks:=tk }:=λtk=>⟨.bl b,H,I.tok tk,rfl,q⟩
 cases r with
 | a7=>exact kU I ru .a7 (ty.a7.trans e) fin
 | bl x=>exact kU I ru (.bl x) (ty.bl.trans e) fin
 | int x=>exact kU I ru (.int x) (ty.int.trans e) fin
 | str x=>exact kU I ru (.str _) (ty.str.trans e) fin
 | tup _ h2 _ _=>exact kU I ru (.tup h2) (ty.tup.trans e) fin
 | lst _ h2 _ _ =>
  rcases h2 with h2 | ⟨o,h2⟩
  ·exact kU I ru (.lst h2) (ty.lst.trans e) fin
  ·exact kU I ru (.frz h2) (ty.lst.trans e) fin
 | bA _ h2 _ _=>exact kU I ru (.dK h2) (ty.bA.trans e) fin
 | exc _ _=>cases e
 | xd _ _=>cases e
 | fn _=>cases e
 | dic _=>cases e
theorem IG (ty:my X.K T):eB X (.builtin "isinstance") (λxs H Q=>∃ v d b,xs=[v,.ty T]/\Rep H da v d/\nH T d=some b/\Q (.bl b) H):=by
 intro pins s σ H xs us Q I r h;obtain⟨v,d,b,rfl,rp,e,q⟩:=h;obtain⟨u,w',rfl,r1,r2⟩:=yF r
 cases r2;exact IF ty I r1 rp e q
theorem An {y:Str} {py:Pos} (ty:my X.K T) (hg:Gl X "isinstance") (hm:X.mg "isinstance" = none) (IH:Gl X y) (II:X.mg y=none) (IJ:Qx y=some (.type T)) (he:SB X c e fb)
  (IK:y≠"__name__":=by decide) (IL:(y == ("__debug__" : Str))=false:=by decide)
  (hs:Wj [e,.Name y py] X.env=(false,eval e X.env) :: Wj [.Name y py] X.env:=by rfl) (c_:(QJ pos (Wj [.Name y py] X.env)).any (·.1)=false:=by rfl) :
  SE X c (.Call (.Name "isinstance" pp) [e,.Name y py] [] pos) (i7 T fb) :=
 PE.weak (t8 (IG ty) hg hm PyProof.Rows.boot_isinstance (fO he (fO (EC (v:=.ty T) IH II IJ rfl IK IL) iq) hs) (by decide) (by decide) hs c_) λσ H Q ⟨δ,k,q⟩=>by
  unfold i7 at q;rw[bC] at q;refine⟨δ,k,aU q λd δ1 q1 v H1 a1 r1=>?_⟩
  cases e1:nH T d with
  | none=>rw[e1] at q1; exact q1.elim
  | some b =>
   rw[e1] at q1;exact⟨v,d,b,rfl,r1.un,e1,q1 _ H1 a1 (.bl _)⟩
end
abbrev lz:=Dl->Rs (Option Int)
def IM(c:Fc)(f:lz):TO:=λσ H Q=>∃ δ,Ok c σ δ H/\post c (f δ) λo δ'=>∀ H',aQ c σ δ H σ δ' H'->Q o H'
abbrev SO(X:Cx)(c:Fc)(e:Option Expr)(f:lz):Prop:=PO X e (IM c f)
theorem PO.weak(h:PO X e t)(w:∀ σ H Q,t' σ H Q->t σ H Q):PO X e t':=λpins s σ H Q I q=>h pins s σ H Q I (w σ H Q q)
def nJ:lz:=λδ=>.ok none δ
def g8(f:DE):lz:=λδ=>(f δ).bind λr δ'=>match r with
 | .pure (.int i)=>.ok (some i) δ'
 | _=>.stuck
section
variable {X:Cx} {c:Fc} {e:Expr} {f:DE} {fb:BE} {fl fh:lz} {lo hi:Option Expr} {pos p2:Pos}
theorem rT:SO X c none nJ:=PO.weak FN λσ H Q ⟨δ,k,q⟩=>q H (.refl k)
theorem nK(h:SE X c e f):SO X c (some e) (g8 f):=PO.weak (FO h) λσ H Q ⟨δ,k,q⟩=>by
 unfold g8 at q;rw[bC] at q;refine⟨δ,k,aU q λr δ1 q1 v H1 a1 r1=>?_⟩
 cases r with
 | own d=>exact q1.elim
 | pure d =>
  cases d <;> first | exact q1.elim | skip
  rename_i i
  cases r1;exact⟨i,rfl,q1 H1 a1⟩
def fE(lo hi:Option Int):D->Option S
 | .str x=>if x.length<=W9 then some (.pure (.str (cE x lo hi))) else none
 | .tup ds=>some (.pure (.tup (cE ds lo hi)))
 | .lst ds=>some (.own (.lst (cE ds lo hi)))
 | _=>none
def Ao(K:W4):V->Option Int->Option Int->Hp->VK->Prop:=λx lo hi H Q=>zW x lo hi H Q\/zU K x lo hi H Q\/y8 K x lo hi H Q
theorem Ap:jR X (Ao X.K):=HM.or (HJ.or Gb)
theorem Aq{K:W4}(lo hi:Option Int):jV (λx H Q=>Ao K x lo hi H Q) (fE lo hi):=by
 intro c σ δ H x d s Q k rx hp q
 cases d with
 | str z =>
  simp only[fE] at hp;split at hp
  ·rename_i hz;simp only[Wb] at hp;subst hp;exact .inl ⟨z,rx.str,hz,q _ H (.refl k) (.str _)⟩
  ·cases hp
 | tup ds =>
  simp only[fE,Wb] at hp;subst hp;obtain⟨a,vs,ea,ha,ra⟩:=rx.tup;refine .inr (.inl ⟨a,vs,ea,.of ha,λhw=>?_,λ_ p hp=>?_⟩)
  ·rw[ra.1] at hw;rw[HH hw] at q;rw[ea] at rx;rcases rx with rx | ⟨_,_,rx⟩
   ·exact q _ H (.refl k) rx
   ·exact rx.elim
  ·rw[<- zT];exact q _ _ (.alloc k hp _) (bp.nv k (ra.cut lo hi) hp)
 | lst ds =>
  simp only[fE,Wb] at hp;subst hp;obtain⟨a,vs,ea,ha,ra⟩:=rx.lst;refine .inr (.inr ⟨a,vs,ea,.inl ha,λp hp=>?_⟩);rw[<- zT];exact q _ _ (.alloc k hp _) (bp.nu k (ra.cut lo hi) hp)
 | _=>simp[fE] at hp
def rU(f:DE)(fl fh:lz):DE:=λδ=>(f δ).bind λx δ1=>(fl δ1).bind λl δ2=>(fh δ2).bind λh δ3=>p1 (fE l h) x.d δ3
theorem IP(he:SE X c e f)(hl:SO X c lo fl)(hh:SO X c hi fh):SE X c (.Subscript e (.Slice lo hi none p2) pos) (rU f fl fh):=PE.weak (yT Ap he hl hh) λσ H Q ⟨δ,k,q⟩=>by
 unfold rU at q;rw[bC] at q;refine⟨δ,k,aU q λx δ1 q1 v H1 a1 r1=>⟨δ1,a1.ok,?_⟩⟩;rw[bC] at q1;refine aU q1 λl δ2 q2 H2 a2=>⟨δ2,a2.ok,?_⟩
 rw[bC] at q2;refine aU q2 λh δ3 q3 H3 a3=>?_
 exact uV (Aq l h) a3.ok (.inl (Rep.dO r1.rep (a2.trans a3))) (aU q3 λs δ4 q4 w H4 a4 r4=>q4 w H4 (a1.trans (a2.trans (a3.trans a4))) (bp.back r4 (a1.trans (a2.trans a3))))
def jW(i:Nat)(fl fh:lz):DE:=λδ=>match δ[i]? with
 | some (some _)=>(fl δ).bind λl δ2=>(fh δ2).bind λh δ3=>(aj i δ3).bind λx δ4=>p1 (fE l h) x δ4
 | _=>.stuck
theorem IQ{i:Nat}{σ:St}{δ:Dl}{H:Hp}{v:V}{w:S}(k:Ok c σ δ H)(e:δ[i]? = some (some w))(ev:σ[i]? = some (some v)):cO c σ δ H v w.d:=by
 cases w with
 | pure d =>
  obtain⟨v',e1,r⟩:=k.slot i d e;rw[ev] at e1; cases e1
  exact .inl r
 | own d =>
  obtain⟨a,e1,r,_⟩:=k.own i d e;rw[ev] at e1; cases e1
  exact .inr ⟨a,rfl,r⟩
theorem IS(h:post c ((aj i δ).bind g) kk):∃ w,δ[i]? = some (some w)/\post c (g w.d δ) kk:=by
 unfold aj at h
 cases e:δ[i]? with
 | none=>rw[e] at h; exact h.elim
 | some o =>
  cases o with
  | none=>rw[e] at h; exact h.elim
  | some w=>rw[e] at h; exact⟨w,rfl,h⟩
theorem rV{i:Nat}(he:PE X e (c9 i))(hl:SO X c lo fl)(hh:SO X c hi fh):SE X c (.Subscript e (.Slice lo hi none p2) pos) (jW i fl fh):=PE.weak (yT Ap he hl hh) λσ H Q ⟨δ,k,q⟩=>by
 unfold jW at q
 cases e:δ[i]? with
 | none=>rw[e] at q; exact q.elim
 | some o =>
  cases o with
  | none=>rw[e] at q; exact q.elim
  | some w =>
   rw[e] at q;obtain⟨v,ev⟩:=uO k e;have q':post c ((fl δ).bind λl δ2=>(fh δ2).bind λh δ3=>(aj i δ3).bind λx δ4=>p1 (fE l h) x δ4) λr δ'=>∀ v H',aQ c σ δ H σ δ' H'->bp c σ δ' H H' v r->Q v H':=q
   rw[bC] at q';refine⟨v,ev,δ,k,aU q' λl δ2 q2 H2 a2=>⟨δ2,a2.ok,?_⟩⟩;rw[bC] at q2;refine aU q2 λh δ3 q3 H3 a3=>?_
   obtain⟨w3,e3,q4⟩:=IS q3;exact uV (Aq l h) a3.ok (IQ a3.ok e3 ev) (aU q4 λs δ4 q4 w H4 a4 r4=>q4 w H4 (a2.trans (a3.trans a4)) (bp.back r4 (a2.trans a3)))
def jv(z:Tx):List Tx->Tx
 | []=>[]
 | [x]=>x
 | x :: y :: r=>x ++ z ++ jv z (y :: r)
theorem Ar(z:Tx):∀ (r:List Tx) (acc:Tx),((r.map toS).foldl (λ(acc:Array Nat) p=>acc ++ (toS z).cps ++ p.cps) acc.toArray)=(match r with | []=>acc | x :: r'=>acc ++ z ++ jv z (x :: r')).toArray
 | [],acc=>rfl
 | x :: r,acc=>by
  rw[Wd,J9];have e:acc.toArray ++ (toS z).cps ++ (toS x).cps=(acc ++ z ++ x).toArray:=by simp[toS]
  rw[e,Ar z r (acc ++ z ++ x)]
  cases r with
  | nil=>simp[jv]
  | cons y r'=>simp[jv]
theorem IT(z:Tx)(ts:List Tx):Txt.join (toS z) (ts.map toS)=toS (jv z ts):=by
 show Builtin.Str.glued _ _=_;unfold Builtin.Str.glued
 cases ts with
 | nil=>rfl
 | cons x r =>
  rw[Wd];show(⟨(List.foldl _ (toS x).cps (r.map toS))⟩:Str)=_;have:=Ar z r x;have e:(toS x).cps=x.toArray:=rfl;rw[e,this]
  cases r with
  | nil=>rfl
  | cons y r'=>rfl
def jw(ts:List Tx):Nat:=(ts.map (·.length)).sum
def dC(z:Tx):D->Option S
 | .lst ds=>match fU ds with
  | some ts=>if jw ts + ts.length * z.length<=16777216 then some (.pure (.str (jv z ts))) else none
  | none=>none
 | .tup ds=>match fU ds with
  | some ts=>if jw ts + ts.length * z.length<=16777216 then some (.pure (.str (jv z ts))) else none
  | none=>none
 | _=>none
theorem IU{K:W4}(z:Tx):jV (λx H Q=>rH K (.str (toS z)) [x] H Q) (dC z):=by
 intro c σ δ H x d s Q k rx hp q;have key:∀ (a:Addr) (vs:List V) (ds:List D),x = .ref a->(cx K H a vs\/dA K H a vs)->aD H (Av c σ δ) vs ds->(match fU ds with | some ts=>if jw ts + ts.length * z.length<=16777216 then some (S.pure (.str (jv z ts))) else none | none=>none)=some s->rH K (.str (toS z)) [x] H Q:=by
  intro a vs ds ea ha ra hp
  cases e:fU ds with
  | none=>rw[e] at hp; cases hp
  | some ts =>
   rw[e] at hp;simp only at hp;split at hp
   ·rename_i hz;simp only[Wb] at hp;subst hp;have:=nD e ra;subst this;refine⟨toS z,a,ts.map toS,rfl,by rw[ea],?_,?_,?_⟩
    ·rw[Wu]; exact ha
    ·rw[Wu,Wi,jT];have:((λx:Str=>x.length) ∘ toS)=λx:Tx=>x.length:=funext λx=>jT x
     rw[this];exact hz
    ·rw[IT];exact q _ H (.refl k) (.str _)
   ·cases hp
 cases d with
 | lst ds =>
  obtain⟨a,vs,ea,ha,ra⟩:=rx.lst;exact key a vs ds ea (.inl (.inl ha)) ra hp
 | tup ds =>
  obtain⟨a,vs,ea,ha,ra⟩:=rx.tup;exact key a vs ds ea (.inr (.of ha)) ra hp
 | _=>simp[dC] at hp
theorem rW{x:Str}{j}{p0 apos bE:Pos}(z:Tx)(he:SB X c e fb)(hx:x=toS z:=by decide +kernel)
  (l_:QY (.Constant (.str x) j p0) "join" X.env (eval (.Constant (.str x) j p0) X.env)=eval (.Constant (.str x) j p0) X.env:=by rfl)
  (ma:((QJ bE (Wj [e] X.env)).all (λx=>!x.1) && (backToKw bE (keywordEach [] X.env)).all (λx=>x.1.isSome)
   && decide ([e].length + ([]:List Keyword).length + (if ([]:List Keyword).isEmpty then 0 else 1) < 30))=true:=by rfl)
  (gZ:(apos.endLine == bE.line)=true:=by rfl) (hs:Wj [e] X.env=(false,eval e X.env) :: Wj [] X.env:=by rfl) :
  SE X c (.Call (.Attribute (.Constant (.str x) j p0) "join" apos) [e] [] bE) (aK (dC z) fb):=by
 subst hx;refine PE.weak (qQ PySem.F.plainAttrs_str PySem.F.slot_str_join PySem.F.type_str_join HQ yi (fO he iq hs) l_ ma gZ hs rfl) λσ H Q h=>?_
 obtain⟨δ,k,q⟩:=uW (r:=λx H Q=>rH X.K (.str (toS z)) [x] H Q) (IU z) h;refine⟨?_,δ,k,q⟩;show("str" : String) = "str";rfl
end
inductive Fl where
 | next | ret (r:S) | brk | cont
abbrev DS:=Dl->Rs Fl
def fin(c:Fc)(D:Ends)(σ:St)(δ:Dl)(H:Hp):Fl->Prop
 | .next=>D.nx σ H
 | .ret r=>∀ v,bp c σ δ c.H₀ H v r->D.rt v H
 | .brk=>D.bk σ H
 | .cont=>D.ct σ H
def eV(c:Fc)(D:Ends)(σ:St)(δ:Dl)(H:Hp)(r:Rs Fl):Prop:=post c r λfl δ'=>∀ σ' H',aQ c σ δ H σ' δ' H'->fin c D σ' δ' H' fl
def rX(c:Fc)(f:DS):TS:=λD σ H=>∃ δ,Ok c σ δ H/\eV c D σ δ H (f δ)
abbrev SS(X:Cx)(c:Fc)(st:Stmt)(f:DS):Prop:=PS X st (rX c f)
abbrev jX(X:Cx)(c:Fc)(st:List Stmt)(f:DS):Prop:=eA X st (rX c f)
theorem PS.weak{X:Cx}{st:Stmt}{t t':TS}(h:PS X st t)(w:∀ D σ H,t' D σ H->t D σ H):PS X st t':=λpins s σ H D I q=>h pins s σ H D I (w D σ H q)
theorem eA.weak{X:Cx}{st:List Stmt}{t t':TS}(h:eA X st t)(w:∀ D σ H,t' D σ H->t D σ H):eA X st t':=λpins s σ H D I q=>h pins s σ H D I (w D σ H q)
def d_:DS:=λδ=>.ok .next δ
def ar(f g:DS):DS:=λδ=>(f δ).bind λfl δ1=>match fl with
 | .next=>g δ1
 | .ret r=>.ok (.ret r) δ1
 | .brk=>.ok .brk δ1
 | .cont=>.ok .cont δ1
def IV(f:DE):DS:=λδ=>(f δ).bind λ_ δ1=>.ok .next δ1
def dD(f:DE):DS:=λδ=>(f δ).bind λr δ1=>.ok (.ret r) δ1
def dQ(t:DT)(f g:DS):DS:=λδ=>(t δ).bind λb δ1=>if b then f δ1 else g δ1
def Q_(np:List Nat)(i:Nat):DE:=λδ=>match δ[i]? with
 | some (some (.own d))=>if np.contains i then .ok (.pure d) (δ.set i (some (.pure d))) else .ok (.own d) (δ.set i none)
 | some (some (.pure d))=>.ok (.pure d) δ
 | _=>.stuck
section
variable {X:Cx} {c:Fc} {st:Stmt} {As:List Stmt} {e a:Expr} {f g:DS} {fe:DE} {t:DT} {pos pos':Pos}
theorem iA:jX X c [] d_:=eA.weak ET λD σ H ⟨δ,k,q⟩=>q σ H (.refl k)
theorem aW(h1:SS X c st f)(h2:jX X c As g):jX X c (st :: As) (ar f g):=eA.weak (EU h1 h2) λD σ H ⟨δ,k,q⟩=>by
 unfold ar eV at q;rw[bC] at q;refine⟨δ,k,aU q λfl δ1 q1 σ1 H1 a1=>?_⟩
 cases fl with
 | next=>exact⟨δ1,a1.ok,aU q1 λRa δ2 q2 σ2 H2 a2=>q2 σ2 H2 (a1.trans a2)⟩
 | ret r=>exact q1 σ1 H1 a1
 | brk=>exact q1 σ1 H1 a1
 | cont=>exact q1 σ1 H1 a1
theorem bY(h1:SS X c st f):jX X c [st] f:=eA.weak (yj h1) λD σ H h=>h
theorem fF(he:SE X c e fe):SS X c (.Return (some e) pos) (dD fe):=PS.weak (yl he) λD σ H ⟨δ,k,q⟩=>by
 unfold dD eV at q;rw[bC] at q;exact⟨δ,k,aU q λr δ1 q1 v H1 a1 r1=>q1 σ H1 a1 v r1.Hx⟩
theorem iB{b1 b2:List Stmt}(ht:ST X c e t)(h1:jX X c b1 f)(h2:jX X c b2 g):SS X c (.If e b1 b2 pos) (dQ t f g):=PS.weak (EX ht h1 h2) λD σ H ⟨δ,k,q⟩=>by
 unfold dQ eV at q;rw[bC] at q;refine⟨δ,k,aU q λb δ1 q1 H1 a1=>?_⟩
 cases b with
 | true=>exact⟨δ1,a1.ok,aU q1 λfl δ2 q2 σ2 H2 a2=>q2 σ2 H2 (a1.trans a2)⟩
 | false=>exact⟨δ1,a1.ok,aU q1 λfl δ2 q2 σ2 H2 a2=>q2 σ2 H2 (a1.trans a2)⟩
theorem Own.pF(h:Own (σ.set i (some v)) (δ.set i (some r)) b):Own σ δ b\/(v = .ref b/\∃ d,r = .own d):=by
 obtain⟨j,d,e1,e2⟩:=h;by_cases hj:i=j
 ·subst hj;right
  rw[Q3] at e1 e2;simp at e1 e2;obtain⟨_,h1⟩:=e1;obtain⟨_,h2⟩:=e2;exact⟨h2,d,h1⟩
 ·rw[W5 hj] at e1 e2;exact .inl ⟨j,d,e1,e2⟩
theorem Ok.set(x:aQ c σ₀ δ₀ H₁ σ δ H)(hr:bp c σ δ H₁ H v r)(hp:∀ p ∈ c.pin,p.1≠i):aQ c σ₀ δ₀ H₁ (σ.set i (some v)) (δ.set i (some r)) H:=by
 have k:=x.ok;-- all slots avoid the new address,too
 have all:∃ c':Fc,c'.H₀=c.H₀/\c'.pin=c.pin/\Ok c' σ δ H/\(∀ b,Av c (σ.set i (some v)) (δ.set i (some r)) b->Av c' σ δ b):=by
  cases r with
  | pure d =>
   refine⟨c,rfl,rfl,k,λb z=>?_⟩;rcases z with z | z
   ·exact .inl z
   ·rcases z.pF with z | ⟨_,d',e⟩
    ·exact .inr z
    ·cases e
  | own d =>
   obtain⟨a,ea,o,n,f,k2,_⟩:=hr;refine⟨c.plus a,rfl,rfl,k2,λb z=>?_⟩;rcases z with z | z
   ·exact .inl (.inl z)
   ·rcases z.pF with z | ⟨e,_⟩
    ·exact .inr z
    ·rw[ea] at e; cases e
     exact .inl (.inr rfl)
 obtain⟨c',eH,eP,k2,sub⟩:=all;have eI:∀ a,c'.I a ↔ c.I a:=λa=>by unfold Fc.I; rw[eP]
 have IW:Rep H (Av c (σ.set i (some v)) (δ.set i (some r))) v r.d\/∃ d,r = .own d:=by
  cases r with
  | pure d =>
   left
   refine Rep.aJ hr λb z=>?_
   rcases z with z | z
   ·exact .inl (.inl z)
   ·rcases z.pF with z | ⟨_,d',e⟩
    ·exact .inl (.inr z)
    ·cases e
  | own d=>exact .inr ⟨d,rfl⟩
 refine⟨⟨k.keep,k.bd,k.dM,by rw[WT,WT]; exact k.len,λj d e=>?_,λj d e=>?_,λj l a d d' e1 e2 e3 e4=>?_,λp hm=>?_⟩,x.keep,λb z=>?_,x.there⟩
 ·by_cases hj:i=j
  ·subst hj;rw[Q3] at e;simp at e;obtain⟨hi,rfl⟩:=e;have gr:i < σ.length:=by rw[<- k.len]; exact hi
   rcases IW with h | ⟨_,h⟩
   ·exact⟨v,by rw[Wn gr],h⟩
   ·cases h
  ·rw[W5 hj] at e;obtain⟨w,e1,q⟩:=k2.slot j d e;exact⟨w,by rw[W5 hj]; exact e1,q.aJ λb z=>.inl (sub b z)⟩
 ·by_cases hj:i=j
  ·subst hj;rw[Q3] at e;simp at e;obtain⟨hi,rfl⟩:=e;have gr:i < σ.length:=by rw[<- k.len]; exact hi
   obtain⟨a,ea,o,n,f,k3,_⟩:=hr;refine⟨a,by rw[Wn gr,ea],o.aJ λb z=>.inl ?_,.inr f,n⟩;rcases z with z | z
   ·exact .inl (.inl z)
   ·rcases z.pF with z | ⟨e,_⟩
    ·exact .inr z
    ·rw[ea] at e; cases e
     exact .inl (.inr rfl)
  ·rw[W5 hj] at e;obtain⟨a,e1,q,q2,q3⟩:=k.own j d e;obtain⟨a',e1',q',_,_⟩:=k2.own j d e;rw[e1] at e1'; cases e1'
   exact⟨a,by rw[W5 hj]; exact e1,q'.aJ λb z=>.inl (sub b z),q2,q3⟩
 ·by_cases hj:i=j
  ·subst hj;by_cases hl:i=l
   ·exact hl
   ·rw[W5 hl] at e2 e4;rw[Q3] at e1 e3;simp at e1 e3;obtain⟨_,rfl⟩:=e1;obtain⟨_,rfl⟩:=e3;obtain⟨a',ea,o,n,f,k3,_⟩:=hr
    cases ea;exact absurd ⟨l,d',e2,e4⟩ (nr k3)
  ·rw[W5 hj] at e1 e3;by_cases hl:i=l
   ·subst hl;rw[Q3] at e2 e4;simp at e2 e4;obtain⟨_,rfl⟩:=e2;obtain⟨_,rfl⟩:=e4;obtain⟨a',ea,o,n,f,k3,_⟩:=hr
    cases ea;exact absurd ⟨j,d,e1,e3⟩ (nr k3)
   ·rw[W5 hl] at e2 e4;exact k.inj j l a d d' e1 e2 e3 e4
 ·rw[W5 (Ne.symm (hp p hm))];exact k.pinned p hm
 ·rcases z.pF with z | ⟨e,d,ed⟩
  ·exact x.own b z
  ·subst ed;obtain⟨a,ea,_,_,_,_,hs⟩:=hr;rw[ea] at e; cases e
   exact .inr hs
abbrev DG:=S->Dl->Option Dl
def uZ(c:Fc)(g:DG):TG:=λv σ H Q=>∃ σ₀ δ₀ H₁ δ r δ',aQ c σ₀ δ₀ H₁ σ δ H/\bp c σ δ H₁ H v r/\g r δ=some δ'/\∀ σ',aQ c σ₀ δ₀ H₁ σ' δ' H->Q σ' H
abbrev SG(X:Cx)(c:Fc)(tg:Expr)(g:DG):Prop:=PG X tg (uZ c g)
def ae(np:List Nat)(i:Nat):DG:=λr δ=>if np.contains i then none else some (δ.set i (some r))
def Np(c:Fc)(np:List Nat):Prop:=∀ p ∈ c.pin,np.contains p.1=true
theorem u0(hp:Np c np)(h:uZ c (ae np i) v σ H Q):mX i v σ H Q:=by
 obtain⟨σ₀,δ₀,H₁,δ,r,δ',x,rr,e,q⟩:=h;unfold ae at e;split at e
 ·cases e
 ·rename_i hn
  cases e;exact q _ (Ok.set x rr λp hm e=>hn (by rw[<- e]; exact hp p hm))
theorem PG.weak{tg:Expr}{t t':TG}(h:PG X tg t)(w:∀ v σ H Q,t' v σ H Q->t v σ H Q):PG X tg t':=λpins s σ H v u Q I r q=>h pins s σ H v u Q I r (w v σ H Q q)
theorem il.weak{tg:List Expr}{t t':kS}(h:il X tg t)(w:∀ v σ H Q,t' v σ H Q->t v σ H Q):il X tg t':=λpins s σ H v u Q I r q=>h pins s σ H v u Q I r (w v σ H Q q)
theorem cR{np:List Nat}{i:Nat}{x:Str}(hp:Np c np)(hN:X.N.Nodup)(hi:X.N[i]? = some x)(hx:Loc X.env.scope x)(hf:X.fn x=true\/X.env.scope.names.lookup x=some .local):SG X c (.Name x pos) (ae np i) :=
 PG.weak (qA hN hi hx hf) λv σ H Q h=>u0 hp h
abbrev i8:=List D->Dl->Option Dl
def IX(c:Fc)(g:i8):kS:=λvs σ H Q=>∃ δ ds δ',Ok c σ δ H/\aD H (Av c σ δ) vs ds/\g ds δ=some δ'/\∀ σ',aQ c σ δ H σ' δ' H->Q σ' H
abbrev rY(X:Cx)(c:Fc)(tg:List Expr)(g:i8):Prop:=il X tg (IX c g)
def cH:i8:=λds δ=>match ds with
 | []=>some δ
 | _=>none
def bB(g:DG)(gs:i8):i8:=λds δ=>match ds with
 | []=>none
 | d :: r=>(g (.pure d) δ).bind λδ1=>gs r δ1
theorem ku:rY X c [] cH:=il.weak tP λvs σ H Q ⟨δ,ds,δ',k,r,e,q⟩=>by
 cases ds with
 | nil =>
  cases e;have:vs=[]:=by have:=r.1; simpa using this
  exact⟨this,q σ (.refl k)⟩
 | cons d r=>cases e
theorem eW{es:List Expr}{g:DG}{gs:i8}(h1:SG X c e g)(h2:rY X c es gs)(hs:(Qk (e :: es) X.env).map (·.2)=assign e X.env :: (Qk es X.env).map (·.2):=by rfl):rY X c (e :: es) (bB g gs) :=
 il.weak (qB h1 h2 hs) λvs σ H Q ⟨δ,ds,δ',k,r,e,q⟩=>by
  cases ds with
  | nil=>cases e
  | cons d ds =>
   cases vs with
   | nil=>have:=r.1; simp at this
   | cons v vs =>
    simp only[bB] at e
    cases e1:g (.pure d) δ with
    | none=>rw[e1] at e; cases e
    | some δ1 =>
     rw[e1] at e;refine⟨v,vs,rfl,σ,δ,H,δ,.pure d,δ1,.refl k,r.head,e1,λσ1 a1=>?_⟩;exact⟨δ1,ds,δ',a1.ok,aD.dO r.tail a1,e,λσ2 a2=>q σ2 (a1.trans a2)⟩
def cB(n:Nat)(gs:i8):DG:=λr δ=>match r.d with
 | .tup ds=>if ds.length=n then gs ds δ else none
 | _=>none
theorem kz{es:List Expr}{k:Nat}{gs:i8}{n:Nat}(hc:X.calm=true)(h:rY X c es gs)(hn:(Qk es X.env).length=n:=by rfl)(iU:(Qk es X.env).findIdx? (·.1)=none:=by rfl) :
  SG X c (.Tuple es k pos) (cB n gs):=PG.weak (tQ hc h hn iU) λv σ H Q hw=>by
 obtain⟨σ₀,δ₀,H₁,δ,r,δ',x,rr,e,q⟩:=hw;have hb:=rr.b;unfold cB at e;generalize r.d=d at e hb
 cases d <;> first | (cases e; done) | skip
 rename_i ds;simp only at e;split at e
 ·rename_i hl;obtain⟨a,vs,ea,ha,ra⟩:=hb.tup;exact⟨a,vs,ea,.of ha,by rw[ra.1]; exact hl,δ,ds,δ',x.ok,ra,e,λσ' a1=>q σ' (x.trans a1)⟩
 ·cases e
def au(f:DE)(g:DG):DS:=λδ=>(f δ).bind λr δ1=>match g r δ1 with
 | some δ2=>.ok .next δ2
 | none=>.stuck
theorem u3{g:DG}{D:Ends}{σ:St}{H:Hp}{te:TE}{tg:TG}(he:∀ σ H Q,tD c fe σ H Q->te σ H Q)(hg:∀ v σ H Q,uZ c g v σ H Q->tg v σ H Q)(h:rX c (au fe g) D σ H):qC te tg D σ H:=by
 obtain⟨δ,k,q⟩:=h;unfold au eV at q;rw[bC] at q;refine he _ _ _ ⟨δ,k,aU q λr δ1 q1 v H1 a1 r1=>hg _ _ _ _ ?_⟩
 cases e:g r δ1 with
 | none=>rw[e] at q1; exact q1.elim
 | some δ2 =>
  rw[e] at q1;exact⟨σ,δ,H,δ1,r,δ2,a1,r1,e,λσ' a2=>q1 σ' H1 a2⟩
theorem nL{tg:Expr}{g:DG}(he:SE X c e fe)(hg:SG X c tg g)(hs:swapsWithSole [tg] e pos.line X.env=pure false:=by rfl)(hw:swappedStores [tg] e X.env=pure none:=by rfl)
  (h1:(Qk [tg] X.env).map (·.2)=[assign tg X.env]:=by rfl):SS X c (.Assign [tg] e pos) (au fe g):=PS.weak (yq he hg hs hw h1) λD σ H h=>u3 (λ_ _ _ h=>h) (λ_ _ _ _ h=>h) h
theorem bZ{np:List Nat}{i:Nat}{x:Str}(hp:Np c np)(hN:X.N.Nodup)(hi:X.N[i]? = some x)(hx:Loc X.env.scope x)(he:SE X c e fe)(hs:Jg e (some (.Name x pos')) pos.line X.env=pure false)(hf:X.fn x=true\/X.env.scope.names.lookup x=some .local) :
  SS X c (.Assign [.Name x pos'] e pos) (au fe (ae np i)):=PS.weak (yr hN hi hx he hs hf) λD σ H h=>u3 (λ_ _ _ h=>h) (λ_ _ _ _ h=>u0 hp h) h
theorem Ok.Au{σ:St}{δ:Dl}{H:Hp}{i:Nat}{ds dJ:List D}{a:Addr}{iu:List V}(k:Ok c σ δ H)(e:δ[i]? = some (some (.own (.lst ds))))(ea:σ[i]? = some (some (.ref a)))(r:aD H (Av c σ δ) iu dJ) :
  aQ c σ δ H σ (δ.set i (some (.own (.lst dJ)))) (upd H a (.lst iu)):=by
 have hi:i < δ.length:=(W3.mp e).1;obtain⟨a',cF,oa,ia,nb⟩:=k.own i _ e;rw[ea] at cF; cases cF
 obtain⟨vs,ha,_⟩:=oa;have lA:Own σ δ a:=⟨i,_,e,ea⟩
 have pG:Av c σ δ a:=.inr lA;have lB:∀ b,Own σ (δ.set i (some (.own (.lst dJ)))) b ↔ Own σ δ b:=λb=>by
  constructor
  ·rintro ⟨j,d,e1,e2⟩;by_cases hj:i=j
   ·subst hj;exact⟨i,_,e,e2⟩
   ·rw[W5 hj] at e1;exact⟨j,d,e1,e2⟩
  ·rintro ⟨j,d,e1,e2⟩;by_cases hj:i=j
   ·subst hj;exact⟨i,_,by rw[Wn hi],e2⟩
   ·exact⟨j,d,by rw[W5 hj]; exact e1,e2⟩
 have jx:∀ b,Av c σ (δ.set i (some (.own (.lst dJ)))) b->Av c σ δ b:=λb z=>z.elim .inl λz=>.inr ((lB b).mp z)
 have ne:∀ b,¬ Av c σ δ b->b≠a:=λb n z=>n (by rw[z]; exact pG)
 have kp:∀ b o,H b=some o->¬ Av c σ δ b->upd H a (.lst iu) b=some o:=λb o h n=>by rw[ba (ne b n)]; exact h
 have g9:∀ b o,H b=some o->∃ o',upd H a (.lst iu) b=some o':=λb o h=>by
  by_cases hb:b=a
  ·exact⟨_,by rw[hb]; exact dq⟩
  ·exact⟨o,by rw[ba hb]; exact h⟩
 refine⟨⟨λb o h n=>?_,λb z=>?_,λb z=>?_,by rw[WT]; exact k.len,λj d h=>?_,λj d h=>?_,λj l b d d' h1 h2 h3 h4=>?_,k.pinned⟩,λb o h n=>?_,λb z=>.inl ((lB b).mp z),g9⟩
 ·have hb:b≠a:=λz=>by
   subst z;rcases ia with z | z
   ·exact n z
   ·rw[z] at h; cases h
  rw[ba hb];exact k.keep b o h n
 ·obtain⟨o,h⟩:=k.bd b z;exact g9 b o h
 ·obtain⟨o,h⟩:=k.dM b z;exact g9 b o h
 ·have hj:i≠j:=λz=>by subst z; rw[Wn hi] at h; cases h
  rw[W5 hj] at h;obtain⟨v,h1,h2⟩:=k.slot j d h;exact⟨v,h1,(h2.keep kp).aJ λb z=>.inl (jx b z)⟩
 ·by_cases hj:i=j
  ·subst hj;rw[Wn hi] at h
   cases h;exact⟨a,ea,⟨iu,dq,aD.aJ (aD.keep r kp) λb z=>.inl (jx b z)⟩,ia,nb⟩
  ·rw[W5 hj] at h;obtain⟨b,h1,h2,h3,h4⟩:=k.own j d h;have hb:b≠a:=λz=>by subst z; exact hj (k.inj i j b _ d e h ea h1)
   exact⟨b,h1,(h2.keep kp λo q=>by rw[ba hb]; exact q).aJ λb z=>.inl (jx b z),h3,h4⟩
 ·have f1:∃ d,δ[j]? = some (some (.own d)):=by
   by_cases hj:i=j
   ·subst hj; exact⟨_,e⟩
   ·rw[W5 hj] at h1; exact⟨d,h1⟩
  have f2:∃ d,δ[l]? = some (some (.own d)):=by
   by_cases hj:i=l
   ·subst hj; exact⟨_,e⟩
   ·rw[W5 hj] at h2; exact⟨d',h2⟩
  obtain⟨_,f1⟩:=f1;obtain⟨_,f2⟩:=f2;exact k.inj j l b _ _ f1 f2 h3 h4
 ·have hb:b≠a:=λz=>n (by rw[z]; exact lA)
  rw[ba hb]; exact h
def iC(δ:Dl)(i:Nat):Bool:=match δ[i]? with
 | some (some (.own (.lst _)))=>true
 | _=>false
def putL(δ:Dl)(i:Nat)(f:List D->Option (List D)):Rs Fl:=match δ[i]? with
 | some (some (.own (.lst ds)))=>match f ds with
  | some dJ=>.ok .next (δ.set i (some (.own (.lst dJ))))
  | none=>.stuck
 | _=>.stuck
theorem Aw(h:iC δ i=true):∃ ds,δ[i]? = some (some (.own (.lst ds))):=by
 unfold iC at h;split at h
 ·rename_i ds e; exact⟨ds,e⟩
 ·cases h
theorem Ax{δ:Dl}{i:Nat}{g:List D->Option (List D)}{kk:Fl->Dl->Prop}(h:post c (putL δ i g) kk):∃ ds dJ,δ[i]? = some (some (.own (.lst ds)))/\g ds=some dJ/\kk .next (δ.set i (some (.own (.lst dJ)))):=by
 unfold putL at h;split at h
 ·rename_i ds e;split at h
  ·rename_i dJ e2;exact⟨ds,dJ,e,e2,h⟩
  ·exact h.elim
 ·exact h.elim
def cS(i:Nat)(f:DE):DS:=λδ=>if iC δ i then(f δ).bind λr δ1=>putL δ1 i λds=>if ds.length < W9 then some (ds ++ [r.d]) else none else .stuck
theorem IY{i:Nat}{o:Expr}{p0 apos bE:Pos}(ho:PE X o (c9 i))(he:SE X c e fe)
  (h:PS X (.Expr (.Call (.Attribute o "append" apos) [e] [] bE) pos) (qz (qP X.K "list" qR (c9 i) (oW (tD c fe) mZ)))):SS X c (.Expr (.Call (.Attribute o "append" apos) [e] [] bE) pos) (cS i fe) :=
 PS.weak h λD σ H ⟨δ,k,q⟩=>by
  unfold cS eV at q;split at q
  ·rename_i eX;obtain⟨ds0,e0⟩:=Aw eX;rw[bC] at q;obtain⟨a,ea,oa,_⟩:=k.own i _ e0;refine⟨.ref a,ea,?_,δ,k,aU q λr δ1 q1 v H1 a1 r1=>?_⟩
   ·obtain⟨vs,ha,_⟩:=oa;exact .inl ⟨rfl,vs,.of ha⟩
   ·obtain⟨ds,dJ,e1,e2,q2⟩:=Ax q1;split at e2
    ·rename_i hz
     cases e2;obtain⟨a',cF,oa1,_⟩:=a1.ok.own i _ e1;rw[ea] at cF; cases cF
     obtain⟨vs,ha,ra⟩:=id oa1;refine⟨a,vs,v,rfl,rfl,ha,by rw[ra.1]; exact hz,?_⟩;exact q2 σ _ (a1.trans (Ok.Au a1.ok e1 ea (ra.append (.cons r1.rep .nil))))
    ·cases e2
  ·exact q.elim
def nM(i:Nat)(fi:DE)(fe:DE):DS:=λδ=>if iC δ i then(fe δ).bind λr δ1=>(fi δ1).bind λk δ2=>match k with
 | .pure (.int j)=>putL δ2 i λds=>(fg ds.length j).map λn=>ds.set n r.d
 | _=>.stuck else .stuck
theorem Ay{i:Nat}{o ix:Expr}{fi:DE}{sp:Pos}(ho:PE X o (c9 i))(hi:SE X c ix fi)(he:SE X c e fe)
  (ha:∀ v,assign (.Subscript o ix sp) X.env v=(do
   let ov <- holding [v] (eval o X.env)
   let iv <- holding [v,ov] (eval ix X.env)
   standAt sp
   holding [v,ov,iv] (setItem ov iv v)
   release [v,ov,iv] []):=by intro _; rfl)
  (hs:swapsWithSole [.Subscript o ix sp] e pos.line X.env=pure false:=by rfl) (hw:swappedStores [.Subscript o ix sp] e X.env=pure none:=by rfl)
  (h1:(Qk [.Subscript o ix sp] X.env).map (·.2)=[assign (.Subscript o ix sp) X.env]:=by rfl):SS X c (.Assign [.Subscript o ix sp] e pos) (nM i fi fe) :=
 PS.weak (yq he (EZ ho hi FZ ha) hs hw h1) λD σ H ⟨δ,k,q⟩=>by
  unfold nM eV at q;split at q
  ·rename_i eX;obtain⟨ds0,e0⟩:=Aw eX;rw[bC] at q;obtain⟨a,ea,_,_⟩:=k.own i _ e0;refine⟨δ,k,aU q λr δ1 q1 v H1 a1 r1=>⟨.ref a,ea,δ1,a1.ok,?_⟩⟩;rw[bC] at q1;refine aU q1 λkx δ2 q2 u H2 a2 r2=>?_
   cases kx with
   | own d=>exact q2.elim
   | pure d =>
    cases d <;> first | exact q2.elim | skip
    rename_i j
    cases r2;obtain⟨ds,dJ,e1,e2,q3⟩:=Ax q2
    cases e3:fg ds.length j with
    | none=>rw[e3] at e2; cases e2
    | some n =>
     rw[e3] at e2
     cases e2;obtain⟨a',cF,oa1,_⟩:=a2.ok.own i _ e1;rw[ea] at cF; cases cF
     obtain⟨vs,ha,ra⟩:=id oa1;refine⟨a,vs,j,n,rfl,rfl,ha,by rw[ra.1]; exact e3,?_⟩;exact q3 σ _ (a1.trans (a2.trans (Ok.Au a2.ok e1 ea (ra.set (Rep.dO r1.rep a2) n))))
  ·exact q.elim
end
abbrev DI:=Dl->Rs (List D)
def kA(c:Fc)(σ:St)(δ:Dl)(H:Hp)(J:It)(ds:List D):Prop:=∀ H2,(∀ a o,H a=some o->¬ Own σ δ a->H2 a=some o)->J.stop ds.length H2 /\
 ∀ (i:Nat) d,ds[i]? = some d->J.go i H2/\∀ x H3,J.oS i H2 x H3->(H3=H2/\Rep H (Av c σ δ) x d) \/
  ∃ p vs es,H2 p=none/\H3=upd H2 p (.tup vs)/\x = .ref p/\d = .tup es/\aD H (Av c σ δ) vs es
def tI(c:Fc)(f:DI):TI:=λσ H R=>∃ δ,Ok c σ δ H/\post c (f δ) λds δ'=>∀ J H',aQ c σ δ H σ δ' H'->kA c σ δ' H' J ds->R J H'
abbrev SI(X:Cx)(c:Fc)(tg iter:Expr)(f:DI):Prop:=PI X tg iter (tI c f)
theorem PI.weak(h:PI X tg iter t)(w:∀ σ H R,t' σ H R->t σ H R):PI X tg iter t':=λpins s σ H R I q=>h pins s σ H R I (w σ H R q)
section
variable {X:Cx} {c:Fc} {tg e:Expr} {fe:DE} {pos pp:Pos}
theorem IZ(K:W4)(h:H a=some (.tup vs))(n:¬ Own σ δ a)(r:aD H (Av c σ δ) vs ds):kA c σ δ H (tR K a) ds:=by
 intro H2 kp;have h2:=kp a _ h n;refine⟨⟨vs,.of h2,by rw[r.1]; exact Wk _⟩,λi d e=>?_⟩;obtain⟨v,ev,rv⟩:=r.get e;refine⟨⟨vs,v,.of h2,ev⟩,λx H3 ⟨e3,y⟩=>.inl ⟨e3,?_⟩⟩;have:=y vs (.of h2);rw[ev] at this
 cases this;exact rv
def dE(lo:Int)(n:Nat):List D:=(Q9 n).map λk:Nat=>D.int (lo + k)
theorem I0{lo:Int}{n i:Nat}{d:D}(h:(dE lo n)[i]? = some d):i < n/\d = .int (lo + i):=by
 unfold dE at h;rw[Wl] at h;by_cases hi:i < n
 ·rw[List.getElem?_range hi] at h;simp at h;exact⟨hi,h.symm⟩
 ·rw[Q1 (by simpa using hi)] at h
  cases h
theorem I_(lo:Int)(n:Nat):kA c σ δ H (qF lo n) (dE lo n):=by
 intro H2 kp;refine⟨by show n<=(dE lo n).length; simp[dE],λi d e=>?_⟩;obtain⟨hi,rfl⟩:=I0 e;exact⟨hi,λx H3 ⟨e3,ex⟩=>.inl ⟨e3,by rw[ex]; exact .int _⟩⟩
def nN(j:Int):Bool:=decide (-(2 ^ 62)<=j) && decide (j < 2 ^ 62)
def fV(f:DE):DI:=λδ=>(f δ).bind λr δ1=>match r with
 | .pure (.int j)=>if nN j then .ok (dE 0 j.toNat) δ1 else .stuck
 | _=>.stuck
theorem nP (hg:Gl X "range") (hm:X.mg "range" = none) (he:SE X c e fe) (hs:Wj [e] X.env=[(false,eval e X.env)]:=by rfl):SI X c tg (.Call (.Name "range" pp) [e] [] pos) (fV fe) :=
 PI.weak (E6 hg hm (fO he iq hs) hs) λσ H R ⟨δ,k,q⟩=>by
  unfold fV at q;rw[bC] at q;refine⟨δ,k,aU q λr δ1 q1 v H1 a1 r1=>?_⟩
  cases r with
  | own d=>exact q1.elim
  | pure d =>
   cases d <;> first | exact q1.elim | skip
   rename_i j
   cases r1;simp only at q1;split at q1
   ·rename_i hj;unfold nN at hj;simp only[Wt,decide_eq_true_eq] at hj;exact⟨j,rfl,hj.1,hj.2,q1 _ H1 a1 (I_ 0 j.toNat)⟩
   ·exact q1.elim
def forL(g:DG)(b:DS):List D->DS
 | [],δ=>.ok .next δ
 | d :: r,δ=>match g (.pure d) δ with
  | none=>.stuck
  | some δ1=>(b δ1).bind λfl δ2=>match fl with
   | .next=>forL g b r δ2
   | .cont=>forL g b r δ2
   | .brk=>.ok .next δ2
   | .ret v=>.ok (.ret v) δ2
def cf(it:DI)(g:DG)(b:DS):DS:=λδ=>(it δ).bind λds δ1=>forL g b ds δ1
theorem Az(io:kA c σ δ H J ds)(a:aQ c σ δ H σ2 δ2 H2)(e:ds[i]? = some d)(y:J.oS i H2 x H3):aQ c σ2 δ2 H2 σ2 δ2 H3/\Rep H3 (Av c σ2 δ2) x d:=by
 obtain⟨_,t⟩:=io H2 a.keep;rcases (t i d e).2 x H3 y with ⟨e3,r⟩ | ⟨p,vs,es,hp,e3,ex,ed,r⟩
 ·subst e3;exact⟨.refl a.ok,Rep.dO r a⟩
 ·subst e3 ex ed;have:=bp.nv a.ok (aD.dO r a) hp;exact⟨.alloc a.ok hp _,this⟩
theorem gM{iter:Expr}{body:List Stmt}{it:DI}{g:DG}{b:DS}(hp:PassesOwn (model X.prog X.w) X.A X.env X.xe)(hc:X.calm=true)(hi:SI X c tg iter it)(hg:SG X c tg g)(hb:jX X c body b)
  (hs:∀ x,QD iter X.env x=pure x:=by intro _; rfl):SS X c (.For tg iter body [] pos) (cf it g b):=PS.weak (yw hp hc hi hg hb hs) λD σ H ⟨δ,k,q⟩=>by
 unfold cf eV at q;rw[bC] at q;refine⟨δ,k,aU q λds δ1 q1 J H1 a1 io=>?_⟩;refine⟨λi m σ2 H2=>∃ δ2,m=ds.length - i/\i<=ds.length/\aQ c σ δ1 H1 σ2 δ2 H2/\eV c D σ2 δ2 H2 (forL g b (ds.drop i) δ2),⟨ds.length,δ1,by simp,Qc _,.refl a1.ok,?_⟩,?_⟩
 ·rw[List.drop_zero];exact aU q1 λfl δ2 q2 σ2 H2 a2=>q2 σ2 H2 (a1.trans a2)
 ·rintro i m σ2 H2 ⟨δ2,rfl,lC,a2,p2⟩;by_cases bu:i < ds.length
  ·right
   have e:ds[i]? = some ds[i]:=by simp[bu]
   rw[QP bu] at p2;refine⟨((io H2 a2.keep).2 i _ e).1,λσ4 H4=>∃ δ4,aQ c σ δ1 H1 σ4 δ4 H4/\eV c D σ4 δ4 H4 (forL g b (ds.drop (i + 1)) δ4),λσ4 H4 ⟨δ4,a4,p4⟩=>⟨ds.length - (i + 1),by omega,δ4,rfl,bu,a4,p4⟩,λx H3 y=>?_⟩;obtain⟨a3,r3⟩:=Az io a2 e y;simp only[forL,eV] at p2
   cases eg:g (.pure ds[i]) δ2 with
   | none=>rw[eg] at p2; exact p2.elim
   | some δ3 =>
    rw[eg] at p2;refine⟨σ2,δ2,H3,δ2,.pure ds[i],δ3,.refl a3.ok,r3,eg,λσ3 a3'=>?_⟩;have p3:post c ((b δ3).bind λfl δ2=>match fl with
     | .next=>forL g b (ds.drop (i + 1)) δ2
     | .cont=>forL g b (ds.drop (i + 1)) δ2
     | .brk=>.ok .next δ2
     | .ret v=>.ok (.ret v) δ2) λfl δ'=>∀ σ' H',aQ c σ2 δ2 H2 σ' δ' H'->fin c D σ' δ' H' fl:=p2
    rw[bC] at p3;have J_:aQ c σ2 δ2 H2 σ3 δ3 H3:=a3.trans a3';refine⟨δ3,a3'.ok,aU p3 λfl δ4 p4 σ4 H4 a4=>?_⟩;have iD:=J_.trans a4
    cases fl with
    | next=>exact⟨δ4,a2.trans iD,aU p4 λfl δ5 p5 σ5 H5 a5=>p5 σ5 H5 (iD.trans a5)⟩
    | cont=>exact⟨δ4,a2.trans iD,aU p4 λfl δ5 p5 σ5 H5 a5=>p5 σ5 H5 (iD.trans a5)⟩
    | brk=>exact p4 σ4 H4 iD
    | ret r=>exact p4 σ4 H4 iD
  ·left
   have u4:i=ds.length:=by omega
   subst u4;rw[List.drop_length] at p2;exact⟨(io H2 a2.keep).1,p2 σ2 H2 (.refl a2.ok)⟩
def ef(t:DT)(b:DS):Nat->DS
 | 0,_=>.stuck
 | n + 1,δ=>(t δ).bind λx δ1=>if x then(b δ1).bind λfl δ2=>match fl with
   | .next=>ef t b n δ2
   | .cont=>ef t b n δ2
   | .brk=>.ok .next δ2
   | .ret v=>.ok (.ret v) δ2
  else .ok .next δ1
theorem AB{e:Expr}{body:List Stmt}{t:DT}{b:DS}(n:Nat)(hw:∀ {tt:TT} {tb:TS},PT X e tt->eA X body tb->PS X (.While e body [] pos) (yt tt tb))(ht:ST X c e t)(hb:jX X c body b):SS X c (.While e body [] pos) (ef t b n) :=
 PS.weak (hw ht hb) λD σ H ⟨δ,k,q⟩=>by
  refine⟨λm σ2 H2=>∃ δ2,Ok c σ2 δ2 H2/\eV c D σ2 δ2 H2 (ef t b m δ2),⟨n,δ,k,q⟩,?_⟩;rintro m σ2 H2 ⟨δ2,k2,q2⟩
  cases m with
  | zero=>exact q2.elim
  | succ m =>
   simp only[ef,eV] at q2;rw[bC] at q2;refine⟨δ2,k2,aU q2 λx δ3 q3 H3 a3=>?_⟩
   cases x with
   | false=>exact q3 σ2 H3 a3
   | true =>
    have p3:post c ((b δ3).bind λfl δ2=>match fl with
     | .next=>ef t b m δ2
     | .cont=>ef t b m δ2
     | .brk=>.ok .next δ2
     | .ret v=>.ok (.ret v) δ2) λfl δ'=>∀ σ' H',aQ c σ2 δ2 H2 σ' δ' H'->fin c D σ' δ' H' fl:=q3
    rw[bC] at p3;refine⟨λσ4 H4=>∃ δ4,Ok c σ4 δ4 H4/\eV c D σ4 δ4 H4 (ef t b m δ4),λσ4 H4 w=>⟨m,Nat.lt_succ_self _,w⟩,δ3,a3.ok,aU p3 λfl δ4 p4 σ4 H4 a4=>?_⟩;have iD:=a3.trans a4
    cases fl with
    | next=>exact⟨δ4,a4.ok,aU p4 λfl δ5 p5 σ5 H5 a5=>p5 σ5 H5 (iD.trans a5)⟩
    | cont=>exact⟨δ4,a4.ok,aU p4 λfl δ5 p5 σ5 H5 a5=>p5 σ5 H5 (iD.trans a5)⟩
    | brk=>exact p4 σ4 H4 iD
    | ret r=>exact p4 σ4 H4 iD
end
def bD(cs:List Nat)(δ:Dl):Dl:=cs.foldl (λδ i=>δ.set i none) δ
def cI(cs:List Nat)(δ₁ δ:Dl):Dl:=cs.foldl (λδ i=>match δ₁[i]? with | some o=>δ.set i o | none=>δ) δ
def bJ(δ:Dl)(i:Nat):Bool:=match δ[i]? with
 | some (some (.own _))=>true
 | _=>false
theorem AD(cs:List Nat):∀ δ:Dl,(bD cs δ).length=δ.length:=by
 induction cs with
 | nil=>intro δ; rfl
 | cons i r ih =>
  intro δ;show(bD r (δ.set i none)).length=_;rw[ih]; simp
theorem i9:∀ (cs:List Nat) (δ:Dl) (i:Nat) (v:S),(bD cs δ)[i]? = some (some v)->δ[i]? = some (some v)/\i ∉ cs:=by
 intro cs;induction cs with
 | nil=>intro δ i v h; exact⟨h,by simp⟩
 | cons j r ih =>
  intro δ i v h;have h':(bD r (δ.set j none))[i]? = some (some v):=h;obtain⟨h1,h2⟩:=ih _ i v h';by_cases e:j=i
  ·subst e;rw[Q3] at h1;simp at h1
  ·rw[W5 e] at h1;exact⟨h1,by simp only[Wo,not_or]; exact⟨Ne.symm e,h2⟩⟩
theorem kB:∀ (cs:List Nat) (σ:St) (i:Nat),i ∉ cs->(bL cs σ)[i]? = σ[i]?:=by
 intro cs;induction cs with
 | nil=>intro σ i _; rfl
 | cons j r ih =>
  intro σ i h;simp only[Wo,not_or] at h;show(bL r (σ.set j none))[i]? = _;rw[ih _ _ h.2,W5 (Ne.symm h.1)]
theorem Ka:∀ (cs:List Nat) (δ:Dl) (i:Nat),i ∉ cs->(bD cs δ)[i]? = δ[i]?:=by
 intro cs;induction cs with
 | nil=>intro σ i _; rfl
 | cons j r ih =>
  intro σ i h;simp only[Wo,not_or] at h;show(bD r (σ.set j none))[i]? = _;rw[ih _ _ h.2,W5 (Ne.symm h.1)]
theorem Kb(cs:List Nat)(δ₁:Dl):∀ δ:Dl,(cI cs δ₁ δ).length=δ.length:=by
 induction cs with
 | nil=>intro δ; rfl
 | cons i r ih =>
  intro δ;unfold cI;rw[J9];have:=ih (match δ₁[i]? with | some o=>δ.set i o | none=>δ);unfold cI at this;rw[this]
  cases δ₁[i]? <;> simp
theorem rZ:∀ (cs:List Nat) (δ₁ δ:Dl) (i:Nat),i ∉ cs->(cI cs δ₁ δ)[i]? = δ[i]?:=by
 intro cs δ₁;induction cs with
 | nil=>intro δ i _; rfl
 | cons j r ih =>
  intro δ i h;simp only[Wo,not_or] at h;unfold cI;rw[J9];have:=ih (match δ₁[j]? with | some o=>δ.set j o | none=>δ) i h.2;unfold cI at this;rw[this]
  cases δ₁[j]? with
  | none=>rfl
  | some o=>simp only; rw[W5 (Ne.symm h.1)]
theorem u5:∀ (cs:List Nat) (δ₁ δ:Dl) (i:Nat),δ₁.length=δ.length->i ∈ cs->(cI cs δ₁ δ)[i]? = δ₁[i]?:=by
 intro cs δ₁;induction cs with
 | nil=>intro δ i _ h; simp at h
 | cons j r ih =>
  intro δ i hl h;unfold cI;rw[J9];have kn:δ₁.length=(match δ₁[j]? with | some o=>δ.set j o | none=>δ).length:=by cases δ₁[j]? <;> simp[hl]
  by_cases hr:i ∈ r
  ·have:=ih (match δ₁[j]? with | some o=>δ.set j o | none=>δ) i kn hr;unfold cI at this;exact this
  ·have e:i=j:=by
    rcases Wo.mp h with e | e
    ·exact e
    ·exact absurd e hr
   subst e;have:=rZ r δ₁ (match δ₁[i]? with | some o=>δ.set i o | none=>δ) i hr;unfold cI at this;rw[this]
   cases e:δ₁[i]? with
   | none =>
    simp only;have:=List.getElem?_eq_none_iff.mp e;exact Q1 (by omega)
   | some o =>
    simp only;have:=(W3.mp e).1;rw[Wn (by omega)]
section
variable {c:Fc} {σ:St} {δ δ':Dl} {H H':Hp} {l:Addr} {cs:List Nat}
theorem Ok.less(k:Ok (c.plus l) σ δ H):Ok c σ δ H:=by
 have sub:∀ b,Av c σ δ b->Av (c.plus l) σ δ b:=λb z=>z.elim (λz=>.inl (.inl z)) .inr
 refine⟨k.keep,λa z=>k.bd a (.inl z),k.dM,k.len,λi d e=>?_,λi d e=>?_,k.inj,k.pinned⟩
 ·obtain⟨v,h1,h2⟩:=k.slot i d e;exact⟨v,h1,h2.aJ λb z=>.inl (sub b z)⟩
 ·obtain⟨a,h1,h2,h3,h4⟩:=k.own i d e;exact⟨a,h1,h2.aJ λb z=>.inl (sub b z),h3,λz=>h4 (.inl z)⟩
theorem Ok.Kc(k:Ok c σ δ H)(hb:c.B l)(h0:c.H₀ l=none)(o:HO):Ok c σ δ (upd H l o):=by
 have kp:∀ b w,H b=some w->¬ Av c σ δ b->upd H l o b=some w:=λb w e n=>by
  rw[ba (λz=>n (by rw[z]; exact .inl hb))]; exact e
 have g9:∀ b w,H b=some w->∃ w',upd H l o b=some w':=λb w h=>by
  by_cases hb:b=l
  ·exact⟨_,by rw[hb]; exact dq⟩
  ·exact⟨w,by rw[ba hb]; exact h⟩
 refine⟨λa w e n=>?_,λa z=>?_,λa z=>?_,k.len,λi d e=>?_,λi d e=>?_,k.inj,k.pinned⟩
 ·have:a≠l:=λz=>by rw[z,h0] at e; cases e
  rw[ba this]; exact k.keep a w e n
 ·obtain⟨w,e⟩:=k.bd a z; exact g9 a w e
 ·obtain⟨w,e⟩:=k.dM a z; exact g9 a w e
 ·obtain⟨v,h1,h2⟩:=k.slot i d e;exact⟨v,h1,h2.keep kp⟩
 ·obtain⟨a,h1,h2,h3,h4⟩:=k.own i d e;have:a≠l:=λz=>h4 (by rw[z]; exact hb)
  exact⟨a,h1,h2.keep kp λw q=>by rw[ba this]; exact q,h3,h4⟩
theorem Own.bL(h:Own (bL cs σ) (bD cs δ) l):Own σ δ l:=by
 obtain⟨i,d,e1,e2⟩:=h;exact⟨i,d,(i9 cs δ i _ e1).1,(lj cs σ i _ e2).1⟩
theorem Ok.bL(k:Ok c σ δ H)(hp:∀ p ∈ c.pin,p.1 ∉ cs):Ok c (L2.bL cs σ) (bD cs δ) H:=by
 have sub:∀ b,Av c (L2.bL cs σ) (bD cs δ) b->Av c σ δ b:=λb z=>z.elim .inl λz=>.inr z.bL
 refine⟨k.keep,k.bd,k.dM,by rw[AD,qX]; exact k.len,λi d e=>?_,λi d e=>?_,λi j a d d' e1 e2 e3 e4=>?_,λp hm=>?_⟩
 ·obtain⟨e',hi⟩:=i9 cs δ i _ e;obtain⟨v,h1,h2⟩:=k.slot i d e';exact⟨v,by rw[kB cs σ i hi]; exact h1,h2.aJ λb z=>.inl (sub b z)⟩
 ·obtain⟨e',hi⟩:=i9 cs δ i _ e;obtain⟨a,h1,h2,h3⟩:=k.own i d e';exact⟨a,by rw[kB cs σ i hi]; exact h1,h2.aJ λb z=>.inl (sub b z),h3⟩
 ·exact k.inj i j a d d' (i9 cs δ i _ e1).1 (i9 cs δ j _ e2).1 (lj cs σ i _ e3).1 (lj cs σ j _ e4).1
 ·rw[kB cs σ _ (hp p hm)]; exact k.pinned p hm
theorem aQ.back(k:Ok c₀ σ δ H)(nQ:c.pin=c₀.pin)(hB:∀ b,c.B b->c₀.B b\/H b=none)(dX:cs.any (bJ δ)=false)(x:aQ c (L2.bL cs σ) (bD cs δ) H (L2.bL cs σ) δ' H'):aQ c σ δ H σ (cI cs δ δ') H':=by
 have len:δ.length=δ'.length:=by
  have:=x.ok.len;rw[qX] at this;rw[this]; exact k.len
 have oK:∀ i d,i ∈ cs->δ[i]?≠some (some (.own d)):=λi d hi e=>by
  have:=List.any_eq_false.mp dX i hi;unfold bJ at this;rw[e] at this;simp at this
 have ownOut:∀ i d,(cI cs δ δ')[i]? = some (some (.own d))->i ∉ cs/\δ'[i]? = some (some (.own d)):=λi d e=>by
  by_cases hi:i ∈ cs
  ·rw[u5 cs δ δ' i len hi] at e;exact absurd e (oK i d hi)
  ·rw[rZ cs δ δ' i hi] at e;exact⟨hi,e⟩
 have sub:∀ b,Own σ (cI cs δ δ') b->Own (L2.bL cs σ) δ' b:=λb ⟨i,d,e1,e2⟩=>by
  obtain⟨hi,e⟩:=ownOut i d e1;exact⟨i,d,e,by rw[kB cs σ i hi]; exact e2⟩
 have mz:∀ b,Av c σ (cI cs δ δ') b->Av c (L2.bL cs σ) δ' b:=λb z=>z.elim .inl λz=>.inr (sub b z)
 have ownEq:∀ b,Own σ δ b->Own (L2.bL cs σ) (bD cs δ) b:=λb ⟨i,d,e1,e2⟩=>by
  have hi:i ∉ cs:=λz=>oK i d z e1
  exact⟨i,d,by rw[Ka cs δ i hi]; exact e1,by rw[kB cs σ i hi]; exact e2⟩
 refine⟨⟨x.ok.keep,x.ok.bd,x.ok.dM,by rw[Kb,<- len]; exact k.len,λi d e=>?_,λi d e=>?_,λi j a d d' e1 e2 e3 e4=>?_,by rw[nQ]; exact k.pinned⟩,λa o e n=>?_,λa z=>?_,x.there⟩
 ·by_cases hi:i ∈ cs
  ·rw[u5 cs δ δ' i len hi] at e;obtain⟨v,h1,h2⟩:=k.slot i d e;have h3:Rep H (Av c (L2.bL cs σ) (bD cs δ)) v d:=h2.aJ λb z=>by
    rcases z with z | z
    ·exact(hB b z).elim (λz=>.inl (.inl z)) .inr
    ·exact .inl (.inr z.bL)
   exact⟨v,h1,(Rep.dO h3 x).aJ λb z=>.inl (mz b z)⟩
  ·rw[rZ cs δ δ' i hi] at e;obtain⟨v,h1,h2⟩:=x.ok.slot i d e;exact⟨v,(lj cs σ i v h1).1,h2.aJ λb z=>.inl (mz b z)⟩
 ·obtain⟨hi,e'⟩:=ownOut i d e;obtain⟨a,h1,h2,h3⟩:=x.ok.own i d e';exact⟨a,(lj cs σ i _ h1).1,h2.aJ λb z=>.inl (mz b z),h3⟩
 ·obtain⟨hi,f1⟩:=ownOut i d e1;obtain⟨hj,f2⟩:=ownOut j d' e2;exact x.ok.inj i j a d d' f1 f2 (by rw[kB cs σ i hi]; exact e3) (by rw[kB cs σ j hj]; exact e4)
 ·exact x.keep a o e λz=>n z.bL
 ·rcases x.own a (sub a z) with q | q
  ·exact .inl q.bL
  ·exact .inr q
end
def cg(cs:List Nat)(g:DG)(t:DT)(el:DE):List D->Dl->List D->Rs (List D)
 | [],δ,acc=>.ok acc δ
 | d :: r,δ,acc=>match g (.pure d) δ with
  | none=>.stuck
  | some δ1=>(t δ1).bind λb δ2=>if b then(el δ2).bind λx δ3=>if acc.length < W9 then cg cs g t el r (bD cs δ3) (acc ++ [x.d]) else .stuck
   else cg cs g t el r (bD cs δ2) acc
def bU(cs:List Nat)(it:DI)(g:DG)(t:DT)(el:DE):DE:=λδ=>(it δ).bind λds δ1=>if cs.any (bJ δ1) then .stuck else
 (cg cs g t el ds (bD cs δ1) []).bind λacc δ2=>.ok (.own (.lst acc)) (cI cs δ1 δ2)
def bq:DT:=λδ=>.ok true δ
abbrev pH(X:Cx)(c:Fc)(ifs:List Expr)(t:DT):Prop:=nh X ifs (tT c t)
theorem g_{X:Cx}{c:Fc}:pH X c [] bq:=λpins s σ H Q I ⟨δ,k,q⟩=>Hk pins s σ H Q I (q H (.refl k))
theorem AE{X:Cx}{c:Fc}{e:Expr}{t:DT}(h:ST X c e t):pH X c [e] t:=Hl h
section
variable {X:Cx} {c:Fc} {cs:List Nat} {tg iter elt:Expr} {ifs:List Expr} {scope:Scope} {pos:Pos} {it:DI} {g:DG} {t:DT} {el:DE}
theorem aQ.clear(x:aQ c (L2.bL cs σ) δ H σ4 δ4 H4)(le:Le (L2.bL cs σ) σ4)(hp:∀ p ∈ c.pin,p.1 ∉ cs)(hs:∀ (i:Nat) v,σ4[i]? = some (some v)->i ∉ cs->σ[i]? = some (some v)):aQ c (L2.bL cs σ) δ H (L2.bL cs σ) (bD cs δ4) H4:=by
 have eq:∀ i,i ∉ cs->∀ v,σ4[i]? = some (some v)->(L2.bL cs σ)[i]? = some (some v):=λi hi v e=>by rw[kB cs σ i hi]; exact hs i v e hi
 have own:∀ b,Own (L2.bL cs σ) (bD cs δ4) b->Own σ4 δ4 b:=λb ⟨i,d,e1,e2⟩=>by
  exact⟨i,d,(i9 cs δ4 i _ e1).1,le.2 i _ e2⟩
 have sub:∀ b,Av c (L2.bL cs σ) (bD cs δ4) b->Av c σ4 δ4 b:=λb z=>z.elim .inl λz=>.inr (own b z)
 have k:=x.ok;refine⟨⟨k.keep,k.bd,k.dM,by rw[AD,k.len]; exact le.1,λi d e=>?_,λi d e=>?_,λi j a d d' e1 e2 e3 e4=>?_,λp hm=>?_⟩,x.keep,λa z=>x.own a (own a z),x.there⟩
 ·obtain⟨e',hi⟩:=i9 cs δ4 i _ e;obtain⟨v,h1,h2⟩:=k.slot i d e';exact⟨v,eq i hi v h1,h2.aJ λb z=>.inl (sub b z)⟩
 ·obtain⟨e',hi⟩:=i9 cs δ4 i _ e;obtain⟨a,h1,h2,h3⟩:=k.own i d e';exact⟨a,eq i hi _ h1,h2.aJ λb z=>.inl (sub b z),h3⟩
 ·exact k.inj i j a d d' (i9 cs δ4 i _ e1).1 (i9 cs δ4 j _ e2).1 (le.2 i _ e3) (le.2 j _ e4)
 ·exact eq p.1 (hp p hm) _ (k.pinned p hm)
def Out(cs:List Nat)(σ σ':St):Prop:=σ'.length=σ.length/\∀ i,i ∉ cs->σ'[i]? = σ[i]?
theorem Out.trans(a:Out cs σ σ')(b:Out cs σ' σ''):Out cs σ σ'':=⟨b.1.trans a.1,λi h=>(b.2 i h).trans (a.2 i h)⟩
def nR(cs:List Nat)(c:Fc)(g:DG):TG:=λv σ H Q=>∃ σ₀ δ₀ H₁ δ r δ',aQ c σ₀ δ₀ H₁ σ δ H/\bp c σ δ H₁ H v r/\g r δ=some δ'/\∀ σ',aQ c σ₀ δ₀ H₁ σ' δ' H->Out cs σ σ'->Q σ' H
abbrev nS(X:Cx)(c:Fc)(cs:List Nat)(tg:Expr)(g:DG):Prop:=PG X tg (nR cs c g)
theorem fW{np:List Nat}{i:Nat}{x:Str}(hp:Np c np)(hN:X.N.Nodup)(hi:X.N[i]? = some x)(hx:Loc X.env.scope x)(hf:X.fn x=true\/X.env.scope.names.lookup x=some .local)(hc:i ∈ cs):nS X c cs (.Name x pos) (ae np i) :=
 PG.weak (qA hN hi hx hf) λv σ H Q ⟨σ₀,δ₀,H₁,δ,r,δ',x,rr,e,q⟩=>by
  unfold ae at e;split at e
  ·cases e
  ·rename_i hn
   cases e;refine q _ (Ok.set x rr λp hm e=>hn (by rw[<- e]; exact hp p hm)) ⟨by simp,λj hj=>?_⟩;rw[W5 (λz=>hj (by rw[<- z]; exact hc))]
def Kd(cs:List Nat)(c:Fc)(g:i8):kS:=λvs σ H Q=>∃ δ ds δ',Ok c σ δ H/\aD H (Av c σ δ) vs ds/\g ds δ=some δ'/\∀ σ',aQ c σ δ H σ' δ' H->Out cs σ σ'->Q σ' H
abbrev r8(X:Cx)(c:Fc)(cs:List Nat)(tg:List Expr)(g:i8):Prop:=il X tg (Kd cs c g)
theorem Ke:r8 X c cs [] cH:=il.weak tP λvs σ H Q ⟨δ,ds,δ',k,r,e,q⟩=>by
 cases ds with
 | nil =>
  cases e;have:vs=[]:=by have:=r.1; simpa using this
  exact⟨this,q σ (.refl k) ⟨rfl,λ_ _=>rfl⟩⟩
 | cons d r=>cases e
theorem AF{e:Expr}{es:List Expr}{g:DG}{gs:i8}(h1:nS X c cs e g)(h2:r8 X c cs es gs)(hs:(Qk (e :: es) X.env).map (·.2)=assign e X.env :: (Qk es X.env).map (·.2):=by rfl):r8 X c cs (e :: es) (bB g gs) :=
 il.weak (qB h1 h2 hs) λvs σ H Q ⟨δ,ds,δ',k,r,e,q⟩=>by
  cases ds with
  | nil=>cases e
  | cons d ds =>
   cases vs with
   | nil=>have:=r.1; simp at this
   | cons v vs =>
    simp only[bB] at e
    cases e1:g (.pure d) δ with
    | none=>rw[e1] at e; cases e
    | some δ1 =>
     rw[e1] at e;refine⟨v,vs,rfl,σ,δ,H,δ,.pure d,δ1,.refl k,r.head,e1,λσ1 a1 o1=>?_⟩;exact⟨δ1,ds,δ',a1.ok,aD.dO r.tail a1,e,λσ2 a2 o2=>q σ2 (a1.trans a2) (o1.trans o2)⟩
theorem Kf{es:List Expr}{k:Nat}{gs:i8}{n:Nat}(hc:X.calm=true)(h:r8 X c cs es gs)(hn:(Qk es X.env).length=n:=by rfl)(iU:(Qk es X.env).findIdx? (·.1)=none:=by rfl) :
  nS X c cs (.Tuple es k pos) (cB n gs):=PG.weak (tQ hc h hn iU) λv σ H Q hw=>by
 obtain⟨σ₀,δ₀,H₁,δ,r,δ',x,rr,e,q⟩:=hw;have hb:=rr.b;unfold cB at e;generalize r.d=d at e hb
 cases d <;> first | (cases e; done) | skip
 rename_i ds;simp only at e;split at e
 ·rename_i hl;obtain⟨a,vs,ea,ha,ra⟩:=hb.tup;exact⟨a,vs,ea,.of ha,by rw[ra.1]; exact hl,δ,ds,δ',x.ok,ra,e,λσ' a1 o1=>q σ' (x.trans a1) o1⟩
 ·cases e
theorem aQ.less(x:aQ (c.plus l) σ δ H σ' δ' H'):aQ c σ δ H σ' δ' H':=⟨x.ok.less,x.keep,x.own,x.there⟩
theorem u6(Kg:∀ σ H R,tI c it σ H R->wi σ H R)(hg:∀ l v σ H Q,nR cs (c.plus l) g v σ H Q->gt v σ H Q)(ht:∀ l σ H Q,tT (c.plus l) t σ H Q->tt σ H Q)(he:∀ l σ H Q,tD (c.plus l) el σ H Q->te σ H Q)
  (hp:∀ p ∈ c.pin,p.1 ∉ cs) (h:tD c (bU cs it g t el) σ H Q):qZ cs wi gt tt te σ H Q:=by
 obtain⟨δ,k,q⟩:=h;unfold bU at q;rw[bC] at q;refine Kg _ _ _ ⟨δ,k,aU q λds δ1 q1 J H1 a1 io=>?_⟩;intro l hl;split at q1
 ·exact q1.elim
 ·rename_i dX;have AG:cs.any (bJ δ1)=false:=by simpa using dX
  rw[bC] at q1;have k1:=a1.ok;have kp:=k1.plus hl (.lst []);have k0:Ok (c.plus l) (L2.bL cs σ) (bD cs δ1) (upd H1 l (.lst [])):=kp.bL hp;have up:∀ a w,H1 a=some w->upd H1 l (.lst []) a=some w:=λa w e=>by
   rw[ba (gq e hl)]; exact e
  have h0:c.H₀ l=none:=k1.nt hl;-- the walked things,as the block sees them
  have u7:kA (c.plus l) (L2.bL cs σ) (bD cs δ1) H1 J ds:=by
   intro H2 kp2;obtain⟨s1,s2⟩:=io H2 λa o e n=>kp2 a o e λz=>n z.bL
   have cv:∀ {x:V} {d:D},Rep H1 (Av c σ δ1) x d->Rep H1 (Av (c.plus l) (L2.bL cs σ) (bD cs δ1)) x d:=λ{x d} r =>
    r.aJ λb z=>by
     rcases z with (z | z) | z
     ·exact .inl (.inl z)
     ·exact .inr (by rw[z]; exact hl)
     ·exact .inl (.inr z.bL)
   refine⟨s1,λi d e=>⟨(s2 i d e).1,λx H3 y=>?_⟩⟩;rcases (s2 i d e).2 x H3 y with ⟨e3,r⟩ | ⟨p,vs,es,hp,e3,ex,ed,r⟩
   ·exact .inl ⟨e3,cv r⟩
   ·exact .inr ⟨p,vs,es,hp,e3,ex,ed,r.1,λi v d e1 e2=>cv (r.2 i v d e1 e2)⟩
  let Fin:List D->Dl->Prop:=λacc δ'=>∀ H' vs,aQ (c.plus l) (L2.bL cs σ) (bD cs δ1) H1 (L2.bL cs σ) δ' H'->H' l=some (.lst vs)->aD H' (Av (c.plus l) (L2.bL cs σ) δ') vs acc->Q (.ref l) H'
  have q2:post c (cg cs g t el ds (bD cs δ1) []) Fin:=aU q1 λacc δ2 q2 H' vs x hv r=>by
   have b1:aQ (c.plus l) σ δ1 H1 σ (cI cs δ1 δ2) H':=aQ.back k1 rfl (λb z=>z.elim .inl λz=>.inr (by rw[z]; exact hl)) AG x;have b2:aQ c σ δ1 H1 σ (cI cs δ1 δ2) H':=b1.less;have len:δ1.length=δ2.length:=by
    have:=x.ok.len;rw[qX] at this;rw[this]; exact k1.len
   have Kh:H l=none:=by
    cases e:H l with
    | none=>rfl
    | some o =>
     obtain⟨o',e'⟩:=a1.there l o e;rw[hl] at e'; cases e'
   refine q2 _ H' (a1.trans b2) ⟨l,rfl,⟨vs,hv,aD.aJ r λb z=>.inl ?_⟩,λz=>k1.iX hl (.inl z),h0,b1.ok,Kh⟩;rcases z with z | ⟨i,d,e1,e2⟩
   ·exact .inl z
   ·have hi:i ∉ cs:=λhi=>by
     rw[u5 cs δ1 δ2 i len hi] at e1;have:=List.any_eq_false.mp AG i hi;unfold bJ at this;rw[e1] at this;simp at this
    rw[rZ cs δ1 δ2 i hi] at e1;exact .inr ⟨i,d,e1,by rw[kB cs σ i hi]; exact e2⟩
  refine⟨λi m H2=>∃ δ2 acc vs,m=ds.length - i/\i<=ds.length/\aQ (c.plus l) (L2.bL cs σ) (bD cs δ1) H1 (L2.bL cs σ) δ2 H2/\H2 l=some (.lst vs)/\aD H2 (Av (c.plus l) (L2.bL cs σ) δ2) vs acc /\
   post c (cg cs g t el (ds.drop i) δ2 acc) Fin,⟨ds.length,bD cs δ1,[],[],by simp,Qc _,⟨k0,λa w e _=>up a w e,λa z=>.inl z,λa w e=>⟨w,up a w e⟩⟩,dq,.nil,by rw[List.drop_zero]; exact q2⟩,?_⟩
  rintro i m H2 ⟨δ2,acc,vs,rfl,lC,a2,hv,rv,p2⟩;by_cases bu:i < ds.length
  ·right
   have e:ds[i]? = some ds[i]:=by simp[bu]
   rw[QP bu] at p2;refine⟨((u7 H2 a2.keep).2 i _ e).1,λx H3 y=>hg l _ _ _ _ ?_⟩;obtain⟨a3,r3⟩:=Az u7 a2 e y;simp only[cg] at p2
   cases eg:g (.pure ds[i]) δ2 with
   | none=>rw[eg] at p2; exact p2.elim
   | some δ3 =>
    rw[eg] at p2;have p3:post c ((t δ3).bind λb δ2=>if b then(el δ2).bind λx δ3=>if acc.length < W9 then cg cs g t el (ds.drop (i + 1)) (bD cs δ3) (acc ++ [x.d]) else .stuck
     else cg cs g t el (ds.drop (i + 1)) (bD cs δ2) acc) Fin:=p2
    refine⟨L2.bL cs σ,δ2,H3,δ2,.pure ds[i],δ3,.refl a3.ok,r3,eg,λσ4 a4 o4=>?_⟩;have le:Le (L2.bL cs σ) σ4:=⟨o4.1,λj v ej=>by
     rw[o4.2 j (lj cs σ j v ej).2]; exact ej⟩
    have hs:∀ (j:Nat) v,σ4[j]? = some (some v)->j ∉ cs->σ[j]? = some (some v):=λj v ej hj=>by
     rw[o4.2 j hj] at ej;exact(lj cs σ j v ej).1
    refine⟨le,ht l _ _ _ ⟨δ3,a4.ok,?_⟩⟩;rw[bC] at p3;have AH:∀ p ∈ (c.plus l).pin,p.1 ∉ cs:=hp;have iD:=a2.trans (a3.trans a4);have ln:∀ {σ':St} {δ':Dl} {H':Hp},Ok (c.plus l) σ' δ' H'->¬ Own σ' δ' l:=λ{σ' δ' H'} k=>nr k
    have Ki:post (c.plus l) (t δ3) λb δ5=>post c (if b then(el δ5).bind λx δ3=>if acc.length < W9 then cg cs g t el (ds.drop (i + 1)) (bD cs δ3) (acc ++ [x.d]) else .stuck
     else cg cs g t el (ds.drop (i + 1)) (bD cs δ5) acc) Fin:=p3
    refine aU Ki λb δ5 p5 H5 a5=>?_
    have AI:=iD.trans a5;have Kj:H3 l=some (.lst vs):=a3.keep l _ hv (ln a2.ok);have AJ:H5 l=some (.lst vs):=a5.keep l _ Kj (ln a4.ok);have AK:=aD.dO (aD.dO (aD.dO rv a3) a4) a5
    cases b with
    | false =>
     have c5:=AI.clear le AH hs;refine⟨ds.length - (i + 1),by omega,bD cs δ5,acc,vs,rfl,bu,c5,AJ,aD.aJ AK λb z=>.inl ?_,p5⟩;exact z.elim .inl λ⟨j,d,e1,e2⟩=>.inr ⟨j,d,(i9 cs δ5 j _ e1).1,le.2 j _ e2⟩
    | true =>
     have AL:post c ((el δ5).bind λx δ3=>if acc.length < W9 then cg cs g t el (ds.drop (i + 1)) (bD cs δ3) (acc ++ [x.d]) else .stuck) Fin:=p5;rw[bC] at AL;refine he l _ _ _ ⟨δ5,a5.ok,?_⟩;have p6:post (c.plus l) (el δ5) λx δ6=>post c (if acc.length < W9 then cg cs g t el (ds.drop (i + 1)) (bD cs δ6) (acc ++ [x.d]) else .stuck) Fin:=AL
     refine aU p6 λx δ6 p7 v H6 a6 r6=>?_
     split at p7
     ·rename_i hz;have Kk:=AI.trans a6;have Kl:H6 l=some (.lst vs):=a6.keep l _ AJ (ln a5.ok);have AM:=aD.dO AK a6;have rr:aD H6 (Av (c.plus l) σ4 δ6) (vs ++ [v]) (acc ++ [x.d]):=AM.append (.cons r6.rep .nil);have c6:=Kk.clear le AH hs;have Km:∀ b o,H6 b=some o->¬ Av (c.plus l) σ4 δ6 b->upd H6 l (.lst (vs ++ [v])) b=some o:=λb o e n=>by
       rw[ba (λz=>n (by rw[z]; exact .inl (.inr rfl)))]; exact e
      have Kn:∀ b,Av (c.plus l) (L2.bL cs σ) (bD cs δ6) b->Av (c.plus l) σ4 δ6 b:=λb z=>z.elim .inl λ⟨j,d,e1,e2⟩=>.inr ⟨j,d,(i9 cs δ6 j _ e1).1,le.2 j _ e2⟩
      refine⟨vs,ds.length - (i + 1),Kl,by rw[AM.1]; exact hz,by omega,bD cs δ6,acc ++ [x.d],vs ++ [v],rfl,bu,?_,dq,aD.aJ (aD.keep rr Km) λb z=>.inl (Kn b z),p7⟩;-- the list that is built has grown
      refine⟨c6.ok.Kc (.inr rfl) h0 _,λa o ea n=>?_,λa z=>c6.own a z,λa o ea=>?_⟩
      ·have fX:a≠l:=λz=>by rw[z,hl] at ea; cases ea
       rw[ba fX]; exact c6.keep a o ea n
      ·by_cases fX:a=l
       ·exact⟨_,by rw[fX]; exact dq⟩
       ·obtain⟨o',e'⟩:=c6.there a o ea;exact⟨o',by rw[ba fX]; exact e'⟩
     ·exact p7.elim
  ·left
   have u4:i=ds.length:=by omega
   subst u4;rw[List.drop_length] at p2;exact⟨(u7 H2 a2.keep).1,p2 H2 vs a2 hv rv⟩
theorem jy(hc:X.calm=true)(S:lh X scope cs)(hi:SI X c tg iter it)(hg:∀ l s₀ H₀ ex,nS (eC X scope s₀ H₀ ex) (c.plus l) cs tg g)(ht:∀ l s₀ H₀ ex,pH (eC X scope s₀ H₀ ex) (c.plus l) ifs t)
  (he:∀ l s₀ H₀ ex,SE (eC X scope s₀ H₀ ex) (c.plus l) elt el) (hp:∀ p ∈ c.pin,p.1 ∉ cs) (hs:∀ x,QD iter X.env x=pure x:=by intro _; rfl) :
  SE X c (.ListComp elt [⟨tg,iter,ifs,0⟩] scope pos) (bU cs it g t el) :=
 PE.weak (zJ (g:=λv σ H Q=>∃ l,nR cs (c.plus l) g v σ H Q) (tt:=λσ H Q=>∃ l,tT (c.plus l) t σ H Q) (te:=λσ H Q=>∃ l,tD (c.plus l) el σ H Q) hc S hi
  (λs₀ H₀ ex pins s σ H v u Q I r ⟨l,q⟩=>hg l s₀ H₀ ex pins s σ H v u Q I r q) (λs₀ H₀ ex pins s σ H Q I ⟨l,q⟩=>ht l s₀ H₀ ex pins s σ H Q I q) (λs₀ H₀ ex pins s σ H Q I ⟨l,q⟩=>he l s₀ H₀ ex pins s σ H Q I q) hs)
  λσ H Q h=>u6 (λ_ _ _ h=>h) (λl _ _ _ _ h=>⟨l,h⟩) (λl _ _ _ h=>⟨l,h⟩) (λl _ _ _ h=>⟨l,h⟩) hp h
theorem r9{np:List Nat}{i:Nat}{y:Str}{py rh:Pos}(ay:Np c np)(hc:X.calm=true)(S:lh X scope cs)(hN:X.N.Nodup)(gr:X.N[i]? = some y)(hy:X.env.scope.names.lookup y=some .local)
  (hi:SI X c tg iter it) (hg:∀ l s₀ H₀ ex,nS (eC X scope s₀ H₀ ex) (c.plus l) cs tg g) (ht:∀ l s₀ H₀ ex,pH (eC X scope s₀ H₀ ex) (c.plus l) ifs t)
  (he:∀ l s₀ H₀ ex,SE (eC X scope s₀ H₀ ex) (c.plus l) elt el) (hp:∀ p ∈ c.pin,p.1 ∉ cs)
  (px:Jg (.ListComp elt [⟨tg,iter,ifs,0⟩] scope pos) (some (.Name y py)) rh.line X.env=pure true:=by rfl) (hs:∀ x,QD iter X.env x=pure x:=by intro _; rfl) :
  SS X c (.Assign [.Name y py] (.ListComp elt [⟨tg,iter,ifs,0⟩] scope pos) rh) (au (bU cs it g t el) (ae np i)) :=
 PS.weak (Hu (g:=λv σ H Q=>∃ l,nR cs (c.plus l) g v σ H Q) (tt:=λσ H Q=>∃ l,tT (c.plus l) t σ H Q) (te:=λσ H Q=>∃ l,tD (c.plus l) el σ H Q) hc S hN gr hy hi
  (λs₀ H₀ ex pins s σ H v u Q I r ⟨l,q⟩=>hg l s₀ H₀ ex pins s σ H v u Q I r q) (λs₀ H₀ ex pins s σ H Q I ⟨l,q⟩=>ht l s₀ H₀ ex pins s σ H Q I q) (λs₀ H₀ ex pins s σ H Q I ⟨l,q⟩=>he l s₀ H₀ ex pins s σ H Q I q) px hs)
  λD σ H h=>u3 (λσ H Q h=>u6 (λ_ _ _ h=>h) (λl _ _ _ _ h=>⟨l,h⟩) (λl _ _ _ h=>⟨l,h⟩) (λl _ _ _ h=>⟨l,h⟩) hp h) (λ_ _ _ _ h=>u0 ay h) h
end
abbrev DF:=List S->Option (S×List S)
def dR:Nat->List S->List V->List (Nat×Addr)
 | n,.own _ :: ss,.ref a :: vs=>(n,a) :: dR (n + 1) ss vs
 | n,_ :: ss,_ :: vs=>dR (n + 1) ss vs
 | _,_,_=>[]
theorem pI:∀ {n:Nat} {ss:List S} {vs:List V} {i:Nat} {a:Addr},(i,a) ∈ dR n ss vs->∃ j d,i=n + j/\ss[j]? = some (.own d)/\vs[j]? = some (.ref a)
 | n,[],vs,i,a,h=>by simp[dR] at h
 | n,s :: ss,[],i,a,h=>by cases s <;> simp[dR] at h
 | n,s :: ss,v :: vs,i,a,h=>by
  have u9:(i,a) ∈ dR (n + 1) ss vs->∃ j d,i=n + j/\(s :: ss)[j]? = some (.own d)/\(v :: vs)[j]? = some (.ref a):=λh=>by
   obtain⟨j,d,e,h1,h2⟩:=pI h;exact⟨j + 1,d,by omega,by simpa using h1,by simpa using h2⟩
  cases s with
  | pure d=>exact u9 h
  | own d =>
   cases v with
   | ref b =>
    rcases Wo.mp h with e | h
    ·cases e;exact⟨0,d,rfl,rfl,rfl⟩
    ·exact u9 h
   | _=>exact u9 h
theorem r_:∀ {n:Nat} {ss:List S} {vs:List V} {j:Nat} {d:D} {a:Addr},ss[j]? = some (.own d)->vs[j]? = some (.ref a)->(n + j,a) ∈ dR n ss vs
 | n,[],vs,j,d,a,h,_=>by simp at h
 | n,s :: ss,[],j,d,a,_,h=>by simp at h
 | n,s :: ss,v :: vs,0,d,a,h1,h2=>by
  simp at h1 h2;subst h1 h2;exact We
 | n,s :: ss,v :: vs,j + 1,d,a,h1,h2=>by
  have ih:=r_ (n:=n + 1) (ss:=ss) (vs:=vs) (j:=j) (d:=d) (a:=a) (by simpa using h1) (by simpa using h2);have e:n + 1 + j=n + (j + 1):=by omega
  rw[e] at ih
  cases s with
  | pure d=>exact ih
  | own d =>
   cases v with
   | ref b=>exact Wc _ ih
   | _=>exact ih
abbrev df(vs:List V):St:=vs.map some
abbrev dg(ss:List S):Dl:=ss.map some
theorem fG{ss:List S}{i:Nat}{r:S}:(dg ss)[i]? = some (some r) ↔ ss[i]? = some r:=by
 rw[Wl]
 cases ss[i]? <;> simp
theorem fY{vs:List V}{i:Nat}{v:V}:(df vs)[i]? = some (some v) ↔ vs[i]? = some v:=by
 rw[Wl]
 cases vs[i]? <;> simp
def kC(n:Nat)(G:DF):Sp:=λvs H Q _=>∃ ss B,vs.length=n/\Ok ⟨H,B,dR 0 ss vs,λ_ _=>False⟩ (df vs) (dg ss) H/\∃ r aX,G ss=some (r,aX) /\
 ∀ v H',aQ ⟨H,B,dR 0 ss vs,λ_ _=>False⟩ (df vs) (dg ss) H (df vs) (dg aX) H'->bp ⟨H,B,dR 0 ss vs,λ_ _=>False⟩ (df vs) (dg aX) H H' v r->Q v H'
def bW(P:Wm)(w:Wr)(K:W4)(mg:Str->Option Value)(base:Heap)(k:Nat)(x:Str)(n:Nat)(G:DF):Prop :=
 ∃ (f:Addr) (fd:Ql) (ps:List Str),mg x=some (.ref f)/\JL K (.ref f)=true/\Binds K fd ps []/\jn P w K mg base jq k f fd ps (kC n G)
def cT(n:Nat)(ss:List S):Dl:=dg ss ++ Wf (n - ss.length) none
def cq:Nat->List S->Dl->Option (List S)
 | _,[],_=>some []
 | n,.pure d :: ss,δ=>(cq (n + 1) ss δ).map (.pure d :: ·)
 | n,.own _ :: ss,δ=>match δ[n]? with
  | some (some (.own d'))=>(cq (n + 1) ss δ).map (.own d' :: ·)
  | _=>none
def dw:Fl->Option S
 | .next=>some (.pure .a7)
 | .ret r=>some r
 | _=>none
def hE(f:DS)(n:Nat)(ss:List S):Option (S×List S):=match f (cT n ss) with
 | .ok fl δ=>(dw fl).bind λr=>(cq 0 ss δ).map λaX=>(r,aX)
 | _=>none
def cJ(np:List Nat):Nat->List S->Bool
 | _,[]=>true
 | n,.own _ :: ss=>np.contains n && cJ np (n + 1) ss
 | n,.pure _ :: ss=>cJ np (n + 1) ss
theorem AN:∀ {n:Nat} {ss:List S} {j:Nat} {d:D},cJ np n ss=true->ss[j]? = some (.own d)->np.contains (n + j)=true
 | n,[],j,d,_,h=>by simp at h
 | n,s :: ss,0,d,h,e=>by
  simp at e;subst e;simp only[cJ,Wt] at h;exact h.1
 | n,s :: ss,j + 1,d,h,e=>by
  have h':cJ np (n + 1) ss=true:=by
   cases s with
   | pure d=>exact h
   | own d=>simp only[cJ,Wt] at h; exact h.2
  have:=AN (n:=n + 1) (j:=j) h' (by simpa using e);rw[show n + (j + 1)=n + 1 + j by omega];exact this
theorem sd:∀ {n:Nat} {ss aX:List S} {δ:Dl},cq n ss δ=some aX->aX.length=ss.length/\∀ (i:Nat) s,ss[i]? = some s->(∃ d,s = .pure d/\aX[i]? = some (.pure d))\/∃ d d',s = .own d/\δ[n + i]? = some (some (.own d'))/\aX[i]? = some (.own d')
 | n,[],aX,δ,h=>by
  simp only[cq,Wb] at h;subst h;exact⟨rfl,λi s e=>by simp at e⟩
 | n,.pure d :: ss,aX,δ,h=>by
  simp only[cq] at h
  cases e:cq (n + 1) ss δ with
  | none=>rw[e] at h; cases h
  | some os =>
   rw[e] at h;simp only[WI,Wb] at h;subst h;obtain⟨h1,h2⟩:=sd e;refine⟨by simp[h1],λi s es=>?_⟩
   cases i with
   | zero=>simp at es; subst es; exact .inl ⟨d,rfl,rfl⟩
   | succ i =>
    rcases h2 i s (by simpa using es) with ⟨d,z1,z2⟩ | ⟨d,d',z1,z2,z3⟩
    ·exact .inl ⟨d,z1,by simpa using z2⟩
    ·exact .inr ⟨d,d',z1,by rw[show n + (i + 1)=n + 1 + i by omega]; exact z2,by simpa using z3⟩
 | n,.own d :: ss,aX,δ,h=>by
  simp only[cq] at h;split at h
  ·rename_i d' ed
   cases e:cq (n + 1) ss δ with
   | none=>rw[e] at h; cases h
   | some os =>
    rw[e] at h;simp only[WI,Wb] at h;subst h;obtain⟨h1,h2⟩:=sd e;refine⟨by simp[h1],λi s es=>?_⟩
    cases i with
    | zero=>simp at es; subst es; exact .inr ⟨d,d',rfl,ed,rfl⟩
    | succ i =>
     rcases h2 i s (by simpa using es) with ⟨d,z1,z2⟩ | ⟨d,d',z1,z2,z3⟩
     ·exact .inl ⟨d,z1,by simpa using z2⟩
     ·exact .inr ⟨d,d',z1,by rw[show n + (i + 1)=n + 1 + i by omega]; exact z2,by simpa using z3⟩
  ·cases h
section
variable {c:Fc} {H H':Hp} {vs:List V} {ss aX:List S} {σ':St} {δ':Dl}
theorem lD{α:Type}{l:List (Option α)}{k i:Nat}{v:α}(h:(l ++ Wf k none)[i]? = some (some v)):l[i]? = some (some v):=by
 by_cases hi:i < l.length
 ·rw[Jd hi] at h; exact h
 ·rw[List.getElem?_append_right (by omega),List.getElem?_replicate] at h;split at h <;> cases h
theorem kE{α:Type}{l:List (Option α)}{k i:Nat}{v:α}(h:l[i]? = some (some v)):(l ++ Wf k none)[i]? = some (some v):=by
 have hi:i < l.length:=(W3.mp h).1;rw[Jd hi]; exact h
theorem Own.ext{σ:St}{δ:Dl}{k:Nat}{a:Addr}:Own (σ ++ Wf k none) (δ ++ Wf k none) a ↔ Own σ δ a :=
 ⟨λ⟨i,d,e1,e2⟩=>⟨i,d,lD e1,lD e2⟩,λ⟨i,d,e1,e2⟩=>⟨i,d,kE e1,kE e2⟩⟩
theorem Ok.ext{σ:St}{δ:Dl}(k:Ok c σ δ H)(n:Nat):Ok c (σ ++ Wf n none) (δ ++ Wf n none) H:=by
 have sub:∀ b,Av c (σ ++ Wf n none) (δ ++ Wf n none) b->Av c σ δ b:=λb z=>z.elim .inl λz=>.inr (Own.ext.mp z)
 refine⟨k.keep,k.bd,k.dM,by simp[k.len],λi d e=>?_,λi d e=>?_,λi j a d d' e1 e2 e3 e4=>k.inj i j a d d' (lD e1) (lD e2) (lD e3) (lD e4),λp hm=>kE (k.pinned p hm)⟩
 ·obtain⟨v,h1,h2⟩:=k.slot i d (lD e);exact⟨v,kE h1,h2.aJ λb z=>.inl (sub b z)⟩
 ·obtain⟨a,h1,h2,h3⟩:=k.own i d (lD e);exact⟨a,kE h1,h2.aJ λb z=>.inl (sub b z),h3⟩
theorem AO{B:Addr->Prop}{n:Nat}(hc:c = ⟨H,B,dR 0 ss vs,λ_ _=>False⟩)(k:Ok c (df vs) (dg ss) H)(x:aQ c (df vs ++ Wf n none) (dg ss ++ Wf n none) H σ' δ' H')(ho:cq 0 ss δ'=some aX) :
  aQ c (df vs) (dg ss) H (df vs) (dg aX) H'/\∀ v r,bp c σ' δ' H H' v r->bp c (df vs) (dg aX) H H' v r:=by
 obtain⟨hlen,hat⟩:=sd ho;have pJ:ss.length=vs.length:=by have:=k.len; simpa using this
 have pin:∀ (i:Nat) (a:Addr) (d:D),ss[i]? = some (.own d)->vs[i]? = some (.ref a)->σ'[i]? = some (some (.ref a)):=λi a d h1 h2=>by
  have:=r_ (n:=0) h1 h2;rw[Qh] at this;exact x.ok.pinned (i,a) (by rw[hc]; exact this)
 have se:∀ (i:Nat) (d:D),aX[i]? = some (.own d)->(∃ d₀,ss[i]? = some (.own d₀))/\δ'[i]? = some (some (.own d)):=λi d e=>by
  have hi:i < ss.length:=by rw[<- hlen]; exact(W3.mp e).1
  rcases hat i ss[i] (by simp[hi]) with ⟨d₁,z1,z2⟩ | ⟨d₁,d',z1,z2,z3⟩
  ·rw[e] at z2; cases z2
  ·rw[e] at z3; cases z3
   rw[Qh] at z2;exact⟨⟨d₁,by rw[W6 hi,z1]⟩,z2⟩
 have sub:∀ b,Own (df vs) (dg aX) b->Own σ' δ' b:=λb ⟨i,d,e1,e2⟩=>by
  obtain⟨⟨d₀,h0⟩,h1⟩:=se i d (fG.mp e1);exact⟨i,d,h1,pin i b d₀ h0 (fY.mp e2)⟩
 have mz:∀ b,Av c (df vs) (dg aX) b->Av c σ' δ' b:=λb z=>z.elim .inl λz=>.inr (sub b z)
 have AQ:∀ {c':Fc},c'.pin=c.pin->Ok c' σ' δ' H'->(∀ b,c.B b->c'.B b)->(∀ (i:Nat) d v,ss[i]? = some (.pure d)->vs[i]? = some v->Rep H' (Av c' σ' δ') v d)->Ok c' (df vs) (dg aX) H':=λ{c'} ep k' hB hsl=>by
  have AR:∀ b,Av c' (df vs) (dg aX) b->Av c' σ' δ' b:=λb z=>z.elim .inl λz=>.inr (sub b z)
  refine⟨k'.keep,k'.bd,k'.dM,by simp[hlen,pJ],λi d e=>?_,λi d e=>?_,λi j a d d' e1 e2 e3 e4=>?_,λp hm=>?_⟩
  ·have e':=fG.mp e;have hi:i < ss.length:=by rw[<- hlen]; exact(W3.mp e').1
   have hv:i < vs.length:=by omega
   rcases hat i ss[i] (by simp[hi]) with ⟨d₁,z1,z2⟩ | ⟨d₁,d',z1,z2,z3⟩
   ·rw[e'] at z2; cases z2
    exact⟨vs[i],by simp[hv],(hsl i d vs[i] (by rw[W6 hi,z1]) (by simp[hv])).aJ λb z=>.inl (AR b z)⟩
   ·rw[e'] at z3; cases z3
  ·have e':=fG.mp e;obtain⟨⟨d₀,h0⟩,h1⟩:=se i d e';obtain⟨a₀,h2,_⟩:=k.own i d₀ (fG.mpr h0);obtain⟨a,h3,h4,h5⟩:=k'.own i d h1;rw[pin i a₀ d₀ h0 (fY.mp h2)] at h3
   cases h3;exact⟨a₀,h2,h4.aJ λb z=>.inl (AR b z),h5⟩
  ·obtain⟨⟨d₀,h0⟩,h1⟩:=se i d (fG.mp e1);obtain⟨⟨d₁,h2⟩,h3⟩:=se j d' (fG.mp e2);exact k'.inj i j a d d' h1 h3 (pin i a d₀ h0 (fY.mp e3)) (pin j a d₁ h2 (fY.mp e4))
  ·exact k.pinned p (by rw[<- ep]; exact hm)
 have slots:∀ (i:Nat) d v,ss[i]? = some (.pure d)->vs[i]? = some v->Rep H' (Av c σ' δ') v d:=λi d v h1 h2=>by
  obtain⟨w,e1,r⟩:=(k.ext n).slot i d (kE (fG.mpr h1));rw[kE (fY.mpr h2)] at e1
  cases e1;exact Rep.dO r x
 refine⟨⟨AQ rfl x.ok (λ_ z=>z) slots,λa o e m=>x.keep a o e λz=>m (Own.ext.mp z),λa z=>(x.own a (sub a z)).elim (λz=>.inl (Own.ext.mp z)) .inr,x.there⟩,λv r hr=>?_⟩
 cases r with
 | pure d=>exact Rep.aJ hr λb z=>.inl (mz b z)
 | own d =>
  obtain⟨a,ea,o,nb,h0,kp,hs⟩:=hr;refine⟨a,ea,o.aJ λb z=>.inl (z.elim .inl λz=>.inr (sub b z)),nb,h0,AQ rfl kp (λ_ z=>.inl z) λi d v h1 h2=>?_,hs⟩;obtain⟨w,e1,r⟩:=(k.ext n).slot i d (kE (fG.mpr h1));rw[kE (fY.mpr h2)] at e1
  cases e1;have nT:H a=none:=hs;have r1:Rep H (Av c (df vs ++ Wf n none) (dg ss ++ Wf n none)) v d:=r;have r2:Rep H (λb=>Av c (df vs ++ Wf n none) (dg ss ++ Wf n none) b\/Av (c.plus a) σ' δ' b) v d:=r1.aJ λb z=>by
   rcases z with z | (z | z) | z
   ·exact .inl z
   ·exact .inl (.inl z)
   ·exact .inr (by rw[z]; exact nT)
   ·rcases x.own b z with q | q
    ·exact .inl (.inr q)
    ·exact .inr q
  exact(r2.keep λb o e m=>x.keep b o e λz=>m (.inl (.inr z))).aJ λb z=>.inl (.inr z)
end
section
variable {P:Wm} {w:Wr} {K:W4} {mg:Str->Option Value} {base:Heap}
theorem AS{x qual:Str}{st:Stmt}{f:Addr}{fd:Ql}{N ps:List Str}{k:Nat}{np:List Nat}{fb:DS}{G:DF}(F:dI K x qual st f fd)(S:eS N ps (cW st))
  (kh:∀ (c:Fc) (bR:Value) (A:Ws) (outer:List Env) (s:W2) (H:Hp) (E:XK),eN k (A.deeper (envOfC qual (cW st) s.heap.objs.size f bR))->Np c np->jX (kX jq P w K mg base N qual (cW st) f bR A outer s H E).mW c (jo st) fb)
  (hG:∀ ss y,G ss=some y->cJ np 0 ss=true/\hE fb N.length ss=some y):jn P w K mg base jq (k + 1) f fd ps (kC ps.length G):=by
 refine F.ok S (λvs H Q E h=>?_) λbR A outer s H vs Q E hr h=>?_
 ·obtain⟨ss,B,hl,_⟩:=h;exact hl
 ·obtain⟨ss,B,hl,ok,r,aX,hg,q⟩:=h;obtain⟨iE,hrun⟩:=hG ss _ hg;have pJ:ss.length=vs.length:=by have:=ok.len; simpa using this
  have Ko:Np ⟨H,B,dR 0 ss vs,λ_ _=>False⟩ np:=λp hp=>by
   obtain⟨j,d,e,h1,_⟩:=pI (i:=p.1) (a:=p.2) hp;rw[e];exact AN iE h1
  refine⟨rX ⟨H,B,dR 0 ss vs,λ_ _=>False⟩ fb,kh ⟨H,B,dR 0 ss vs,λ_ _=>False⟩ bR A outer s H E hr Ko,?_⟩;have iU:jQ N vs=df vs ++ Wf (N.length - ss.length) none:=by rw[pJ]; rfl
  refine⟨cT N.length ss,by rw[iU]; exact ok.ext _,?_⟩;unfold hE at hrun;unfold eV
  cases e:fb (cT N.length ss) with
  | exc x δx=>rw[e] at hrun; cases hrun
  | stuck=>rw[e] at hrun; cases hrun
  | ok fl δ' =>
   rw[e] at hrun;show ∀ σ' H',aQ _ (jQ N vs) (cT N.length ss) H σ' δ' H'->fin _ _ σ' δ' H' fl;intro σ' H' a;rw[iU] at a;simp only at hrun
   cases fl with
   | brk=>cases hrun
   | cont=>cases hrun
   | next =>
    simp only[dw,Qd] at hrun
    cases eo:cq 0 ss δ' with
    | none=>rw[eo] at hrun; cases hrun
    | some os =>
     rw[eo] at hrun
     cases hrun;obtain⟨l1,l2⟩:=AO rfl ok a eo;exact q .a7 H' l1 .a7
   | ret r' =>
    simp only[dw,Qd] at hrun
    cases eo:cq 0 ss δ' with
    | none=>rw[eo] at hrun; cases hrun
    | some os =>
     rw[eo] at hrun
     cases hrun;obtain⟨l1,l2⟩:=AO rfl ok a eo;exactλv rv=>q v H' l1 (l2 v _ rv)
theorem iF{x qual:Str}{st:Stmt}{f:Addr}{fd:Ql}{N ps:List Str}{k:Nat}{np:List Nat}{fb:DS}{G:DF}(F:dI K x qual st f fd)(hm:mg x=some (.ref f))(hb:Binds K fd ps [])(S:eS N ps (cW st))
  (kh:∀ (c:Fc) (bR:Value) (A:Ws) (outer:List Env) (s:W2) (H:Hp) (E:XK),eN k (A.deeper (envOfC qual (cW st) s.heap.objs.size f bR))->Np c np->jX (kX jq P w K mg base N qual (cW st) f bR A outer s H E).mW c (jo st) fb)
  (hG:∀ ss y,G ss=some y->cJ np 0 ss=true/\hE fb N.length ss=some y):bW P w K mg base (k + 1) x ps.length G:=⟨f,fd,ps,hm,F.kp,hb,AS F S kh hG⟩
end
inductive Ak where
 | val (f:DE)
 | io (i:Nat)
def b_:List Ak->Dl->Rs (List (Option D))
 | [],δ=>.ok [] δ
 | .val f :: r,δ=>(f δ).bind λx δ1=>(b_ r δ1).bind λxs δ2=>.ok (some x.d :: xs) δ2
 | .io _ :: r,δ=>(b_ r δ).bind λxs δ2=>.ok (none :: xs) δ2
inductive i_ (c:Fc) (σ:St) (δ:Dl) (H:Hp):List V->List Ak->List (Option D)->Prop
 | nil:i_ c σ δ H [] [] []
 | val {v:V} {d:D} {f:DE} {vs:List V} {as:List Ak} {ds:List (Option D)}:Rep H (Av c σ δ) v d->i_ c σ δ H vs as ds->i_ c σ δ H (v :: vs) (.val f :: as) (some d :: ds)
 | io {v:V} {i:Nat} {vs:List V} {as:List Ak} {ds:List (Option D)}:σ[i]? = some (some v)->i_ c σ δ H vs as ds->i_ c σ δ H (v :: vs) (.io i :: as) (none :: ds)
def tX(c:Fc)(as:List Ak):TA:=λσ H Q=>∃ δ,Ok c σ δ H/\(∀ i,Ak.io i ∈ as->∃ v,σ[i]? = some (some v))/\post c (b_ as δ) λds δ'=>∀ vs H',aQ c σ δ H σ δ' H'->i_ c σ δ' H' vs as ds->Q vs H'
abbrev SX(X:Cx)(c:Fc)(es:List Expr)(as:List Ak):Prop:=PA X es (tX c as)
section
variable {X:Cx} {c:Fc} {e:Expr} {es:List Expr} {fe:DE} {as:List Ak} {pos pp:Pos}
theorem dh:SX X c [] []:=PA.weak iq λσ H Q ⟨δ,k,_,q⟩=>q [] H (.refl k) .nil
theorem Kp(ha:SE X c e fe)(hr:SX X c es as)(hs:Wj (e :: es) X.env=(false,eval e X.env) :: Wj es X.env:=by rfl):SX X c (e :: es) (.val fe :: as):=PA.weak (fO ha hr hs) λσ H Q ⟨δ,k,iE,q⟩=>by
 unfold b_ at q;rw[bC] at q;refine⟨δ,k,aU q λx δ1 q1 v H1 a1 r1=>⟨δ1,a1.ok,λi hi=>iE i (Wc _ hi),?_⟩⟩;rw[bC] at q1;exact aU q1 λxs δ2 q2 vs H2 a2 r2=>q2 (v :: vs) H2 (a1.trans a2) (.val (Rep.dO r1.rep a2) r2)
theorem Kq(ha:PE X e (c9 i))(hr:SX X c es as)(hs:Wj (e :: es) X.env=(false,eval e X.env) :: Wj es X.env:=by rfl):SX X c (e :: es) (.io i :: as):=PA.weak (fO ha hr hs) λσ H Q ⟨δ,k,iE,q⟩=>by
 obtain⟨v,ev⟩:=iE i We;unfold b_ at q;rw[bC] at q;exact⟨v,ev,δ,k,λi hi=>iE i (Wc _ hi),aU q λxs δ2 q2 vs H2 a2 r2=>q2 (v :: vs) H2 a2 (.io ev r2)⟩
end
def bK:List Ak->List (Option D)->Dl->Option (List S)
 | [],[],_=>some []
 | .val _ :: as,some d :: ds,δ=>(bK as ds δ).map (.pure d :: ·)
 | .io i :: as,none :: ds,δ=>match δ[i]? with
  | some (some (.own d))=>(bK as ds δ).map (.own d :: ·)
  | _=>none
 | _,_,_=>none
def bz:List Ak->List Nat
 | []=>[]
 | .val _ :: as=>bz as
 | .io i :: as=>i :: bz as
def bf:List Ak->List S->Dl->Dl
 | .io i :: as,r :: rs,δ=>bf as rs (δ.set i (some r))
 | .val _ :: as,_ :: rs,δ=>bf as rs δ
 | _,_,δ=>δ
def cu:List Nat->Bool
 | []=>true
 | i :: r=>!r.contains i && cu r
def aH(G:DF)(as:List Ak):DE:=λδ=>if (bz as).all (bJ δ) && cu (bz as) then(b_ as δ).bind λds δ1=>match bK as ds δ1 with
  | none=>.stuck
  | some ss=>match G ss with
   | none=>.stuck
   | some (r,aX)=>.ok r (bf as aX δ1)
 else .stuck
theorem AU:∀ {l:List Nat},cu l=true->l.Nodup
 | [],_=>.nil
 | i :: r,h=>by
  simp only[cu,Wt,Bool.not_eq_true'] at h;exact WL.mpr ⟨λhm=>by have:=h.1; simp at this; exact this hm,AU h.2⟩
theorem lE:∀ {as:List Ak} {i:Nat},i ∈ bz as ↔ Ak.io i ∈ as
 | [],i=>by simp[bz]
 | .val f :: as,i=>by simp[bz,lE (as:=as)]
 | .io j :: as,i=>by simp[bz,lE (as:=as)]
theorem u_:∀ {as:List Ak} {i j k:Nat},(bz as).Nodup->as[j]? = some (.io i)->as[k]? = some (.io i)->j=k
 | [],i,j,k,_,h,_=>by simp at h
 | .val f :: as,i,j,k,nd,h1,h2=>by
  cases j with
  | zero=>simp at h1
  | succ j =>
   cases k with
   | zero=>simp at h2
   | succ k=>exact congrArg (· + 1) (u_ (as:=as) nd (by simpa using h1) (by simpa using h2))
 | .io n :: as,i,j,k,nd,h1,h2=>by
  have nU:=WL.mp nd
  cases j with
  | zero =>
   simp at h1;subst h1
   cases k with
   | zero=>rfl
   | succ k=>exact absurd (lE.mpr (Wh (by simpa using h2))) nU.1
  | succ j =>
   cases k with
   | zero =>
    simp at h2;subst h2;exact absurd (lE.mpr (Wh (by simpa using h1))) nU.1
   | succ k=>exact congrArg (· + 1) (u_ (as:=as) nU.2 (by simpa using h1) (by simpa using h2))
section
variable {c:Fc} {σ:St} {δ:Dl} {H:Hp} {vs:List V} {as:List Ak} {ds:List (Option D)} {ss:List S}
theorem sf(h:i_ c σ δ H vs as ds):∀ {ss:List S},bK as ds δ=some ss->ss.length=vs.length/\as.length=vs.length/\∀ (j:Nat) s v,ss[j]? = some s->vs[j]? = some v ->
  (∃ d f,s = .pure d/\as[j]? = some (.val f)/\Rep H (Av c σ δ) v d)\/∃ d i,s = .own d/\as[j]? = some (.io i)/\σ[i]? = some (some v)/\δ[i]? = some (some (.own d)):=by
 induction h with
 | nil =>
  intro ss h;simp only[bK,Wb] at h;subst h;exact⟨rfl,rfl,λj s v e _=>by simp at e⟩
 | @val v d f vs as ds r _ ih =>
  intro ss h;simp only[bK] at h
  cases e:bK as ds δ with
  | none=>rw[e] at h; cases h
  | some rs =>
   rw[e] at h;simp only[WI,Wb] at h;subst h;obtain⟨h1,h2,h3⟩:=ih e;refine⟨by simp[h1],by simp[h2],λj s v' e1 e2=>?_⟩
   cases j with
   | zero=>simp at e1 e2; subst e1 e2; exact .inl ⟨d,f,rfl,rfl,r⟩
   | succ j=>simpa using h3 j s v' (by simpa using e1) (by simpa using e2)
 | @io v i vs as ds ev _ ih =>
  intro ss h;simp only[bK] at h;split at h
  ·rename_i d ed
   cases e:bK as ds δ with
   | none=>rw[e] at h; cases h
   | some rs =>
    rw[e] at h;simp only[WI,Wb] at h;subst h;obtain⟨h1,h2,h3⟩:=ih e;refine⟨by simp[h1],by simp[h2],λj s v' e1 e2=>?_⟩
    cases j with
    | zero=>simp at e1 e2; subst e1 e2; exact .inr ⟨d,i,rfl,rfl,ev,ed⟩
    | succ j=>simpa using h3 j s v' (by simpa using e1) (by simpa using e2)
  ·cases h
theorem va:∀ (as:List Ak) (rs:List S) (δ:Dl),(bf as rs δ).length=δ.length
 | [],rs,δ=>by simp[bf]
 | .val f :: as,[],δ=>by simp[bf]
 | .io i :: as,[],δ=>by simp[bf]
 | .val f :: as,r :: rs,δ=>by simp[bf,va as rs δ]
 | .io i :: as,r :: rs,δ=>by simp[bf,va as rs]
theorem pK:∀ (as:List Ak) (rs:List S) (δ:Dl) (i:Nat),i ∉ bz as->(bf as rs δ)[i]? = δ[i]?
 | [],rs,δ,i,_=>by simp[bf]
 | .val f :: as,[],δ,i,_=>by simp[bf]
 | .io j :: as,[],δ,i,_=>by simp[bf]
 | .val f :: as,r :: rs,δ,i,h=>by rw[bf]; exact pK as rs δ i h
 | .io j :: as,r :: rs,δ,i,h=>by
  simp only[bz,Wo,not_or] at h;rw[bf,pK as rs _ i h.2,W5 (Ne.symm h.1)]
theorem sh:∀ (as:List Ak) (rs:List S) (δ:Dl) (i j:Nat) (r:S),(bz as).Nodup->as[j]? = some (.io i)->rs[j]? = some r->i < δ.length->(bf as rs δ)[i]? = some (some r)
 | [],rs,δ,i,j,r,_,h,_,_=>by simp at h
 | a :: as,[],δ,i,j,r,_,_,h,_=>by simp at h
 | .val f :: as,r0 :: rs,δ,i,j,r,nd,h1,h2,hi=>by
  cases j with
  | zero=>simp at h1
  | succ j=>rw[bf]; exact sh as rs δ i j r nd (by simpa using h1) (by simpa using h2) hi
 | .io k :: as,r0 :: rs,δ,i,j,r,nd,h1,h2,hi=>by
  have nU:=WL.mp nd
  cases j with
  | zero =>
   simp at h1 h2;subst h1 h2;rw[bf,pK as rs _ k nU.1,Wn hi]
  | succ j=>rw[bf]; exact sh as rs _ i j r nU.2 (by simpa using h1) (by simpa using h2) (by simpa using hi)
theorem AV(k:Ok c σ δ H)(hr:i_ c σ δ H vs as ds)(hm:bK as ds δ=some ss)(nd:(bz as).Nodup) :
  Ok ⟨H,λa=>Av c σ δ a/\¬ ∃ (j:Nat) (d:D),ss[j]? = some (S.own d)/\vs[j]? = some (V.ref a),dR 0 ss vs,λ_ _=>False⟩ (df vs) (dg ss) H:=by
 obtain⟨h1,h2,h3⟩:=sf hr hm;have at':∀ (j:Nat) s,ss[j]? = some s->∃ v,vs[j]? = some v:=λj s e=>by
  have:j < vs.length:=by rw[<- h1]; exact(W3.mp e).1
  exact⟨vs[j],by simp[this]⟩
 have AW:∀ a,Own (df vs) (dg ss) a ↔ ∃ (j:Nat) (d:D),ss[j]? = some (S.own d)/\vs[j]? = some (V.ref a):=λa =>
  ⟨λ⟨j,d,e1,e2⟩=>⟨j,d,fG.mp e1,fY.mp e2⟩,λ⟨j,d,e1,e2⟩=>⟨j,d,fG.mpr e1,fY.mpr e2⟩⟩
 have AX:∀ a,Own (df vs) (dg ss) a->Own σ δ a:=λa z=>by
  obtain⟨j,d,e1,e2⟩:=(AW a).mp z;rcases h3 j _ _ e1 e2 with ⟨d',f,e,_⟩ | ⟨d',i,e,_,es,ed⟩
  ·cases e
  ·exact⟨i,d',ed,es⟩
 have sub:∀ a,Av ⟨H,λa=>Av c σ δ a/\¬ ∃ (j:Nat) (d:D),ss[j]? = some (S.own d)/\vs[j]? = some (V.ref a),dR 0 ss vs,λ_ _=>False⟩ (df vs) (dg ss) a->Av c σ δ a:=λa z=>z.elim (λz=>z.1) λz=>.inr (AX a z)
 refine⟨λa o e _=>e,λa z=>k.zM z.1,λa ⟨i,hi⟩=>?_,by simp[h1],λj d e=>?_,λj d e=>?_,λi j a d d' e1 e2 e3 e4=>?_,λp hp=>?_⟩
 ·obtain⟨j,d,_,e1,e2⟩:=pI hi;exact k.nq (AX a ((AW a).mpr ⟨j,d,e1,e2⟩))
 ·have e':=fG.mp e;obtain⟨v,ev⟩:=at' j _ e';rcases h3 j _ v e' ev with ⟨d',f,e,_,r⟩ | ⟨d',i,e,_⟩
  ·cases e;exact⟨v,fY.mpr ev,r.aJ λb z=>.inl (sub b z)⟩
  ·cases e
 ·have e':=fG.mp e;obtain⟨v,ev⟩:=at' j _ e';rcases h3 j _ v e' ev with ⟨d',f,e,_,r⟩ | ⟨d',i,e,_,es,ed⟩
  ·cases e
  ·cases e;obtain⟨a,g1,g2,g3⟩:=k.own i d ed;rw[es] at g1
   cases g1;refine⟨a,fY.mpr ev,g2.aJ λb z=>.inl (sub b z),.inl ⟨0 + j,r_ e' ev⟩,λz=>z.2 ⟨j,d,e',ev⟩⟩
 ·have f1:=fG.mp e1;have f2:=fG.mp e2;rcases h3 i _ _ f1 (fY.mp e3) with ⟨_,_,e,_⟩ | ⟨d1,i1,e,a1,s1,x1⟩
  ·cases e
  ·rcases h3 j _ _ f2 (fY.mp e4) with ⟨_,_,e',_⟩ | ⟨d2,i2,e',a2,s2,x2⟩
   ·cases e'
   ·have:=k.inj i1 i2 a d1 d2 x1 x2 s1 s2;subst this;exact u_ nd a1 a2
 ·obtain⟨j,d,e,e1,e2⟩:=pI (i:=p.1) (a:=p.2) hp;rw[Qh] at e;rw[e];exact fY.mpr e2
theorem AY(k:Ok c σ δ H)(hr:i_ c σ δ H vs as ds)(hm:bK as ds δ=some ss)(nd:(bz as).Nodup)(hB:B=λa=>Av c σ δ a/\¬ ∃ (j:Nat) (d:D),ss[j]? = some (S.own d)/\vs[j]? = some (V.ref a))
  (x:aQ ⟨H,B,dR 0 ss vs,λ_ _=>False⟩ (df vs) (dg ss) H (df vs) (dg aX) H') (iE:∀ (j:Nat) d,ss[j]? = some (.own d)->∃ d',aX[j]? = some (.own d')) (Rb:∀ (j:Nat) d,ss[j]? = some (.pure d)->∃ d',aX[j]? = some (.pure d')) :
  aQ c σ δ H σ (bf as aX δ) H'/\∀ v r,bp ⟨H,B,dR 0 ss vs,λ_ _=>False⟩ (df vs) (dg aX) H H' v r->bp c σ (bf as aX δ) H H' v r:=by
 obtain⟨h1,h2,h3⟩:=sf hr hm;have si:∀ i,i ∈ bz as->∃ (j:Nat) (d:D) (a:Addr),as[j]? = some (.io i)/\ss[j]? = some (.own d)/\vs[j]? = some (.ref a)/\σ[i]? = some (some (.ref a))/\δ[i]? = some (some (.own d)):=λi hi=>by
  obtain⟨j,hj,ej⟩:=List.mem_iff_getElem.mp (lE.mp hi);have hv:j < vs.length:=by omega
  have hs:j < ss.length:=by omega
  have vb:as[j]? = some (.io i):=by rw[W6 hj,ej]
  rcases h3 j ss[j] vs[j] (by simp[hs]) (by simp[hv]) with ⟨d,f,e,a1,_⟩ | ⟨d,i',e,a1,s1,x1⟩
  ·rw[vb] at a1; cases a1
  ·rw[vb] at a1; cases a1
   obtain⟨a,g1,_⟩:=k.own i d x1;rw[s1] at g1;have g2:vs[j] = .ref a:=by
    have:=Wx g1;exact Wx this
   exact⟨j,d,a,vb,by rw[W6 hs,e],by rw[W6 hv,g2],by rw[s1,g2],x1⟩
 have pL:∀ a,(∃ (j:Nat) (d:D),ss[j]? = some (S.own d)/\vs[j]? = some (V.ref a))->Own σ δ a:=λa ⟨j,d,e1,e2⟩=>by
  rcases h3 j _ _ e1 e2 with ⟨d',f,e,_⟩ | ⟨d',i,e,_,es,ed⟩
  ·cases e
  ·exact⟨i,d',ed,es⟩
 have Rc:∀ a,(⟨H,B,dR 0 ss vs,λ_ _=>False⟩:Fc).I a ↔ ∃ (j:Nat) (d:D),ss[j]? = some (S.own d)/\vs[j]? = some (V.ref a):=λa =>
  ⟨λ⟨i,hi⟩=>by obtain⟨j,d,_,e1,e2⟩:=pI hi; exact⟨j,d,e1,e2⟩,λ⟨j,d,e1,e2⟩=>⟨0 + j,r_ e1 e2⟩⟩
 have ownIn:∀ a,Own (df vs) (dg ss) a->∃ (j:Nat) (d:D),ss[j]? = some (S.own d)/\vs[j]? = some (V.ref a):=λa ⟨j,d,e1,e2⟩=>⟨j,d,fG.mp e1,fY.mp e2⟩
 -- the owned addresses are the same
 have sj:∀ (i:Nat) (d:D),(bf as aX δ)[i]? = some (some (.own d))->(i ∉ bz as/\δ[i]? = some (some (.own d)))\/(i ∈ bz as/\∃ (j:Nat) (d0:D) (a:Addr),as[j]? = some (.io i)/\ss[j]? = some (.own d0)/\vs[j]? = some (.ref a)/\σ[i]? = some (some (.ref a))/\aX[j]? = some (.own d)):=λi d e=>by
  by_cases hi:i ∈ bz as
  ·right
   obtain⟨j,d0,a,a1,a2,a3,a4,a5⟩:=si i hi;obtain⟨d',ed'⟩:=iE j d0 a2;have bu:i < δ.length:=(W3.mp a5).1;have:=sh as aX δ i j (.own d') nd a1 ed' bu;rw[e] at this
   cases this;exact⟨hi,j,d0,a,a1,a2,a3,a4,ed'⟩
  ·rw[pK as aX δ i hi] at e;exact .inl ⟨hi,e⟩
 have pM:∀ b,Own σ (bf as aX δ) b->Own σ δ b:=λb ⟨i,d,e1,e2⟩=>by
  rcases sj i d e1 with ⟨_,e⟩ | ⟨hi,j,d0,a,_,a2,a3,a4,_⟩
  ·exact⟨i,d,e,e2⟩
  ·rw[e2] at a4;have:b=a:=by injection (Wx (Wx a4))
   subst this;exact pL b ⟨j,d0,a2,a3⟩
 have Kr:∀ (i:Nat) (d:D),(bf as aX δ)[i]? = some (some (.pure d))->i ∉ bz as/\δ[i]? = some (some (.pure d)):=λi d e=>by
  by_cases hi:i ∈ bz as
  ·obtain⟨j,d0,a,a1,a2,a3,a4,a5⟩:=si i hi;obtain⟨d',ed'⟩:=iE j d0 a2;have bu:i < δ.length:=(W3.mp a5).1;have:=sh as aX δ i j (.own d') nd a1 ed' bu;rw[e] at this
   cases this
  ·rw[pK as aX δ i hi] at e;exact⟨hi,e⟩
 have AZ:∀ a o,H a=some o->¬ Av c σ δ a->H' a=some o:=λa o e n=>x.keep a o e λz=>n (.inr (pL a (ownIn a z)))
 have mz:∀ b,Av c σ (bf as aX δ) b->Av c σ δ b:=λb z=>z.elim .inl λz=>.inr (pM b z)
 -- the callee's set holds ours
 have big:∀ {c':Fc},c'.B=B->∀ b,Av c σ δ b->Av c' (df vs) (dg aX) b:=λ{c'} hB' b z=>by
  by_cases hp:∃ (j:Nat) (d:D),ss[j]? = some (S.own d)/\vs[j]? = some (V.ref b)
  ·obtain⟨j,d,e1,e2⟩:=hp;obtain⟨d',ed'⟩:=iE j d e1;exact .inr ⟨j,d',fG.mpr ed',fY.mpr e2⟩
  ·exact .inl (by rw[hB',hB]; exact⟨z,hp⟩)
 have A0:∀ (c1 c2:Fc),c1.H₀=c.H₀->c1.pin=c.pin->(∀ b,c1.B b->c.B b\/(c2.B b/\H b=none))->c2.pin=dR 0 ss vs->(∀ b,B b->c2.B b)->Ok c2 (df vs) (dg aX) H'->(∀ b,c1.B b->∃ o,H' b=some o)->Ok c1 σ (bf as aX δ) H':=λc1 c2 e0 e1 e2 e3 e4 k2 hex=>by
  have A5:∀ b,Av c1 σ (bf as aX δ) b->Av c σ δ b\/H b=none:=λb z=>by
   rcases z with z | z
   ·rcases e2 b z with z | ⟨_,z⟩
    ·exact .inl (.inl z)
    ·exact .inr z
   ·exact .inl (.inr (pM b z))
  have rm:∀ b,Av c1 σ (bf as aX δ) b->Av c2 (df vs) (dg aX) b:=λb z=>by
   have bg:∀ b,Av c σ δ b->Av c2 (df vs) (dg aX) b:=λb z=>by
    by_cases hp:∃ (j:Nat) (d:D),ss[j]? = some (S.own d)/\vs[j]? = some (V.ref b)
    ·obtain⟨j,d,e1,e2⟩:=hp;obtain⟨d',ed'⟩:=iE j d e1;exact .inr ⟨j,d',fG.mpr ed',fY.mpr e2⟩
    ·exact .inl (e4 b (by rw[hB]; exact⟨z,hp⟩))
   rcases z with z | z
   ·rcases e2 b z with z | ⟨z,_⟩
    ·exact bg b (.inl z)
    ·exact .inl z
   ·exact bg b (.inr (pM b z))
  have Ks:∀ {v:V} {d:D},Rep H (Av c σ δ) v d->Rep H' (Av c1 σ (bf as aX δ)) v d:=λ{v d} r=>by
   have r1:Rep H (λb=>Av c σ δ b\/Av c1 σ (bf as aX δ) b) v d:=r.aJ λb z=>z.elim .inl (A5 b)
   exact(r1.keep λb o e n=>AZ b o e λz=>n (.inl z)).aJ λb z=>.inl (.inr z)
  refine⟨λa o e n=>?_,hex,λa z=>?_,by rw[va]; exact k.len,λi d e=>?_,λi d e=>?_,λi j a d d' f1 f2 f3 f4=>?_,by rw[e1]; exact k.pinned⟩
  ·rw[e0] at e;have n':¬ c.I a:=λz=>n (by unfold Fc.I at z ⊢; rw[e1]; exact z)
   refine x.keep a o (k.keep a o e n') λz=>?_
   obtain⟨i,d,g1,g2⟩:=pL a (ownIn a z);obtain⟨a',g3,_,g4,_⟩:=k.own i d g1;rw[g2] at g3; cases g3
   rcases g4 with g4 | g4
   ·exact n' g4
   ·rw[g4] at e; cases e
  ·have z':c.I a:=by unfold Fc.I at z ⊢; rw[<- e1]; exact z
   obtain⟨o,e⟩:=k.dM a z';exact x.there a o e
  ·obtain⟨hi,e'⟩:=Kr i d e;obtain⟨v,g1,g2⟩:=k.slot i d e';exact⟨v,g1,Ks g2⟩
  ·rcases sj i d e with ⟨hi,e'⟩ | ⟨hi,j,d0,a,b1,b2,b3,b4,b5⟩
   ·obtain⟨a,g1,g2,g3,g4⟩:=k.own i d e';have na:¬ Own (df vs) (dg ss) a:=λz=>by
     obtain⟨j,d1,q1,q2⟩:=ownIn a z;rcases h3 j _ _ q1 q2 with ⟨d',f,ee,_⟩ | ⟨d',i',ee,ai,es,ed⟩
     ·cases ee
     ·have:=k.inj i i' a d d' e' ed g1 es;subst this;exact hi (lE.mpr (Wh ai))
    have Kt:fj H' (Av c1 σ (bf as aX δ)) a d:=by
     have o1:fj H (λb=>Av c σ δ b\/Av c1 σ (bf as aX δ) b) a d:=g2.aJ λb z=>z.elim .inl (A5 b)
     exact(o1.keep (λb o e n=>AZ b o e λz=>n (.inl z)) λo e=>x.keep a o e na).aJ λb z=>.inl (.inr z)
    refine⟨a,g1,Kt,by unfold Fc.I at g3 ⊢; rw[e0,e1]; exact g3,λz=>?_⟩;rcases e2 a z with z | ⟨_,z⟩
    ·exact g4 z
    ·obtain⟨o,eo⟩:=g2.some;rw[z] at eo; cases eo
   ·obtain⟨a',g1,g2,g3,g4⟩:=k2.own j d (fG.mpr b5);rw[fY.mpr b3] at g1
    cases g1;obtain⟨i0,d1,q1,q2⟩:=pL a ⟨j,d0,b2,b3⟩;obtain⟨a'',q3,q4,q5,q6⟩:=k.own i0 d1 q1;rw[q2] at q3; cases q3
    refine⟨a,b4,g2.aJ λb z=>.inl (rm b z),by unfold Fc.I at q5 ⊢; rw[e0,e1]; exact q5,λz=>?_⟩;rcases e2 a z with z | ⟨_,z⟩
    ·exact q6 z
    ·obtain⟨o,eo⟩:=q4.some;rw[z] at eo; cases eo
  ·obtain⟨d1,g1⟩:∃ d1,δ[i]? = some (some (.own d1)):=by
    rcases sj i d f1 with ⟨_,e'⟩ | ⟨hi,_⟩
    ·exact⟨d,e'⟩
    ·obtain⟨_,d1,_,_,_,_,_,a5⟩:=si i hi;exact⟨d1,a5⟩
   obtain⟨d2,g2⟩:∃ d2,δ[j]? = some (some (.own d2)):=by
    rcases sj j d' f2 with ⟨_,e'⟩ | ⟨hi,_⟩
    ·exact⟨d',e'⟩
    ·obtain⟨_,d1,_,_,_,_,_,a5⟩:=si j hi;exact⟨d1,a5⟩
   exact k.inj i j a d1 d2 g1 g2 f3 f4
 have Ku:Ok c σ (bf as aX δ) H':=A0 c ⟨H,B,dR 0 ss vs,λ_ _=>False⟩ rfl rfl (λb z=>.inl z) rfl (λb z=>z) x.ok λb z=>by
  obtain⟨o,e⟩:=k.bd b z;exact x.there b o e
 refine⟨⟨Ku,λa o e n=>x.keep a o e λz=>n (pL a (ownIn a z)),λa z=>.inl (pM a z),x.there⟩,λv r hr=>?_⟩
 cases r with
 | pure d=>exact Rep.aJ hr λb z=>.inl (big rfl b (mz b z))
 | own d =>
  obtain⟨a,ea,o,nb,h0,kp,hs⟩:=hr;have nT:H a=none:=hs;have iX:¬ Av c σ δ a:=k.iX nT;refine⟨a,ea,o.aJ λb z=>.inl ?_,λz=>iX (.inl z),k.nt nT,?_,nT⟩
  ·rcases z with (z | z) | z
   ·exact(big rfl b (.inl z)).elim (λz=>.inl (.inl z)) .inr
   ·exact .inl (.inr z)
   ·exact(big rfl b (.inr (pM b z))).elim (λz=>.inl (.inl z)) .inr
  ·refine A0 (c.plus a) (Fc.plus ⟨H,B,dR 0 ss vs,λ_ _=>False⟩ a) rfl rfl (λb z=>?_) rfl (λb z=>.inl z) kp λb z=>?_
   ·rcases z with z | z
    ·exact .inl z
    ·exact .inr ⟨.inr z,by rw[z]; exact nT⟩
   ·rcases z with z | z
    ·obtain⟨o,e⟩:=k.bd b z;exact x.there b o e
    ·rw[z]; exact o.some
end
def eY(G:DF):Prop:=∀ ss r aX,G ss=some (r,aX)->aX.length=ss.length/\∀ (j:Nat),(∀ d,ss[j]? = some (.own d)->∃ d',aX[j]? = some (.own d'))/\∀ d,ss[j]? = some (.pure d)->∃ d',aX[j]? = some (.pure d')
theorem Kv(hG:∀ ss y,G ss=some y->hE fb n ss=some y):eY G:=λss r aX h=>by
 have:=hG ss _ h;unfold hE at this
 cases e:fb (cT n ss) with
 | exc x δx=>rw[e] at this; cases this
 | stuck=>rw[e] at this; cases this
 | ok fl δ =>
  rw[e] at this;simp only at this
  cases e1:dw fl with
  | none=>rw[e1] at this; cases this
  | some r' =>
   rw[e1] at this;simp only[Qd] at this
   cases e2:cq 0 ss δ with
   | none=>rw[e2] at this; cases this
   | some os =>
    rw[e2] at this
    cases this;obtain⟨h1,h2⟩:=sd e2;refine⟨h1,λj=>⟨λd ed=>?_,λd ed=>?_⟩⟩
    ·rcases h2 j _ ed with ⟨d',z,_⟩ | ⟨d',d'',_,_,z⟩
     ·cases z
     ·exact⟨d'',z⟩
    ·rcases h2 j _ ed with ⟨d',z,z'⟩ | ⟨d',d'',z,_⟩
     ·exact⟨d',z'⟩
     ·cases z
section
variable {X:Cx} {c:Fc} {e:Expr} {es:List Expr} {as:List Ak} {k n:Nat} {x:Str} {G:DF} {pp pos:Pos}
theorem Kw{ps:List Str}(hK:eY G){σ:St}{H:Hp}{Q:VK}(hl:as.length=n)(h:tD c (aH G as) σ H Q):t4 (kC n G) [] E0 (tX c as) σ H Q:=by
 obtain⟨δ,kk,q⟩:=h;unfold aH at q;split at q
 ·rename_i hc;rw[Wt] at hc;have nd:=AU hc.2;rw[bC] at q;refine⟨δ,kk,λi hi=>?_,aU q λds δ1 q1 vs H1 a1 r1=>?_⟩
  ·have:=Qe.mp hc.1 i (lE.mpr hi);unfold bJ at this;split at this
   ·rename_i d ed;exact uO kk ed
   ·cases this
  ·cases em:bK as ds δ1 with
   | none=>rw[em] at q1; exact q1.elim
   | some ss =>
    rw[em] at q1;simp only at q1
    cases eg:G ss with
    | none=>rw[eg] at q1; exact q1.elim
    | some y =>
     obtain⟨r,aX⟩:=y;rw[eg] at q1;have iG:=AV a1.ok r1 em nd;obtain⟨m1,m2,_⟩:=sf r1 em;obtain⟨g1,g2⟩:=hK ss r aX eg;refine⟨ss,_,by rw[Qv,<- m2]; exact hl,by rw[Qv]; exact iG,r,aX,eg,λv H2 a2 r2=>?_⟩;rw[Qv] at a2 r2;obtain⟨o1,o2⟩:=AY a1.ok r1 em nd rfl a2 (λj d ed=>(g2 j).1 d ed) λj d ed=>(g2 j).2 d ed
     exact q1 v H2 (a1.trans o1) (bp.back (o2 v r r2) a1)
 ·exact q.elim
theorem dk (F:bW X.prog X.w X.K X.mg X.base k x n G) (hK:eY G) (hr:eN k X.A) (hg:Gl X x) (ha:SX X c (e :: es) as) (hl:as.length=n) (ir:(x == ("__debug__" : Str))=false:=by decide)
  (he:Wj (e :: es) X.env=(false,eval e X.env) :: Wj es X.env:=by rfl) (c_:(QJ pos (Wj es X.env)).any (·.1)=false:=by rfl):SE X c (.Call (.Name x pp) (e :: es) [] pos) (aH G as):=by
 obtain⟨f,fd,ps,hm,hk,hb,ok⟩:=F;exact PE.weak (yI ok hr hg hm hk hb .nil zp ha ir he c_) λσ H Q h=>Kw (ps:=ps) hK hl h
end
def di(np:List Nat)(n:Nat)(b:DS):DF:=λss=>if cJ np 0 ss then hE b n ss else none
theorem gN(h:di np n b ss=some y):cJ np 0 ss=true/\hE b n ss=some y:=by
 unfold di at h;split at h
 ·rename_i hi; exact⟨hi,h⟩
 ·cases h
theorem hJ:eY (di np n b):=Kv λ_ _ h=>(gN h).2
theorem hV(r:eN k A):A.units + 64 < WE:=by have:=r.un; omega
theorem gw{c:Fc}{np cs:List Nat}(h:Np c np)(hc:cs.all (λi=>!np.contains i)=true):∀ p ∈ c.pin,p.1 ∉ cs:=λp hp z=>by
 have h1:=h p hp;have h2:=Qe.mp hc p.1 z;rw[h1] at h2
 cases h2
def sk:List Str->Bool
 | []=>true
 | x :: r=>!r.contains x && sk r
theorem A6:∀ {l:List Str},sk l=true->l.Nodup
 | [],_=>.nil
 | x :: r,h=>by
  simp only[sk,Wt,Bool.not_eq_true'] at h;exact WL.mpr ⟨λhm=>by have:=h.1; simp at this; exact this hm,A6 h.2⟩
def iH(names:List (Str×NameKind))(x:Str)(k:NameKind):Bool:=match names.lookup x with
 | some j=>j == k
 | none=>false
theorem vc(h:iH names x k=true):names.lookup x=some k:=by
 unfold iH at h;split at h
 ·rename_i j e; rw[e,eq_of_beq h]
 ·cases h
def A7(names:List (Str×NameKind))(N:List Str)(sc:List (Str×NameKind))(cs:List Nat):Bool :=
 sc.all (λx=>!(x.2 == .local) || iH sc x.1 .local) && sc.all (λx=>!(x.2 == .free) || (iH names x.1 .cell || iH names x.1 .free)) && sk (sc.map (·.1)) &&
 (Q9 N.length).all λi=>match N[i]? with
  | some x=>!(iH sc x .local || iH sc x .cell) || cs.contains i
  | none=>true
theorem A8(h:names.lookup x=some k):iH names x k=true:=by
 unfold iH; rw[h]; simp
theorem gy{X:Cx}{scope:Scope}{cs:List Nat}(hk:scope.kind = .function)(h:A7 X.env.scope.names X.N scope.names cs=true):lh X scope cs:=by
 unfold A7 at h;simp only[Wt] at h;obtain⟨⟨⟨h1,h2⟩,h3⟩,h4⟩:=h;refine⟨hk,λx hx hl=>?_,λx hx hf=>?_,A6 h3,λi x hi hl=>?_⟩
 ·have:=Qe.mp h1 x hx;rw[hl] at this;exact vc (by simpa using this)
 ·have:=Qe.mp h2 x hx;rw[hf] at this;have:iH X.env.scope.names x.1 .cell=true\/iH X.env.scope.names x.1 .free=true:=by simpa using this
  exact this.elim (λz=>.inl (vc z)) λz=>.inr (vc z)
 ·have lC:i < X.N.length:=(W3.mp hi).1;have:=Qe.mp h4 i (List.mem_range.mpr lC);rw[hi] at this;have gI:(iH scope.names x .local || iH scope.names x .cell)=true:=by
   rcases hl with z | z
   ·rw[A8 z]; rfl
   ·rw[A8 z]; simp
  simp only[gI,Bool.not_true,Bool.false_or] at this;simpa using this
theorem Kx {K:W4}:my K "tuple":=⟨rfl,rfl,rfl,rfl,rfl,rfl,rfl⟩
theorem Ky {K:W4}:my K "list":=⟨rfl,rfl,rfl,rfl,rfl,rfl,rfl⟩
def mB:Expr->Bool
 | .Starred ..=>false
 | _=>true
theorem nV(h:mB e=true):Wj (e :: es) env=(false,eval e env) :: Wj es env:=by
 cases e <;> first | (cases h; done) | rw[Wj] | rfl
 all_goals (intros; contradiction)
section
variable {X:Cx} {c:Fc} {e:Expr} {es:List Expr} {f fe:DE} {g:DA} {as:List Ak}
theorem bS(ha:SE X c e f)(hr:SA X c es g)(hs:mB e=true:=by rfl):SA X c (e :: es) (az f g):=Ai ha hr (nV hs)
theorem cw(ha:SE X c e fe)(hr:SX X c es as)(hs:mB e=true:=by rfl):SX X c (e :: es) (.val fe :: as):=Kp ha hr (nV hs)
theorem eZ{i:Nat}(ha:PE X e (c9 i))(hr:SX X c es as)(hs:mB e=true:=by rfl):SX X c (e :: es) (.io i :: as):=Kq ha hr (nV hs)
end
mutual
def jY:Nat->Expr->Option D
 | _,.Constant (.int i) _ _=>some (.int i)
 | _,.Constant (.bool b) _ _=>some (.bl b)
 | _,.Constant .none _ _=>some .a7
 | _,.Constant (.str x) _ _=>some (.str x.cps.toList)
 | n + 1,.Tuple es _ _=>if es.length<=1000 then(mC n es).map .tup else none
 | _,_=>none
def mC:Nat->List Expr->Option (List D)
 | _,[]=>some []
 | n,e :: es=>match jY n e,mC n es with
  | some d,some ds=>some (d :: ds)
  | _,_=>none
end
theorem Kz:∀ {n:Nat} {e:Expr} {d:D},jY n e=some d->mB e=true:=λ{n e d} h=>by
 cases e <;> first | rfl | (cases n <;> simp[jY] at h)
mutual
theorem KA:∀ {n:Nat} {e:Expr} {d:D},jY n e=some d->SE X c e (eD d)
 | _,.Constant (.int i) _ _,d,h=>by
  simp only[jY,Wb] at h; subst h; exact aV
 | _,.Constant (.bool b) _ _,d,h=>by
  simp only[jY,Wb] at h; subst h; exact ll
 | _,.Constant .none _ _,d,h=>by
  simp only[jY,Wb] at h; subst h; exact Hy
 | _,.Constant (.str x) _ _,d,h=>by
  simp only[jY,Wb] at h; subst h; exact rq _ (zK x)
 | 0,.Tuple es k pos,d,h=>by simp[jY] at h
 | n + 1,.Tuple es k pos,d,h=>by
  simp only[jY] at h;split at h
  ·rename_i hl
   cases e:mC n es with
   | none=>rw[e] at h; cases h
   | some ds =>
    rw[e] at h;simp only[WI,Wb] at h;subst h;exact eU (vd e) hl
  ·cases h
theorem vd:∀ {n:Nat} {es:List Expr} {ds:List D},mC n es=some ds->SA X c es (λδ=>.ok ds δ)
 | _,[],ds,h=>by
  simp only[mC,Wb] at h; subst h; exact de
 | n,e :: es,ds,h=>by
  simp only[mC] at h;split at h
  ·rename_i d dJ h1 h2
   cases h;exact Ai (KA h1) (vd h2) (nV (Kz h1))
  ·cases h
end
def ve(ds:List D):DE:=λδ=>.ok (.own (.lst ds)) δ
theorem KC{X:Cx}{c:Fc}{es:List Expr}{ds:List D}{pos:Pos}(h:mC 9 es=some ds)(hl:es.length<=1000):SE X c (.List es pos) (ve ds):=ju (vd h) hl
section
variable {X:Cx} {c:Fc} {e:Expr} {fe:DE} {pos:Pos} {tg:Expr}
theorem nW{i:Nat}{o:Expr}{apos bE:Pos}(ho:PE X o (c9 i))(he:SE X c e fe)
  (l_:QY o "append" X.env (eval o X.env)=eval o X.env:=by rfl)
  (ma:((QJ bE (Wj [e] X.env)).all (λx=>!x.1) && (backToKw bE (keywordEach [] X.env)).all (λx=>x.1.isSome)
   && decide ([e].length + ([]:List Keyword).length + (if ([]:List Keyword).isEmpty then 0 else 1) < 30))=true:=by rfl)
  (gZ:(apos.endLine == bE.line)=true:=by rfl) (hs:Wj [e] X.env=(false,eval e X.env) :: Wj [] X.env:=by rfl)
  (px:Jg (.Call (.Attribute o "append" apos) [e] [] bE) none pos.line X.env=pure false:=by rfl):SS X c (.Expr (.Call (.Attribute o "append" apos) [e] [] bE) pos) (cS i fe) :=
 IY (p0:=apos) ho he (yk (qQ PySem.F.plainAttrs_list PySem.F.slot_list_append PySem.F.type_list_append ug ho (fO he iq hs) l_ ma gZ hs rfl) px)
end
def vf(K:W4):Bool:=K.all λp=>match p.2.cls with
 | .type t=>!(t == "list")
 | _=>true
theorem A9[BEq α][LawfulBEq α]:∀ {K:List (α×β)} {a:α} {o:β},K.lookup a=some o->(a,o) ∈ K
 | [],a,o,e=>by simp at e
 | (b,o') :: r,a,o,e=>by
  rw[Qm] at e
  cases hb:a == b with
  | true =>
   rw[hb] at e;have h1:o'=o:=Wx e;have h2:a=b:=eq_of_beq hb;rw[h1,h2];exact We
  | false =>
   rw[hb] at e;exact Wc _ (A9 e)
theorem KD {K:W4} {a:Addr} {o:Obj} (h:vf K=true) (e:K.lookup a=some o) (hc:o.cls = .type "list"):False:=by
 have hm:(a,o) ∈ (K:List (Addr×Obj)):=A9 e;have h1:=Qe.mp h (a,o) hm;have h2:(match o.cls with | .type t=>!(t == "list") | _=>true)=true:=h1;rw[hc] at h2;have h3:(!(("list" : String) == "list"))=true:=h2;rw[beq_self_eq_true] at h3
 cases h3
theorem KG{K:W4}{G:DF}{H:Hp}{a:Addr}{ns:List Int}{E:XK}(hK:vf K=true)(hS:cx K H a (ns.map V.int))(hG:∃ aX,G [.pure (.lst (ns.map .int))]=some (.pure (.bl true),aX)) :
  kC 1 G [.ref a] H (λv _=>v = .bl true) E:=by
 have hR:Rd H a (.lst (ns.map V.int)):=by
  rcases hS with h | ⟨o,ag,n,e,hc,_⟩
  ·exact h
  ·exact(KD hK e hc).elim
 obtain⟨aX,hg⟩:=hG;have rep:∀ O:Addr->Prop,¬ O a->Rep H O (.ref a) (.lst (ns.map D.int)):=λO hO=>.lst hO hR (by simp) λi v d e1 e2=>by
  rw[Wl] at e1 e2
  cases e:ns[i]? with
  | none=>rw[e] at e1; cases e1
  | some k=>rw[e] at e1 e2; cases e1; cases e2; exact .int k
 refine⟨[.pure (.lst (ns.map .int))],λ_=>False,rfl,⟨λb o e _=>e,λb z=>z.elim,λb ⟨i,z⟩=>?_,rfl,λi d e=>?_,λi d e=>?_,λi j b d d' e1 e2 e3 e4=>?_,λp z=>?_⟩,_,aX,hg,λv H' x r=>?_⟩
 ·simp[dR] at z
 ·cases i with
  | zero =>
   simp at e;subst e;refine⟨.ref a,rfl,rep _ λz=>?_⟩;rcases z with z | ⟨j,d',z1,z2⟩
   ·exact z
   ·cases j with
    | zero=>simp at z1
    | succ j=>simp at z1
  | succ i=>simp at e
 ·cases i with
  | zero=>simp at e
  | succ i=>simp at e
 ·cases i with
  | zero=>simp at e1
  | succ i=>simp at e1
 ·simp[dR] at z
 ·cases r;rfl
theorem KH{l:PySem.W.OpenLaw}{q:Wm}{loose:List Str}{XP:(Str->Option Value)->Heap->Prop}{YP:Wr->Heap->Prop}{d:DefRec}{K:Params->W4}{k:Nat}{G:DF}(hn:l.most=some 63)(pj:d.params.defaults=[])(hr:eN k callerA)
  (hY:∀ (w:Wr) (h:Heap),YP w h->(K w.params).In h) (hL:∀ p:Params,vf (K p)=true)
  (hG:∀ ns:List Int,ns.length<=63->∃ aX,G [.pure (.lst (ns.map .int))]=some (.pure (.bl true),aX))
  (F:∀ (w:Wr) (mg:Str->Option Value) (fa:Addr) (h:Heap),(K w.params).In h->h.Ns WH mg->mg d.name=some (.ref fa) ->
   ∃ fd:Ql,(∀ (s:W2) (u:Value),BindsTo s fd ⟨[u],[]⟩ [("script",u)])/\∀ base:Heap,(K w.params).In base->base.Ns WH mg->jn l.prog w (K w.params) mg base jq k fa fd ["script"] (kC 1 G)) :
  PySem.W.WalkO q loose XP YP l.row.toRowW d [] (λf vs=>PySem.call f vs) :=
 L2.G6 (n:=63) (k:=k) (x:="script") (CX:=λ_=>jq) (sp:=λ_=>kC 1 G) hn (by decide) pj hr hY F (λw H a ns hl _ hS=>KG (hL w.params) hS (hG ns hl)) λ_ _ _ _ _ z=>z
end DV
set_option maxHeartbeats 400000
namespace L2
open PySem PySem.Spec PyProof.Rows
def vg(x:Str):It:=⟨λi _=>i < x.cps.size,λi H y H'=>H'=H/\∃ c,x.cps[i]? = some c/\y = .str ⟨#[c]⟩,λi _=>i=x.cps.size⟩
theorem KI {P:Wm} {w:Wr} {K:W4} {tg:Expr} (x:Str) (t:Tok) (it:Addr) (T:String) (hT:T = "str_ascii_iterator"\/T = "str_iterator"):Turn P w K tg (vg x) [it] it (λi h=>h.IsStrIter it T x t i):=by
 have W:∀ A:Ws,A.handled=none->Walks P w A it [it] [it] x.cps.size (SignAt x) (λi h=>h.IsStrIter it T x t i):=λA hh=>by
  rcases hT with rfl | rfl
  ·exact Walks.strAscii hh it x t
  ·exact Walks.strWide hh it x t
 refine⟨by simp,λi h st b hb=>?_,λi h h' st k=>?_,?_,?_,λA i s Q E st h=>?_⟩
 ·have e:b=it:=by simpa using hb
  subst e;obtain⟨o,e,c,d⟩:=st;exact⟨o,e,λv z=>by rw[d] at z; cases z⟩
 ·obtain⟨o,e,r⟩:=st;exact⟨o,k it (by simp) o e,r⟩
 ·intro X hP hw hK hc i pins s σ H E I hf st hg;subst hP hw hK;obtain⟨f0,f1,f2,f3,f4,f5⟩:=hf it (by simp);refine(W X.A (I.ok.hd hc)).item i s _ _ hg st λv h' tk hv cy kk=>?_
  obtain⟨c,u,hx,rfl⟩:=hv;have I1:Inv X pins σ H { s with heap:=h',toks:=tk }:=I.turned (λb o hb e=>kk b o (by simpa using hb) e) f0 f1 f3 f4 f5;obtain⟨o,e,c',d⟩:=id cy;refine⟨_,rfl,oT (s:={ s with heap:=h',toks:=tk }) e c' d (by rcases hT with rfl | rfl <;> decide) ⟨.str ⟨#[c]⟩,H,I1,⟨u,rfl⟩,⟨rfl,c,hx,rfl⟩,cy,λb hb=>(hf b hb).1⟩⟩
 ·intro X hP hw hK hc i pins s σ H E I hf st hg;subst hP hw hK;have q_:i=x.cps.size:=hg;subst q_;obtain⟨f0,f1,f2,f3,f4,f5⟩:=hf it (by simp);exact(W X.A (I.ok.hd hc)).done s _ _ st λh' tk eb=>⟨rfl,I.turned (λb o hb e=>eb b o (by simpa using hb) e) f0 f1 f3 f4 f5⟩
 ·rcases hT with rfl | rfl
  ·exact wpAny_pyIter_striter_ascii st h
  ·exact wpAny_pyIter_striter_wide st h
end L2
namespace DV
open PySem PySem.Spec PyProof.Rows L2
section
variable {X:Cx} {c:Fc} {tg e:Expr} {fe:DE} {pos pp:Pos}
def A_(K:W4)(tl:TE):TI:=λσ H R=>tl σ H λx H1=>(∃ a,x = .ref a/\(∃ xs,cx K H1 a xs)/\R (qE K a) H1)\/(∃ a,x = .ref a/\(∃ xs,dA K H1 a xs)/\R (tR K a) H1)\/∃ z,x = .str z/\R (vg z) H1
theorem Ba{l:Expr}{tl:TE}(hl:PE X l tl):PI X tg l (A_ X.K tl):=by
 intro pins s σ H R I h;refine a_ (hl pins s σ H _ I h) λv s1 ⟨x,H1,I1,r1,q1⟩=>?_
 rcases q1 with q1 | q1 | ⟨z,e,q⟩
 ·obtain⟨a,e,⟨xs,hq⟩,q⟩:=q1;subst e
  cases r1;obtain⟨ag,rv,p,hz⟩:=I1.list hq;refine JS p.isList ?_;refine⟨s1.heap.objs.size,[s1.heap.objs.size],_,_,H1,rfl,I1.kept (t':=s1.toks) λb o e=>W8 _ e,E1 a _,⟨_,Wg _ rfl,rfl,rfl⟩,λb hb=>?_,q⟩;have e:b=s1.heap.objs.size:=by simpa using hb
  subst e;exact I1.jP (Wk _) (I1.aC.fresh (Wk _))
 ·obtain⟨a,e,⟨xs,hq⟩,q⟩:=q1;subst e
  cases r1;obtain⟨ag,rv,p,hz⟩:=I1.tuple hq;refine wpAny_pyIter_tuple (show s1.heap.IsTuple a ag.toArray from p) ?_;refine⟨s1.heap.objs.size,[s1.heap.objs.size],_,_,H1,rfl,I1.kept (t':=s1.toks) λb o e=>W8 _ e,E2 a _,⟨_,Wg _ rfl,rfl,rfl⟩,λb hb=>?_,q⟩;have e:b=s1.heap.objs.size:=by simpa using hb
  subst e;exact I1.jP (Wk _) (I1.aC.fresh (Wk _))
 ·subst e;obtain⟨t,rfl⟩:=r1;refine wpAny_pyIter_strU ?_;have hT:Jh z = "str_ascii_iterator"\/Jh z = "str_iterator":=by
   unfold Jh;split
   ·exact .inl rfl
   ·exact .inr rfl
  refine⟨s1.heap.objs.size,[s1.heap.objs.size],_,_,H1,rfl,I1.kept (t':=s1.toks) λb o e=>W8 _ e,KI z t _ _ hT,⟨_,Wg _ rfl,rfl,rfl⟩,λb hb=>?_,q⟩;have e:b=s1.heap.objs.size:=by simpa using hb
  subst e;exact I1.jP (Wk _) (I1.aC.fresh (Wk _))
theorem KJ(z:Tx):kA c σ δ H (vg (toS z)) (z.map λn=>D.str [n]):=by
 intro H2 kp;have hsz:(toS z).cps.size=z.length:=by simp[toS]
 refine⟨by show(z.map _).length=_; rw[hsz]; simp,λi d e=>?_⟩;rw[Wl] at e
 cases ez:z[i]? with
 | none=>rw[ez] at e; cases e
 | some n =>
  rw[ez] at e
  cases e;have hi:i < z.length:=(W3.mp ez).1;refine⟨by show i < _; rw[hsz]; exact hi,λx H3 ⟨e3,cc,hc,hx⟩=>.inl ⟨e3,?_⟩⟩;have:(toS z).cps[i]? = z[i]?:=by simp[toS]
  rw[this,ez] at hc
  cases hc;rw[hx];exact .str [n]
def aY(f:DE):DI:=λδ=>(f δ).bind λr δ1=>match r.d with
 | .lst ds=>.ok ds δ1
 | .tup ds=>.ok ds δ1
 | .str x=>.ok (x.map λn=>.str [n]) δ1
 | _=>.stuck
theorem eL(he:SE X c e fe):SI X c tg e (aY fe):=PI.weak (Ba he) λσ H R ⟨δ,k,q⟩=>by
 unfold aY at q;rw[bC] at q;refine⟨δ,k,aU q λr δ1 q1 v H1 a1 r1=>?_⟩;have rr:=r1.rep;generalize r.d=d at q1 rr
 cases d <;> first | exact q1.elim | skip
 ·cases rr;exact .inr (.inr ⟨_,rfl,q1 _ H1 a1 (KJ _)⟩)
 ·cases rr with
  | tup h1 h2 h3 h4=>exact .inr (.inl ⟨_,rfl,⟨_,.of h2⟩,q1 _ H1 a1 (IZ _ h2 (λz=>h1 (.inr z)) ⟨h3,h4⟩)⟩)
 ·cases rr with
  | lst h1 h2 h3 h4 =>
   refine .inl ⟨_,rfl,⟨_,.inl h2⟩,q1 _ H1 a1 ?_⟩;intro H2 kp;rename_i a vs;have h5:Rd H2 a (.lst vs):=Rd.keep h2 λo e=>kp a o e λz=>h1 (.inr z)
   have r':aD H1 (Av c σ δ1) vs _:=⟨h3,h4⟩
   refine⟨⟨vs,.inl h5,by rw[r'.1]; exact Wk _⟩,λi d e=>?_⟩;obtain⟨v,ev,rv⟩:=r'.get e;refine⟨⟨vs,v,.inl h5,ev⟩,λx H3 ⟨e3,y⟩=>.inl ⟨e3,?_⟩⟩;have:=y vs (.inl h5);rw[ev] at this
   cases this;exact rv
end
end DV
namespace L2
open PySem PySem.Spec PyProof.Rows
theorem KL(a:Int)(t:Tok)(l:Addr)(dd:Option Addr)(items:Array Value)(n:Nat)(sl:Array (Option Value)) :
  Meets (Builtin.«int.__rmul__» ⟨[.int a t,.ref l],[]⟩) (λ_ R s=>s.heap.get? l=some { cls:=.type "tuple",dict:=dd,data:=.seq items n,slots:=sl }/\R (.ok (.ret Value.notImplemented)) s) :=
 .of_wp λprog w A R s h=>by obtain⟨hp,g,d,tk,os⟩:=s; obtain⟨hl,h⟩:=h; wp_walk; exact⟨_,rfl,h⟩
theorem KN:fillsNumberSlot (.type "tuple") "mul" = pure false :=
 PySem.fillsNumberSlot_seq (id:="tuple.__mul__") (r:=some (.builtin "tuple.__rmul__")) F.slot_tuple_mul.lookup (by decide +kernel) F.slot_tuple_rmul.lookup (by decide +kernel)
theorem KO:seqRepeat? (.type "tuple")=pure (some (.builtin "tuple.__mul__")):=by
 unfold seqRepeat?;rw[PySem.seqSlot_of (T:="tuple") (name:="__mul__") (id:="tuple.__mul__") F.slot_tuple_mul.lookup (by decide +kernel),PySem.seqSlot_of (T:="tuple") (name:="__rmul__") (id:="tuple.__rmul__") F.slot_tuple_rmul.lookup (by decide +kernel)];rfl
theorem KP(l:Addr)(dd:Option Addr)(items:Array Value)(n:Nat)(sl:Array (Option Value))(x:Int)(u:Tok)(h1:¬ (decide (x < -(2 ^ 63)) || decide (x ≥ 2 ^ 63))=true)(h2:¬ (items.isEmpty || x == 1)=true)(h3:¬ (decide (x<=0) || items.isEmpty)=true)(h4:¬ items.size * x > (2 ^ 63 - 1) / 8)(h5:¬ Builtin.Tuple.tupleTooMany (items.size * x)=true)(h6:((Wf x.toNat items).foldl (· ++ ·) #[]).size<=W9) :
  Meets (Builtin.«tuple.__mul__» ⟨[.ref l,.int x u],[]⟩) (λ_ R s=>s.heap.get? l=some { cls:=.type "tuple",dict:=dd,data:=.seq items n,slots:=sl } /\
   R (.ok (.ret (.ref s.heap.objs.size))) { s with heap:=s.heap.push { cls:=.type "tuple",data:=.seq ((Wf x.toNat items).foldl (· ++ ·) #[]) } }) :=
 .of_wp λprog w A R s h=>by
  obtain⟨hp,g,d,tk,os⟩:=s; obtain⟨hl,h⟩:=h
  wp_walk
  rw[if_neg h1];wp_walk
  try rw[if_neg h2]
  try wp_walk
  try rw[if_neg h3]
  try wp_walk
  try rw[if_neg h4]
  try wp_walk
  try rw[if_neg h5]
  try wp_walk
  exact⟨_,rfl,h⟩
theorem vh(ag:List α):∀ (k:Nat) (acc:List α),List.foldl (λx1 x2:Array α=>x1 ++ x2) acc.toArray (Wf k ag.toArray)=(acc ++ (Wf k ag).flatten).toArray
 | 0,acc=>by simp
 | k + 1,acc=>by
  rw[WR,J9,show acc.toArray ++ ag.toArray=(acc ++ ag).toArray by simp,vh ag k];simp[WR]
section
variable {X:Cx}
def Bb(K:W4):R2:=λx y H Q=>∃ l k xs,x = .ref l/\y = .int k/\dA K H l xs/\xs≠[]/\2<=k/\k<=1000000/\xs.length * k.toNat<=W9/\∀ p,H p=none->Q (.ref p) (upd H p (.tup (Wf k.toNat xs).flatten))
theorem KQ:bT X (Qy .Mult) (Bb X.K):=by
 intro pins s σ H x y v u Q I rx ry h;obtain⟨l,k,xs,rfl,rfl,hH,cn,h1,h2,hz,q⟩:=h
 cases rx;obtain⟨t,rfl⟩:=ry;obtain⟨ag,r,pl,hl⟩:=I.tuple hH;obtain⟨⟨cls,dd,data,sl⟩,ho,hc,n,hd⟩:=id pl;simp only at hc hd;subst hc hd;have hlen:ag.toArray.size=xs.length:=by rw[Wq]; exact r.length.symm
 have nX:ag.toArray.isEmpty=false:=by
  cases ag with
  | nil=>exact absurd (r.qN.mp rfl) cn
  | cons a b=>rfl
 have gZ:W9=16777216:=rfl;have hk:(k.toNat:Int)=k:=by omega
 have hmul:((ag.toArray.size:Nat):Int) * k=((xs.length * k.toNat:Nat):Int):=by rw[hlen,Int.natCast_mul,hk]
 have Bc:List.foldl (λx1 x2=>x1 ++ x2) #[] (Wf k.toNat ag.toArray)=(Wf k.toNat ag).flatten.toArray:=by
  have:=za ag k.toNat [];rw[Qb] at this;exact this
 refine wpAny_binaryOp_repeat_ref (T:="tuple") (U:="int") (by decide) ⟨_,ho,rfl⟩ (λs'=>JN s' k t) KN F.fills_int_mul F.slot_int_rmul KO F.slot_int_index.lookup
  (call_meets F.slot_int_rmul (JN s k t) F.entry_int_rmul (F.args_int_rmul_2 _ _) (KL k t l dd ag.toArray n sl)
   ⟨ho,rfl,⟨_,ho,rfl⟩,call_meets F.slot_tuple_mul ⟨_,ho,rfl⟩ F.entry_tuple_mul (F.args_tuple_mul_2 _ _) (KP l dd ag.toArray n sl k t ?_ ?_ ?_ ?_ ?_ ?_) ⟨ho,?_⟩⟩)
 ·simp; omega
 ·rw[nX]; simp; omega
 ·rw[nX]; simp; omega
 ·rw[hmul]; omega
 ·rw[hmul];unfold Builtin.Tuple.tupleTooMany;rw[gZ] at hz;generalize xs.length * k.toNat=m at hz;simp only[gZ,decide_eq_true_eq];omega
 ·rw[Bc,Wq,uh,<- r.length,Nat.mul_comm]; exact hz
 ·rw[Bc];have I1:Inv X pins σ (upd H s.heap.objs.size (.tup (Wf k.toNat xs).flatten)) { s with heap:=s.heap.push { cls:=.type "tuple",data:=.seq (Wf k.toNat ag).flatten.toArray } } :=
   I.laid (t':=s.toks) (λb o e=>W8 _ e) (Wk _) (show b0 X.prog X.w _ _ _ (.tup (Wf k.toNat xs).flatten) from⟨by rw[uh,Nat.mul_comm]; exact hz,(Wf k.toNat ag).flatten,r.rep k.toNat,iT.new _ _⟩)
  exact⟨.ref _,_,I1,rfl,q _ (I.aC.fresh (Wk _))⟩
def Be:R2:=λx y H Q=>∃ z k,x = .str z/\y = .int k/\2<=k/\k<=1000000/\0 < z.length/\z.length * k.toNat<=W9/\Q (.str ⟨(Wf k.toNat z.cps).foldl (· ++ ·) #[]⟩) H
theorem KR:bT X (Qy .Mult) Be:=by
 intro pins s σ H x y v u Q I rx ry h;obtain⟨z,k,rfl,rfl,h1,h2,h0,hz,q⟩:=h;obtain⟨t,rfl⟩:=rx;obtain⟨t',rfl⟩:=ry;have gZ:W9=16777216:=rfl;have c1:¬ k < 1:=by omega
 have c2:(k == 1 || z.length == 0)=false:=by
  simp;omega
 refine PySem.P.mul_str (by simp; omega) (λ_ _=>?_) (λ_ _=>?_) ?_
 ·have hm:(z.length:Int) * k<=16777216:=by
   have:(z.length:Int) * k=((z.length * k.toNat:Nat):Int):=by rw[Int.natCast_mul,show(k.toNat:Int)=k by omega]
   rw[this];rw[gZ] at hz;omega
  have:(z.length:Int)<=(2 ^ 63 - 1) / k:=(Int.le_ediv_iff_mul_le (by omega)).mpr (by omega);omega
 ·unfold Builtin.Str.tooLong;rw[gZ] at hz;generalize z.length * k.toNat=m at hz;simp only[gZ,decide_eq_false_iff_not];omega
 ·rw[if_neg c1,if_neg (by rw[c2]; simp)];have hsz:((Wf k.toNat z.cps).foldl (· ++ ·) #[]).size=k.toNat * z.length:=by
   have h:=vh z.cps.toList k.toNat [];simp only[Qb,Array.toArray_toList] at h;rw[h,Wq,uh];simp[Str.length]
  exact⟨by show((Wf k.toNat z.cps).foldl (· ++ ·) #[]).size<=_; rw[hsz,Nat.mul_comm]; exact hz,.str _,H,I.tok _,⟨_,rfl⟩,q⟩
end
end L2
namespace DV
open PySem PySem.Spec PyProof.Rows L2
def jz:D->D->Option S
 | .int i,.int j=>rP (.int i) (.int j)
 | .str x,.int k=>if 2<=k/\k<=1000000/\0 < x.length/\x.length * k.toNat<=W9 then some (.pure (.str (Wf k.toNat x).flatten)) else none
 | .tup xs,.int k=>if 2<=k/\k<=1000000/\0 < xs.length/\xs.length * k.toNat<=W9 then some (.pure (.tup (Wf k.toNat xs).flatten)) else none
 | _,_=>none
def Bf(K:W4):R2:=λx y H Q=>rI oV (λi j=>V.int (i * j)) x y H Q\/Be x y H Q\/Bb K x y H Q
theorem vi:bT X (Qy .Mult) (Bf X.K):=Fe.or (KR.or KQ)
theorem aD.rep(h:aD H O vs ds):∀ k:Nat,aD H O (Wf k vs).flatten (Wf k ds).flatten
 | 0=>.nil
 | k + 1=>by rw[WR,WR,QW,QW]; exact h.append (aD.rep h k)
theorem vj{K:W4}:cQ (Bf K) jz:=by
 intro c σ δ H x y d e s Q k rx ry hp q
 cases d <;> cases e <;> first | (simp[jz] at hp; done) | skip
 ·exact .inl (Ij c σ δ H x y _ _ s Q k rx ry hp q)
 ·rename_i z n;simp only[jz] at hp;split at hp
  ·rename_i h
   cases hp;refine .inr (.inl ⟨toS z,n,rx.str,ry.int,h.1,h.2.1,by rw[jT]; exact h.2.2.1,by rw[jT]; exact h.2.2.2,?_⟩);have e:(⟨(Wf n.toNat (toS z).cps).foldl (· ++ ·) #[]⟩:Str)=toS (Wf n.toNat z).flatten:=by
    unfold toS;congr 1
    have:=vh z n.toNat [];rw[Qb] at this;exact this
   rw[e];exact q _ H (.refl k) (.str _)
  ·cases hp
 ·rename_i ds n;simp only[jz] at hp;split at hp
  ·rename_i h
   cases hp;obtain⟨a,vs,ex,ha,r⟩:=rx.tup;refine .inr (.inr ⟨a,n,vs,ex,ry.int,.of ha,?_,h.1,h.2.1,by rw[r.1]; exact h.2.2.2,λp Bg=>?_⟩)
   ·intro z;rw[z] at r;have:=r.1;simp at this;omega
   ·exact q _ _ (.alloc k Bg _) (bp.nv k (aD.rep r _) Bg)
  ·cases hp
theorem bp.newD(k:Ok c σ δ H)(hp:H p=none):bp c σ δ H (upd H p (.dK [])) (.ref p) (.own (.bA [])):=by
 refine⟨p,rfl,⟨[],dq,rfl,λi p q e=>by simp at e⟩,λz=>k.iX hp (.inl z),k.nt hp,k.plus hp _,hp⟩
def mD:DE:=λδ=>.ok (.own (.bA [])) δ
theorem Bh{X:Cx}{c:Fc}{pos:Pos}:SE X c (.Dict [] [] pos) mD:=PE.weak GH λσ H Q ⟨δ,k,q⟩=>λp hp=>q _ _ (.alloc k hp _) (bp.newD k hp)
section
variable {X:Cx} {c:Fc} {e a x y:Expr} {fb:BE} {f g fa:DE} {pos pp p p2:Pos}
def KS(neg:Bool)(fa f g:DE):DE:=λδ=>(fa δ).bind λv δ1=>(f δ1).bind λlo δ2=>(g δ2).bind λhi δ3=>match v.d,lo.d,hi.d with
 | .int i,.int l,.int h=>.ok (.pure (.bl (if neg then !(decide (l<=i) && decide (i < h)) else(decide (l<=i) && decide (i < h))))) δ3
 | _,_,_=>.stuck
end
end DV
set_option maxHeartbeats 1000000
namespace L2
open PySem PySem.Spec PyProof.Rows
theorem Bi:entryFor table "dict.update.loop" = some Builtin.«dict.update.loop»:=entryFor_of_tree (by kernel_rfl)
theorem pN:plainId "dict.update.loop" = true:=by decide +kernel
theorem KU:typeLookup (.type "tuple") "keys" = pure none:=by rw[typeLookup_type,builtinLookup_eq_fast]; kernel_rfl
theorem KW:typeLookup (.type "list") "keys" = pure none:=by rw[typeLookup_type,builtinLookup_eq_fast]; kernel_rfl
set_option maxRecDepth 8000 in
theorem KY
  (hx:s.heap.get? a=some o) (hc:o.cls = .type "tuple") (hW:o.data = .seq xs k) (hd:o.dict=none) (hA:A.handled=none)
  (h:∀ h' tk,(∀ b ob,s.heap.get? b=some ob->h'.get? b=some ob)->Q none { s with heap:=h',toks:=tk }) :
  W7 (model prog w) A (getAttr? (.ref a) "keys") Q E s:=by
 obtain⟨c,bA,dat,sl⟩:=o;simp only at hc hW hd;subst hc hW hd;obtain⟨hp,g,d,tk,os⟩:=s;have hT:∀ lF,(⟨hp,g,d,lF,os⟩:W2).TypeIs (.ref a) "tuple":=λ_=>⟨_,hx,rfl⟩
 have f1:=sub_AttributeError;have f3:=F.slot_tuple_getattribute.lookup;have f4:=F.slot_tuple_getattribute.bind (.ref a);have f5:=am_tuple_getattr_none;have vk:=KU;unfold getAttr? getAttrBy? getAttrBy;repeat (any_goals (first | assumption | exact hT _ | ((with_reducible show W7 _ _ (call (Value.builtin "tuple.__getattribute__") _ _) _ _ _); refine call_meets F.slot_tuple_getattribute (hT _) am_entry_tuple_getattribute (F.args_tuple_getattribute_2 _ _) (meets_getattribute_miss_tuple a xs k sl "keys" _ vk (by decide +kernel)) ⟨hx,hA,λh' lF e pO=>?_⟩) | wp_step))
 obtain⟨t',u',he⟩:=pO.there;show W7 _ _ (JJ _ _ _ _ _ _ _) _ _ _;unfold JJ;repeat (any_goals (first | assumption | wp_step))
 exact h _ _ pO.keeps
set_option maxRecDepth 8000 in
theorem KZ
  (hx:s.heap.get? a=some o) (hc:o.cls = .type "list") (hW:o.data = .seq xs k) (hd:o.dict=none) (hA:A.handled=none)
  (h:∀ h' tk,(∀ b ob,s.heap.get? b=some ob->h'.get? b=some ob)->Q none { s with heap:=h',toks:=tk }) :
  W7 (model prog w) A (getAttr? (.ref a) "keys") Q E s:=by
 obtain⟨c,bA,dat,sl⟩:=o;simp only at hc hW hd;subst hc hW hd;obtain⟨hp,g,d,tk,os⟩:=s;have hT:∀ lF,(⟨hp,g,d,lF,os⟩:W2).TypeIs (.ref a) "list":=λ_=>⟨_,hx,rfl⟩
 have f1:=sub_AttributeError;have f3:=F.slot_list_getattribute.lookup;have f4:=F.slot_list_getattribute.bind (.ref a);have f5:=am_list_getattr_none;have vk:=KW;unfold getAttr? getAttrBy? getAttrBy;repeat (any_goals (first | assumption | exact hT _ | ((with_reducible show W7 _ _ (call (Value.builtin "list.__getattribute__") _ _) _ _ _); refine call_meets F.slot_list_getattribute (hT _) am_entry_list_getattribute (F.args_list_getattribute_2 _ _) (meets_getattribute_miss_list a xs k sl "keys" _ vk (by decide +kernel)) ⟨hx,hA,λh' lF e pO=>?_⟩) | wp_step))
 obtain⟨t',u',he⟩:=pO.there;show W7 _ _ (JJ _ _ _ _ _ _ _) _ _ _;unfold JJ;repeat (any_goals (first | assumption | wp_step))
 exact h _ _ pO.keeps
def fZ(kps:List (Key×V))(acc:List (Key×V)):List (Key×V):=kps.foldl (λa kv=>putK a kv.1 kv.2) acc
theorem K0{prog:Wm}{w:Wr}{A:Ws}{R:Result->W2->Prop}{s:W2}{dl it:Addr}{i:Int}{t0:Tok}
  (hn:W7 (model prog w) A.in1 (Qu (.ref it)) (λr s1=>∃ (q:Addr) (k v:Value) (n:Nat),r=some (.ref q)/\s1.heap.get? q=some { cls:=.type "tuple",dict:=none,data:=.seq #[k,v] n,slots:=#[] } /\
   W7 (model prog w) A.in1 (dictSet dl k v) (λ_ s2=>Jw (model prog w) A (.builtin "dict.update.loop" ⟨[.ref dl,.ref it,Q6 (i + 1),.none],[]⟩) R s2) (λ_ _=>False) s1) (λ_ _=>False) s) :
  Jw (model prog w) A (.builtin "dict.update.loop" ⟨[.ref dl,.ref it,.int i t0,.none],[]⟩) R s:=by
 refine codeAny_builtin Bi ?_;rw[Around.under_plainId pN _];show W7 _ A.in1 (Qu (.ref it) >>= _) _ _ s;refine W0 (QB hn (λr s1 hr=>?_) λ_ _ z=>z.elim);obtain⟨q,k,v,n,rfl,hq,hd⟩:=hr;dsimp only;refine W0 ?_;try with_reducible refine WB ?_
 refine W0 (wpAny_tryCatch ?_);have hT:s1.TypeIs (.ref q) "tuple":=⟨_,hq,rfl⟩
 unfold Builtin.Dict.pairItems;refine W0 (JF hT ?_);rw[if_pos (by decide)];refine W0 ?_;unfold seqItems?;refine W0 (wpAny_load hq (W1 ?_));refine W1 ?_;show W7 _ A.in1 (holding [k,v] (dictSet dl k v)) _ _ s1;try with_reducible refine WB ?_
 refine QB hd (λ_ s2 h2=>?_) λ_ _ z=>z.elim
 exact W1 ⟨plainId_quiet pN _,h2⟩
theorem K1{prog:Wm}{w:Wr}{A:Ws}{R:Result->W2->Prop}{s:W2}{dl it:Addr}{i:Int}{t0:Tok}
  (hn:W7 (model prog w) A.in1 (Qu (.ref it)) (λr s1=>r=none/\R (.ok (.ret .none)) s1) (λ_ _=>False) s) :
  Jw (model prog w) A (.builtin "dict.update.loop" ⟨[.ref dl,.ref it,.int i t0,.none],[]⟩) R s:=by
 refine codeAny_builtin Bi ?_;rw[Around.under_plainId pN _];show W7 _ A.in1 (Qu (.ref it) >>= _) _ _ s;refine W0 (QB hn (λr s1 hr=>?_) λ_ _ z=>z.elim);obtain⟨rfl,hd⟩:=hr;dsimp only;show W7 _ A.in1 (Builtin.Dict.addKeywords dl [] >>= _) _ _ s1;exact W0 (W1 (W1 hd))
section
variable {X:Cx} {pins:List (Addr×Obj)} {σ:St} {H:Hp}
theorem Rd.sub(h:Rd H a u)(k:∀ b o,H b=some o->H' b=some o):Rd H' a u:=by
 rcases h with h | ⟨o,h⟩
 ·exact .inl (k _ _ h)
 ·exact .inr ⟨o,k _ _ h⟩
def sm(H:Hp)(ys:List V)(kps:List (Key×V)):Prop:=ys.length=kps.length/\∀ (i:Nat) y kv,ys[i]? = some y->kps[i]? = some kv->∃ q,y = .ref q/\H q=some (.tup [kV kv.1,kv.2])
theorem Bj:∀ (kps acc:List (Key×V)),(fZ kps acc).length<=acc.length + kps.length
 | [],acc=>Wk _
 | kv :: r,acc=>by
  have h1:=Bj r (putK acc kv.1 kv.2);have h2:=qU acc kv.1 kv.2;show(fZ r (putK acc kv.1 kv.2)).length<=_;simp only[WG];omega
theorem K2(kps:List (Key×V))(kv:Key×V)(acc:List (Key×V)):fZ (kps ++ [kv]) acc=putK (fZ kps acc) kv.1 kv.2:=by
 unfold fZ;rw[List.foldl_append];rfl
theorem Bk{A:Ws}{R:Result->W2->Prop}{dl it:Addr}{ys:List V}{kps:List (Key×V)}{tn:Nat->Heap->Prop}(hP:sm H ys kps)(lG:H dl=none)(hz:kps.length<=W9)
  (item:∀ (i:Nat) (y:V) (H':Hp) (s:W2) (Q:Option Value->W2->Prop),(∀ b o,H b=some o->H' b=some o)->H' it=none->Inv X pins σ H' s->tn i s.heap->ys[i]? = some y->(∀ u s',RelV y u->Inv X pins σ H' s'->tn (i + 1) s'.heap->Q (some u) s')->W7 (model X.prog X.w) A.in1 (Qu (.ref it)) Q (λ_ _=>False) s)
  (done:∀ (H':Hp) (s:W2) (Q:Option Value->W2->Prop),(∀ b o,H b=some o->H' b=some o)->H' it=none->Inv X pins σ H' s->tn ys.length s.heap->(∀ s',Inv X pins σ H' s'->Q none s')->W7 (model X.prog X.w) A.in1 (Qu (.ref it)) Q (λ_ _=>False) s)
  (keep:∀ (i:Nat) (h h':Heap),tn i h->(∀ o,h.get? it=some o->h'.get? it=some o)->tn i h') (hit:H it=none) (cn:it≠dl) (hR:∀ s',Inv X pins σ (upd H dl (.dK (fZ kps []))) s'->R (.ok (.ret .none)) s') :
  ∀ (k i:Nat) (s:W2) (j:Int) (t0:Tok),ys.length - i=k->i<=ys.length->Inv X pins σ (upd H dl (.dK (fZ (kps.take i) []))) s->tn i s.heap ->
   Jw (model X.prog X.w) A (.builtin "dict.update.loop" ⟨[.ref dl,.ref it,.int j t0,.none],[]⟩) R s:=by
 have up:∀ (acc:List (Key×V)) b o,H b=some o->upd H dl (.dK acc) b=some o:=λacc b o e=>by rw[ba (gq e lG)]; exact e
 have kQ:∀ acc:List (Key×V),upd H dl (.dK acc) it=none:=λacc=>by rw[ba cn]; exact hit
 intro k;induction k with
 | zero =>
  intro i s j t0 hk hi I st;have e:i=ys.length:=by omega
  subst e;rw[hP.1,List.take_of_length_le (Wk _)] at I;refine K1 (done _ s _ (up _) (kQ _) I st λs' I'=>⟨rfl,hR s' I'⟩)
 | succ k ih =>
  intro i s j t0 hk hi I st;have bu:i < ys.length:=by omega
  have lH:i < kps.length:=by rw[<- hP.1]; exact bu
  obtain⟨q,ey,hq⟩:=hP.2 i ys[i] kps[i] (by simp[bu]) (by simp[lH]);-- the item is a tuple of two
  have main:∀ s1,Inv X pins σ (upd H dl (.dK (fZ (kps.take i) []))) s1->tn (i + 1) s1.heap->∃ (kk vv:Value) (n:Nat),s1.heap.get? q=some { cls:=.type "tuple",dict:=none,data:=.seq #[kk,vv] n,slots:=#[] }/\RelV (kV kps[i].1) kk/\RelV kps[i].2 vv:=λs1 I1 _=>by
   obtain⟨_,ag,r,n,e⟩:=(show b0 X.prog X.w _ s1.heap q (.tup [kV kps[i].1,kps[i].2]) from I1.aC q _ (up _ q _ hq))
   obtain⟨u,v,rfl,r1,r2⟩:=Vals.two r;exact⟨u,v,n,e,r1,r2⟩
  refine K0 (item i ys[i] _ s _ (up _) (kQ _) I st (by simp[bu]) λu s' ru I' cy=>?_);rw[ey] at ru
  cases ru;obtain⟨kk,vv,n,e,r1,r2⟩:=main s' I' cy;refine⟨q,kk,vv,n,rfl,e,?_⟩;obtain⟨z,hd,vs,rel,dd⟩:=uj I'.aC dq;have pJ:vs.length<=W9:=by rw[<- rel.length]; exact z
  have hl:(putK (fZ (kps.take i) []) kps[i].1 kps[i].2).length<=W9:=by
   have h1:=qU (fZ (kps.take i) []) kps[i].1 kps[i].2;have h2:=Bj (kps.take i) [];simp at h2;omega
  refine wpAny_dictSet_pairs (hsz:=pJ) (md r1) dd λh' me hs=>?_
  have he:∃ q,h'.get? dl=some q:=let ⟨q,_,_,hq,_⟩:=me; ⟨q,hq⟩
  have I2:=ph (t':=s'.toks + 1) I' (by rw[dq]; exact True.intro) hs he (zg hl hd (rel.put kps[i].1 r2) me);rw[Ei] at I2;have et:kps.take (i + 1)=kps.take i ++ [kps[i]]:=by rw[QX]; simp[lH]
  rw[show putK (fZ (kps.take i) []) kps[i].1 kps[i].2=fZ (kps.take (i + 1)) [] by rw[et,K2]] at I2;exact ih (i + 1) _ (j + 1) _ (by omega) bu I2 (keep (i + 1) _ _ cy λo eo=>(hs.2 it cn).trans eo)
theorem K3 (hc:X.calm=true):eB X (.type "dict") (λxs H Q=>∃ p ys kps,xs=[.ref p]/\(H p=some (.tup ys)\/Rd H p (.lst ys))/\sm H ys kps/\kps.length<=W9/\∀ l,H l=none->Q (.ref l) (upd H l (.dK (fZ kps [])))):=by
 intro pins s σ H xs us Q I r h;obtain⟨p,ys,kps,rfl,hp,hP,hz,q⟩:=h;obtain⟨u,rfl,rx⟩:=gY r
 cases rx;have hA:X.A.handled=none:=I.ok.hd hc;refine callType_codes (Q₁:=λobj s₁=>obj = .ref s.heap.objs.size/\s₁ = { s with heap:=s.heap.push { cls:=.type "dict",data:=.dict #[] } }) F.kt_called_dict (F.kt_typeCall_dict_1 _) F.entry_dict_init (kt_code_dict_new _ ⟨rfl,rfl⟩) ?_;rintro obj s₁ ⟨rfl,rfl⟩;have lG:H s.heap.objs.size=none:=I.aC.fresh (Wk _);have I1:Inv X pins σ (upd H s.heap.objs.size (.dK [])) { s with heap:=s.heap.push { cls:=.type "dict",data:=.dict #[] } }:=I.laid (t':=s.toks) (λ_ _ q=>W8 _ q) (Wk _) (zh s.heap I.big);generalize eF:s.heap.objs.size=dl at lG I1;have up:∀ (acc:List (Key×V)) b o,H b=some o->upd H dl (.dK acc) b=some o:=λacc b o e=>by rw[ba (gq e lG)]; exact e
 have Bl:({ s with heap:=s.heap.push { cls:=.type "dict",data:=.dict #[] } }:W2).TypeIs (.ref dl) "dict":=⟨_,by rw[<- eF]; exact Wg _ rfl,rfl⟩
 refine⟨Bl,F.args_dict_init_2 _ _,?_⟩;unfold Builtin.«dict.__init__»;refine W0 ?_;unfold Builtin.Dict.selfAndRest;refine W0 (QM Bl ?_);show W7 _ _ (pure (dl,[Value.ref p])) _ _ _;refine W1 ?_;show W7 _ _ (Builtin.Dict.updateFrom "dict.__init__" dl (.ref p) [] .none) _ _ _;unfold Builtin.Dict.updateFrom;have fin:∀ s',Inv X pins σ (upd H dl (.dK (fZ kps []))) s'->EP X pins σ Q (.ref dl) s':=λs' I'=>⟨.ref dl,_,I',rfl,q dl lG⟩
 rcases hp with hp | hp
 ·obtain⟨_,ag,r,n,e⟩:=(show b0 X.prog X.w _ (s.heap.push { cls:=.type "dict",data:=.dict #[] }) p (.tup ys) from I1.aC p _ (up _ p _ hp))
  refine W0 (JF ⟨_,e,rfl⟩ ?_);rw[if_pos (by decide)];refine W0 (KY e rfl rfl rfl hA λh' tk kp=>?_);rw[if_pos (show(none:Option Value).isNone=true from rfl)];refine W0 (QT ?_);have I2:Inv X pins σ (upd H dl (.dK [])) { s with heap:=h',toks:=tk }:=I1.kept kp;have vm:h'.IsTuple p ag.toArray:=⟨_,kp _ _ e,rfl,n,rfl⟩
  refine W0 (wpAny_pyIter_tuple (s:={ s with heap:=h',toks:=tk }) vm ?_);refine W1 ⟨plainId_quiet pN _,?_⟩;have jr:upd H dl (.dK []) h'.objs.size=none:=I2.aC.fresh (Wk _);have cn:h'.objs.size≠dl:=λz=>by rw[z,dq] at jr; cases jr
  have hit:H h'.objs.size=none:=by rw[ba cn] at jr; exact jr
  have fp:∀ H':Hp,H' h'.objs.size=none->gJ X pins H' h'.objs.size:=λH' hn=>I2.jP (Wk _) hn
  refine Bk (X:=X) (pins:=pins) (σ:=σ) (H:=H) (dl:=dl) (it:=h'.objs.size) (ys:=ys) (kps:=kps) (tn:=λi h=>h.IsTupleIter h'.objs.size p i) hP lG hz ?_ ?_ (λi h h2 st k=>st.at k) hit cn (λs' I'=>⟨rfl,fin s' I'⟩) ys.length 0 _ 0 _ (Nat.sub_zero _) (Qc _) ?_ ?_
  ·intro i y H' s' Q' sub hn I' st hy k;obtain⟨_,its2,r2,n2,e2⟩:=(show b0 X.prog X.w _ s'.heap p (.tup ys) from I'.aC p _ (sub p _ hp))
   obtain⟨v,hv,rv⟩:=r2.get hy;obtain⟨f0,f1,f2,f3,f4,f5⟩:=fp H' hn;refine wpAny_pyNext_tuple_item st (items:=its2.toArray) ⟨_,e2,rfl,n2,rfl⟩ (x:=v) (by simpa using hv) λh3 kT sb=>?_
   exact k v { s' with heap:=h3 } rv (I'.turned (t':=s'.toks) (λb o hb e=>(sb.2 b hb).trans e) f0 f1 f3 f4 f5) kT
  ·intro H' s' Q' sub hn I' st k;obtain⟨_,its2,r2,n2,e2⟩:=(show b0 X.prog X.w _ s'.heap p (.tup ys) from I'.aC p _ (sub p _ hp))
   obtain⟨f0,f1,f2,f3,f4,f5⟩:=fp H' hn;have kn:=r2.length;exact wpAny_pyNext_tuple_end (show X.A.in1.in1.handled=none from hA) st (items:=its2.toArray) ⟨_,e2,rfl,n2,rfl⟩ (by simp; omega) λh3 eb=>k { s' with heap:=h3 } (I'.turned (t':=s'.toks) (λb o hb e=>eb b o hb e) f0 f1 f3 f4 f5)
  ·exact I2.kept (t':=tk) λb o e=>W8 _ e
  ·exact⟨_,Wg _ rfl,rfl,rfl⟩
 ·obtain⟨_,ag,n,r,e⟩:=(show b0 X.prog X.w _ (s.heap.push { cls:=.type "dict",data:=.dict #[] }) p (.lst ys) from(Rd.sub hp (up _)).ok I1.aC)
  refine W0 (JF ⟨_,e,rfl⟩ ?_);rw[if_pos (by decide)];refine W0 (KZ e rfl rfl rfl hA λh' tk kp=>?_);rw[if_pos (show(none:Option Value).isNone=true from rfl)];refine W0 (QT ?_);have I2:Inv X pins σ (upd H dl (.dK [])) { s with heap:=h',toks:=tk }:=I1.kept kp;have vm:h'.IsList p ag.toArray:=⟨_,kp _ _ e,rfl,n,rfl⟩
  refine W0 (JS (s:={ s with heap:=h',toks:=tk }) vm ?_);refine W1 ⟨plainId_quiet pN _,?_⟩;have jr:upd H dl (.dK []) h'.objs.size=none:=I2.aC.fresh (Wk _);have cn:h'.objs.size≠dl:=λz=>by rw[z,dq] at jr; cases jr
  have hit:H h'.objs.size=none:=by rw[ba cn] at jr; exact jr
  have fp:∀ H':Hp,H' h'.objs.size=none->gJ X pins H' h'.objs.size:=λH' hn=>I2.jP (Wk _) hn
  refine Bk (X:=X) (pins:=pins) (σ:=σ) (H:=H) (dl:=dl) (it:=h'.objs.size) (ys:=ys) (kps:=kps) (tn:=λi h=>h.IsListIter h'.objs.size p i) hP lG hz ?_ ?_ (λi h h2 st k=>st.at k) hit cn (λs' I'=>⟨rfl,fin s' I'⟩) ys.length 0 _ 0 _ (Nat.sub_zero _) (Qc _) ?_ ?_
  ·intro i y H' s' Q' sub hn I' st hy k;obtain⟨_,its2,n2,r2,e2⟩:=(show b0 X.prog X.w _ s'.heap p (.lst ys) from(Rd.sub hp sub).ok I'.aC)
   obtain⟨v,hv,rv⟩:=r2.get hy;obtain⟨f0,f1,f2,f3,f4,f5⟩:=fp H' hn;refine wpAny_pyNext_list_item st (items:=its2.toArray) ⟨_,e2,rfl,n2,rfl⟩ (x:=v) (by simpa using hv) λh3 kT sb=>?_
   exact k v { s' with heap:=h3 } rv (I'.turned (t':=s'.toks) (λb o hb e=>(sb.2 b hb).trans e) f0 f1 f3 f4 f5) kT
  ·intro H' s' Q' sub hn I' st k;obtain⟨_,its2,n2,r2,e2⟩:=(show b0 X.prog X.w _ s'.heap p (.lst ys) from(Rd.sub hp sub).ok I'.aC)
   obtain⟨f0,f1,f2,f3,f4,f5⟩:=fp H' hn;have kn:=r2.length;exact wpAny_pyNext_list_end (show X.A.in1.in1.handled=none from hA) st (items:=its2.toArray) ⟨_,e2,rfl,n2,rfl⟩ (by simp; omega) λh3 eb=>k { s' with heap:=h3 } (I'.turned (t':=s'.toks) (λb o hb e=>eb b o hb e) f0 f1 f3 f4 f5)
  ·exact I2.kept (t':=tk) λb o e=>W8 _ e
  ·exact⟨_,Wg _ rfl,rfl,rfl⟩
end
end L2
set_option maxHeartbeats 400000
namespace DV
open PySem PySem.Spec PyProof.Rows L2
def fk(aa:List (cb×D))(k:cb):Option D:=(aa.find? λkv=>decide (kv.1=k)).map (·.2)
def putD(aa:List (cb×D))(k:cb)(v:D):List (cb×D) :=
 if (aa.any λkv=>decide (kv.1=k))=true then aa.map (λkv=>if kv.1=k then(kv.1,v) else kv) else aa ++ [(k,v)]
def mE(kps acc:List (cb×D)):List (cb×D):=kps.foldl (λa kv=>putD a kv.1 kv.2) acc
theorem K4(h:dY k=dY j):k=j:=by
 cases k <;> cases j <;> simp[dY] at h
 ·rw[h]
 ·rw[rj h]
def DR(H:Hp)(O:Addr->Prop):List (Key×V)->List (cb×D)->Prop
 | [],[]=>True
 | p :: ws,q :: ds=>p.1=dY q.1/\Rep H O p.2 q.2/\DR H O ws ds
 | _,_=>False
section
variable {H H':Hp} {O O':Addr->Prop}
theorem DR.of:∀ {ws:List (Key×V)} {ds:List (cb×D)},ws.map (·.1)=ds.map (λp=>dY p.1)->(∀ (i:Nat) p q,ws[i]? = some p->ds[i]? = some q->Rep H O p.2 q.2)->DR H O ws ds
 | [],[],_,_=>trivial
 | [],_ :: _,h,_=>by simp at h
 | _ :: _,[],h,_=>by simp at h
 | p :: ws,q :: ds,h,k=>by
  simp only[Wd,List.cons.injEq] at h;exact⟨h.1,k 0 p q rfl rfl,DR.of h.2 λi p' q' e1 e2=>k (i + 1) p' q' (by simpa using e1) (by simpa using e2)⟩
theorem DR.keys:∀ {ws:List (Key×V)} {ds:List (cb×D)},DR H O ws ds->ws.map (·.1)=ds.map (λp=>dY p.1)
 | [],[],_=>rfl
 | [],_ :: _,h=>h.elim
 | _ :: _,[],h=>h.elim
 | p :: ws,q :: ds,h=>by simp only[Wd,h.1,DR.keys h.2.2]
theorem DR.vals:∀ {ws:List (Key×V)} {ds:List (cb×D)},DR H O ws ds->∀ (i:Nat) p q,ws[i]? = some p->ds[i]? = some q->Rep H O p.2 q.2
 | [],[],_,i,p,q,e,_=>by simp at e
 | [],_ :: _,h,_,_,_,_,_=>h.elim
 | _ :: _,[],h,_,_,_,_,_=>h.elim
 | p :: ws,q :: ds,h,i,p',q',e1,e2=>by
  cases i with
  | zero=>simp at e1 e2; subst e1 e2; exact h.2.1
  | succ i=>exact DR.vals h.2.2 i p' q' (by simpa using e1) (by simpa using e2)
theorem DR.map:∀ {ws:List (Key×V)} {ds:List (cb×D)},DR H O ws ds->(∀ v d,Rep H O v d->Rep H' O' v d)->DR H' O' ws ds
 | [],[],_,_=>trivial
 | [],_ :: _,h,_=>h.elim
 | _ :: _,[],h,_=>h.elim
 | p :: ws,q :: ds,h,k=>⟨h.1,k _ _ h.2.1,DR.map h.2.2 k⟩
theorem mF(h:p=dY q):(p=dY k) ↔ q=k:=⟨λe=>K4 (by rw[<- h]; exact e),λe=>by rw[h,e]⟩
theorem DR.any:∀ {ws:List (Key×V)} {ds:List (cb×D)} (k:cb),DR H O ws ds->(ws.any λkv=>decide (kv.1=dY k))=ds.any λkv=>decide (kv.1=k)
 | [],[],_,_=>rfl
 | [],_ :: _,_,h=>h.elim
 | _ :: _,[],_,h=>h.elim
 | p :: ws,q :: ds,k,h=>by
  rw[WV,WV,DR.any k h.2.2];congr 1
  exact decide_eq_decide.mpr (mF h.1)
theorem DR.val:∀ {ws:List (Key×V)} {ds:List (cb×D)} (k:cb),DR H O ws ds->(fk ds k=none/\fP ws (dY k)=none)\/∃ v d,fk ds k=some d/\fP ws (dY k)=some v/\Rep H O v d
 | [],[],_,_=>.inl ⟨rfl,rfl⟩
 | [],_ :: _,_,h=>h.elim
 | _ :: _,[],_,h=>h.elim
 | p :: ws,q :: ds,k,h=>by
  by_cases e:q.1=k
  ·have e':=(mF h.1).mpr e;exact .inr ⟨p.2,q.2,by simp[fk,WM,e],qS e',h.2.1⟩
  ·have e':¬ p.1=dY k:=λz=>e ((mF h.1).mp z)
   have ev:fk (q :: ds) k=fk ds k:=by simp[fk,WM,e]
   rw[ev,qT e'];exact DR.val k h.2.2
theorem DR.append:∀ {ws Bm:List (Key×V)} {ds dJ:List (cb×D)},DR H O ws ds->DR H O Bm dJ->DR H O (ws ++ Bm) (ds ++ dJ)
 | [],_,[],_,_,h'=>h'
 | [],_,_ :: _,_,h,_=>h.elim
 | _ :: _,_,[],_,h,_=>h.elim
 | p :: ws,_,q :: ds,_,h,h'=>⟨h.1,h.2.1,DR.append h.2.2 h'⟩
theorem DR.store:∀ {ws:List (Key×V)} {ds:List (cb×D)} {k:cb} {v:V} {d:D},DR H O ws ds->Rep H O v d->DR H O (ws.map λkv=>if kv.1=dY k then(kv.1,v) else kv) (ds.map λkv=>if kv.1=k then(kv.1,d) else kv)
 | [],[],_,_,_,_,_=>trivial
 | [],_ :: _,_,_,_,h,_=>h.elim
 | _ :: _,[],_,_,_,h,_=>h.elim
 | p :: ws,q :: ds,k,v,d,h,r=>by
  refine⟨?_,?_,DR.store h.2.2 r⟩
  ·by_cases e:q.1=k
   ·dsimp only; rw[if_pos ((mF h.1).mpr e),if_pos e]; exact h.1
   ·dsimp only; rw[if_neg λz=>e ((mF h.1).mp z),if_neg e]; exact h.1
  ·by_cases e:q.1=k
   ·dsimp only; rw[if_pos ((mF h.1).mpr e),if_pos e]; exact r
   ·dsimp only; rw[if_neg λz=>e ((mF h.1).mp z),if_neg e]; exact h.2.1
theorem DR.put(h:DR H O ws ds)(r:Rep H O v d):DR H O (putK ws (dY k) v) (putD ds k d):=by
 unfold putK putD;rw[DR.any k h];split
 ·exact DR.store h r
 ·exact DR.append h ⟨rfl,r,trivial⟩
theorem DR.vn:∀ {kps:List (Key×V)} {sq:List (cb×D)} {ws:List (Key×V)} {ds:List (cb×D)},DR H O kps sq->DR H O ws ds->DR H O (fZ kps ws) (mE sq ds)
 | [],[],_,_,_,h=>h
 | [],_ :: _,_,_,h,_=>h.elim
 | _ :: _,[],_,_,h,_=>h.elim
 | p :: kps,q :: sq,ws,ds,h,h'=>by
  show DR H O (fZ kps (putK ws p.1 p.2)) (mE sq (putD ds q.1 q.2));rw[h.1];exact DR.vn h.2.2 (DR.put h' h.2.1)
end
def fm:D->Option cb
 | .int i=>some (.inl i)
 | .str x=>some (.inr x)
 | _=>none
theorem Bn(h:fm d=some k)(r:Rep H O v d):v=kV (dY k):=by
 cases d <;> simp[fm] at h <;> subst h <;> cases r <;> rfl
theorem vo(h:fm d=some k)(r:cO c σ δ H v d):v=kV (dY k):=by
 rcases r with r | ⟨a,rfl,r⟩
 ·exact Bn h r
 ·cases d <;> simp[fm] at h <;> exact r.elim
def ja:List D->Option (List (cb×D))
 | []=>some []
 | .tup [k,v] :: r=>match fm k,ja r with
  | some k',some r'=>some ((k',v) :: r')
  | _,_=>none
 | _ :: _=>none
def f_:D->Option S
 | .lst ds=>(ja ds).bind λps=>if ps.length<=W9 then some (.own (.bA (mE ps []))) else none
 | .tup ds=>(ja ds).bind λps=>if ps.length<=W9 then some (.own (.bA (mE ps []))) else none
 | _=>none
theorem vp:∀ {ds:List D} {vs:List V} {ps:List (cb×D)},ja ds=some ps->aD H O vs ds->∃ kps,sm H vs kps/\DR H O kps ps/\kps.length=ps.length
 | [],[],ps,h,_=>by
  simp[ja] at h;subst h;exact⟨[],⟨rfl,λi y kv e=>by simp at e⟩,trivial,rfl⟩
 | [],_ :: _,_,_,r=>by have:=r.1; simp at this
 | _ :: _,[],_,_,r=>by have:=r.1; simp at this
 | d :: ds,v :: vs,ps,h,r=>by
  unfold ja at h;split at h
  ·rename_i heq; cases heq
  ·rename_i k w r' heq
   cases heq;split at h
   ·rename_i k' r'' hk hr
    cases h;obtain⟨kps,hP,hD,hL⟩:=vp hr r.tail;have rp:=r.head
    cases rp with
    | tup h1 h2 h3 h4 =>
     rename_i a us;match us,h3,h4,h2 with
     | [x,y],_,h4,h2 =>
      have rk:=h4 0 x k rfl rfl;have rv:=h4 1 y w rfl rfl;have ek:=Bn hk rk;subst ek;refine⟨(dY k',y) :: kps,⟨by simp[hP.1],λi z kv e1 e2=>?_⟩,⟨rfl,rv,hD⟩,by simp[hL]⟩
      cases i with
      | zero=>simp at e1 e2; subst e1 e2; exact⟨a,rfl,h2⟩
      | succ i=>exact hP.2 i z kv (by simpa using e1) (by simpa using e2)
   ·cases h
  ·cases h
theorem bp.Bo(k:Ok c σ δ H)(hp:H p=none)(r:DR H (Av c σ δ) ws ds):bp c σ δ H (upd H p (.dK ws)) (.ref p) (.own (.bA ds)):=by
 have up:∀ a w,H a=some w->upd H p (.dK ws) a=some w:=λa w e=>by rw[ba (gq e hp)]; exact e
 have r1:DR (upd H p (.dK ws)) (Av (c.plus p) σ δ) ws ds:=r.map λv d h=>(h.aJ λb z=>by
  rcases z with (z | z) | z
  ·exact .inl (.inl z)
  ·exact .inr (by rw[z]; exact hp)
  ·exact .inl (.inr z)).keep λb w e _=>up b w e
 exact⟨p,rfl,⟨ws,dq,r1.keys,r1.vals⟩,λz=>k.iX hp (.inl z),k.nt hp,k.plus hp _,hp⟩
section
variable {X:Cx} {c:Fc} {e:Expr} {fb:BE} {pos pp:Pos}
theorem K5:Qx "dict" = some (.type "dict"):=by decide +kernel
theorem vq (hc:X.calm=true) (hg:Gl X "dict") (hm:X.mg "dict" = none) (he:SB X c e fb) (hs:mB e=true:=by rfl):SE X c (.Call (.Name "dict" pp) [e] [] pos) (aK f_ fb) :=
 rR (r:=λv H Q=>∃ p ys kps,v = .ref p/\(H p=some (.tup ys)\/Rd H p (.lst ys))/\sm H ys kps/\kps.length<=W9/\∀ l,H l=none->Q (.ref l) (upd H l (.dK (fZ kps []))))
  (K3 hc) (λv H Q ⟨p,ys,kps,e,h⟩=>⟨p,ys,kps,by rw[e],h⟩)
  (λc σ δ H x d s Q k rx hp q=>by
   cases d with
   | lst ds =>
    simp only[f_] at hp
    cases hZ:ja ds with
    | none=>rw[hZ] at hp; cases hp
    | some ps =>
     rw[hZ] at hp;simp only[Qd] at hp;split at hp
     ·rename_i hz
      cases hp;obtain⟨a,vs,ex,ha,r⟩:=rx.lst;obtain⟨kps,hP,hD,hL⟩:=vp hZ r;exact⟨a,vs,kps,ex,.inr ha,hP,by rw[hL]; exact hz,λl hl=>q _ _ (.alloc k hl _) (bp.Bo k hl (DR.vn hD (ws:=[]) (ds:=[]) trivial))⟩
     ·cases hp
   | tup ds =>
    simp only[f_] at hp
    cases hZ:ja ds with
    | none=>rw[hZ] at hp; cases hp
    | some ps =>
     rw[hZ] at hp;simp only[Qd] at hp;split at hp
     ·rename_i hz
      cases hp;obtain⟨a,vs,ex,ha,r⟩:=rx.tup;obtain⟨kps,hP,hD,hL⟩:=vp hZ r;exact⟨a,vs,kps,ex,.inl ha,hP,by rw[hL]; exact hz,λl hl=>q _ _ (.alloc k hl _) (bp.Bo k hl (DR.vn hD (ws:=[]) (ds:=[]) trivial))⟩
     ·cases hp
   | _=>simp[f_] at hp) hg hm K5 he (by decide) (by decide) (nV hs)
end
theorem Bp(r:cO c σ δ H v (.bA ds)):∃ a ws,v = .ref a/\H a=some (.dK ws)/\DR H (Av c σ δ) ws ds:=by
 obtain⟨a,ws,e,h,k1,k2⟩:=r.bA;exact⟨a,ws,e,h,DR.of k1 k2⟩
def vt(neg:Bool):R2:=λx y H Q=>∃ a aa k,y = .ref a/\H a=some (.dK aa)/\x=kV k/\Q (.bl (if neg then !(fP aa k).isSome else(fP aa k).isSome)) H
theorem Rf(hu:X.A.units + 64 < WE):bT X (WN .In) (vt false):=by
 intro pins s σ H x y v u Q I rx ry h;obtain⟨a,aa,k,rfl,ha,rfl,q⟩:=h
 cases ry;exact Gu (by omega) I (k_.k ha) rx λs' I'=>⟨.bl _,H,I',rfl,q⟩
theorem K6(hu:X.A.units + 64 < WE):bT X (WN .NotIn) (vt true):=by
 intro pins s σ H x y v u Q I rx ry h;obtain⟨a,aa,k,rfl,ha,rfl,q⟩:=h
 cases ry;exact Gv (by omega) I (k_.k ha) rx λs' I'=>⟨.bl _,H,I',rfl,q⟩
def Bq(K:W4)(neg:Bool):R2:=λx y H Q=>vt neg x y H Q\/y_ K neg x y H Q\/∃ i j,x = .str i/\y = .str j/\Q (.bl (if neg then !(!(Builtin.Str.occurrences j i 0 j.length 1).isEmpty) else !(Builtin.Str.occurrences j i 0 j.length 1).isEmpty)) H
theorem K7{X:Cx}(hu:X.A.units + 64 < WE):bT X (WN .NotIn) (Bq X.K true):=(K6 hu).or (Ge.or Fj)
def iI(neg:Bool)(x y:D):Option S:=match y with
 | .bA ds=>(fm x).map λk=>.pure (.bl (if neg then !(fk ds k).isSome else(fk ds k).isSome))
 | .str y=>match x with
  | .str [n]=>some (.pure (.bl (if neg then !decide (n ∈ y) else decide (n ∈ y))))
  | _=>none
 | .lst ds=>match x,fU ds with
  | .str z,some ts=>some (.pure (.bl (if neg then !ts.contains z else ts.contains z)))
  | _,_=>none
 | .tup ds=>match x,fU ds with
  | .str z,some ts=>some (.pure (.bl (if neg then !ts.contains z else ts.contains z)))
  | _,_=>none
 | _=>none
theorem Br(z:Tx)(ts:List Tx):qO (V.str (toS z)) (ts.map λz=>V.str (toS z))=ts.contains z:=by
 unfold qO;rw[Jj];induction ts with
 | nil=>rfl
 | cons t r ih =>
  rw[WV,List.contains_cons,ih];congr 1
  show(toS t == toS z)=(z == t);rw[ny,Bool.beq_comm]
theorem Bs(ts:List Tx):(ts.map λz=>V.str (toS z)).all ki=true:=by
 rw[List.all_map];exact List.all_eq_true.mpr λ_ _=>rfl
theorem K8{K:W4}(neg:Bool):cQ (Bq K neg) (iI neg):=by
 intro c σ δ H x y d e s Q k rx ry hp q
 cases e <;> first | (simp[iI] at hp; done) | skip
 ·rename_i z;simp only[iI] at hp;split at hp <;> first | (cases hp; done) | skip
  rename_i n
  cases hp;refine .inr (.inr ⟨toS [n],toS z,rx.str,ry.str,?_⟩);rw[show toS [n] = ⟨#[n]⟩ from rfl,PySem.StrLaws.found_one,show(toS z).cps.toList=z by simp[toS]];exact q _ H (.refl k) (.bl _)
 ·rename_i ds;simp only[iI] at hp;split at hp <;> first | (cases hp; done) | skip
  rename_i z ts ht
  cases hp;obtain⟨a,vs,ea,ha,r⟩:=ry.tup;have ev:=nD ht r;refine .inr (.inl ⟨a,vs,ea,.inr (.of ha),by rw[rx.str]; rfl,by rw[ev]; exact Bs ts,?_⟩);rw[rx.str,ev,Br];exact q _ H (.refl k) (.bl _)
 ·rename_i ds;simp only[iI] at hp;split at hp <;> first | (cases hp; done) | skip
  rename_i z ts ht
  cases hp;obtain⟨a,vs,ea,ha,r⟩:=ry.lst;have ev:=nD ht r;refine .inr (.inl ⟨a,vs,ea,.inl (.inl ha),by rw[rx.str]; rfl,by rw[ev]; exact Bs ts,?_⟩);rw[rx.str,ev,Br];exact q _ H (.refl k) (.bl _)
 ·rename_i ds;simp only[iI] at hp
  cases hk:fm d with
  | none=>rw[hk] at hp; cases hp
  | some kk =>
   rw[hk] at hp
   cases hp;obtain⟨a,ws,ea,ha,dr⟩:=Bp ry;refine .inl ⟨a,ws,dY kk,ea,ha,vo hk rx,?_⟩;have:(fP ws (dY kk)).isSome=(fk ds kk).isSome:=by
    rcases dr.val kk with ⟨e1,e2⟩ | ⟨v,d,e1,e2,_⟩
    ·rw[e1,e2]; rfl
    ·rw[e1,e2]; rfl
   rw[this];exact q _ H (.refl k) (.bl _)
def pP:R2:=λx y H Q=>∃ a aa k v,x = .ref a/\H a=some (.dK aa)/\y=kV k/\fP aa k=some v/\Q v H
def bV:D->D->Option S
 | .bA ds,k=>(fm k).bind λk=>(fk ds k).map .pure
 | x,y=>aw x y
theorem K9(hu:X.A.units + 64 < WE):gL X pP:=by
 intro value slice pins s σ H x y v u Q I rx ry h hs;obtain⟨a,aa,k,w,rfl,ha,rfl,hv,q⟩:=h
 cases rx;obtain⟨_,_,vs,_,dd⟩:=uj I.aC ha;have hT:s.TypeIs (.ref a) "dict":=dd.typeIs;exact tail_any hT F.slot_dict_getitem.lookup (Gs (v:=w) (by omega) I (by rw[<- hv]; exact k_.k ha) ry λw' s' I' aL=>⟨w,H,I',aL,q⟩) hs
theorem jA{K:W4}:cQ (λx y H Q=>pP x y H Q\/m_ K x y H Q) bV:=by
 intro c σ δ H x y d e s Q k rx ry hp q
 cases d with
 | bA ds =>
  simp only[bV] at hp
  cases hk:fm e with
  | none=>rw[hk] at hp; cases hp
  | some kk =>
   rw[hk] at hp;simp only[Qd,WA] at hp;obtain⟨dv,hv,rfl⟩:=hp;obtain⟨a,ws,ea,ha,dr⟩:=Bp rx;rcases dr.val kk with ⟨e1,e2⟩ | ⟨v,d',e1,e2,r⟩
   ·rw[e1] at hv; cases hv
   ·rw[e1] at hv; cases hv
    exact .inl ⟨a,ws,dY kk,v,ea,ha,vo hk ry,e2,q v H (.refl k) r⟩
 | _=>exact .inr (cm c σ δ H x y _ e s Q k rx ry hp q)
end DV
namespace PySem
open Sem (wp)
open AutoSeq1 (wpAny_loadPart')
section
variable {prog:Wm} {w:Wr} {A:Ws} {E:Value->W2->Prop} {s:W2}
end
end PySem
namespace L2
open PySem PySem.Spec PyProof.Rows
section
variable {X:Cx} {pins:List (Addr×Obj)} {σ:St} {H:Hp} {s:W2} {h':Heap}
theorem Inv.sr(fp:List Addr)(I:Inv X pins σ H s)(k:∀ b o,b ∉ fp->s.heap.get? b=some o->h'.get? b=some o)(hf:∀ b ∈ fp,gJ X pins H b):Inv X pins σ H { s with heap:=h',toks:=t' }:=by
 have kQ:∀ b u,H b=some u->b ∉ fp:=λb u e z=>by rw[(hf b z).1] at e; cases e
 refine I.step (g':=s.gens) (d':=s.drawn) (ch:=fp) (λb hb=>?_) (λb o _ _ hc e _=>k b o hc e) (λb o _ _ hc e _=>⟨o.slots,k b o hc e⟩) (λ_ _ _ _ n=>n)
  (λb o hc e=>⟨o,k b o hc e⟩) (λ_ _ e=>e) (λ_ _ _ e=>e) (λb ps e=>⟨#[],by rw[e]; simp⟩) (λm hm=>?_) (λb u e=>?_) I.bare
 ·obtain⟨f0,f1,f2,f3,f4,f5⟩:=hf b hb;exact⟨f3,f1,f4,f5⟩
 ·obtain⟨o,es,ep,ho,r⟩:=hm;exact⟨o,es,ep,k _ o (λz=>(hf _ z).2.1 rfl) ho,r⟩
 ·refine(I.aC b u e).mT (λc v hc q=>k c v ?_ q) (λ_ q=>q) (λ_ _ q=>q) λ_ _ _ q=>q
  rcases hc with z | z
  ·rw[z]; exact kQ b u e
  ·exact kQ c _ z
end
end L2
namespace DV
open PySem PySem.Spec PyProof.Rows L2
section
variable {X:Cx} {c:Fc} {tg e:Expr} {fe:DE} {pos pp:Pos}
end
end DV
namespace HT
open PySem PySem.Spec PyProof.Rows
section
variable {prog:Wm} {w:Wr} {A:Ws} {E:Value->W2->Prop} {s:W2}
end
end HT
namespace DV
open PySem PySem.Spec PyProof.Rows L2
section
variable {X:Cx} {c:Fc} {e:Expr} {fb:BE} {pos p2:Pos}
end
def Fc.cC(c:Fc)(i:Nat)(a:Addr):Fc:=⟨c.H₀,λb=>c.B b\/b=a,(i,a) :: c.pin,c.xc⟩
theorem Np.cC(h:Np c np):Np (c.cC i a) (i :: np):=λp hp=>by
 rcases Wo.mp hp with e | hp
 ·subst e; simp
 ·have:=h p hp;simp at this ⊢;exact .inr this
section
variable {c:Fc} {σ σ':St} {δ δ':Dl} {H H':Hp} {i:Nat} {a:Addr} {ds:List D}
theorem Own.unset(h:Own σ (δ.set i none) b):Own σ δ b:=by
 obtain⟨j,d',e1,e2⟩:=h;by_cases hj:i=j
 ·subst hj;rw[Q3] at e1;split at e1
  ·split at e1 <;> cases e1
  ·rename_i q; exact absurd rfl q
 ·rw[W5 hj] at e1;exact⟨j,d',e1,e2⟩
theorem nY(k:Ok c σ δ H)(e:δ[i]? = some (some (.own (.lst ds))))(ea:σ[i]? = some (some (.ref a)))(b:Addr)(z:Av (c.cC i a) σ (δ.set i none) b):Av c σ δ b:=by
 rcases z with (z | z) | z
 ·exact .inl z
 ·subst z; exact .inr ⟨i,_,e,ea⟩
 ·exact .inr z.unset
theorem vw(k:Ok c σ δ H)(e:δ[i]? = some (some (.own (.lst ds))))(ea:σ[i]? = some (some (.ref a))):¬ Own σ (δ.set i none) a:=λz=>by
 obtain⟨j,d',e1,e2⟩:=z;by_cases hj:i=j
 ·subst hj;rw[Q3] at e1;split at e1
  ·split at e1 <;> cases e1
  ·rename_i q; exact absurd rfl q
 ·rw[W5 hj] at e1;exact hj (k.inj i j a _ _ e e1 ea e2)
theorem Ok.cC(k:Ok c σ δ H)(e:δ[i]? = some (some (.own (.lst ds))))(ea:σ[i]? = some (some (.ref a))):Ok (c.cC i a) σ (δ.set i none) H:=by
 have sub:=nY k e ea;have ne:∀ j d,(δ.set i none)[j]? = some (some d)->i≠j/\δ[j]? = some (some d):=λj d q=>by
  by_cases hj:i=j
  ·subst hj;rw[Wn (W3.mp e).1] at q; cases q
  ·rw[W5 hj] at q; exact⟨hj,q⟩
 refine⟨λb o h n=>k.keep b o h λ⟨j,z⟩=>n ⟨j,Wc _ z⟩,λb z=>?_,λb ⟨j,z⟩=>?_,by rw[WT]; exact k.len,λj d q=>?_,λj d q=>?_,λj l b d d' q1 q2=>?_,λp hp=>?_⟩
 ·rcases z with z | z
  ·exact k.bd b z
  ·subst z; exact k.nq ⟨i,_,e,ea⟩
 ·rcases Wo.mp z with z | z
  ·cases z; exact k.nq ⟨i,_,e,ea⟩
  ·exact k.dM b ⟨j,z⟩
 ·obtain⟨_,q⟩:=ne j _ q;obtain⟨v,g1,g2⟩:=k.slot j d q;exact⟨v,g1,g2.aJ λb z=>.inl (sub b z)⟩
 ·obtain⟨hj,q⟩:=ne j _ q;obtain⟨b,g1,g2,g3,g4⟩:=k.own j d q;refine⟨b,g1,g2.aJ λb z=>.inl (sub b z),g3.imp (λ⟨l,z⟩=>⟨l,Wc _ z⟩) id,λz=>?_⟩;rcases z with z | z
  ·exact g4 z
  ·subst z; exact hj (k.inj i j b _ _ e q ea g1)
 ·exact k.inj j l b d d' (ne j _ q1).2 (ne l _ q2).2
 ·rcases Wo.mp hp with z | z
  ·subst z; exact ea
  ·exact k.pinned p z
theorem aQ.pQ(k:Ok c σ δ H)(e:δ[i]? = some (some (.own (.lst ds))))(ea:σ[i]? = some (some (.ref a)))(x:aQ (c.cC i a) σ (δ.set i none) H σ' δ' H') :
  aQ c σ δ H σ' (δ'.set i (some (.own (.lst ds)))) H'/\∀ b,Av c σ' (δ'.set i (some (.own (.lst ds)))) b->Av (c.cC i a) σ' δ' b:=by
 have k':=x.ok;have cF:σ'[i]? = some (some (.ref a)):=k'.pinned (i,a) We;have gr:i < δ'.length:=by rw[k'.len]; exact(W3.mp cF).1
 obtain⟨a0,f1,f2,f3,f4⟩:=k.own i _ e;rw[ea] at f1; cases f1
 have ne:∀ j d,(δ'.set i (some (.own (.lst ds))))[j]? = some (some d)->(j=i/\d = .own (.lst ds))\/(i≠j/\δ'[j]? = some (some d)):=λj d q=>by
  by_cases hj:i=j
  ·subst hj;rw[Wn gr] at q
   cases q; exact .inl ⟨rfl,rfl⟩
  ·rw[W5 hj] at q; exact .inr ⟨hj,q⟩
 have own:∀ b,Own σ' (δ'.set i (some (.own (.lst ds)))) b->b=a\/Own σ' δ' b:=λb ⟨j,d,q1,q2⟩=>by
  rcases ne j _ q1 with ⟨z,_⟩ | ⟨_,z⟩
  ·subst z; rw[cF] at q2; cases q2; exact .inl rfl
  ·exact .inr ⟨j,d,z,q2⟩
 have sub:∀ b,Av c σ' (δ'.set i (some (.own (.lst ds)))) b->Av (c.cC i a) σ' δ' b:=λb z=>by
  rcases z with z | z
  ·exact .inl (.inl z)
  ·rcases own b z with z | z
   ·exact .inl (.inr z)
   ·exact .inr z
 have na:∀ (j:Nat) (d:D) (b:Addr),δ'[j]? = some (some (.own d))->σ'[j]? = some (some (.ref b))->b≠a:=λj d b q1 q2 z=>by
  obtain⟨b',g1,_,_,g4⟩:=k'.own j d q1;rw[q2] at g1; cases g1
  exact g4 (.inr z)
 refine⟨⟨⟨λb o h n=>?_,λb z=>k'.bd b (.inl z),λb ⟨j,z⟩=>k'.dM b ⟨j,Wc _ z⟩,by rw[WT]; exact k'.len,λj d q=>?_,λj d q=>?_,λj l b d d' q1 q2 s1 s2=>?_,λp hp=>k'.pinned p (Wc _ hp)⟩,λb o h n=>x.keep b o h λz=>n z.unset,λb z=>?_,x.there⟩,sub⟩
 ·refine k'.keep b o h λ⟨j,z⟩=>?_
  rcases Wo.mp z with z | z
  ·cases z;rcases f3 with f3 | f3
   ·exact n f3
   ·rw[f3] at h; cases h
  ·exact n ⟨j,z⟩
 ·rcases ne j _ q with ⟨_,z⟩ | ⟨_,q⟩
  ·cases z
  ·obtain⟨v,g1,g2⟩:=k'.slot j d q;exact⟨v,g1,g2.aJ λb z=>.inl (sub b z)⟩
 ·rcases ne j _ q with ⟨z,z'⟩ | ⟨hj,q⟩
  ·subst z; cases z'
   obtain⟨vs,h1,h2⟩:=f2;refine⟨a,cF,⟨vs,x.keep a _ h1 (vw k e ea),?_⟩,f3,f4⟩;have r1:aD H (Av (c.cC j a) σ (δ.set j none)) vs ds:=aD.aJ h2 λb z=>.inl (nY k e ea b z)
   exact aD.aJ (aD.dO r1 x) λb z=>.inl (sub b z)
  ·obtain⟨b,g1,g2,g3,g4⟩:=k'.own j d q;refine⟨b,g1,g2.aJ λb z=>.inl (sub b z),g3.imp (λ⟨l,z⟩=>?_) id,λz=>g4 (.inl z)⟩;rcases Wo.mp z with z | z
   ·cases z; exact absurd (.inr rfl) g4
   ·exact⟨l,z⟩
 ·rcases ne j _ q1 with ⟨z,_⟩ | ⟨hj,z1⟩ <;> rcases ne l _ q2 with ⟨z',_⟩ | ⟨hl,z2⟩
  ·rw[z,z']
  ·subst z; rw[cF] at s1; cases s1; exact absurd rfl (na l _ _ z2 s2)
  ·subst z'; rw[cF] at s2; cases s2; exact absurd rfl (na j _ _ z1 s1)
  ·exact k'.inj j l b d d' z1 z2 s1 s2
 ·rcases own b z with z | z
  ·subst z; exact .inl ⟨i,_,e,ea⟩
  ·rcases x.own b z with q | q
   ·exact .inl q.unset
   ·exact .inr q
end
def Rg(i:Nat)(g:DG)(b:DS):DS:=λδ=>match δ[i]? with
 | some (some (.own (.lst ds)))=>(forL g b ds (δ.set i none)).bind λfl δ'=>match fl with
  | .ret (.own _)=>.stuck
  | fl=>.ok fl (δ'.set i (some (.own (.lst ds))))
 | _=>.stuck
section
variable {X:Cx} {c:Fc} {tg iter:Expr} {body:List Stmt} {g:DG} {b:DS} {i:Nat} {pos:Pos}
theorem K_(hn:¬ Own σ δ a)(h:H a=some (.lst vs))(r:aD H (Av c σ δ) vs ds):kA c σ δ H (qE X.K a) ds:=by
 intro H2 kp;have h5:Rd H2 a (.lst vs):=.inl (kp a _ h hn);refine⟨⟨vs,.inl h5,by rw[r.1]; exact Wk _⟩,λi d e=>?_⟩;obtain⟨v,ev,rv⟩:=r.get e;refine⟨⟨vs,v,.inl h5,ev⟩,λx H3 ⟨e3,y⟩=>.inl ⟨e3,?_⟩⟩;have:=y vs (.inl h5);rw[ev] at this
 cases this;exact rv
def kF(np:List Nat)(i:Nat):DS:=λδ=>match δ[i]? with
 | some (some (.own d))=>if np.contains i || !np.all (bJ δ) then .ok (.ret (.pure d)) (δ.set i (some (.pure d))) else .ok (.ret (.own d)) (δ.set i none)
 | some (some (.pure d))=>.ok (.ret (.pure d)) δ
 | _=>.stuck
theorem Bt{np:List Nat}{e:Expr}(ay:Np c np)(he:PE X e (c9 i)):SS X c (.Return (some e) pos) (kF np i):=PS.weak (yl he) λD σ H ⟨δ,k,q⟩=>by
 unfold kF eV at q;split at q
 ·rename_i d e;obtain⟨a,ea,oa,ia,nb⟩:=k.own i d e;refine⟨.ref a,ea,?_⟩;split at q
  ·obtain⟨a',cF,x,r⟩:=k.give e;rw[ea] at cF; cases cF
   exact q σ H x _ r
  ·rename_i hc;simp only[Bool.or_eq_true,not_or,Bool.not_eq_true,Bool.not_eq_false',Qe] at hc;obtain⟨su,hc2⟩:=hc;have nI:¬ c.I a:=λ⟨j,z⟩=>by
    have z1:=ay (j,a) z;have z2:=k.pinned (j,a) z;have z3:=hc2 j (by simpa using z1);unfold bJ at z3;split at z3
    ·rename_i d' ej;have:=k.inj i j a _ _ e ej ea z2;subst this;rw[z1] at su; cases su
    ·cases z3
   have h0:c.H₀ a=none:=ia.resolve_left nI;have hi:i < δ.length:=(W3.mp e).1;have ne:∀ j d,(δ.set i none)[j]? = some (some d)->i≠j/\δ[j]? = some (some d):=λj d q=>by
    by_cases hj:i=j
    ·subst hj;rw[Wn hi] at q; cases q
    ·rw[W5 hj] at q; exact⟨hj,q⟩
   have sub:∀ b,Av (c.plus a) σ (δ.set i none) b->Av c σ δ b:=λb z=>by
    rcases z with (z | z) | z
    ·exact .inl z
    ·subst z; exact .inr ⟨i,_,e,ea⟩
    ·exact .inr z.unset
   have kp:Ok (c.plus a) σ (δ.set i none) H:=by
    refine⟨k.keep,λb z=>?_,k.dM,by rw[WT]; exact k.len,λj d q=>?_,λj d q=>?_,λj l b d d' q1 q2=>k.inj j l b d d' (ne j _ q1).2 (ne l _ q2).2,k.pinned⟩
    ·rcases z with z | z
     ·exact k.bd b z
     ·subst z; exact k.nq ⟨i,_,e,ea⟩
    ·obtain⟨_,q⟩:=ne j _ q;obtain⟨v,g1,g2⟩:=k.slot j d q;exact⟨v,g1,g2.aJ λb z=>.inl (sub b z)⟩
    ·obtain⟨hj,q⟩:=ne j _ q;obtain⟨b,g1,g2,g3,g4⟩:=k.own j d q;refine⟨b,g1,g2.aJ λb z=>.inl (sub b z),g3,λz=>?_⟩;rcases z with z | z
     ·exact g4 z
     ·subst z; exact hj (k.inj i j b _ _ e q ea g1)
   have x:aQ c σ δ H σ (δ.set i none) H:=by
    refine⟨⟨k.keep,k.bd,k.dM,by rw[WT]; exact k.len,λj d q=>?_,λj d q=>?_,λj l b d d' q1 q2=>k.inj j l b d d' (ne j _ q1).2 (ne l _ q2).2,k.pinned⟩,λ_ _ w _=>w,λb z=>.inl z.unset,λ_ o w=>⟨o,w⟩⟩
    ·obtain⟨_,q⟩:=ne j _ q;obtain⟨v,g1,g2⟩:=k.slot j d q;exact⟨v,g1,g2.aJ λb z=>.inl (z.elim .inl λz=>.inr z.unset)⟩
    ·obtain⟨hj,q⟩:=ne j _ q;obtain⟨b,g1,g2,g3,g4⟩:=k.own j d q;exact⟨b,g1,g2.aJ λb z=>.inl (z.elim .inl λz=>.inr z.unset),g3,g4⟩
   exact q σ H x _ ⟨a,rfl,oa.aJ λb z=>.inl (sub b z),nb,h0,kp,h0⟩
 ·rename_i d e;obtain⟨v,e1,r⟩:=k.slot i d e;exact⟨v,e1,q σ H (.refl k) v r⟩
 ·exact q.elim
end
theorem jB(hu:X.A.units + 64 < WE):gL X (λx y H Q=>pP x y H Q\/m_ X.K x y H Q):=(K9 hu).or ck
end DV
namespace L2
open PySem PySem.Spec PyProof.Rows
section
variable {X:Cx}
end
end L2
namespace DV
open PySem PySem.Spec PyProof.Rows L2
section
variable {X:Cx} {c:Fc} {e:Expr} {fe:DE} {pos:Pos}
end
section
variable {c:Fc} {σ:St} {δ δ':Dl} {H H':Hp} {i:Nat} {a p:Addr} {ds:List D}
theorem Ok.La(k:Ok c σ δ H)(e:δ[i]? = some (some (.own (.lst ds))))(ea:σ[i]? = some (some (.ref a)))(x:aQ (c.cC i a) σ (δ.set i none) H σ δ' H')(kp:Ok ((c.cC i a).plus p) σ δ' H')(hp:H p=none):Ok (c.plus p) σ (δ'.set i (some (.own (.lst ds)))) H':=by
 obtain⟨y,_⟩:=x.pQ k e ea;have k1:=y.ok;have k':=x.ok;have gr:i < δ'.length:=by rw[k'.len]; exact(W3.mp ea).1
 have pa:p≠a:=λz=>by
  obtain⟨o,ho⟩:=k.nq ⟨i,_,e,ea⟩;rw[<- z,hp] at ho; cases ho
 have ne:∀ j d,(δ'.set i (some (.own (.lst ds))))[j]? = some (some d)->(j=i/\d = .own (.lst ds))\/(i≠j/\δ'[j]? = some (some d)):=λj d q=>by
  by_cases hj:i=j
  ·subst hj;rw[Wn gr] at q
   cases q; exact .inl ⟨rfl,rfl⟩
  ·rw[W5 hj] at q; exact .inr ⟨hj,q⟩
 have sub:∀ b,Av (c.plus p) σ (δ'.set i (some (.own (.lst ds)))) b->Av ((c.cC i a).plus p) σ δ' b:=λb z=>by
  rcases z with (z | z) | ⟨j,d,q1,q2⟩
  ·exact .inl (.inl (.inl z))
  ·exact .inl (.inr z)
  ·rcases ne j _ q1 with ⟨z,_⟩ | ⟨_,z⟩
   ·subst z; rw[ea] at q2; cases q2; exact .inl (.inl (.inr rfl))
   ·exact .inr ⟨j,d,z,q2⟩
 refine⟨k1.keep,λb z=>?_,k1.dM,k1.len,λj d q=>?_,λj d q=>?_,k1.inj,k1.pinned⟩
 ·rcases z with z | z
  ·exact k1.bd b z
  ·exact kp.bd b (.inr z)
 ·rcases ne j _ q with ⟨_,z⟩ | ⟨_,q⟩
  ·cases z
  ·obtain⟨v,g1,g2⟩:=kp.slot j d q;exact⟨v,g1,g2.aJ λb z=>.inl (sub b z)⟩
 ·rcases ne j _ q with ⟨z,z'⟩ | ⟨hj,q'⟩
  ·subst z; cases z'
   obtain⟨a0,f1,f2,f3,f4⟩:=k.own j _ e;rw[ea] at f1; cases f1
   obtain⟨vs,h1,h2⟩:=f2;refine⟨a,ea,⟨vs,x.keep a _ h1 (vw k e ea),?_⟩,f3,λz=>z.elim f4 λz=>pa z.symm⟩;have r1:aD H (λb=>Av (c.cC j a) σ (δ.set j none) b\/Av ((c.cC j a).plus p) σ δ' b) vs ds:=aD.aJ h2 λb z=>by
    rcases z with z | z
    ·exact .inl (nY k e ea b z)
    ·rcases z with (z | z) | z
     ·exact .inl (nY k e ea b (.inl z))
     ·exact .inr (by rw[z]; exact hp)
     ·rcases x.own b z with q | q
      ·exact .inl (nY k e ea b (.inr q))
      ·exact .inr q
   have r2:=aD.keep r1 (H':=H') λb w e n=>x.keep b w e λz=>n (.inl (.inr z))
   exact aD.aJ r2 λb z=>.inl (.inr (sub b z))
  ·obtain⟨b,g1,g2,g3,g4⟩:=kp.own j d q';obtain⟨b',f1,_,f3,_⟩:=k1.own j d q;rw[g1] at f1; cases f1
   exact⟨b,g1,g2.aJ λb z=>.inl (sub b z),f3,λz=>z.elim (λz=>g4 (.inl (.inl z))) λz=>g4 (.inr z)⟩
theorem bp.pQ(k:Ok c σ δ H)(e:δ[i]? = some (some (.own (.lst ds))))(ea:σ[i]? = some (some (.ref a)))(x:aQ (c.cC i a) σ (δ.set i none) H σ δ' H')(h:bp (c.cC i a) σ δ' H H' v r):bp c σ (δ'.set i (some (.own (.lst ds)))) H H' v r:=by
 obtain⟨y,sub⟩:=x.pQ k e ea
 cases r with
 | pure d=>exact Rep.aJ (show Rep H' (Av (c.cC i a) σ δ') v d from h) λb z=>.inl (sub b z)
 | own d =>
  obtain⟨p,e1,o,n,f,kp,hs⟩:=h;refine⟨p,e1,o.aJ λb z=>.inl ?_,λz=>n (.inl z),f,Ok.La k e ea x kp hs,hs⟩;rcases z with (z | z) | z
  ·exact .inl (.inl (.inl z))
  ·exact .inl (.inr z)
  ·rcases sub b (.inr z) with z | z
   ·exact .inl (.inl z)
   ·exact .inr z
end
open Classical in
noncomputable def itAt (δ₀:Dl) (ds:List D):DI:=λδ=>if δ=δ₀ then .ok ds δ else .stuck
def nZ(cs:List Nat)(i:Nat)(g:DG)(t:DT)(el:DE):DE:=λδ=>match δ[i]? with
 | some (some (.own (.lst ds)))=>if cs.any (bJ (δ.set i none)) then .stuck else
  (cg cs g t el ds (bD cs (δ.set i none)) []).bind λacc δ2=>.ok (.own (.lst acc)) ((cI cs (δ.set i none) δ2).set i (some (.own (.lst ds))))
 | _=>.stuck
section
variable {X:Cx} {c:Fc} {cs:List Nat} {tg iter elt:Expr} {ifs:List Expr} {scope:Scope} {pos:Pos} {g:DG} {t:DT} {el:DE} {i:Nat}
theorem Lb(hg:∀ a l v σ H Q,nR cs ((c.cC i a).plus l) g v σ H Q->gt v σ H Q)(ht:∀ a l σ H Q,tT ((c.cC i a).plus l) t σ H Q->tt σ H Q)(he:∀ a l σ H Q,tD ((c.cC i a).plus l) el σ H Q->te σ H Q)
  (hp:∀ p ∈ c.pin,p.1 ∉ cs) (hi:i ∉ cs) (h:tD c (nZ cs i g t el) σ H Q):qZ cs (A_ X.K (c9 i)) gt tt te σ H Q:=by
 obtain⟨δ,k,q⟩:=h;unfold nZ at q;split at q
 case h_2=>exact q.elim
 rename_i ds e;obtain⟨a,ea,⟨vs,hv,rv⟩,f3,f4⟩:=k.own i _ e;have kp:=k.cC e ea;have iX:=vw k e ea;have r1:aD H (Av (c.cC i a) σ (δ.set i none)) vs ds:=aD.aJ rv λb z=>.inl (nY k e ea b z)
 have io:kA (c.cC i a) σ (δ.set i none) H (qE X.K a) ds:=K_ iX hv r1;have h':tD (c.cC i a) (bU cs (itAt (δ.set i none) ds) g t el) σ H Q:=by
  refine⟨δ.set i none,kp,?_⟩;unfold bU itAt;rw[if_pos rfl];show post (c.cC i a) (if cs.any (bJ (δ.set i none)) then .stuck else _) _;split at q
  ·exact q.elim
  ·rename_i dX;rw[if_neg dX];rw[bC] at q ⊢;have q2:post (c.cC i a) (cg cs g t el ds (bD cs (δ.set i none)) []) λacc δ2=>∀ v H',aQ c σ δ H σ ((cI cs (δ.set i none) δ2).set i (some (.own (.lst ds)))) H'->bp c σ ((cI cs (δ.set i none) δ2).set i (some (.own (.lst ds)))) H H' v (.own (.lst acc))->Q v H':=by
    cases hf:cg cs g t el ds (bD cs (δ.set i none)) [] with
    | ok fl δ'=>rw[hf] at q; exact q
    | exc x δx=>rw[hf] at q; exact q
    | stuck=>rw[hf] at q; exact q
   exact aU q2 λacc δ2 q3 v H' x r=>q3 v H' (x.pQ k e ea).1 (bp.pQ k e ea x r)
 have nQ:∀ p ∈ (c.cC i a).pin,p.1 ∉ cs:=λp hm=>by
  rcases Wo.mp hm with z | z
  ·subst z; exact hi
  ·exact hp p z
 have w:=u6 (c:=c.cC i a) (wi:=tI (c.cC i a) (itAt (δ.set i none) ds)) (gt:=gt) (tt:=tt) (te:=te) (λ_ _ _ h=>h) (hg a) (ht a) (he a) nQ h';obtain⟨δ1,k1,q1⟩:=w;unfold itAt at q1;split at q1
 ·rename_i e1;subst e1;exact⟨.ref a,ea,.inl ⟨a,rfl,⟨vs,.inl (.inl hv)⟩,q1 _ H (.refl k1) io⟩⟩
 ·exact q1.elim
theorem Lc(hc:X.calm=true)(S:lh X scope cs)(hv:PE X iter (c9 i))(hg:∀ a l s₀ H₀ ex,nS (eC X scope s₀ H₀ ex) ((c.cC i a).plus l) cs tg g)(ht:∀ a l s₀ H₀ ex,pH (eC X scope s₀ H₀ ex) ((c.cC i a).plus l) ifs t)
  (he:∀ a l s₀ H₀ ex,SE (eC X scope s₀ H₀ ex) ((c.cC i a).plus l) elt el) (hp:∀ p ∈ c.pin,p.1 ∉ cs) (hi:i ∉ cs) (hs:∀ x,QD iter X.env x=pure x:=by intro _; rfl) :
  SE X c (.ListComp elt [⟨tg,iter,ifs,0⟩] scope pos) (nZ cs i g t el) :=
 PE.weak (zJ (g:=λv σ H Q=>∃ a l,nR cs ((c.cC i a).plus l) g v σ H Q) (tt:=λσ H Q=>∃ a l,tT ((c.cC i a).plus l) t σ H Q) (te:=λσ H Q=>∃ a l,tD ((c.cC i a).plus l) el σ H Q) hc S (Ba hv)
  (λs₀ H₀ ex pins s σ H v u Q I r ⟨a,l,q⟩=>hg a l s₀ H₀ ex pins s σ H v u Q I r q) (λs₀ H₀ ex pins s σ H Q I ⟨a,l,q⟩=>ht a l s₀ H₀ ex pins s σ H Q I q) (λs₀ H₀ ex pins s σ H Q I ⟨a,l,q⟩=>he a l s₀ H₀ ex pins s σ H Q I q) hs)
  λσ H Q h=>Lb (λa l _ _ _ _ h=>⟨a,l,h⟩) (λa l _ _ _ h=>⟨a,l,h⟩) (λa l _ _ _ h=>⟨a,l,h⟩) hp hi h
end
section
variable {X:Cx} {c:Fc} {e:Expr} {fe:DE} {pos pos':Pos}
end
section
variable {X:Cx} {c:Fc} {pp pos:Pos}
end
section
variable {c:Fc} {σ:St} {δ:Dl} {H:Hp} {a:Addr} {d:D}
theorem h9(h:(xs ++ [x])[i]? = some y):xs[i]? = some y\/(i=xs.length/\y=x):=by
 rw[List.getElem?_append] at h;split at h
 ·exact .inl h
 ·rename_i hi;right
  have:i - xs.length=0:=by
   cases hk:i - xs.length with
   | zero=>rfl
   | succ k=>rw[hk] at h; simp at h
  rw[this] at h;simp at h;exact⟨by omega,h.symm⟩
theorem getL{α:Type}{xs:List α}{x y:α}{i:Nat}(h:xs[i]? = some y):(xs ++ [x])[i]? = some y:=by
 rw[Jd (W3.mp h).1]; exact h
theorem Bu(hl:δ.length=σ.length):Own (σ ++ [some (V.ref a)]) (δ ++ [some (S.own d)]) b->Own σ δ b\/b=a:=by
 rintro ⟨i,d',e1,e2⟩;rcases h9 e1 with e1 | ⟨hi,_⟩
 ·rcases h9 e2 with e2 | ⟨hi,_⟩
  ·exact .inl ⟨i,d',e1,e2⟩
  ·have:=(W3.mp e1).1; omega
 ·rcases h9 e2 with e2 | ⟨_,e2⟩
  ·have:=(W3.mp e2).1; omega
  ·cases e2; exact .inr rfl
theorem sv(hl:δ.length=σ.length)(h:Av c (σ ++ [some (V.ref a)]) (δ ++ [some (S.own d)]) b):Av (c.plus a) σ δ b:=by
 rcases h with h | h
 ·exact .inl (.inl h)
 ·rcases Bu hl h with h | h
  ·exact .inr h
  ·exact .inl (.inr h)
theorem Ok.Ld(k:Ok (c.plus a) σ δ H)(o:fj H (Av (c.plus a) σ δ) a d)(nb:¬ c.B a)(h0:c.H₀ a=none):Ok c (σ ++ [some (.ref a)]) (δ ++ [some (.own d)]) H:=by
 have hl:=k.len;refine⟨k.keep,λb z=>k.bd b (.inl z),k.dM,by simp[hl],λi d' e=>?_,λi d' e=>?_,λi j b d1 d2 e1 e2 s1 s2=>?_,λp hp=>getL (k.pinned p hp)⟩
 ·rcases h9 e with e | ⟨_,e⟩
  ·obtain⟨v,g1,g2⟩:=k.slot i d' e;exact⟨v,getL g1,g2.aJ λb z=>.inl (sv hl z)⟩
  ·cases e
 ·rcases h9 e with e | ⟨hi,e⟩
  ·obtain⟨b,g1,g2,g3,g4⟩:=k.own i d' e;exact⟨b,getL g1,g2.aJ λb z=>.inl (sv hl z),g3,λz=>g4 (.inl z)⟩
  ·cases e;subst hi;exact⟨a,by rw[hl]; simp,o.aJ λb z=>.inl (sv hl z),.inr h0,nb⟩
 ·have na:∀ (i:Nat) (d:D),δ[i]? = some (some (.own d))->σ[i]? = some (some (.ref a))->False:=λi d q1 q2=>nr k ⟨i,d,q1,q2⟩
  rcases h9 e1 with e1 | ⟨h1,_⟩ <;> rcases h9 e2 with e2 | ⟨h2,_⟩
  ·have i1:=(W3.mp e1).1;have i2:=(W3.mp e2).1;rcases h9 s1 with s1 | ⟨z,_⟩
   ·rcases h9 s2 with s2 | ⟨z,_⟩
    ·exact k.inj i j b d1 d2 e1 e2 s1 s2
    ·omega
   ·omega
  ·subst h2;rw[hl] at s2;have hb:b=a:=by simpa using s2.symm
   subst hb;rcases h9 s1 with s1 | ⟨z,_⟩
   ·exact(na i d1 e1 s1).elim
   ·have:=(W3.mp e1).1; omega
  ·subst h1;rw[hl] at s1;have hb:b=a:=by simpa using s1.symm
   subst hb;rcases h9 s2 with s2 | ⟨z,_⟩
   ·exact(na j d2 e2 s2).elim
   ·have:=(W3.mp e2).1; omega
  ·rw[h1,h2]
theorem Ok.vx(hl:δ.length=σ.length)(k:Ok c (σ ++ [some (.ref a)]) (δ ++ [some (.own d)]) H)(hp:∀ p ∈ c.pin,p.1 < σ.length):Ok c σ δ H:=by
 have sub:∀ b,Av c σ δ b->Av c (σ ++ [some (.ref a)]) (δ ++ [some (.own d)]) b:=λb z=>z.elim .inl λ⟨i,d',e1,e2⟩=>.inr ⟨i,d',getL e1,getL e2⟩
 refine⟨k.keep,k.bd,k.dM,hl,λi d' e=>?_,λi d' e=>?_,λi j b d1 d2 e1 e2 s1 s2=>k.inj i j b d1 d2 (getL e1) (getL e2) (getL s1) (getL s2),λp hm=>?_⟩
 ·obtain⟨v,g1,g2⟩:=k.slot i d' (getL e);have hi:=(W3.mp e).1;rcases h9 g1 with g1 | ⟨z,_⟩
  ·exact⟨v,g1,g2.aJ λb z=>.inl (sub b z)⟩
  ·omega
 ·obtain⟨b,g1,g2,g3⟩:=k.own i d' (getL e);have hi:=(W3.mp e).1;rcases h9 g1 with g1 | ⟨z,_⟩
  ·exact⟨b,g1,g2.aJ λb z=>.inl (sub b z),g3⟩
  ·omega
 ·rcases h9 (k.pinned p hm) with g | ⟨z,_⟩
  ·exact g
  ·have:=hp p hm; omega
end
def n4(G:DF)(f0:DE)(as:List Ak):DE:=λδ=>if (bz as).isEmpty then(f0 δ).bind λr δ1=>match r with
  | .own d=>(b_ as δ1).bind λds δ2=>match bK as ds δ2 with
   | none=>.stuck
   | some ss=>match G (.own d :: ss) with
    | none=>.stuck
    | some (r,_)=>.ok r δ2
  | _=>.stuck
 else .stuck
theorem Bv:∀ {as:List Ak} {ds:List (Option D)} {δ:Dl},bz as=[]->bK as ds (δ ++ [x])=bK as ds δ
 | [],[],δ,_=>rfl
 | [],_ :: _,δ,_=>rfl
 | .val f :: as,[],δ,_=>rfl
 | .val f :: as,none :: ds,δ,_=>rfl
 | .val f :: as,some d :: ds,δ,h=>by
  simp only[bK];rw[Bv (as:=as) (ds:=ds) (δ:=δ) (by simpa[bz] using h)]
 | .io i :: as,ds,δ,h=>by simp[bz] at h
theorem Lf{c:Fc}{σ:St}{δ:Dl}{H:Hp}{a:Addr}{d:D}{vs:List V}{as:List Ak}{ds:List (Option D)}(hl:δ.length=σ.length)(h:i_ (c.plus a) σ δ H vs as ds):i_ c (σ ++ [some (.ref a)]) (δ ++ [some (.own d)]) H vs as ds:=by
 induction h with
 | nil=>exact .nil
 | val r _ ih=>exact .val (r.aJ λb z=>.inl (sv hl z)) ih
 | io e _ ih=>exact .io (getL e) ih
section
variable {X:Cx} {c:Fc} {e:Expr} {es:List Expr} {as:List Ak} {f0:DE} {k n:Nat} {x:Str} {G:DF} {pp pos:Pos}
theorem Lg(hK:eY G){σ:St}{H:Hp}{Q:VK}(hl:as.length + 1=n)(h:tD c (n4 G f0 as) σ H Q):t4 (kC n G) [] E0 (oW (tD c f0) (λσ H Q=>∃ a,tX (c.plus a) as σ H Q)) σ H Q:=by
 obtain⟨δ,kk,q⟩:=h;unfold n4 at q;split at q
 case isFalse=>exact q.elim
 rename_i iE;have sy:bz as=[]:=by simpa using iE
 rw[bC] at q;refine⟨δ,kk,aU q λr δ1 q1 v0 H1 a1 r1=>?_⟩
 cases r with
 | pure d=>exact q1.elim
 | own d =>
  obtain⟨a,rfl,oa,nb,h0,kp,hs⟩:=r1;simp only at q1;rw[bC] at q1;refine⟨a,δ1,kp,λi hi=>absurd (lE.mpr hi) (by rw[sy]; simp),?_⟩;have uN:post (c.plus a) (b_ as δ1) λds δ2=>post c (match bK as ds δ2 with
   | none=>.stuck
   | some ss=>match G (.own d :: ss) with
    | none=>.stuck
    | some (r,_)=>.ok r δ2) λr δ'=>∀ v H',aQ c σ δ H σ δ' H'->bp c σ δ' H H' v r->Q v H':=by
   cases hf:b_ as δ1 with
   | ok fl δ'=>rw[hf] at q1; exact q1
   | exc x δx=>rw[hf] at q1; exact q1
   | stuck=>rw[hf] at q1; exact q1
  refine aU uN λds δ2 q2 vs H2 a2 r2=>?_
  cases em:bK as ds δ2 with
  | none=>rw[em] at q2; exact q2.elim
  | some ss =>
   rw[em] at q2;simp only at q2
   cases eg:G (.own d :: ss) with
   | none=>rw[eg] at q2; exact q2.elim
   | some y =>
    obtain⟨r,aX⟩:=y;rw[eg] at q2;have kG:=a2.ok.len;have Lh:fj H2 (Av (c.plus a) σ δ2) a d:=by
     have o1:fj H1 (λb=>Av (c.plus a) σ δ1 b\/Av (c.plus a) σ δ2 b) a d:=oa.aJ λb z=>z.elim .inl (a2.av b)
     exact(o1.keep (λb o e n=>a2.keep b o e λz=>n (.inl (.inr z))) λo e=>a2.keep a o e (nr kp)).aJ λb z=>.inl (.inr z)
    have k':=Ok.Ld a2.ok Lh nb h0;have r':i_ c (σ ++ [some (.ref a)]) (δ2 ++ [some (.own d)]) H2 (.ref a :: vs) (.io σ.length :: as) (none :: ds):=.io (by simp) (Lf kG r2);have vy:bK (.io σ.length :: as) (none :: ds) (δ2 ++ [some (.own d)])=some (.own d :: ss):=by
     simp only[bK];rw[<- kG,show(δ2 ++ [some (S.own d)])[δ2.length]? = some (some (.own d)) by simp];simp only[Bv sy,em,WI]
    have nd:(bz (.io σ.length :: as)).Nodup:=by simp[bz,sy]
    have iG:=AV k' r' vy nd;obtain⟨m1,m2,_⟩:=sf r' vy;obtain⟨g1,g2⟩:=hK _ r aX eg;refine⟨.own d :: ss,_,by rw[Qv]; rw[<- m2]; simpa using hl,by rw[Qv]; exact iG,r,aX,eg,λv H3 a3 r3=>?_⟩;rw[Qv] at a3 r3;obtain⟨o1,o2⟩:=AY k' r' vy nd rfl a3 (λj d ed=>(g2 j).1 d ed) λj d ed=>(g2 j).2 d ed
    have o3:=o2 v r r3;-- the virtual slot holds what came of the list
    obtain⟨d',ed'⟩:=(g2 0).1 d rfl;obtain⟨rs,ers⟩:∃ rs,aX = .own d' :: rs:=by
     cases aX with
     | nil=>simp at ed'
     | cons z rs=>simp at ed'; subst ed'; exact⟨rs,rfl⟩
    subst ers;have vz:bf (.io σ.length :: as) (.own d' :: rs) (δ2 ++ [some (.own d)])=δ2 ++ [some (.own d')]:=by
     have hp:∀ (as:List Ak) (rs:List S) (δ:Dl),bz as=[]->bf as rs δ=δ:=by
      intro as;induction as with
      | nil=>intro rs δ _; cases rs <;> rfl
      | cons x as ih =>
       intro rs δ h
       cases x with
       | val f=>cases rs with
        | nil=>rfl
        | cons y rs=>simp only[bf]; exact ih rs δ (by simpa[bz] using h)
       | io i=>simp[bz] at h
     simp only[bf];rw[hp as rs _ sy,<- kG];simp
    rw[vz] at o1 o3;have vA:∀ p ∈ c.pin,p.1 < σ.length:=λp hm=>(W3.mp (kk.pinned p hm)).1
    have kc:Ok c σ δ2 H3:=Ok.vx kG o1.ok vA;have Bw:∀ b,Own σ δ2 b->Own (σ ++ [some (.ref a)]) (δ2 ++ [some (.own d')]) b:=λb ⟨i,d1,e1,e2⟩=>⟨i,d1,getL e1,getL e2⟩
    have pR:aQ c σ δ H σ δ2 H2:=a1.trans ⟨Ok.vx kG k' vA,a2.keep,a2.own,a2.there⟩;have fin:aQ c σ δ H σ δ2 H3:=by
     refine⟨kc,λb o eb nO=>?_,pR.own,λb o eb=>?_⟩
     ·have Li:=pR.keep b o eb nO;refine o1.keep b o Li λz=>?_
      rcases Bu kG z with z | z
      ·rcases pR.own b z with w | w
       ·exact nO w
       ·rw[w] at eb; cases eb
      ·subst z; rw[hs] at eb; cases eb
     ·obtain⟨o',e'⟩:=pR.there b o eb;exact o1.there b o' e'
    have sub:∀ b,Av c σ δ2 b->Av c (σ ++ [some (.ref a)]) (δ2 ++ [some (.own d')]) b:=λb z=>z.elim .inl λz=>.inr (Bw b z)
    refine q2 v H3 fin ?_
    cases r with
    | pure dr=>exact Rep.aJ (show Rep H3 (Av c (σ ++ [some (.ref a)]) (δ2 ++ [some (.own d')])) v dr from o3) λb z=>.inl (sub b z)
    | own dr =>
     obtain⟨p,e1,oo,np,f,kq,nG⟩:=o3;have Lj:δ2.length=σ.length:=kG;refine⟨p,e1,oo.aJ λb z=>.inl ?_,np,f,Ok.vx Lj kq vA,?_⟩
     ·rcases z with z | z
      ·exact .inl z
      ·exact .inr (Bw b z)
     ·cases eH:H p with
      | none=>rfl
      | some o =>
       obtain⟨o',e'⟩:=pR.there p o eH;rw[nG] at e'; cases e'
theorem Lk (F:bW X.prog X.w X.K X.mg X.base k x n G) (hK:eY G) (hr:eN k X.A) (hg:Gl X x) (h0:SE X c e f0) (ha:∀ a,SX X (c.plus a) es as) (hl:as.length + 1=n) (ir:(x == ("__debug__" : Str))=false:=by decide)
  (he:Wj (e :: es) X.env=(false,eval e X.env) :: Wj es X.env:=by rfl) (c_:(QJ pos (Wj es X.env)).any (·.1)=false:=by rfl):SE X c (.Call (.Name x pp) (e :: es) [] pos) (n4 G f0 as):=by
 obtain⟨f,fd,ps,hm,hk,hb,ok⟩:=F;exact PE.weak (yI ok hr hg hm hk hb .nil zp (fO h0 (t:=λσ H Q=>∃ a,tX (c.plus a) as σ H Q) (λppp pins s σ H Q I ⟨a,q⟩=>ha a ppp pins s σ H Q I q) he) ir he c_) λσ H Q h=>Lg hK hl h
end
section
variable {X:Cx} {c:Fc} {e:Expr} {fe:DE} {pos:Pos}
theorem Ok.Ll(k:Ok c σ δ H)(e:δ[i]? = some (some (.own (.bA ds))))(ea:σ[i]? = some (some (.ref a)))(r:DR H (Av c σ δ) iu dJ) :
  aQ c σ δ H σ (δ.set i (some (.own (.bA dJ)))) (upd H a (.dK iu)):=by
 have hi:i < δ.length:=(W3.mp e).1;obtain⟨a',cF,oa,ia,nb⟩:=k.own i _ e;rw[ea] at cF; cases cF
 obtain⟨vs,ha,_⟩:=oa;have lA:Own σ δ a:=⟨i,_,e,ea⟩
 have pG:Av c σ δ a:=.inr lA;have lB:∀ b,Own σ (δ.set i (some (.own (.bA dJ)))) b ↔ Own σ δ b:=λb=>by
  constructor
  ·rintro ⟨j,d,e1,e2⟩;by_cases hj:i=j
   ·subst hj;exact⟨i,_,e,e2⟩
   ·rw[W5 hj] at e1;exact⟨j,d,e1,e2⟩
  ·rintro ⟨j,d,e1,e2⟩;by_cases hj:i=j
   ·subst hj;exact⟨i,_,by rw[Wn hi],e2⟩
   ·exact⟨j,d,by rw[W5 hj]; exact e1,e2⟩
 have jx:∀ b,Av c σ (δ.set i (some (.own (.bA dJ)))) b->Av c σ δ b:=λb z=>z.elim .inl λz=>.inr ((lB b).mp z)
 have ne:∀ b,¬ Av c σ δ b->b≠a:=λb n z=>n (by rw[z]; exact pG)
 have kp:∀ b o,H b=some o->¬ Av c σ δ b->upd H a (.dK iu) b=some o:=λb o h n=>by rw[ba (ne b n)]; exact h
 have g9:∀ b o,H b=some o->∃ o',upd H a (.dK iu) b=some o':=λb o h=>by
  by_cases hb:b=a
  ·exact⟨_,by rw[hb]; exact dq⟩
  ·exact⟨o,by rw[ba hb]; exact h⟩
 refine⟨⟨λb o h n=>?_,λb z=>?_,λb z=>?_,by rw[WT]; exact k.len,λj d h=>?_,λj d h=>?_,λj l b d d' h1 h2 h3 h4=>?_,k.pinned⟩,λb o h n=>?_,λb z=>.inl ((lB b).mp z),g9⟩
 ·have hb:b≠a:=λz=>by
   subst z;rcases ia with z | z
   ·exact n z
   ·rw[z] at h; cases h
  rw[ba hb];exact k.keep b o h n
 ·obtain⟨o,h⟩:=k.bd b z;exact g9 b o h
 ·obtain⟨o,h⟩:=k.dM b z;exact g9 b o h
 ·have hj:i≠j:=λz=>by subst z; rw[Wn hi] at h; cases h
  rw[W5 hj] at h;obtain⟨v,h1,h2⟩:=k.slot j d h;exact⟨v,h1,(h2.keep kp).aJ λb z=>.inl (jx b z)⟩
 ·by_cases hj:i=j
  ·subst hj;rw[Wn hi] at h
   cases h;exact⟨a,ea,(let r':=r.map λv d h=>(Rep.keep h kp).aJ λb z=>.inl (jx b z); ⟨iu,dq,r'.keys,r'.vals⟩),ia,nb⟩
  ·rw[W5 hj] at h;obtain⟨b,h1,h2,h3,h4⟩:=k.own j d h;have hb:b≠a:=λz=>by subst z; exact hj (k.inj i j b _ d e h ea h1)
   exact⟨b,h1,(h2.keep kp λo q=>by rw[ba hb]; exact q).aJ λb z=>.inl (jx b z),h3,h4⟩
 ·have f1:∃ d,δ[j]? = some (some (.own d)):=by
   by_cases hj:i=j
   ·subst hj; exact⟨_,e⟩
   ·rw[W5 hj] at h1; exact⟨d,h1⟩
  have f2:∃ d,δ[l]? = some (some (.own d)):=by
   by_cases hj:i=l
   ·subst hj; exact⟨_,e⟩
   ·rw[W5 hj] at h2; exact⟨d',h2⟩
  obtain⟨_,f1⟩:=f1;obtain⟨_,f2⟩:=f2;exact k.inj j l b _ _ f1 f2 h3 h4
 ·have hb:b≠a:=λz=>n (by rw[z]; exact lA)
  rw[ba hb]; exact h
def pS(δ:Dl)(i:Nat):Bool:=match δ[i]? with
 | some (some (.own (.bA _)))=>true
 | _=>false
def gc(i:Nat)(fi fe:DE):DS:=λδ=>if pS δ i then(fe δ).bind λr δ1=>if pS δ1 i then(fi δ1).bind λk δ2=>match δ2[i]? with
  | some (some (.own (.bA ds)))=>match fm k.d with
   | some kk=>if ds.length < W9 then .ok .next (δ2.set i (some (.own (.bA (putD ds kk r.d))))) else .stuck
   | none=>.stuck
  | _=>.stuck else .stuck else .stuck
theorem Lm(h:pS δ i=true):∃ ds,δ[i]? = some (some (.own (.bA ds))):=by
 unfold pS at h;split at h
 ·rename_i ds e; exact⟨ds,e⟩
 ·cases h
theorem vC{i:Nat}{o ix:Expr}{fi:DE}{sp:Pos}(hu:X.A.units + 64 < WE)(ho:PE X o (c9 i))(hi:SE X c ix fi)(he:SE X c e fe)
  (hs:Jg e (some (.Subscript o ix sp)) pos.line X.env=pure false:=by rfl):SS X c (.Assign [.Subscript o ix sp] e pos) (gc i fi fe) :=
 PS.weak (Gz (by omega) ho hi he hs) λD σ H ⟨δ,k,q⟩=>by
  unfold gc eV at q;split at q
  case isFalse=>exact q.elim
  rename_i eX;rw[bC] at q;refine⟨δ,k,aU q λr δ1 q1 v H1 a1 r1=>?_⟩;split at q1
  case isFalse=>exact q1.elim
  rename_i hown1;obtain⟨ds1,e1⟩:=Lm hown1;obtain⟨a,ea,_,_⟩:=a1.ok.own i _ e1;refine⟨.ref a,ea,δ1,a1.ok,?_⟩;rw[bC] at q1;refine aU q1 λkx δ2 q2 u H2 a2 r2=>?_
  split at q2
  ·rename_i ds e2;split at q2
   ·rename_i kk hk;split at q2
    ·rename_i hz;obtain⟨a',cF,oa,_⟩:=a2.ok.own i _ e2;rw[ea] at cF; cases cF
     obtain⟨ws,ha,hk1,hk2⟩:=id oa;have dr:DR H2 (Av c σ δ2) ws ds:=DR.of hk1 hk2;have uE:=vo hk r2.b;subst uE;have hlen:ws.length=ds.length:=by have:=congrArg QH hk1; simpa using this
     have rv:Rep H2 (Av c σ δ2) v r.d:=Rep.dO r1.rep a2;refine⟨a,_,rfl,pf.k ha (by rw[hlen]; exact hz),?_⟩;exact q2 σ _ (a1.trans (a2.trans (Ok.Ll a2.ok e2 ea (dr.put rv))))
    ·exact q2.elim
   ·exact q2.elim
  ·exact q2.elim
end
section
variable {X:Cx} {c:Fc} {o e f:Expr} {fe ff:DE} {i:Nat} {apos bE:Pos}
end
section
variable {X:Cx}
end
end DV
namespace L2
open PySem PySem.Spec PyProof.Rows
section
variable {X:Cx} {tg:Expr}
end
end L2
namespace DV
open PySem PySem.Spec PyProof.Rows L2
variable {X:Cx} {c:Fc} {tg e:Expr} {fe:DE} {pp pos:Pos}
section
variable {X:Cx}
end
section
variable {X:Cx}
end
section
variable {X:Cx} {c:Fc} {e:Expr} {fb:BE} {pos pp:Pos}
end
end DV
namespace L2
open PySem PySem.Spec PyProof.Rows
section
variable {prog:Wm} {w:Wr} {A:Ws} {E:Value->W2->Prop} {s:W2}
end
section
variable {X:Cx} {pos:Pos}
end
end L2
namespace DV
open PySem PySem.Spec PyProof.Rows L2
section
variable {X:Cx} {c:Fc} {pos:Pos}
end
open PySem PySem.Builtin PySem.Builtin.Str PySem.StrLaws
section
variable {X:Cx}
end
section
variable {X:Cx} {c:Fc} {e:Expr} {fb:BE}
end
end DV
set_option maxHeartbeats 1000000
namespace PySem
open Sem (wp)
open AutoSeq1 (wpAny_loadPart')
section
variable {prog:Wm} {w:Wr} {A:Ws} {E:Value->W2->Prop} {s:W2}
end
end PySem
namespace PyProof.Rows
open PySem
section
variable {M:Model} {A:Ws} {E:Value->W2->Prop} {s:W2} {env:Env}
end
end PyProof.Rows
set_option maxHeartbeats 400000
namespace L2
open PySem PySem.Spec PyProof.Rows
end L2
namespace DV
open PySem PySem.Spec PyProof.Rows L2
section
variable {X:Cx} {c:Fc} {tg e:Expr} {fe:DE} {pos pp:Pos}
end
end DV
namespace L2
open PySem PySem.Spec PyProof.Rows
section
variable {M:Model} {A:Ws} {E:Value->W2->Prop} {s:W2}
end
section
variable {X:Cx} {x:Str} {C:Addr} {np bE pos:Pos}
end
section
variable {X:Cx} {pins:List (Addr×Obj)} {σ:St} {H:Hp} {s:W2} {h':Heap}
end
section
variable {X:Cx} {pins:List (Addr×Obj)} {σ:St} {H:Hp} {s:W2} {h':Heap} {a T:Addr}
end
section
variable {prog:Wm} {w:Wr} {A:Ws} {E:Value->W2->Prop} {K:W4}
end
section
variable {X:Cx} {pins ps:List (Addr×Obj)} {σ:St} {H:Hp} {s:W2} {a:Addr} {xe:Value->W2->Prop} {pn:List (Addr×Obj)}
section
variable {M:Model} {E:Value->W2->Prop} {C L:Addr} {dx:Option Addr} {Q:Unit->W2->Prop}
end
end
section
variable {X:Cx} {pins:List (Addr×Obj)} {σ:St} {H:Hp} {s:W2} {b:Addr}
end
section
variable {X:Cx} {k:Nat} {f:Addr} {fd:Ql} {ps:List Str} {sp:Sp} {x:Str} {p pos:Pos} {e:Expr} {es:List Expr} {t:TA} {W:Addr->Option Addr->St->Hp->Prop}
end
section
variable {P:Wm} {w:Wr} {K:W4} {mg:Str->Option Value} {base:Heap} {N:List Str} {qual:Str} {scope:Scope} {f:Addr} {cd:Value} {A:Ws} {outer:List Env} {s₀:W2} {H₀:Hp} {E:XK}
end
def Cx.loop(X:Cx):Cx:={ X with xe:=notedBy (model X.prog X.w) X.A X.env (cameBackBy (model X.prog X.w) X.A X.env X.xe) }
section
variable {X:Cx} {pins ps:List (Addr×Obj)} {σ:St} {H:Hp} {s:W2}
end
end L2
namespace DV
open PySem PySem.Spec PyProof.Rows L2
section
variable {c:Fc} {σ σ':St} {δ δ':Dl} {H H':Hp} {g:Xc->Dl->Prop}
end
abbrev DX:=List S->Option ((S×List S) ⊕ (Xc×List S))
section
variable {P:Wm} {w:Wr} {K:W4} {mg:Str->Option Value} {base:Heap}
end
section
variable {X:Cx} {c:Fc} {e:Expr} {es:List Expr} {as:List Ak} {k n:Nat} {x:Str} {G:DX} {pp pos:Pos}
end
section
variable {c:Fc} {σ σ':St} {δ δ':Dl} {H H':Hp}
end
section
variable {c:Fc} {σ σ':St} {δ δ':Dl} {H H':Hp} {B':Addr->Prop} {g:Xc->Dl->Prop}
end
end DV
namespace L2
open PySem PySem.Spec PyProof.Rows PySem.W Builtin Builtin.ObjectAttr Builtin.Getset_descriptor
section
variable {prog:Wm} {w:Wr} {A:Ws} {E:Value->W2->Prop} {K:W4} {C e:Addr} {oe:Obj} {h:Heap} {g:Array GenState} {d:Drawn} {t:Nat} {os:OsState}
end
section
variable {X:Cx} {y:Str} {D:Addr} {pos:Pos}
end
section
variable {P:Wm} {w:Wr} {K:W4} {mg:Str->Option Value} {base:Heap} {k:Nat} {f:Addr}
end
section
variable {X:Cx} {k:Nat} {f:Addr} {fd:Ql} {ps:List Str} {sp:Sp} {x:Str} {p pos:Pos} {e:Expr} {es:List Expr} {t:TA}
end
end L2
namespace DV
open PySem PySem.Spec PyProof.Rows L2
section
variable {X:Cx} {c:Fc} {e:Expr} {fb:BE} {pp py pos:Pos} {y:Str} {ce:Tx->Nat} {ys:List Tx} {tab:Tx->Bool}
end
section
variable {P:Wm} {w:Wr} {K:W4} {mg:Str->Option Value} {base:Heap}
end
section
variable {X:Cx} {c:Fc} {e:Expr} {es:List Expr} {as:List Ak} {k n:Nat} {x:Str} {G:DF} {pp pos:Pos}
end
end DV
namespace L2
open PySem PySem.Spec PyProof.Rows PySem.SeqAt
section
variable {X:Cx}
end
end L2
namespace DV
open PySem PySem.Spec PyProof.Rows L2
section
variable {X:Cx} {c:Fc} {e:Expr} {fb:BE}
end
end DV
namespace L2
open PySem PySem.Spec PyProof.Rows
section
variable {X:Cx}
end
end L2
namespace DV
open PySem PySem.Spec PyProof.Rows L2
end DV
namespace PySem
open Sem (wp)
structure ZA(z TI TO i1 i2:Addr)(f1 f2:List Addr):Prop where
 m1:i1 ∈ f1
 m2:i2 ∈ f2
 z1:z ∉ f1
 z2:z ∉ f2
 t1:TO ∉ f1
 t2:TO ∉ f2
 k1:i1 ∉ f2
 k2:i2 ∉ f1
 tz:TO≠z
 iz:TI≠z
 io:TI≠TO
 n1:TI≠i1
 n2:TI≠i2
section
variable {prog:Wm} {w:Wr} {A:Ws} {E:Value->W2->Prop} {s:W2}
end
end PySem
namespace L2
open PySem PySem.Spec PyProof.Rows
section
variable {X:Cx} {pins:List (Addr×Obj)} {σ:St} {H:Hp} {s:W2} {h':Heap}
theorem Inv.Bx(fp:List Addr)(I:Inv X pins σ H s)(hf:∀ b ∈ fp,gJ X pins H b)(bu:∀ b ∈ fp,b < s.heap.objs.size)(ru:RelV x u)(rv:RelV y v)
  (hT:h'.get? s.heap.objs.size=some { cls:=.type "tuple",data:=.seq #[u,v] }) (k:∀ b o,b ∉ fp->s.heap.get? b=some o->h'.get? b=some o) :
  Inv X pins σ (upd H s.heap.objs.size (.tup [x,y])) { s with heap:=h',toks:=t' }:=by
 have I1:Inv X pins σ (upd H s.heap.objs.size (.tup [x,y])) { s with heap:=s.heap.push { cls:=.type "tuple",data:=.seq #[u,v] },toks:=t' } :=
  I.laid (t':=t') (λb o e=>W8 _ e) (Wk _) (show b0 X.prog X.w _ _ _ (.tup [x,y]) from
   ⟨by simp only[WG,QS]; rw[QG]; decide,[u,v],.cons ru (.cons rv .nil),iT.new _ _⟩)
 have:=Inv.sr (t':=t') (h':=h') fp I1 (λb o hb eb=>?_) λb hb=>?_
 ·exact this
 ·rcases Heap.get?_push_cases eb with ⟨z,z'⟩ | eb
  ·subst z z'; exact hT
  ·exact k b o hb eb
 ·obtain⟨f0,r⟩:=hf b hb;exact⟨by rw[ba (WW (bu b hb))]; exact f0,r⟩
end
end L2
namespace DV
open PySem PySem.Spec PyProof.Rows L2
section
variable {X:Cx} {c:Fc} {tg e:Expr} {fe:DE} {pos pp:Pos}
theorem aD.two(r:Rep H O u x)(r':Rep H O v y):aD H O [u,v] [x,y]:=by
 refine⟨rfl,λj v' d' e1 e2=>?_⟩;match j with
 | 0=>simp at e1 e2; subst e1 e2; exact r
 | 1=>simp at e1 e2; subst e1 e2; exact r'
 | j + 2=>simp at e1
end
section
variable {X:Cx} {c:Fc} {e:Expr} {es:List Expr} {as:List Ak} {k n:Nat} {x:Str} {G:DX} {pp pos:Pos}
end
end DV
namespace PySem
open Sem (wp)
section
variable {prog:Wm} {w:Wr} {A:Ws} {E:Value->W2->Prop} {hp:Heap} {g:Array GenState} {d:Drawn} {t:Nat} {os:OsState}
variable {nm qn:Str} {C N:Addr} {bs bm Rh:List Value} {Ri:Bool} {sn:List Str} {sub:List Value} {ab:Bool} {col:Option Bool} {dd:Option Addr} {k0 k1 k2 k3 k5:Option Value} {B newId Rj:String}
end
end PySem
namespace L2
open PySem PySem.Spec PyProof.Rows PySem.W PySem.Builtin PySem.Builtin.ObjectAttr
section
variable {prog:Wm} {w:Wr} {A:Ws} {E:Value->W2->Prop} {s:W2} {K:W4} {x C:Addr} {name:Str} {v:Value} {R:Result->W2->Prop}
end
section
variable {P:Wm} {w:Wr} {H:Hp} {h:Heap} {C a:Addr}
end
section
variable {X:Cx} {o value:Expr} {f:Str} {ta tv:TE} {pos pos':Pos}
end
section
variable {X:Cx} {k:Nat} {f C:Addr} {fd:Ql} {ps:List Str} {sp:Sp} {x:Str} {p pos:Pos} {e:Expr} {es:List Expr} {t:TA}
end
section
variable {P:Wm} {w:Wr} {K:W4} {mg:Str->Option Value} {base:Heap} {x qual f1 f2:Str} {st:Stmt} {f:Addr} {fd:Ql} {N ps:List Str} {k:Nat}
end
section
variable {X:Cx} {C f:Addr} {call:Expr} {te:TE} {pos:Pos}
end
end L2
namespace DV
open PySem PySem.Spec PyProof.Rows L2 PySem.W
section
variable {X:Cx} {c:Fc} {e:Expr} {fb:BE}
end
end DV
namespace L2
open PySem PySem.Spec PyProof.Rows
section
variable {X:Cx} {tg:Expr}
end
end L2
namespace DV
open PySem PySem.Spec PyProof.Rows L2
section
variable {X:Cx} {c:Fc} {tg e:Expr} {fe:DE} {pos pp:Pos}
end
end DV
namespace PySem.SeqAt
open AutoSeq1 (wpAny_loadPart')
open MeetsSeq
section
variable {A:Ws} {s:W2}
end
end PySem.SeqAt
namespace DV
open PySem PySem.Spec PyProof.Rows L2
end DV
namespace PySem.SeqAt
open AutoSeq1 (wpAny_loadPart')
open MeetsSeq
abbrev prO (dd:Option Addr) (a1 a2:Int) (t1 t2:Tok) (n:Nat) (sl:Array (Option Value)):Obj:={ cls:=.type "tuple",dict:=dd,data:=.seq #[.int a1 t1,.int a2 t2] n,slots:=sl }
def ltP(a1 a2 b1 b2:Int):Bool:=if a1 == b1 then decide (a2 < b2) else decide (a1 < b1)
theorem z8I(l b:Addr)(a1 a2 b1 b2:Int)(t1 t2 u1 u2:Tok)(n n2:Nat)(dd l9:Option Addr)(sl k6:Array (Option Value)) :
  Meets (Builtin.«tuple.__lt__» ⟨[.ref l,.ref b],[]⟩)
   (λ_ R s=>s.heap.get? l=some (prO dd a1 a2 t1 t2 n sl)/\s.heap.get? b=some (prO l9 b1 b2 u1 u2 n2 k6)/\R (.ok (.ret (.bool (ltP a1 a2 b1 b2)))) s) :=
 .of_wp λprog w A R s h=>by
  obtain⟨hp,g,d,tk,os⟩:=s; obtain⟨hl,hb,h⟩:=h
  have f2:=AutoSeq1.sub_tuple_tuple;wp_walk using J8 hl,J8 hb,wpAny_forIn_list _ (λrest c s'=>c.1=none/\s' = ⟨hp,g,d,tk,os⟩ /\
   (rest=[(.int a1 t1,.int b1 u1),(.int a2 t2,.int b2 u2)]\/(rest=[(.int a2 t2,.int b2 u2)]/\a1=b1)\/(rest=[]/\a1=b1/\a2=b2))) _
  case turn =>
   rintro ⟨y,x⟩ rest c s' ⟨hc,rfl,hz⟩;rcases hz with hz | ⟨hz,e1⟩ | ⟨hz,_⟩
   ·injection hz with hyx hrest
    cases hyx;refine W0 (EqAt.int_int a1 t1 b1 u1 prog w _ _ ?_);by_cases e:a1=b1
    ·rw[show(a1 == b1)=true by simp[e]];wp_walk
     exact⟨rfl,rfl,.inr (.inl ⟨hrest,e⟩)⟩
    ·rw[show(a1 == b1)=false by simp[e]];have bu:ltP a1 a2 b1 b2=decide (a1 < b1):=by simp[ltP,e]
     rw[bu] at h;simp only[Bool.not_false,if_true];refine W0 (QT ?_);refine W0 (richCompare_gives (op:=.Lt) (JN _ _ t1) (JN _ _ u1) F.slot_int_lt F.entry_int_lt (F.args_int_lt_2 _ _) (gives_int_lt _ _ t1 u1) (λx=>nomatch x) ?_);refine W0 (W1 ?_);exact W1 (W1 ⟨_,rfl,h⟩)
   ·injection hz with hyx hrest
    cases hyx;refine W0 (EqAt.int_int a2 t2 b2 u2 prog w _ _ ?_);by_cases e:a2=b2
    ·rw[show(a2 == b2)=true by simp[e]];wp_walk
     exact⟨rfl,rfl,.inr (.inr ⟨hrest,e1,e⟩)⟩
    ·rw[show(a2 == b2)=false by simp[e]];have bu:ltP a1 a2 b1 b2=decide (a2 < b2):=by simp[ltP,e1]
     rw[bu] at h;simp only[Bool.not_false,if_true];refine W0 (QT ?_);refine W0 (richCompare_gives (op:=.Lt) (JN _ _ t2) (JN _ _ u2) F.slot_int_lt F.entry_int_lt (F.args_int_lt_2 _ _) (gives_int_lt _ _ t2 u2) (λx=>nomatch x) ?_);refine W0 (W1 ?_);exact W1 (W1 ⟨_,rfl,h⟩)
   ·cases hz
  case fin =>
   rintro ⟨c1,c2⟩ s' ⟨hc,rfl,hz⟩;simp only at hc;subst hc;rcases hz with hz | ⟨hz,e1⟩ | ⟨_,e1,e2⟩
   ·cases hz
   ·cases hz
   ·have bu:ltP a1 a2 b1 b2=false:=by simp[ltP,e1,e2]
    rw[bu] at h;wp_walk
    exact⟨_,rfl,h⟩
  case h=>exact⟨rfl,rfl,.inl rfl⟩
end PySem.SeqAt
namespace PySem
open SeqAt (prO ltP z8I)
section
variable {prog:Wm} {w:Wr} {A:Ws} {R:Result->W2->Prop} {I:Addr} {fp wr:List Addr} {n:Nat} {P:Nat->Value->Prop} {St:Nat->Heap->Prop}
end
section
variable {prog:Wm} {w:Wr} {A:Ws} {E:Value->W2->Prop} {s:W2}
end
end PySem
namespace DV
open PySem PySem.Spec PyProof.Rows L2
open PySem.SeqAt (prO ltP)
section
variable {X:Cx} {c:Fc} {e:Expr} {fb:BE} {pos pp:Pos}
end
section
variable {c:Fc} {σ:St} {δ δ':Dl} {H H':Hp} {p:Addr}
end
end DV
namespace L2
open PySem PySem.Spec PyProof.Rows
end L2
namespace DV
open PySem PySem.Spec PyProof.Rows L2
section
variable {X:Cx} {c:Fc} {tg e:Expr} {fe:DE} {pos pp:Pos}
end
section
variable {K:W4} {h:Heap} {mg:Str->Option Value} {x q:Str} {st:Stmt} {f:Addr} {fd:Ql}
abbrev h_(K:W4)(x:Str)(st:Stmt):Prop:=∃ (f:Addr) (oc:Value) (od:Option Addr) (kV dc pm:Value) (an:Option Addr) (cd ct:Value) (sl:Array (Option Value)),
 PySem.W.nsIn K WH x=some (some (.ref f))/\K.lookup f=some ⟨oc,od,.func (QR x x (lg st) (jo st) (cW st) .none kV dc pm an cd ct),sl⟩/\PySem.W.codeIn K cd x=true/\JL K (.ref f)=true
theorem iJ(X:K.In h)(G:h.Ns WH mg)(d:h_ K x st):∃ f fd,dI K x x st f fd/\mg x=some (.ref f):=by
 obtain⟨f,oc,od,kV,dc,pm,an,cd,ct,sl,a,l,c,k⟩:=d;exact⟨f,_,zq l c k,PySem.W.mg_of X G a⟩
abbrev Bd(x q:Str)(st:Stmt)(ps:List Str)(us:List Value):Prop:=∀ (kV doc pm:Value) (an:Option Addr) (bR ct:Value),bindArgs (QR x q (lg st) (jo st) (cW st) .none kV doc pm an bR ct) ⟨us,[]⟩=pure (ps.zip us)
variable {p1 p2 p3 p4 p5 p6:Str}
theorem vD(F:dI K x q st f fd)(h:∀ a,Bd x q st [p1] [a]):Binds K fd [p1] []:=F.binds λ_ _ _ _ _ _ us hl=>match us,hl with
 | [a],_=>h a _ _ _ _ _ _
theorem kH(F:dI K x q st f fd)(h:∀ a b,Bd x q st [p1,p2] [a,b]):Binds K fd [p1,p2] []:=F.binds λ_ _ _ _ _ _ us hl=>match us,hl with
 | [a,b],_=>h a b _ _ _ _ _ _
theorem Ln(F:dI K x q st f fd)(h:∀ a b c d,Bd x q st [p1,p2,p3,p4] [a,b,c,d]):Binds K fd [p1,p2,p3,p4] []:=F.binds λ_ _ _ _ _ _ us hl=>match us,hl with
 | [a,b,c,d],_=>h a b c d _ _ _ _ _ _
end
end DV
namespace L2
open PySem PySem.Spec PyProof.Rows
section
variable {X:Cx} {tg:Expr}
end
section
variable {X:Cx} {e:Expr} {ta:TE} {f:Str} {pos:Pos}
end
end L2
namespace DV
open PySem PySem.Spec PyProof.Rows L2
section
variable {X:Cx} {c:Fc} {tg e:Expr} {fe:DE} {pos pp:Pos}
end
end DV
namespace L2
open PySem PySem.Spec PyProof.Rows
section
variable {X:Cx}
end
end L2
namespace DV
open PySem PySem.Spec PyProof.Rows L2
end DV
namespace L2
open PySem PySem.Spec PyProof.Rows PySem.SeqAt DV
def vE(z:Str):Value->Bool
 | .str x _=>x == z
 | _=>false
theorem Lo(h:Vals xs us):∀ (j:Nat) (u:Value),us[j]? = some u->∃ v,xs[j]? = some v/\RelV v u:=by
 induction h with
 | nil=>intro j u e; simp at e
 | cons r rs ih =>
  intro j u e
  cases j with
  | zero=>simp at e; subst e; exact⟨_,rfl,r⟩
  | succ j=>simpa using ih j u (by simpa using e)
def By(K:W4):V->List V->Hp->VK->Prop:=λx xs H Q=>∃ (a:Addr) (ts:List Tx) (z:Tx),x = .ref a/\xs=[.str (toS z)]/\cx K H a (ts.map λt=>V.str (toS t))/\z ∈ ts/\ts.length<=1000/\Q (.int (ts.idxOf z:Nat)) H
section
variable {X:Cx}
theorem Lp:uc X "list.index" (By X.K):=by
 intro pins s σ H x xs v us Q I rx rs h;obtain⟨a,ts,z,rfl,rfl,hq,hm,hl,q⟩:=h;obtain⟨u,rfl,ru⟩:=gY rs;obtain⟨tk,rfl⟩:=ru
 cases rx;obtain⟨ag,r',p,_⟩:=I.list hq;obtain⟨⟨cls,dd,data,sl⟩,ho,hc,n,hd⟩:=p.isList;simp only at hc hd;subst hc; subst hd
 have at':∀ j (hj:j < ag.length),∃ t tk,ts[j]? = some t/\ag[j] = .str (toS t) tk:=λj hj=>by
  obtain⟨v,e1,r1⟩:=Lo r' j _ (W6 hj);rw[Wl] at e1;obtain⟨t,e2,e3⟩:=Option.map_eq_some_iff.mp e1;subst e3;obtain⟨tk,e4⟩:=r1;exact⟨t,tk,e2,e4⟩
 have hlen:ag.length=ts.length:=by have:=r'.length; simpa using this.symm
 have hj:ts.idxOf z < ts.length:=List.idxOf_lt_length_iff.mpr hm;have mG:ts.idxOf z < ag.length:=by omega
 refine call_meets PySem.F.slot_list_index ⟨_,ho,rfl⟩ PySem.F.entry_list_index (PySem.F.args_list_index_2 _ _) (list_indexAt a _ n dd sl (.str (toS z) tk) (vE (toS z)) (ts.idxOf z) (by simpa using mG) (by omega) ?_ ?_) ⟨ho,λy hy=>?_,⟨.int (ts.idxOf z:Nat),H,I.tok _,⟨_,rfl⟩,q⟩⟩
 ·obtain⟨t,lF,e1,e2⟩:=at' _ mG;have e3:ts[ts.idxOf z]=z:=List.getElem_idxOf hj;rw[W6 hj,e3] at e1
  cases e1;simp only[List.getElem_toArray,e2,vE];exact beq_self_eq_true _
 ·intro m Bz bu;have BA:m < ag.length:=by simpa using Bz
  obtain⟨t,lF,e1,e2⟩:=at' m BA;have cn:t≠z:=λe=>by
   subst e;have pT:m < ts.length:=by omega
   have z2:=List.not_of_lt_findIdx (p:=(· == t)) (xs:=ts) (i:=m) bu;rw[W6 pT] at e1
   cases e1;simp at z2
  simp only[List.getElem_toArray,e2,vE];rw[ny];exact beq_false_of_ne cn
 ·have vF:y ∈ ag:=by simpa using hy
  obtain⟨j,hjj,rfl⟩:=List.getElem_of_mem vF;obtain⟨t,lF,e1,e2⟩:=at' j hjj;rw[e2];exact EqAt.str_str _ _ _ _
end
end L2
namespace DV
open PySem PySem.Spec PyProof.Rows L2
def BB:D->Bool
 | .lst _=>true
 | _=>false
def mH(x y:D):Option S:=match x,y with
 | .lst ds,.str z=>match fU ds with
  | some ts=>if z ∈ ts/\ts.length<=1000 then some (.pure (.int (ts.idxOf z:Nat))) else none
  | none=>none
 | _,_=>none
def mI(fa fb:DE):DE:=λδ=>(fa δ).bind λr δ1=>if BB r.d then(fb δ1).bind λy δ2=>p2 mH r.d y.d δ2 else .stuck
section
variable {X:Cx} {c:Fc} {o e:Expr} {fa fb:DE}
theorem Lq{K:W4}:cQ (λx y H Q=>By K x [y] H Q) mH:=by
 intro c σ δ H x y d e s Q k rx ry hp q
 cases d with
 | lst ds =>
  cases e with
  | str z =>
   simp only[mH] at hp;split at hp
   ·rename_i ts ht;split at hp
    ·rename_i hz
     cases hp;obtain⟨a,vs,ea,ha,r⟩:=rx.lst;have ev:=nD ht r;subst ev;exact⟨a,ts,z,ea,by rw[ry.str],.inl ha,hz.1,hz.2,q _ H (.refl k) (.int _)⟩
    ·cases hp
   ·cases hp
  | _=>simp[mH] at hp
 | _=>simp[mH] at hp
theorem Lr(he:SE X c o fa)(hx:SE X c e fb)
  (l_:QY o "index" X.env (eval o X.env)=eval o X.env:=by rfl)
  (ma:((QJ bE (Wj [e] X.env)).all (λx=>!x.1) && (backToKw bE (keywordEach [] X.env)).all (λx=>x.1.isSome)
   && decide ([e].length + ([]:List Keyword).length + (if ([]:List Keyword).isEmpty then 0 else 1) < 30))=true:=by rfl)
  (gZ:(apos.endLine == bE.line)=true:=by rfl) (hs:Wj [e] X.env=(false,eval e X.env) :: Wj [] X.env:=by rfl) :
  SE X c (.Call (.Attribute o "index" apos) [e] [] bE) (mI fa fb):=by
 refine PE.weak (qQ PySem.F.plainAttrs_list PySem.F.slot_list_index PySem.F.type_list_index Lp he (fO hx iq hs) l_ ma gZ hs rfl) λσ H Q h=>?_
 obtain⟨δ,k,q⟩:=h;unfold mI at q;rw[bC] at q;refine⟨δ,k,aU q λr δ1 q1 v H1 a1 r1=>?_⟩;split at q1
 case isFalse=>exact q1.elim
 rename_i hL;have ty:uf X.K "list" v H1:=by
  have r2:=r1.rep
  cases hd:r.d <;> rw[hd] at hL <;> try cases hL
  rw[hd] at r2;obtain⟨a,vs,ea,ha,_⟩:=cO.lst (.inl r2:cO c σ δ1 H1 v _);subst ea;exact .inl ⟨rfl,_,.inl ha⟩
 rw[bC] at q1;refine⟨ty,δ1,a1.ok,aU q1 λy δ2 q2 u H2 a2 r2=>?_⟩;exact uM Lq a2.ok (.inl (Rep.dO r1.rep a2)) (.inl r2.rep) (aU q2 λs δ3 q3 v' H3 a3 r3=>q3 v' H3 (a1.trans (a2.trans a3)) (bp.back r3 (a1.trans a2)))
end
end DV
namespace L2
open PySem PySem.Spec PyProof.Rows PySem.W DV
def Good(n:Nat){α:Type}:KasT α->(α->Prop)->Prop
 | .ret a,R=>R a
 | .ask i j k,R=>i < n/\j < n/\i≠j/\∀ b,Good n (k b) R
def runK{α:Type}(lt:Nat->Nat->Bool):KasT α->α
 | .ret a=>a
 | .ask i j k=>runK lt (k (lt i j))
section
variable {α β:Type} {n:Nat}
theorem Good.bind:∀ {t:KasT α},Good n t R->(∀ a,R a->Good n (f a) R')->Good n (t.bind f) R'
 | .ret a,h,k=>k a h
 | .ask i j g,h,k=>⟨h.1,h.2.1,h.2.2.1,λb=>Good.bind (h.2.2.2 b) k⟩
theorem Good.mono:∀ {t:KasT α},Good n t R->(∀ a,R a->R' a)->Good n t R'
 | .ret a,h,k=>k a h
 | .ask i j g,h,k=>⟨h.1,h.2.1,h.2.2.1,λb=>Good.mono (h.2.2.2 b) k⟩
theorem Good.run(lt:Nat->Nat->Bool):∀ {t:KasT α},Good n t R->R (runK lt t)
 | .ret a,h=>h
 | .ask i j g,h=>Good.run (t:=g (lt i j)) lt (h.2.2.2 _)
theorem Good.wp
  (hc:∀ i j,i < n->j < n->i≠j->∀ C:Bool->W2->Prop,C (lt i j) s->cmp i j C s):∀ {t:KasT α},Good n t R->G (runK lt t) s->t.kasWp cmp G s
 | .ret a,h,g=>g
 | .ask i j k,h,g=>hc i j h.1 h.2.1 h.2.2.1 _ (Good.wp hc (h.2.2.2 _) g)
end
section
variable {n:Nat} {p:Array Nat}
abbrev dz(n:Nat)(p:Array Nat):Prop:=p.Perm (JK (Q9 n))
theorem dz.size(h:dz n p):p.size=n:=by rw[Array.Perm.size_eq h]; simp
theorem dz.list(h:dz n p):p.toList.Perm (Q9 n):=by simpa using Array.perm_iff_toList_perm.mp h
theorem dz.lt(h:dz n p)(h0:0 < n)(i:Nat):p.getD i 0 < n:=by
 by_cases hi:i < p.size
 ·have:p[i] ∈ p.toList:=by simp
  have:=(h.list.mem_iff).mp this;simpa[Array.getD,hi] using this
 ·simpa[Array.getD,hi] using h0
theorem dz.ne(h:dz n p)(hi:i < n)(hj:j < n)(e:i≠j):p.getD i 0≠p.getD j 0:=by
 have hs:=h.size;have nd:p.toList.Nodup:=h.list.nodup_iff.mpr List.nodup_range;have gr:i < p.size:=by omega
 have mG:j < p.size:=by omega
 intro z;have e1:p.getD i 0=p.toList[i]'(by simpa using gr):=by simp[Array.getD,gr]
 have e2:p.getD j 0=p.toList[j]'(by simpa using mG):=by simp[Array.getD,mG]
 rw[e1,e2] at z;rcases Nat.lt_or_gt_of_ne e with q | q
 ·exact(List.pairwise_iff_getElem.mp nd) i j (by simpa using gr) (by simpa using mG) q z
 ·exact(List.pairwise_iff_getElem.mp nd) j i (by simpa using mG) (by simpa using gr) q z.symm
theorem dz.rev(h:dz n p)(i j:Nat):dz n (kas_rev p i j):=(mirror_perm p i j _).trans h
theorem dz.Ls(h:dz n p)(i j:Nat):dz n (bubble p i j):=(bubble_perm p i j).trans h
theorem vG(h:dz n p):∀ (f m:Nat),1<=m->m + f<=n->Good n (kas_asc p f m) (λr=>m<=r/\r<=n)
 | 0,m,h1,h2=>⟨Wk _,h2⟩
 | f + 1,m,h1,h2=>⟨h.lt (by omega) _,h.lt (by omega) _,h.ne (by omega) (by omega) (by omega),λb=>by
  cases b
  ·exact(vG h f (m + 1) (by omega) (by omega)).mono λr z=>⟨by omega,z.2⟩
  ·exact⟨Wk _,by omega⟩⟩
theorem sA:∀ (f:Nat) {p:Array Nat} (h:dz n p) (m q:Nat),1<=m->m + f<=n->Good n (kas_desc f p m q) (λr=>dz n r.1/\1<=r.2.1/\r.2.1<=n)
 | 0,p,h,m,q,h1,h2=>⟨h,h1,h2⟩
 | f + 1,p,h,m,q,h1,h2=>⟨h.lt (by omega) _,h.lt (by omega) _,h.ne (by omega) (by omega) (by omega),λb=>by
  cases b
  ·refine⟨h.lt (by omega) _,h.lt (by omega) _,h.ne (by omega) (by omega) (by omega),λd=>?_⟩
   cases d
   ·exact sA f h (m + 1) (q + 1) (by omega) (by omega)
   ·exact⟨h,h1,show m<=n by omega⟩
  ·show Good n (if q > 0 then kas_desc f (kas_rev p (m - (q + 1)) m) (m + 1) 0 else kas_desc f p (m + 1) 0) _;split
   ·exact sA f (h.rev _ _) (m + 1) 0 (by omega) (by omega)
   ·exact sA f h (m + 1) 0 (by omega) (by omega)⟩
theorem BC(h:dz n p)(h1:1<=m)(h2:m<=n):Good n (kas_tail3 m n p) (λr=>dz n r.2/\1<=r.1/\r.1<=n) :=
 (vG (h.rev 0 m) (n - m) m h1 (by omega)).bind λr z=>⟨h.rev _ _,by have:=z.1; omega,z.2⟩
theorem BD(h:dz n p)(h1:1<=m)(h2:m + 1<=n):Good n (kas_descPart m n p) (λr=>dz n r.2/\1<=r.1/\r.1<=n) :=
 (sA (n - (m + 1)) h (m + 1) 0 (by omega) (by omega)).bind λr z=>by
  show Good n (if r.2.2 > 0 then _ else _) _;split
  ·exact BC (z.1.rev _ _) z.2.1 z.2.2
  ·exact BC z.1 z.2.1 z.2.2
theorem Lu(h:dz n p)(h2:2<=n):Good n (kas_count n p) (λr=>dz n r.2/\1<=r.1/\r.1<=n) :=
 (vG h (n - 1) 1 (by omega) (by omega)).bind λm z=>by
  show Good n (if (m == n)=true then _ else _) _;split
  ·exact⟨h,z.1,z.2⟩
  ·rename_i hm;have Bz:m≠n:=λe=>hm (by simp[e])
   split
   ·refine⟨h.lt (by omega) _,h.lt (by omega) _,h.ne (by omega) (by omega) (by omega),λc=>?_⟩
    cases c
    ·exact BD (h.rev _ _) z.1 (by omega)
    ·exact⟨h,z.1,z.2⟩
   ·exact BD h z.1 (by omega)
theorem vH(h:dz n p)(hk:k < n):∀ (f l r:Nat),r<=k->Good n (kas_place p k f l r) (λ_=>True)
 | 0,l,r,_=>trivial
 | f + 1,l,r,hr=>by
  show Good n (if l ≥ r then _ else _) _;split
  ·trivial
  ·refine⟨h.lt (by omega) _,h.lt (by omega) _,h.ne (by omega) (by omega) (by omega),λc=>?_⟩
   cases c
   ·exact vH h hk f _ _ hr
   ·exact vH h hk f _ _ (by omega)
theorem BF:∀ (f:Nat) {p:Array Nat} (h:dz n p) (k:Nat),k + f<=n->Good n (kas_bin f p k) (λr=>dz n r)
 | 0,p,h,k,_=>h
 | f + 1,p,h,k,hk=>(vH h (by omega) k 0 k (Wk _)).bind λl _=>BF f (h.Ls _ _) (k + 1) (by omega)
theorem BG(h2:2<=n):Good n (kas_sort n) (λr=>dz n r) :=
 (Lu (.refl _) h2).bind λr z=>by
  show Good n (if r.1 < n then _ else _) _;split
  ·exact BF _ z.1 _ (by omega)
  ·exact z.1
end
def fH(ks:List Tx):List Nat:=(runK (λi j=>decide (ks.getD i [] < ks.getD j [])) (kas_sort ks.length)).toList
theorem sC(h:2<=ks.length):(fH ks).Perm (Q9 ks.length):=dz.list (Good.run _ (BG h))
structure jZ(h:Heap)(vs:List Value)(ks:List Tx):Prop where
 len:ks.length=vs.length
 at':∀ i v,vs[i]? = some v->∃ b o xs m t,v = .ref b/\h.get? b=some o/\o.cls = .type "tuple"/\o.data = .seq xs m/\xs[0]? = some (.str (toS (ks.getD i [])) t)
theorem jZ.keeps (t:jZ h vs ks) (k:∀ b o,h.get? b=some o->o.cls = .type "tuple"->h'.get? b=some o):jZ h' vs ks :=
 ⟨t.len,λi v e=>let ⟨b,o,xs,m,tk,e1,e2,e3,r⟩:=t.at' i v e; ⟨b,o,xs,m,tk,e1,k b o e2 e3,e3,r⟩⟩
theorem BH:∀ {vs:List Value} {ks:List Tx},jZ h vs ks->∃ fs,KatTups h vs fs/\fs.length=vs.length/\∀ v ∈ fs,∃ x t,v=Value.str x t
 | [],ks,t=>⟨[],trivial,rfl,λv h=>by simp at h⟩
 | v :: vs,[],t=>by have:=t.len; simp at this
 | v :: vs,k :: ks,t=>by
  obtain⟨fs,a,b,c⟩:=BH (vs:=vs) (ks:=ks) ⟨by have:=t.len; simpa using this,λi v e=>by
   have:=t.at' (i + 1) v (by simpa using e);simpa using this⟩
  obtain⟨x,o,xs,m,tk,rfl,e2,e3,e4,e5⟩:=t.at' 0 v rfl;exact⟨_ :: fs,⟨⟨x,o,xs,m,rfl,e2,e3,e4,e5⟩,a⟩,by simp[b],λv hv=>by
   rcases Wo.mp hv with rfl | hv
   ·exact⟨_,_,rfl⟩
   ·exact c v hv⟩
section
variable {prog:Wm} {w:Wr} {A:Ws} {E:Value->W2->Prop} {s:W2} {vs:List Value} {ks:List Tx}
theorem Lv(t:jZ s.heap vs ks)(nd:ks.Nodup)(hi:i < vs.length)(hj:j < vs.length)(ne:i≠j)(h:C (decide (ks.getD i [] < ks.getD j [])) s):kas_ask prog w A (tuples' true) vs i j C s:=by
 obtain⟨a,o,xs,m,tk,e1,e2,e3,e4,e5⟩:=t.at' i vs[i] (by simp[hi]);obtain⟨b,p,ys,n,tl,f1,f2,f3,f4,f5⟩:=t.at' j vs[j] (by simp[hj]);unfold kas_ask;rw[Ja,Ja,W6 hi,W6 hj];simp only[Jz];rw[e1,f1];refine kat_lt e2 e4 f2 f4 ?_;have hx:∃ r,xs.toList = .str (toS (ks.getD i [])) tk :: r:=by
  have:xs.toList[0]? = some (.str (toS (ks.getD i [])) tk):=by simpa using e5
  cases z:xs.toList with
  | nil=>rw[z] at this; simp at this
  | cons u r=>rw[z] at this; simp at this; exact⟨r,by rw[this]; simp⟩
 have hy:∃ r,ys.toList = .str (toS (ks.getD j [])) tl :: r:=by
  have:ys.toList[0]? = some (.str (toS (ks.getD j [])) tl):=by simpa using f5
  cases z:ys.toList with
  | nil=>rw[z] at this; simp at this
  | cons u r=>rw[z] at this; simp at this; exact⟨r,by rw[this]; simp⟩
 obtain⟨r,hr⟩:=hx;obtain⟨q,hq⟩:=hy;rw[hr,hq,List.zip_cons_cons];have Lw:i < ks.length:=by rw[t.len]; exact hi
 have Lx:j < ks.length:=by rw[t.len]; exact hj
 have cn:(toS (ks.getD i []) == toS (ks.getD j []))=false:=by
  rw[beq_eq_false_iff_ne];intro z;have z:=rj z;rw[Ja,Ja,W6 Lw,W6 Lx] at z;exact ne ((JX nd).mp z)
 refine kat_cons (eqBool_str ?_);rw[cn];refine kat_no (oneLt_str ?_);rw[nj,nj];exact h
theorem Ly (ho:s.heap.get? a=some (Qg "list" vs.toArray n)) (t:jZ s.heap vs ks) (nd:ks.Nodup) (h2:2<=vs.length) (n5:vs.length < 64)
  (h:P (.done (.ret .none)) { s with heap:=sortedHeap s.heap a vs (JK ((fH ks).map λi=>vs.getD i Value.none)) }):W7 (model prog w) A (Builtin.«list.sort» ⟨[.ref a],[]⟩) P E s:=by
 have bu:a < s.heap.objs.size:=Wp ho;obtain⟨e1,ho1⟩:∃ e1,(s.heap.update a (Obj.mapSeq λ_=>(#[]:Array Value))).get? a=some (Qg "list" #[] e1):=⟨_,get?_update_seq ho λ_=>#[]⟩
 rw[list_sort_plain];refine W0 (listItems_at ho rfl (W0 (listUpdate_at ho rfl (W0 (seqEpoch_at ho1 rfl (W0 (wpAny_newTuple (W0 (wpAny_newList (WB ?_) (Qc _))) (by show vs.length<=_; rw[QG]; omega))))) (by rw[Wq,QG]; omega) (Qc _))));show W7 (model prog w) A _ P E { s with heap:=((s.heap.update a (Obj.mapSeq λ_=>(#[]:Array Value))).push (Qg "tuple" vs.toArray 0)).push (Qg "list" #[] 0) };have h6:(((s.heap.update a (Obj.mapSeq λ_=>(#[]:Array Value))).push (Qg "tuple" vs.toArray 0)).push (Qg "list" #[] 0)).get? a=some (Qg "list" #[] e1):=W8 _ (W8 _ ho1);have t6:jZ (((s.heap.update a (Obj.mapSeq λ_=>(#[]:Array Value))).push (Qg "tuple" vs.toArray 0)).push (Qg "list" #[] 0)) vs ks:=t.keeps λb o e c=>by
  have nb:b≠a:=λz=>by
   rw[z,ho] at e
   cases e;exact absurd (Value.type.inj c) (by decide)
  refine W8 _ (W8 _ ?_);rw[Jq _ _ (Ne.symm nb)];exact e
 dsimp only;have mf:¬ vs.toArray.size < 2:=by rw[Wq]; omega
 rw[if_neg mf,if_neg mf];obtain⟨fs,kt,fl,ft⟩:=BH t6;refine W0 (kat_kind (s:={ s with heap:=((s.heap.update a (Obj.mapSeq λ_=>(#[]:Array Value))).push (Qg "tuple" vs.toArray 0)).push (Qg "list" #[] 0) }) (T:=.type "str") kt (by omega) (λv hv=>by obtain⟨x,tk,rfl⟩:=ft v hv; exact .now) rfl ?_);refine W0 (QB (kat_run (s:={ s with heap:=((s.heap.update a (Obj.mapSeq λ_=>(#[]:Array Value))).push (Qg "tuple" vs.toArray 0)).push (Qg "list" #[] 0) }) (κ:=tuples' true) (ks:=vs) (vs:=vs) (E:=E)
  (G:=λp s'=>p.toList=fH ks/\s' = { s with heap:=((s.heap.update a (Obj.mapSeq λ_=>(#[]:Array Value))).push (Qg "tuple" vs.toArray 0)).push (Qg "list" #[] 0) })
  (Q:=λcy s'=>(arrOf cy).map (·.2)=JK ((fH ks).map λi=>vs.getD i Value.none)/\failedOf cy=none/\s' = { s with heap:=((s.heap.update a (Obj.mapSeq λ_=>(#[]:Array Value))).push (Qg "tuple" vs.toArray 0)).push (Qg "list" #[] 0) })
  rfl h2 n5 (λp cy s' a1 a2 a3 a4=>⟨by rw[kat_snds rfl a2,a4.1],a3,a4.2⟩) ?_) ?_ λ_ _ e=>e)
 ·refine Good.wp (n:=vs.length) (lt:=λi j=>decide (ks.getD i [] < ks.getD j [])) (R:=λ_=>True) (λi j hi hj ne C hC=>Lv t6 nd hi hj ne hC) ((BG h2).mono λ_ _=>trivial) ⟨?_,rfl⟩;unfold fH;rw[t.len]
 ·rintro ⟨⟨⟩,cy⟩ s' ⟨q1,q2,rfl⟩;dsimp only at q1 q2 ⊢;have hz:((fH ks).map λi=>vs.getD i Value.none).length=vs.length:=by
   rw[Wi,(sC (ks:=ks) (by rw[t.len]; exact h2)).length_eq,Js,t.len]
  rw[q1];refine W0 (seqEpoch_at h6 rfl (W0 (listUpdate_at h6 rfl ?_ (Qc _) (by rw[Wq,hz,QG]; omega))));rw[q2];simp only[bne_self_eq_false,Q7,if_false];exact W1 h
theorem Lz(hl:s.heap.IsList l vs.toArray)(t:jZ s.heap vs ks)(nd:ks.Nodup)(h2:2<=vs.length)(n5:vs.length < 64)
  (h:Q (.ref (s.heap.objs.size + 1)) { s with heap:=sortedAll s.heap vs (JK ((fH ks).map λi=>vs.getD i Value.none)) }):W7 (model prog w) A (call (.builtin "sorted") [.ref l]) Q E s:=by
 refine Calls.call_function_entry kind_sorted plain_sorted entry_sorted (args_sorted1 _) ?_;unfold Builtin.«sorted»;refine W0 (m:=checkCount "sorted" 1 1 _) (W1 (W0 (collect_list hl (W0 (wpAny_newList ?_ (by rw[QG]; omega))) (by rw[QG]; omega))));have hz:((s.heap.push (Qg "list" #[] 0)).update s.heap.objs.size (Obj.mapSeq (· ++ vs.toArray))).objs.size=s.heap.objs.size + 1:=by rw[Heap.size_update,size_push']
 have qx:(((s.heap.push (Qg "list" #[] 0)).update s.heap.objs.size (Obj.mapSeq (· ++ vs.toArray))).push (Qg "list" vs.toArray 0)).get? (s.heap.objs.size + 1)=some (Qg "list" vs.toArray 0):=by
  rw[<- hz]; exact Wg _ rfl
 have t2:jZ (((s.heap.push (Qg "list" #[] 0)).update s.heap.objs.size (Obj.mapSeq (· ++ vs.toArray))).push (Qg "list" vs.toArray 0)) vs ks:=t.keeps λb o e _=>by
  have hb:b < s.heap.objs.size:=Wp e;refine W8 _ ?_;rw[Jq _ _ (JE hb)];exact W8 _ e
 show W7 _ _ _ _ _ { s with heap:=((s.heap.push (Qg "list" #[] 0)).update s.heap.objs.size (Obj.mapSeq (· ++ vs.toArray))).push (Qg "list" vs.toArray 0) };rw[hz];refine W0 (WB (Ww slot_list_sort ⟨_,qx,rfl⟩ entry_list_sort (Ly (s:={ s with heap:=((s.heap.push (Qg "list" #[] 0)).update s.heap.objs.size (Obj.mapSeq (· ++ vs.toArray))).push (Qg "list" vs.toArray 0) }) qx t2 nd h2 n5 ⟨_,rfl,?_⟩) (args_list_sort _)));exact W1 ⟨_,rfl,h⟩
end
theorem Vals.at2{vs:List V}{ag:List Value}{i:Nat}{v:V}{u:Value}(r:Vals vs ag)(e1:vs[i]? = some v)(e2:ag[i]? = some u):RelV v u:=by
 obtain⟨u',e,q⟩:=Vals.get r e1;rw[e2] at e; cases e; exact q
theorem Vals.pick{vs:List V}{ag:List Value}(r:Vals vs ag):∀ is:List Nat,(∀ i ∈ is,i < vs.length)->Vals (is.map λi=>vs.getD i .a7) (is.map λi=>ag.getD i Value.none)
 | [],_=>.nil
 | i :: is,h=>by
  refine .cons ?_ (Vals.pick r is λj hj=>h j (Wc _ hj));have hi:=h i We;have hl:=r.length;have e1:vs.getD i .a7=vs[i]:=by simp[hi]
  have e2:ag.getD i Value.none=ag[i]'(by omega):=by simp[show i < ag.length by omega]
  show RelV (vs.getD i .a7) (ag.getD i Value.none);rw[e1,e2];exact Vals.at2 (i:=i) r (W6 hi) (W6 (by omega))
section
variable {X:Cx}
theorem LA:eB X (.builtin "sorted") (λxs H Q=>∃ (a:Addr) (vs:List V) (ks:List Tx),xs=[.ref a]/\cx X.K H a vs/\ks.length=vs.length/\(∀ (i:Nat) v,vs[i]? = some v->∃ b ws,v = .ref b/\H b=some (.tup ws)/\ws[0]? = some (.str (toS (ks.getD i []))))/\ks.Nodup/\2<=vs.length/\vs.length < 64 /\
  ∀ p,H p=none->Q (.ref p) (upd H p (.lst ((fH ks).map λi=>vs.getD i .a7)))):=by
 intro pins s σ H xs us Q I r h;obtain⟨a,vs,ks,rfl,hq,hlen,ht,nd,h2,n5,q⟩:=h;obtain⟨u,rfl,ru⟩:=gY r
 cases ru;obtain⟨ag,r',p,_⟩:=I.list hq;have hl:=r'.length;have t:jZ s.heap ag ks:=⟨by omega,λi v e=>by
  have hi:i < ag.length:=(W3.mp e).1;have hv:vs[i]? = some (vs[i]'(by omega)):=by simp[show i < vs.length by omega]
  have rv:=Vals.at2 r' hv e;obtain⟨b,ws,eb,hb,h0⟩:=ht i _ hv;rw[eb] at rv;obtain rfl:v=Value.ref b:=rv;obtain⟨_,its',r2,n,eo⟩:=(show b0 X.prog X.w H s.heap b (.tup ws) from I.aC b _ hb)
  have kn:=r2.length;have Rk:0 < ws.length:=(W3.mp h0).1;have r0:=Vals.at2 r2 h0 (show its'[0]? = some (its'[0]'(by omega)) by simp[show 0 < its'.length by omega]);obtain⟨tk,e0⟩:=(show ∃ tk,its'[0]'(by omega)=Value.str (toS (ks.getD i [])) tk from r0)
  exact⟨b,_,its'.toArray,n,tk,rfl,eo,rfl,rfl,by rw[<- e0]; simp[show 0 < its'.length by omega]⟩⟩
 refine Lz p.isList t nd (by omega) (by omega) ?_;have hp:=sC (ks:=ks) (by omega);have zi:((fH ks).map λi=>vs.getD i V.a7).length=vs.length:=by rw[Wi,hp.length_eq,Js,hlen]
 obtain⟨e,he⟩:=sortedAll_at s.heap ag (JK ((fH ks).map λi=>ag.getD i Value.none));have I1:Inv X pins σ (upd H (s.heap.objs.size + 1) (.lst ((fH ks).map λi=>vs.getD i .a7))) { s with heap:=sortedAll s.heap ag (JK ((fH ks).map λi=>ag.getD i Value.none)) } :=
  I.laid (t':=s.toks) (λb o z=>sortedAll_old z) (JW _) (show b0 X.prog X.w _ _ _ (.lst ((fH ks).map λi=>vs.getD i .a7)) from⟨by rw[zi,QG]; omega,(fH ks).map λi=>ag.getD i Value.none,e,r'.pick _ λi hi=>by
   have:=hp.mem_iff.mp hi;simp at this;omega,he⟩)
 exact⟨.ref _,_,I1,rfl,q _ (I.aC.fresh (JW _))⟩
end
end L2
namespace DV
open PySem PySem.Spec PyProof.Rows L2
def lI:List D->Option (List Tx)
 | []=>some []
 | .tup (.str x :: _) :: r=>(lI r).map (x :: ·)
 | _ :: _=>none
theorem BI:∀ {ds:List D} {ks:List Tx},lI ds=some ks->ks.length=ds.length/\∀ (i:Nat) d,ds[i]? = some d->∃ r,d = .tup (.str (ks.getD i []) :: r)
 | [],ks,h=>by cases h; exact⟨rfl,λi d e=>by simp at e⟩
 | d :: r,ks,h=>by
  unfold lI at h;split at h
  ·rename_i e; cases e
  ·rename_i x q r' e
   cases e
   cases e:lI r with
   | none=>rw[e] at h; cases h
   | some ks' =>
    rw[e] at h
    cases h;obtain⟨h1,h2⟩:=BI e;refine⟨by simp[h1],λi d' e'=>?_⟩
    cases i with
    | zero=>simp at e'; subst e'; exact⟨q,by simp⟩
    | succ i=>simpa using h2 i d' (by simpa using e')
  ·cases h
def n8:List Tx->Bool
 | []=>true
 | x :: r=>!r.contains x && n8 r
theorem BJ:∀ {ks:List Tx},n8 ks=true->ks.Nodup
 | [],_=>.nil
 | x :: r,h=>by
  simp only[n8,Wt,Bool.not_eq_true',List.contains_iff_mem,<- Bool.not_eq_true] at h;exact WL.mpr ⟨by simpa using h.1,BJ h.2⟩
def lJ:D->Option S
 | .lst ds=>match lI ds with
  | some ks=>if 2<=ks.length/\ks.length < 64/\n8 ks=true then some (.own (.lst ((fH ks).map λi=>ds.getD i .a7))) else none
  | none=>none
 | _=>none
section
variable {X:Cx} {c:Fc} {e:Expr} {fb:BE} {pp pos:Pos}
theorem aD.pick(r:aD H O vs ds):∀ is:List Nat,(∀ i ∈ is,i < vs.length)->aD H O (is.map λi=>vs.getD i .a7) (is.map λi=>ds.getD i .a7)
 | [],_=>.nil
 | i :: is,h=>by
  have hi:=h i We;have hl:=r.1;refine .cons (r.2 i _ _ ?_ ?_) (aD.pick r is λj hj=>h j (Wc _ hj))
  ·simp[hi]
  ·simp[show i < ds.length by omega]
theorem LB{K:W4}:jV (λv H Q=>∃ (a:Addr) (vs:List V) (ks:List Tx),v = .ref a/\cx K H a vs/\ks.length=vs.length/\(∀ (i:Nat) v,vs[i]? = some v->∃ b ws,v = .ref b/\H b=some (.tup ws)/\ws[0]? = some (.str (toS (ks.getD i []))))/\ks.Nodup/\2<=vs.length/\vs.length < 64 /\
  ∀ p,H p=none->Q (.ref p) (upd H p (.lst ((fH ks).map λi=>vs.getD i .a7)))) lJ :=
 λc σ δ H x d s Q k rx hp q=>by
  cases d with
  | lst ds =>
   simp only[lJ] at hp
   cases e:lI ds with
   | none=>rw[e] at hp; cases hp
   | some ks =>
    rw[e] at hp;simp only at hp;split at hp
    ·rename_i hh
     cases hp;obtain⟨h1,h2⟩:=BI e;obtain⟨a,vs,ea,ha,ra⟩:=rx.lst;have hl:=ra.1;refine⟨a,vs,ks,ea,.inl ha,by omega,λi v ev=>?_,BJ hh.2.2,by omega,by omega,λp hp=>?_⟩
     ·have hi:i < vs.length:=(W3.mp ev).1;have hd:ds[i]? = some (ds[i]'(by omega)):=by simp[show i < ds.length by omega]
      obtain⟨r,er⟩:=h2 i _ hd;have rv:=ra.2 i v _ ev hd;rw[er] at rv
      cases rv with
      | @tup b ws _ _ hb hlen hat =>
       have h0:0 < ws.length:=by rw[hlen]; simp
       have r0:=hat 0 (ws[0]'h0) (.str (ks.getD i [])) (by simp[h0]) rfl;refine⟨b,ws,rfl,hb,?_⟩;generalize hz:ws[0]'h0=z at r0
       cases r0;rw[W6 h0,hz]
     ·refine q _ _ (.alloc k hp _) (bp.nu k (aD.pick ra _ λi hi=>?_) hp);have:=(sC (ks:=ks) hh.1).mem_iff.mp hi;simp at this;omega
    ·cases hp
  | _=>simp[lJ] at hp
theorem LC (hg:Gl X "sorted") (hm:X.mg "sorted" = none) (he:SB X c e fb) (hs:Wj [e] X.env=(false,eval e X.env) :: Wj [] X.env:=by rfl):SE X c (.Call (.Name "sorted" pp) [e] [] pos) (aK lJ fb) :=
 nA (r:=λv H Q=>∃ (a:Addr) (vs:List V) (ks:List Tx),v = .ref a/\cx X.K H a vs/\ks.length=vs.length/\(∀ (i:Nat) v,vs[i]? = some v->∃ b ws,v = .ref b/\H b=some (.tup ws)/\ws[0]? = some (.str (toS (ks.getD i []))))/\ks.Nodup/\2<=vs.length/\vs.length < 64 /\
  ∀ p,H p=none->Q (.ref p) (upd H p (.lst ((fH ks).map λi=>vs.getD i .a7)))) LA (λv H Q ⟨a,vs,ks,e,h⟩=>⟨a,vs,ks,by rw[e],h⟩) LB hg hm PyProof.Rows.boot_sorted he (by decide) (by decide) hs
end
section
variable {X:Cx} {c:Fc} {e:Expr} {fe:DE} {fb:BE} {pos:Pos}
end
section
variable {X:Cx}
end
section
variable {X:Cx} {c:Fc} {e:Expr} {fb:BE}
end
section
variable {X:Cx} {c:Fc} {e:Expr} {fe:DE}
end
section
variable {H H':Hp} {O:Addr->Prop} {v:V} {a:Addr} {us:List V}
end
section
variable {c:Fc} {σ:St} {δ δ1:Dl} {H H1:Hp} {i:Nat} {ds:List D} {g:Xc->Dl->Prop}
end
section
variable {X:Cx} {c:Fc} {e:Expr} {es:List Expr} {as:List Ak} {k n i:Nat} {x:Str} {G:DX} {pp pos:Pos}
end
section
variable {c:Fc} {σ σ':St} {δ δ':Dl} {H H':Hp} {B':Addr->Prop} {g:Xc->Dl->Prop} {i0:Nat} {a:Addr} {ds:List D}
end
end DV
namespace L2
open PySem PySem.Spec PyProof.Rows PySem.W DV
section
variable {prog:Wm} {w:Wr} {A:Ws} {E:Value->W2->Prop} {s:W2} {vs:List Value}
end
section
variable {lt:Nat->Nat->Bool} {r:Nat->Nat} {n:Nat} {α β:Type}
structure Lt(lt:Nat->Nat->Bool)(r:Nat->Nat)(n:Nat):Prop where
 lt:∀ i j,i < n->j < n->lt i j=decide (r i < r j)
 inj:∀ i j,i < n->j < n->i≠j->r i≠r j
end
end L2
namespace DV
open PySem PySem.Spec PyProof.Rows L2
section
variable {X:Cx} {c:Fc} {e:Expr} {fb:BE} {pp pos:Pos}
end
end DV
set_option maxHeartbeats 1000000
namespace SU
open PySem PyProof.Rows
section
variable {prog:Wm} {w:Wr} {A:Ws} {E:Value->W2->Prop} {s:W2}
section
variable {h:Heap} {a:Addr} {ks:List Str} {o:Obj} {es:Array (Int×Value)} {ep:Nat} {t:SetTable} {xs:List (Str×Tok)}
end
end
section
variable {prog:Wm} {w:Wr} {A:Ws} {R:Result->W2->Prop} {I:Addr} {fp wr:List Addr} {G:Array GenState->Array GenState->Prop} {n:Nat} {P:Nat->Value->Prop} {St:Nat->W2->Prop}
end
section
variable {prog:Wm} {w:Wr} {A:Ws} {E:Value->W2->Prop} {s:W2}
end
section
variable {mask:Nat} {owner:Array (Option Nat)}
end
section
variable {prog:Wm} {w:Wr} {A:Ws} {E:Value->W2->Prop} {s:W2}
end
section
variable {prog:Wm} {w:Wr} {A:Ws} {E:Value->W2->Prop} {s:W2}
end
section
variable {prog:Wm} {w:Wr} {A:Ws} {E:Value->W2->Prop} {s:W2}
section
variable {a it:Addr} {ks:List Str} {o:Obj} {es:Array (Int×Value)} {ep:Nat} {t:SetTable} {xs:List (Str×Tok)} {i:Nat}
end
end
section
variable {prog:Wm} {w:Wr} {A:Ws} {E:Value->W2->Prop} {s:W2}
variable {a it:Addr} {ks:List Str} {o:Obj} {es:Array (Int×Value)} {ep:Nat} {t:SetTable} {xs:List (Str×Tok)} {i:Nat}
end
section
variable {prog:Wm} {w:Wr} {A:Ws} {E:Value->W2->Prop} {s:W2}
variable {a it:Addr} {ks:List Str} {o:Obj} {es:Array (Int×Value)} {ep:Nat} {t:SetTable} {xs:List (Str×Tok)} {i:Nat}
end
section
variable {prog:Wm} {w:Wr} {A:Ws} {E:Value->W2->Prop} {s:W2}
end
end SU
set_option maxHeartbeats 400000
namespace L2
open PySem PySem.Spec PyProof.Rows PySem.W DV SU
section
variable {X:Cx}
end
end L2
namespace DV
open PySem PySem.Spec PyProof.Rows L2 SU
section
variable {X:Cx} {c:Fc} {a b:Expr} {f g:DE} {pp pos p1 Rl p3 p4 p5:Pos}
end
end DV
namespace L2
open PySem PySem.Spec PyProof.Rows PySem.W DV
section
variable {X:Cx}
end
end L2
namespace DV
open PySem PySem.Spec PyProof.Rows L2
section
variable {X:Cx} {c:Fc} {e:Expr} {fb:BE} {pp pos:Pos}
end
section
variable {X:Cx}
end
section
variable {X:Cx} {c:Fc} {o e:Expr} {fa fb:DE}
end
end DV
set_option maxHeartbeats 3200000
namespace SU
open PySem PyProof.Rows
section
variable {prog:Wm} {w:Wr} {A:Ws} {E:Value->W2->Prop} {s:W2}
end
end SU
set_option maxHeartbeats 1000000
namespace DV
open PySem (sizeLine)
open L2
section
variable {α β:Type}
@[simp] theorem eh (a:α) (δ:Dl) (f:α->Dl->Rs β):(Rs.ok a δ).bind f=f a δ:=id rfl
@[simp] theorem Rm (f:α->Dl->Rs β):(Rs.stuck:Rs α).bind f = .stuck:=id rfl
@[simp] theorem n9 (d:D):(S.pure d).d=d:=id rfl
@[simp] theorem vI (d:D):(S.own d).d=d:=id rfl
end
section
variable (δ:Dl) (i:Nat) (d e:D) (f g:DE) (fb:BE) (t u:DT) (p:D->D->Option S)
@[simp] theorem LD:eD d δ = .ok (.pure d) δ:=id rfl
@[simp] theorem vJ:aq f δ=(f δ).bind λr δ'=>.ok r.d δ':=id rfl
@[simp] theorem LF:bj p f fb δ=(f δ).bind λx δ1=>(fb δ1).bind λy δ2=>p2 p x.d y δ2:=id rfl
@[simp] theorem Rn:rM t u δ=(t δ).bind λb δ1=>if b then u δ1 else .ok false δ1:=id rfl
@[simp] theorem Ro:mw t u δ=(t δ).bind λb δ1=>if b then .ok true δ1 else u δ1:=id rfl
@[simp] theorem LG:iZ t δ=(t δ).bind λb δ1=>.ok (!b) δ1:=id rfl
@[simp] theorem Rp:Ie t f g δ=(t δ).bind λb δ1=>if b then f δ1 else g δ1:=id rfl
@[simp] theorem Rq:d_ δ = .ok .next δ:=id rfl
@[simp] theorem Rr:bq δ = .ok true δ:=id rfl
@[simp] theorem Rt:IV f δ=(f δ).bind λ_ δ1=>.ok .next δ1:=id rfl
@[simp] theorem Rv:dD f δ=(f δ).bind λr δ1=>.ok (.ret r) δ1:=id rfl
@[simp] theorem vK (a b:DS):dQ t a b δ=(t δ).bind λx δ1=>if x then a δ1 else b δ1:=id rfl
@[simp] theorem n_ (it:DI) (gg:DG) (b:DS):cf it gg b δ=(it δ).bind λds δ1=>forL gg b ds δ1:=id rfl
@[simp] theorem Rw (a:DA):bI a δ=(a δ).bind λds δ'=>.ok (.pure (.tup ds)) δ':=id rfl
@[simp] theorem Rx (a:DA):cA a δ=(a δ).bind λds δ'=>.ok (.own (.lst ds)) δ':=id rfl
@[simp] theorem Ry (ds:List D):ve ds δ = .ok (.own (.lst ds)) δ:=id rfl
@[simp] theorem Rz:aP δ = .ok [] δ:=id rfl
@[simp] theorem RA (a:DA):az f a δ=(f δ).bind λx δ1=>(a δ1).bind λxs δ2=>.ok (x.d :: xs) δ2:=id rfl
@[simp] theorem RB (q:D->Option S):aK q fb δ=(fb δ).bind λx δ1=>p1 q x δ1:=id rfl
@[simp] theorem RC:rS f g δ=(f δ).bind λx δ1=>(g δ1).bind λy δ2=>p2 uY x.d y.d δ2:=id rfl
@[simp] theorem RD (fl fh:lz):rU f fl fh δ=(f δ).bind λx δ1=>(fl δ1).bind λl δ2=>(fh δ2).bind λh δ3=>p1 (fE l h) x.d δ3:=id rfl
@[simp] theorem RE:nJ δ = .ok none δ:=id rfl
@[simp] theorem BK (cs:List Nat) (it:DI) (gg:DG) (el:DE):bU cs it gg t el δ=(it δ).bind λds δ1=>if cs.any (bJ δ1) then .stuck else
 (cg cs gg t el ds (bD cs δ1) []).bind λacc δ2=>.ok (.own (.lst acc)) (cI cs δ1 δ2):=id rfl
@[simp] theorem LH (np:List Nat) (r:S):ae np i r δ=if np.contains i then none else some (δ.set i (some r)):=id rfl
@[simp] theorem RF (gg:DG) (b:DS):forL gg b [] δ = .ok .next δ:=id rfl
end
section
variable (δ:Dl) (i:Nat) (d e:D) (f g:DE) (fb:BE) (p:D->D->Option S) (s:S)
@[simp] theorem sD (x y:D):p2 p x y δ=match p x y with | some s=>.ok s δ | none=>.stuck:=id rfl
@[simp] theorem RG (q:D->Option S) (x:D):p1 q x δ=match q x with | some s=>.ok s δ | none=>.stuck:=id rfl
@[simp] theorem LI (a b:DS):ar a b δ=(a δ).bind λfl δ1=>match fl with | .next=>b δ1 | .ret r=>.ok (.ret r) δ1 | .brk=>.ok .brk δ1 | .cont=>.ok .cont δ1:=id rfl
@[simp] theorem RH {α β:Type} (c:Prop) [Decidable c] (x y:Rs α) (k:α->Dl->Rs β):(if c then x else y).bind k=if c then x.bind k else y.bind k:=by split <;> rfl
end
theorem dj:W9=16777216:=rfl
theorem j0(xs:List α)(i:Nat):dB xs (i:Int)=xs[i]?:=by
 unfold dB fg;by_cases h:i < xs.length
 ·rw[if_pos (by omega),if_pos (by omega)];simp
 ·rw[if_pos (by omega),if_neg (by omega)];simp[Q1 (Nat.le_of_not_lt h)]
theorem vL(xs:List α):dB xs 2=xs[2]?:=j0 xs 2
theorem kI(xs:List α):dB xs 0=xs[0]?:=j0 xs 0
theorem sE(xs:List α):dB xs 1=xs[1]?:=j0 xs 1
theorem sF(I:Dl->Prop)(R:D->D->Prop) :
  ∀ (ds:List D) (δ:Dl) (acc:List D),I δ->acc.length + ds.length<=W9 ->
   (∀ d ∈ ds,∀ δ,I δ->∃ δ1 δ2 x δ3,g (.pure d) δ=some δ1/\t δ1 = .ok true δ2/\el δ2 = .ok x δ3/\I (bD cs δ3)/\R d x.d) ->
   ∃ xs δ',cg cs g t el ds δ acc = .ok (acc ++ xs) δ'/\I δ'/\xs.length=ds.length/\∀ (i:Nat) d x,ds[i]? = some d->xs[i]? = some x->R d x
 | [],δ,acc,h,_,_=>⟨[],δ,by simp[cg],h,rfl,λi d x e=>by simp at e⟩
 | d :: r,δ,acc,h,hl,hs=>by
  obtain⟨δ1,δ2,x,δ3,e1,e2,e3,h3,hr⟩:=hs d We δ h;have gI:acc.length < W9:=by simp at hl; omega
  obtain⟨xs,δ',e4,h4,hn,hf⟩:=sF (g:=g) (t:=t) (el:=el) I R r (bD cs δ3) (acc ++ [x.d]) h3 (by simp at hl ⊢; omega) (λd hd=>hs d (Wc _ hd));refine⟨x.d :: xs,δ',?_,h4,by simp[hn],λi d' x' f1 f2=>?_⟩
  ·unfold cg;rw[e1];simp only[e2,eh,if_true,e3,if_pos gI,e4];simp
  ·cases i with
   | zero=>simp at f1 f2; subst f1 f2; exact hr
   | succ i=>exact hf i d' x' (by simpa using f1) (by simpa using f2)
theorem LJ(F:D->D)(δ:Dl) :
  ∀ (ds:List D) (acc:List D),acc.length + ds.length<=W9 ->
   (∀ d ∈ ds,∃ δ1 δ2 x δ3,g (.pure d) δ=some δ1/\t δ1 = .ok true δ2/\el δ2 = .ok x δ3/\bD cs δ3=δ/\x.d=F d) ->
   cg cs g t el ds δ acc = .ok (acc ++ ds.map F) δ:=by
 intro ds acc hl hs;obtain⟨xs,δ',e,h,hn,hf⟩:=sF (cs:=cs) (g:=g) (t:=t) (el:=el) (λδ'=>δ'=δ) (λd x=>x=F d) ds δ acc rfl hl (λd hd δ' h=>by
  subst h;obtain⟨δ1,δ2,x,δ3,a,b,c,d,e⟩:=hs d hd;exact⟨δ1,δ2,x,δ3,a,b,c,d,e⟩)
 subst h;rw[e];congr 2
 apply List.ext_getElem?;intro i;by_cases hi:i < ds.length
 ·have:=hf i ds[i] (xs[i]'(by omega)) (by simp[hi]) (by simp[hn,hi]);simp[hn,hi,this]
 ·rw[Q1 (by omega),Q1 (by simp; omega)]
theorem kJ(I:Nat->Dl->Prop) :
  ∀ (ds:List D) (n:Nat) (δ:Dl),I n δ ->
   (∀ (i:Nat) d δ,ds[i]? = some d->I (n + i) δ->∃ δ1 δ2,g (.pure d) δ=some δ1/\b δ1 = .ok .next δ2/\I (n + i + 1) δ2) ->
   ∃ δ',forL g b ds δ = .ok .next δ'/\I (n + ds.length) δ'
 | [],n,δ,h,_=>⟨δ,rfl,h⟩
 | d :: r,n,δ,h,hs=>by
  obtain⟨δ1,δ2,e1,e2,h2⟩:=hs 0 d δ rfl h;obtain⟨δ',e3,h3⟩:=kJ (g:=g) (b:=b) I r (n + 1) δ2 h2 (λi d' δ' e hi=>by
   have:=hs (i + 1) d' δ' (by simpa using e) (by rw[show n + (i + 1)=n + 1 + i by omega]; exact hi);rw[show n + (i + 1) + 1=n + 1 + i + 1 by omega] at this;exact this)
  refine⟨δ',?_,by rw[WG,show n + (r.length + 1)=n + 1 + r.length by omega]; exact h3⟩;unfold forL;rw[e1];simp only[e2,eh,e3]
theorem pU(xs:List Tx):fU (xs.map .str)=some xs:=by
 induction xs with
 | nil=>rfl
 | cons x r ih=>simp[fU,ih]
theorem vM:∀ ts:List Tx,jv [] ts=ts.flatten
 | []=>rfl
 | [x]=>by simp[jv]
 | x :: y :: r=>by rw[jv,vM (y :: r)]; simp
theorem LM(xs:List Nat):jw (xs.map λn=>[n])=xs.length:=by
 unfold jw;induction xs with
 | nil=>rfl
 | cons x r ih=>simp at ih ⊢; omega
theorem LO(xs:List Nat):(xs.map λn=>[n]).flatten=xs:=by
 induction xs with
 | nil=>rfl
 | cons x r ih=>simp[ih]
theorem BL(xs:List Nat)(h:xs.length<=16777216):dC [] (.lst (xs.map λn=>.str [n]))=some (.pure (.str xs)):=by
 have e:(xs.map λn=>D.str [n])=(xs.map λn=>[n]).map D.str:=by simp
 unfold dC;simp only[e,pU,LM,vM,LO];rw[if_pos (by simpa using h)]
theorem LP(r:Tx)(c:Nat)(h:c < r.length)(hl:r.length<=64):aw (.str r) (.int c)=some (.pure (.str [r.getD c 0])):=by
 unfold aw;have:W9=16777216:=rfl;simp only;rw[if_pos (by omega),j0];simp[h]
abbrev cG(fl:List Tx):D:=.tup (fl.map .str)
def ke(r:S)(δ1:Dl):Rs (List D):=match r with
 | .pure (.int j)=>if nN j then .ok (dE 0 j.toNat) δ1 else .stuck
 | _=>.stuck
@[simp] theorem RI (f:DE) (δ:Dl):fV f δ=(f δ).bind λr δ1=>ke r δ1:=id rfl
theorem LQ(w:Nat)(hw:w<=1000000):nN (w:Int)=true:=by
 have h1 : -(4611686018427387904:Int)<=(w:Int):=by omega
 have h2:(w:Int) < 4611686018427387904:=by omega
 unfold nN;rw[Wt];exact⟨decide_eq_true h1,decide_eq_true h2⟩
theorem LR(j:Int)(hs:nN j=true)(δ:Dl):ke (.pure (.int j)) δ = .ok (dE 0 j.toNat) δ:=by unfold ke; simp only[hs,if_true]
theorem pV(w:Nat)(hw:w<=1000000)(δ:Dl):ke (.pure (.int w)) δ = .ok (dE 0 w) δ:=by
 have:=LR (w:Int) (LQ w hw) δ;rwa [Qs] at this
theorem sG(h:(dE 0 n)[i]? = some d):i < n/\d = .int (i:Int):=by
 unfold dE at h;rw[Wl] at h;by_cases hi:i < n
 ·rw[List.getElem?_range hi] at h;simp at h;exact⟨hi,h.symm⟩
 ·rw[Q1 (by simpa using hi)] at h
  cases h
theorem BM(h:d ∈ dE 0 n):∃ i:Nat,i < n/\d = .int (i:Int):=by
 obtain⟨i,hi⟩:=JA h;exact⟨i,sG hi⟩
@[simp] theorem LS (lo:Int) (n:Nat):(dE lo n).length=n:=by simp[dE]
def jb(x:Nat):List Nat->List Nat
 | []=>[x]
 | y :: r=>if y < x then y :: jb x r else x :: y :: r
def iK:List Nat->List Nat
 | []=>[]
 | x :: r=>jb x (iK r)
theorem BN(a b:Nat):(([a]:Tx) < [b]) ↔ a < b:=by
 constructor
 ·intro h
  cases h with
  | cons h=>cases h
  | rel h=>exact h
 ·intro h; exact List.Lex.rel h
theorem BO(x:Nat):∀ xs:List Nat,ko [x] (xs.map λn=>[n])=(jb x xs).map λn=>[n]
 | []=>rfl
 | y :: r=>by
  simp only[Wd,ko,jb];by_cases h:y < x
  ·rw[if_pos ((BN y x).mpr h),if_pos h,BO x r]; rfl
  ·rw[if_neg λz=>h ((BN y x).mp z),if_neg h]; rfl
theorem BP:∀ xs:List Nat,iy (xs.map λn=>[n])=(iK xs).map λn=>[n]
 | []=>rfl
 | x :: r=>by rw[Wd,iy,BP r,BO]; rfl
theorem vN:∀ {xs:List Nat},y ∈ jb x xs ↔ y=x\/y ∈ xs
 | []=>by simp[jb]
 | z :: r=>by
  unfold jb;split
  ·simp[vN (xs:=r)]; constructor <;> (rintro (h | h | h) <;> simp[h])
  ·simp
theorem vO:∀ {xs:List Nat},y ∈ iK xs ↔ y ∈ xs
 | []=>by simp[iK]
 | x :: r=>by rw[iK,vN,vO (xs:=r)]; simp
theorem BQ(x:Nat):∀ xs:List Nat,(jb x xs).length=xs.length + 1
 | []=>rfl
 | y :: r=>by unfold jb; split <;> simp[BQ x r]
theorem BR:∀ xs:List Nat,(iK xs).length=xs.length
 | []=>rfl
 | x :: r=>by rw[iK,BQ,BR r]; rfl
theorem BS:∀ {xs:List Nat},xs.Pairwise (· < ·)->x ∉ xs->(jb x xs).Pairwise (· < ·)
 | [],_,_=>by simp[jb]
 | y :: r,h,hx=>by
  rw[List.pairwise_cons] at h;simp at hx;unfold jb;split
  ·rename_i hl;rw[List.pairwise_cons];refine⟨λz hz=>?_,BS h.2 hx.2⟩;rcases vN.mp hz with rfl | hz
   ·exact hl
   ·exact h.1 z hz
  ·rename_i hl;rw[List.pairwise_cons];refine⟨λz hz=>?_,JI.mpr h⟩;rcases Wo.mp hz with rfl | hz
   ·omega
   ·have:=h.1 z hz; omega
theorem BU:∀ {xs:List Nat},xs.Nodup->(iK xs).Pairwise (· < ·)
 | [],_=>by simp[iK]
 | x :: r,h=>by
  rw[WL] at h;exact BS (BU h.2) λz=>h.1 (vO.mp z)
theorem vP{P:Nat->Prop}:∀ {xs:List D},(∀ x ∈ xs,∃ n,P n/\x = .str [n])->∃ row:List Nat,xs=row.map (λn=>.str [n])/\∀ n ∈ row,P n
 | [],_=>⟨[],rfl,by simp⟩
 | x :: r,h=>by
  obtain⟨n,hn,rfl⟩:=h x We;obtain⟨row,rfl,hr⟩:=vP (xs:=r) λy hy=>h y (Wc _ hy)
  exact⟨n :: row,rfl,by simpa using ⟨hn,hr⟩⟩
theorem BV{R:D->D->Prop}{ds xs:List D}{Q:D->Prop}(hn:xs.length=ds.length)(hf:∀ (i:Nat) d x,ds[i]? = some d->xs[i]? = some x->R d x)(hq:∀ d x,d ∈ ds->R d x->Q x):∀ x ∈ xs,Q x:=λx hx=>by
 obtain⟨i,hi⟩:=JA hx;have h1:=(W3.mp hi).1;have h2:ds[i]? = some (ds[i]'(by omega)):=by simp[show i < ds.length by omega]
 exact hq _ x (J4 _) (hf i _ x h2 hi)
theorem BW(w:Nat)(hw:w<=100000)(δ:Dl):ke (.pure (.int (1 + (w:Int)))) δ = .ok (dE 0 (1 + w)) δ:=by
 have:=pV (1 + w) (by omega) δ;rwa [show(((1 + w:Nat):Int))=1 + (w:Int) by omega] at this
abbrev aZ(b:Nat×List Tx):D:=.tup [.str [b.1],cG b.2]
abbrev aB(h w:Nat)(bs:List (Nat×List Tx)):D:=.tup [.int h,.int w,.tup (bs.map aZ)]
structure BX(h w:Nat)(bs:List (Nat×List Tx)):Prop where
 h0:0 < h
 h1:h<=4
 w0:0 < w
 w1:w<=4
 hw:2 < h + w
 n0:0 < bs.length
 n1:bs.length<=26
 up:(bs.map (·.1)).Pairwise (· < ·)
 RJ:∀ b ∈ bs,97<=b.1/\b.1<=122
 iL:∀ b ∈ bs,b.2.length=h/\∀ r ∈ b.2,r.length=w/\∀ n ∈ r,n ∈ bs.map (·.1)
theorem jC(f F:A->D)(δ:Dl):∀ (as:List A) (acc:List D),acc.length + as.length<=W9 ->
  (∀ a ∈ as,∃ δ1 δ2 x δ3,g (.pure (f a)) δ=some δ1/\t δ1 = .ok true δ2/\el δ2 = .ok x δ3/\bD cs δ3=δ/\x.d=F a)->cg cs g t el (as.map f) δ acc = .ok (acc ++ as.map F) δ
 | [],acc,_,_=>by simp[cg]
 | a :: r,acc,hl,hs=>by
  obtain⟨δ1,δ2,x,δ3,e1,e2,e3,e4,e5⟩:=hs a We;have gI:acc.length < W9:=by simp at hl; omega
  have ih:=jC (cs:=cs) (g:=g) (t:=t) (el:=el) f F δ r (acc ++ [x.d]) (by simp at hl ⊢; omega) (λa ha=>hs a (Wc _ ha));rw[Wd];unfold cg;rw[e1];rw[e5] at ih;simp only[e2,eh,if_true,e3,if_pos gI,e4,e5,ih];simp
end DV
set_option maxHeartbeats 400000
namespace L2
open PySem PySem.Spec PyProof.Rows PySem.W DV SU
section
variable {X:Cx}
end
end L2
namespace DV
open PySem PySem.Spec PyProof.Rows L2 SU
section
variable {X:Cx} {c:Fc} {e:Expr} {fb:BE} {pp pos RK RL:Pos}
end
end DV
namespace PySem
theorem LU:entryFor table "dict_itemiterator.__iter__" = some Builtin.«dict_keyiterator.__iter__» :=
 entryFor_alias (id':="dict_keyiterator.__iter__") (by kernel_rfl) rfl (by decide +kernel) (by kernel_rfl)
theorem LV(hit:IsItemIter s.heap it d i n ep ok ov)(h:Q (.ref it) s):W7 (model prog w) A (pyIter (.ref it)) Q E s:=by
 have hT:s.TypeIs (.ref it) "dict_itemiterator":=⟨_,hit,rfl⟩
 refine Jt hT F.slot_dict_itemiterator_iter (Ww F.slot_dict_itemiterator_iter hT LU ?_ (F.args_dict_itemiterator_iter_1 _));show W7 _ _ (ret (.ref it)) _ _ s;exact W1 ⟨_,rfl,"dict_itemiterator",_,hT,F.slot_dict_itemiterator_next.lookup,h⟩
end PySem
namespace L2
open PySem PySem.Spec PyProof.Rows
section
variable {X:Cx} {o:Expr} {apos bE:Pos} {elts:List Expr} {ctx:Nat} {tp:Pos} {td:TE}
end
end L2
namespace DV
open PySem PySem.Spec PyProof.Rows L2
section
variable {X:Cx} {c:Fc} {o:Expr} {i:Nat} {apos bE:Pos} {elts:List Expr} {ctx:Nat} {tp:Pos}
end
end DV
namespace L2
open PySem PySem.Spec PyProof.Rows
section
variable {X:Cx}
end
end L2
namespace DV
open PySem PySem.Spec PyProof.Rows L2
end DV
namespace L2
open PySem PySem.Spec PyProof.Rows
section
variable {X:Cx} {a b:Expr} {ta:TA} {pp pos vQ vR:Pos}
end
end L2
namespace DV
open PySem PySem.Spec PyProof.Rows L2
section
variable {X:Cx} {c:Fc} {a b:Expr} {f g:DE} {pp pos vQ vR:Pos}
end
section
variable {c:Fc} {σ σ':St} {δ δ':Dl} {H H':Hp} {i:Nat} {a p d:Addr} {dd:D}
end
section
variable {c:Fc} {i:Nat} {p d:Addr} {σ0 σ σ':St} {δ0 δ δ':Dl} {H0 H H':Hp} {ws:List (Key×V)} {ds:List (cb×D)} {t:Tx} {vs iu:List V} {xs RM:List D}
end
section
variable {X:Cx} {c:Fc}
end
section
variable {X:Cx} {c:Fc} {σ:St} {δ:Dl} {H:Hp} {x y:Nat} {a:Addr} {d:D}
theorem Ok.move(k:Ok c σ δ H)(ay:Np c np)(hx:np.contains x=false)(uL:x≠y)(e:δ[y]? = some (some (.own d)))(ea:σ[y]? = some (some (.ref a)))(hl:x < δ.length) :
  aQ c σ δ H (σ.set x (some (.ref a))) ((δ.set y none).set x (some (.own d))) H:=by
 have LW:y < δ.length:=(W3.mp e).1;have LX:x < σ.length:=by rw[<- k.len]; exact hl
 have at_:∀ j r,((δ.set y none).set x (some (.own d)))[j]? = some (some r)->(j=x/\r = .own d)\/(j≠x/\j≠y/\δ[j]? = some (some r)):=λj r q=>by
  by_cases hj:x=j
  ·subst hj;rw[Wn (by rw[WT]; exact hl)] at q
   cases q;exact .inl ⟨rfl,rfl⟩
  ·rw[W5 hj] at q;by_cases hy:y=j
   ·subst hy;rw[Wn LW] at q
    cases q
   ·rw[W5 hy] at q;exact .inr ⟨Ne.symm hj,Ne.symm hy,q⟩
 have sx:(σ.set x (some (.ref a)))[x]? = some (some (.ref a)):=Wn LX;have so:∀ j,j≠x->(σ.set x (some (.ref a)))[j]? = σ[j]?:=λj hj=>W5 (Ne.symm hj)
 have own:∀ b,Own (σ.set x (some (.ref a))) ((δ.set y none).set x (some (.own d))) b->Own σ δ b:=λb ⟨j,r,q1,q2⟩=>by
  rcases at_ j _ q1 with ⟨z,z'⟩ | ⟨h1,h2,q⟩
  ·subst z
   cases z';rw[sx] at q2
   cases q2;exact⟨y,d,e,ea⟩
  ·rw[so j h1] at q2;exact⟨j,r,q,q2⟩
 have av:∀ b,Av c (σ.set x (some (.ref a))) ((δ.set y none).set x (some (.own d))) b->Av c σ δ b:=λb z=>z.elim .inl λz=>.inr (own b z)
 obtain⟨a',cF,oa,hI,nB⟩:=k.own y _ e;rw[ea] at cF
 cases cF;refine⟨⟨k.keep,k.bd,k.dM,by simp only[WT]; exact k.len,λj r q=>?_,λj r q=>?_,λj l b d1 d2 q1 q2 s1 s2=>?_,λp hp=>?_⟩,λ_ _ h _=>h,λb z=>.inl (own b z),λ_ o h=>⟨o,h⟩⟩
 ·rcases at_ j _ q with ⟨_,z⟩ | ⟨h1,h2,q⟩
  ·cases z
  ·obtain⟨v,g1,g2⟩:=k.slot j r q;exact⟨v,by rw[so j h1]; exact g1,g2.aJ λb z=>.inl (av b z)⟩
 ·rcases at_ j _ q with ⟨z,z'⟩ | ⟨h1,h2,q⟩
  ·subst z
   cases z';exact⟨a,sx,oa.aJ λb z=>.inl (av b z),hI,nB⟩
  ·obtain⟨b,g1,g2,g3⟩:=k.own j r q;exact⟨b,by rw[so j h1]; exact g1,g2.aJ λb z=>.inl (av b z),g3⟩
 ·rcases at_ j _ q1 with ⟨z,_⟩ | ⟨h1,h2,p1⟩ <;> rcases at_ l _ q2 with ⟨z',_⟩ | ⟨h1',mj,p2⟩
  ·rw[z,z']
  ·subst z;rw[sx] at s1
   cases s1;rw[so l h1'] at s2;exact absurd (k.inj y l a _ _ e p2 ea s2).symm mj
  ·subst z';rw[sx] at s2
   cases s2;rw[so j h1] at s1;exact absurd (k.inj y j a _ _ e p1 ea s1).symm h2
  ·rw[so j h1] at s1;rw[so l h1'] at s2;exact k.inj j l b _ _ p1 p2 s1 s2
 ·have h:=ay p hp;have cn:p.1≠x:=λz=>by rw[z,hx] at h; cases h
  rw[so p.1 cn];exact k.pinned p hp
def og(np:List Nat)(x y:Nat):DS:=λδ=>if np.contains x || x == y || !decide (x < δ.length) then .stuck else match δ[y]? with
 | some (some (.own d))=>.ok .next ((δ.set y none).set x (some (.own d)))
 | _=>.stuck
theorem LY(ay:Np c np)(hN:X.N.Nodup)(hi:X.N[x]? = some nm)(hx:Loc X.env.scope nm)(he:PE X e (c9 y))(hs:Jg e (some (.Name nm pos')) pos.line X.env=pure false:=by rfl)
  (hf:X.fn nm=true\/X.env.scope.names.lookup nm=some .local:=by first | exact .inl rfl | exact .inr rfl | assumption):SS X c (.Assign [.Name nm pos'] e pos) (og np x y) :=
 PS.weak (yr hN hi hx he hs hf) λD σ H ⟨δ,k,q⟩=>by
  unfold og eV at q;split at q
  case isTrue=>exact q.elim
  rename_i hc;simp only[Bool.or_eq_true,not_or,Bool.not_eq_true,beq_eq_false_iff_ne,Bool.not_eq_false',decide_eq_true_eq] at hc;obtain⟨⟨h1,h2⟩,h3⟩:=hc;split at q
  case h_2=>exact q.elim
  rename_i d e';obtain⟨a,ea,_⟩:=k.own y _ e';exact⟨.ref a,ea,q _ H (k.move ay h1 h2 e' ea h3)⟩
end
end DV
namespace PySem.ZW
open Sem (wp)
section
variable {prog:Wm} {w:Wr} {A:Ws} {E:Value->W2->Prop} {s:W2} {z TI TO i1 i2 l1 l2 a:Addr} {f:Bool} {oa:Obj} {k:Nat} {xs ys:Array Value} {x y:Value}
end
end PySem.ZW
namespace PySem.ZW
open Sem (wp)
section
variable {prog:Wm} {w:Wr} {A:Ws} {E:Value->W2->Prop} {s:W2} {z TI TO i1 i2 l1 l2 S:Addr} {xs ys:Array Value} {R:Result->W2->Prop} {res:Value}
end
end PySem.ZW
namespace PySem.ZW
open Sem (wp)
section
variable {prog:Wm} {w:Wr} {A:Ws} {E:Value->W2->Prop} {s:W2} {z TI TO i1 i2 l1 l2:Addr} {xs ys:Array Value}
end
end PySem.ZW
namespace L2
open PySem PySem.Spec PyProof.Rows
section
variable {X:Cx} {a b:Expr} {ta:TA} {pp pos vQ vR:Pos} {elts:List Expr} {ctx:Nat} {tp:Pos}
end
end L2
namespace DV
open PySem PySem.Spec PyProof.Rows L2
section
variable {X:Cx} {c:Fc} {a b:Expr} {f g:DE} {pp pos vQ vR:Pos} {elts:List Expr} {ctx:Nat} {tp:Pos}
end
section
variable {X:Cx}
end
section
variable {X:Cx} {c:Fc} {e:Expr} {fb:BE} {pos pp:Pos}
end
end DV
namespace L2
open PySem PySem.Spec PyProof.Rows
section
variable {P:Wm} {w:Wr} {K:W4} {mg:Str->Option Value} {base:Heap}
end
section
variable {X:Cx} {pins:List (Addr×Obj)} {σ:St} {H:Hp} {s:W2} {fa:Addr} {qual:Str} {params:Arguments} {body:Expr} {scope:Scope} {cl:List (Str×Addr)} {fr:List Str} {fv:List V} {p:Str} {u:Value} {v:V} {k:Nat} {t:TE} {Q:VK}
end
end L2
namespace DV
open PySem PySem.Spec PyProof.Rows L2
section
variable {c:Fc} {σ:St} {δ:Dl} {H H':Hp}
end
end DV
namespace L2
open PySem PySem.Spec PyProof.Rows
end L2
namespace DV
open PySem PySem.Spec PyProof.Rows L2
section
variable {X:Cx} {c:Fc} {e:Expr} {fb:BE} {pos pp p:Pos}
end
end DV
namespace L2
open PySem PySem.Spec PyProof.Rows
section
variable {X:Cx} {pins:List (Addr×Obj)} {σ:St} {H:Hp} {s:W2} {params:Arguments} {body:Expr} {scope:Scope} {pos:Pos} {cl:List (Str×Addr)} {c P:Addr} {fr:List Str} {fv:List V} {js:List Nat} {Q:Value->W2->Prop} {E:Value->W2->Prop}
end
end L2
namespace DV
open PySem PySem.Spec PyProof.Rows L2
abbrev vS:=List (Addr×Pos×Str)
section
variable {P:Wm} {w:Wr} {K:W4} {mg:Str->Option Value} {base:Heap}
end
section
variable {P:Wm} {w:Wr} {K:W4} {mg:Str->Option Value} {base:Heap}
end
section
variable {X:Cx} {c:Fc} {e:Expr} {es:List Expr} {as:List Ak} {k n:Nat} {x:Str} {G:DF} {pp pos:Pos} {ts:vS}
end
section
variable {X:Cx} {c:Fc} {e:Expr} {fe fb:DE} {params:Arguments} {body:Expr} {scope:Scope} {RN pos pp:Pos} {P code:Addr} {cl:List (Str×Addr)} {fr:List Str} {js:List Nat} {p x:Str} {kl kw m:Nat} {RO:Addr->(D->Option D)->DS} {W:(D->Option D)->D->Option D} {ts:vS}
end
open PySem (sizeLine)
section
variable {P:Wm} {w:Wr} {K:W4} {mg:Str->Option Value} {base:Heap}
end
section
variable {X:Cx} {c:Fc} {e:Expr} {es:List Expr} {as:List Ak} {k n:Nat} {x:Str} {G:DX} {pp pos:Pos} {ts:vS}
end
end DV
namespace L2
open PySem PySem.Spec PyProof.Rows
section
variable {X:Cx} {pins:List (Addr×Obj)} {σ:St} {H:Hp} {s:W2} {a:Addr} {aa:List (Key×V)} {k:Key} {u:Value} {A:Ws} {E:Value->W2->Prop}
end
section
variable {X:Cx} {o e f:Expr} {apos bE:Pos} {td ty tx:TE}
end
end L2
namespace DV
open PySem PySem.Spec PyProof.Rows L2
section
variable {X:Cx} {c:Fc} {e:Expr} {fe:DE} {pos:Pos}
end
section
variable {X:Cx}
def BY(K:W4)(neg:Bool):R2:=λx y H Q=>∃ p vs ds d,y = .ref p/\cx K H p vs/\aD H da vs ds/\Rep H da x d/\flat 49 d=true/\(∀ e ∈ ds,flat 49 e=true)/\Q (.bl (if neg then !ds.any (λe=>ax e d) else ds.any (λe=>ax e d))) H
theorem LZ(hu:X.A.units + 64 < WE)(I:L2.Inv X pins σ H s)(rx:RelV x v)(r1:Rep H da x d)(f1:flat 49 d=true)(rv:Vals vs ag)(rs:aD H da vs ds)(fs:∀ e ∈ ds,flat 49 e=true) :
  ∃ e:Value->Bool,(∀ y ∈ ag.toArray,SeqAt.EqAt X.A.in1 s y v (e y))/\ag.toArray.any e=ds.any (λe=>ax e d):=by
 have pre:=uG I (A:=X.A) 50 (by omega);obtain⟨_,it⟩:=pre;have lv:=rv.length;have at_:∀ (i:Nat) (y:Value) (e:D),ag[i]? = some y->ds[i]? = some e->SeqAt.EqAt X.A.in1 s y v (ax e d):=λi y e h1 h2=>by
  have hi:i < vs.length:=by rw[rs.1]; exact(W3.mp h2).1
  have hv:vs[i]? = some vs[i]:=W6 hi;obtain⟨y',e1,ry⟩:=rv.get hv;rw[h1] at e1
  cases e1;exact it _ _ _ _ _ _ _ (show X.A.units + 1 + 49 + 1 < WE by omega) (fs e (Wh h2)) f1 (rs.2 i _ _ hv h2) r1 ry rx
 have dec:∀ p:Prop,Decidable p:=Classical.propDecidable;refine⟨λy=>decide (∃ (i:Nat) (e:D),ag[i]? = some y/\ds[i]? = some e/\ax e d=true),λy hy=>?_,?_⟩
 ·have vF:y ∈ ag:=by simpa using hy
  obtain⟨i,h1⟩:=JA vF;have hi:i < ds.length:=by
   have:=(W3.mp h1).1;rw[<- rs.1,lv]; exact this
  have h2:ds[i]? = some ds[i]:=W6 hi;by_cases q:∃ (i:Nat) (e:D),ag[i]? = some y/\ds[i]? = some e/\ax e d=true
  ·obtain⟨j,e,q1,q2,q3⟩:=id q;have:=at_ j y e q1 q2;rw[q3] at this;show SeqAt.EqAt X.A.in1 s y v (decide _);rw[decide_eq_true q];exact this
  ·have:=at_ i y _ h1 h2;have hf:ax ds[i] d=false:=by
    cases z:ax ds[i] d with
    | false=>rfl
    | true=>exact absurd ⟨i,_,h1,h2,z⟩ q
   rw[hf] at this;show SeqAt.EqAt X.A.in1 s y v (decide _);rw[decide_eq_false q];exact this
 ·rw[Jp,Qz];simp only[List.any_toArray,Qz,decide_eq_true_eq];constructor
  ·rintro ⟨y,_,i,e,h1,h2,h3⟩;exact⟨e,Wh h2,h3⟩
  ·rintro ⟨e,he,h3⟩;obtain⟨i,h2⟩:=JA he;have hi:i < ag.length:=by
    rw[<- lv,rs.1]; exact(W3.mp h2).1
   have h1:ag[i]? = some ag[i]:=W6 hi;exact⟨ag[i],J4 hi,i,e,h1,h2,h3⟩
theorem L0(hu:X.A.units + 64 < WE):bT X (WN .NotIn) (BY X.K true):=by
 intro pins s σ H x y v u Q I rx ry h;obtain⟨p,vs,ds,d,rfl,hq,rs,r1,f1,fs,q⟩:=h
 cases ry;obtain⟨ag,r,pl,hz⟩:=I.list hq;obtain⟨e,h1,h2⟩:=LZ hu I rx r1 f1 r rs fs;refine SeqAt.notIn_listAt e pl.isList h1 ⟨.bl _,H,I,rfl,?_⟩;rw[h2];exact q
def oh(neg:Bool)(x y:D):Option S:=match y with
 | .lst ds=>if flat 49 x && ds.all (flat 49) then some (.pure (.bl (if neg then !ds.any (λe=>ax e x) else ds.any (λe=>ax e x)))) else none
 | _=>none
theorem L1{K:W4}(neg:Bool):cQ (BY K neg) (oh neg):=by
 intro c σ δ H x y d e s Q k rx ry hp q
 cases e <;> first | (simp[oh] at hp; done) | skip
 rename_i ds;simp only[oh] at hp;split at hp
 ·rename_i hf
  cases hp;simp only[Wt,Qe] at hf;obtain⟨a,vs,ea,ha,r⟩:=ry.lst;exact⟨a,vs,ds,d,ea,.inl ha,aD.aJ r (λ_ z=>z.elim),rx.un,hf.1,hf.2,q _ H (.refl k) (.bl _)⟩
 ·cases hp
end
end DV
namespace L2
open PySem PySem.Spec PyProof.Rows PySem.SeqAt
mutual
def gz:NK->Nat
 | .i _=>1
 | .s _=>1
 | .t ks=>jc ks + 1
def jc:List NK->Nat
 | []=>0
 | k :: ks=>gz k + jc ks
end
inductive dF (h:Heap):Nat->NK->Value->Prop
 | int {n:Nat} (z:Int) (t:Tok):dF h n (.i z) (.int z t)
 | bl {n:Nat} (b:Bool):dF h n (.i (if b then 1 else 0)) (.bool b)
 | str {n:Nat} (x:Str) (t:Tok):dF h n (.s x) (.str x t)
 | tup {n:Nat} {a:Addr} {ag:Array Value} {ks:List NK}:h.IsTuple a ag->ks.length=ag.toList.length->(∀ (i:Nat) k v,ks[i]? = some k->ag.toList[i]? = some v->dF h n k v)->dF h (n + 1) (.t ks) (.ref a)
section
variable {h h':Heap} {n:Nat}
theorem L3{α β:Type}{xs ys:List α}{vs:List β}(h1:xs.length=vs.length)(h2:ys.length=vs.length)(q:∀ (i:Nat) x y v,xs[i]? = some x->ys[i]? = some y->vs[i]? = some v->x=y):xs=ys:=by
 apply List.ext_getElem (by omega);intro i a b;exact q i _ _ vs[i] (W6 a) (W6 b) (W6 (by omega))
theorem dF.inj{x:NK}{v:Value}(r:dF h n x v):∀ {m:Nat} {y:NK},dF h m y v->x=y:=by
 induction r with
 | int z t=>intro m y k; cases k; rfl
 | bl b=>intro m y k; cases k; rfl
 | str x t=>intro m y k; cases k; rfl
 | @tup n a ag ks h1 h2 h3 ih =>
  intro m y k
  cases k with
  | @tup m _ its' ks' k1 k2 k3 =>
   obtain⟨o,e,c,q,d⟩:=h1;obtain⟨o',e',c',q',d'⟩:=k1;rw[e] at e'; cases e'
   rw[d] at d'; cases d'
   rw[L3 h2 k2 λi x y v e1 e2 e3=>ih i x v e1 e3 (k3 i y v e2 e3)]
theorem dF.kept(r:dF h n x v)(k:∀ b ag,h.IsTuple b ag->h'.IsTuple b ag):dF h' n x v:=by
 induction r with
 | int z t=>exact .int z t
 | bl b=>exact .bl b
 | str x t=>exact .str x t
 | tup h1 h2 h3 ih=>exact .tup (k _ _ h1) h2 ih
theorem dF.up(r:dF h n x v):∀ {m:Nat},n<=m->dF h m x v:=by
 induction r with
 | int z t=>intro m _; exact .int z t
 | bl b=>intro m _; exact .bl b
 | str x t=>intro m _; exact .str x t
 | tup h1 h2 h3 ih =>
  intro m l;obtain⟨m,rfl⟩:∃ m',m=m' + 1:=⟨m - 1,by omega⟩
  exact .tup h1 h2 λi k v e1 e2=>ih i k v e1 e2 (by omega)
end
section
variable {prog:Wm} {w:Wr} {E:Value->W2->Prop}
theorem L4(h:Q (hashInt (if b then 1 else 0)) { s with toks:=s.toks + 1 }):W7 (model prog w) A (PySem.pyHash (.bool b)) Q E s:=by
 have z:reduceHash (if b then 1 else 0)=hashInt (if b then 1 else 0):=by cases b <;> decide +kernel
 refine PySem.W.pyHash_slot (id:="int.__hash__") (T:="bool") (hT:=rfl) (slot:=F.slot_bool_hash) (entry:=entry_int_hash) (args:=args_int_hash _) (hid:=beq_builtin_none _) (hu:=.inl rfl) (body:=?_)
 cases b
 ·exact(show W7 _ _ (mkInt 0 >>= λv=>ret v) _ _ _ from W0 (wpAny_mkInt (W1 ⟨_,_,rfl,z ▸ h⟩)))
 ·exact(show W7 _ _ (mkInt 1 >>= λv=>ret v) _ _ _ from W0 (wpAny_mkInt (W1 ⟨_,_,rfl,z ▸ h⟩)))
theorem BZ(w:Wr):∀ ks:List NK,qq w ks=ks.map (fA w)
 | []=>rfl
 | k :: ks=>by simp only[qq,Wd,BZ w ks]
theorem B0:∀ xs ys:List NK,jc (xs ++ ys)=jc xs + jc ys
 | [],ys=>by simp[jc]
 | x :: xs,ys=>by simp only[List.cons_append,jc,B0 xs ys]; omega
theorem dF.pyHash(r:dF h n k v):∀ {A:Ws} {s:W2} {Q:Int->W2->Prop},s.heap=h->A.units + n < WE->Q (fA w k) { s with toks:=s.toks + gz k }->W7 (model prog w) A (PySem.pyHash v) Q E s:=by
 induction r with
 | int z t=>intro A s Q _ _ q; exact wpAny_pyHash_int q
 | bl b=>intro A s Q _ _ q; exact L4 q
 | str x t=>intro A s Q _ _ q; exact wpAny_pyHash_str q
 | @tup n a ag ks h1 h2 h3 ih =>
  intro A s Q hs hu q;subst hs;obtain⟨o,ho,hc,m,hd⟩:=id h1;have hT:s.TypeIs (.ref a) "tuple":=⟨o,ho,hc⟩
  refine PySem.W.pyHash_slot (T:="tuple") hT F.slot_tuple_hash F.entry_tuple_hash (F.args_tuple_hash_1 _) (beq_builtin_none _) (.inr (by omega)) ?_;show W7 _ _ (Builtin.Tuple.tupleItemsOf (.ref a) >>= _) _ _ s;refine W0 (wpAny_tupleItemsOf ho hd ?_);refine W0 ?_;rw[<- Array.forIn_toList];refine wpAny_forIn_list _ (λrest (b:Array Int) s'=>∃ i,i<=ks.length/\rest=ag.toList.drop i/\b.toList=(ks.take i).map (fA w)/\s' = { s with toks:=s.toks + jc (ks.take i) })
   _ ?_ ?_ _ _ ⟨0,Qc _,rfl,rfl,by simp[jc]⟩
  ·rintro x rest b s' ⟨i,hi,hr,hb,rfl⟩;have bu:i < ag.toList.length:=by
    rcases Nat.lt_or_ge i ag.toList.length with z | z
    ·exact z
    ·rw[List.drop_eq_nil_of_le z] at hr; cases hr
   rw[QP bu] at hr;injection hr with hx hr
   have lH:i < ks.length:=by omega
   refine W0 (ih i ks[i] x (W6 lH) (by rw[hx]; exact W6 bu) rfl (show A.units + 1 + n < WE by omega) ?_);have ht:ks.take (i + 1)=ks.take i ++ [ks[i]]:=by rw[List.take_succ,W6 lH]; rfl
   have fin:∃ j,j<=ks.length/\rest=ag.toList.drop j/\(b.push (fA w ks[i])).toList=(ks.take j).map (fA w)/\({ s with toks:=s.toks + jc (ks.take i) + gz ks[i] }:W2) = { s with toks:=s.toks + jc (ks.take j) }:=by
    refine⟨i + 1,lH,hr,by rw[ht,Q2,Array.toList_push,hb]; rfl,?_⟩;rw[ht,B0];simp only[jc];rw[Nat.add_zero,Nat.add_assoc]
   first
    | exact W1 fin
    | exact W0 (W1 (W1 fin))
  ·rintro b s' ⟨i,hi,hr,hb,rfl⟩;have hz:i=ks.length:=by
    have:=congrArg QH hr;simp at this;simp at h2;omega
   subst hz;rw[Jk] at hb ⊢;show W7 _ _ (retInt (Builtin.Tuple.tupleHashOf b.toList)) _ _ _;rw[hb];refine W0 (wpAny_mkInt (W1 ⟨_,_,rfl,?_⟩));simp only[fA,gz,BZ] at q;simpa[Nat.add_assoc] using q
theorem dF.quiet(r:dF s.heap n k v):∀ {A:Ws} {m:Nat} {Q:Bool->W2->Prop},n<=m->Q true s->W7 (model prog w) A (eqIsQuiet m v) Q E s:=by
 induction r with
 | int z t=>intro A m Q _ q; rw[eqIsQuiet_byValue _ rfl]; exact W1 q
 | bl b=>intro A m Q _ q; rw[eqIsQuiet_byValue _ rfl]; exact W1 q
 | str x t=>intro A m Q _ q; rw[eqIsQuiet_byValue _ rfl]; exact W1 q
 | @tup n a ag ks h1 h2 h3 ih =>
  intro A m Q hm q;obtain⟨o,ho,hc,mm,hd⟩:=id h1;have hT:s.TypeIs (.ref a) "tuple":=⟨o,ho,hc⟩
  obtain⟨m,rfl⟩:∃ m',m=m' + 1:=⟨m - 1,by omega⟩
  unfold eqIsQuiet;refine W0 (wpAny_specialOf hT F.slot_tuple_eq.lookup ?_);show W7 _ _ (isInstance (.ref a) (.type "tuple") >>= _) _ _ s;refine W0 (Jl hT isSubtype_tuple_tuple ?_);simp only[Bool.not_true,Q7,if_false];refine W0 (QN ho hd ?_);refine W0 ?_;show W7 _ _ (forIn ag _ _) _ _ s;rw[<- Array.forIn_toList];refine wpAny_forIn_list _ (λrest r s'=>r.1=none/\s'=s/\∃ i,rest=ag.toList.drop i) _ ?_ ?_ _ _ ⟨rfl,rfl,0,rfl⟩
  ·rintro x rest r s' ⟨hr,rfl,i,hi⟩;have bu:i < ag.toList.length:=by
    rcases Nat.lt_or_ge i ag.toList.length with z | z
    ·exact z
    ·rw[List.drop_eq_nil_of_le z] at hi; cases hi
   rw[QP bu] at hi;injection hi with hx hi
   have lH:i < ks.length:=by omega
   refine W0 (ih i ks[i] x (W6 lH) (by rw[hx]; exact W6 bu) (by omega) ?_);simp only[Bool.not_true,Q7,if_false];exact W1 ⟨rfl,rfl,i + 1,hi⟩
  ·rintro ⟨r1,r2⟩ s' ⟨hr,rfl,_⟩;simp only at hr;subst hr;exact W1 q
theorem lK(a b:Int):decide (NK.i a=NK.i b)=(a == b):=by
 by_cases e:a=b
 ·subst e; simp
 ·rw[decide_eq_false λq=>e (NK.i.inj q)]; exact(beq_eq_false_iff_ne.mpr e).symm
theorem vT(a b:Str):decide (NK.s a=NK.s b)=(a == b):=by
 by_cases e:a=b
 ·subst e; simp
 ·rw[decide_eq_false λq=>e (NK.s.inj q)]; exact(beq_eq_false_iff_ne.mpr e).symm
theorem vU(a b:Bool):(a == b)=(((if a then 1 else 0:Int)) == (if b then 1 else 0:Int)):=by cases a <;> cases b <;> rfl
theorem L5(he:∀ (j:Nat) x y,xs[j]? = some x->ys[j]? = some y->e j=decide (x=y)):((Q9 (min xs.length ys.length)).all e && xs.length == ys.length)=decide (NK.t xs=NK.t ys):=by
 by_cases hl:xs.length=ys.length
 ·rw[<- hl,Nat.min_self];simp only[beq_self_eq_true,Bool.and_true];by_cases hx:xs=ys
  ·subst hx;rw[decide_eq_true rfl,Qe];intro j hj;have:=List.mem_range.mp hj;rw[he j xs[j] xs[j] (W6 this) (W6 this)];simp
  ·rw[decide_eq_false λq=>hx (NK.t.inj q)];rw[List.all_eq_false];apply Classical.byContradiction;intro hn;apply hx;apply List.ext_getElem hl;intro j a b;apply Classical.byContradiction;intro cn;refine hn ⟨j,List.mem_range.mpr a,?_⟩;rw[he j _ _ (W6 a) (W6 b)];simpa using cn
 ·rw[decide_eq_false λq=>hl (by rw[NK.t.inj q])];simp[hl]
theorem dF.L6(r:dF s.heap n x u):∀ {A:Ws} {m:Nat} {y:NK} {v:Value},dF s.heap m y v->A.units + n < WE->EqAt A s u v (decide (x=y)):=by
 induction r with
 | int z t =>
  intro A m y v k hu
  cases k with
  | int z' t'=>rw[lK]; exact EqAt.int_int _ _ _ _
  | bl b=>rw[lK]; exact EqAt.int_bool _ _ _
  | str x t'=>rw[decide_eq_false (λq=>nomatch q)]; exact EqAt.int_str _ _ _ _
  | tup k1 k2 k3=>rw[decide_eq_false (λq=>nomatch q)]; exact EqAt.int_tuple _ _ k1 (by omega)
 | bl b =>
  intro A m y v k hu
  cases k with
  | int z' t'=>rw[lK]; exact EqAt.bool_int _ _ _
  | bl b=>rw[lK,<- vU]; exact EqAt.bool_bool _ _
  | str x t'=>rw[decide_eq_false (λq=>nomatch q)]; exact EqAt.bool_str _ _ _
  | tup k1 k2 k3=>rw[decide_eq_false (λq=>nomatch q)]; exact EqAt.bool_tuple _ k1 (by omega)
 | str x t =>
  intro A m y v k hu
  cases k with
  | int z' t'=>rw[decide_eq_false (λq=>nomatch q)]; exact EqAt.str_int _ _ _ _
  | bl b=>rw[decide_eq_false (λq=>nomatch q)]; exact EqAt.str_bool _ _ _
  | str x t'=>rw[vT]; exact EqAt.str_str _ _ _ _
  | tup k1 k2 k3=>rw[decide_eq_false (λq=>nomatch q)]; exact EqAt.str_tuple _ _ k1 (by omega)
 | @tup n a ag ks h1 h2 h3 ih =>
  intro A m y v k hu
  cases k with
  | int z' t'=>rw[decide_eq_false (λq=>nomatch q)]; exact EqAt.tuple_int _ _ h1 (by omega)
  | bl b=>rw[decide_eq_false (λq=>nomatch q)]; exact EqAt.tuple_bool _ h1 (by omega)
  | str x t'=>rw[decide_eq_false (λq=>nomatch q)]; exact EqAt.tuple_str _ _ h1 (by omega)
  | @tup m' b its' ks' k1 k2 k3 =>
   by_cases jt:a=b
   ·subst jt;have e:NK.t ks=NK.t ks':=dF.inj (dF.tup h1 h2 h3) (dF.tup k1 k2 k3);rw[decide_eq_true e];exact EqAt.same _
   ·refine EqAt.of_refs jt ?_;let e:Nat->Bool:=λj=>match ks[j]?,ks'[j]? with
     | some x,some y=>decide (x=y)
     | _,_=>false
    have z1:ag.size=ks.length:=by simpa using h2.symm
    have z2:its'.size=ks'.length:=by simpa using k2.symm
    have q:=RcAt.tuples (A:=A) (s:=s) (e:=e) h1 k1 (by omega) λj j1 j2=>by
     have l1:j < ks.length:=by omega
     have l2:j < ks'.length:=by omega
     have ee:e j=decide (ks[j]=ks'[j]):=by simp only[e,W6 l1,W6 l2]
     rw[ee];exact ih j ks[j] ag[j] (W6 l1) (by simp[j1]) (k3 j ks'[j] its'[j] (W6 l2) (by simp[j2])) (show A.units + 1 + n < WE by omega)
    rw[z1,z2,L5 λj x y e1 e2=>by simp only[e,e1,e2]] at q;exact q
end
theorem L7{es ep}(ho:h.get? d=some o)(hd:o.data = .dict es ep)(hs:Qp d h h'):∀ b ag,h.IsTuple b ag->h'.IsTuple b ag:=λb ag ⟨o',e,c,n,q⟩=>by
 have cn:b≠d:=by
  rintro rfl;rw[e] at ho; cases ho
  rw[hd] at q; exact nomatch q
 exact⟨o',(hs.2 b cn).trans e,c,n,q⟩
noncomputable def nkKind (prog:Wm) (w:Wr):HeapKind prog w NK where
 is:=λh k a=>dF h 6 k (.ref a)
 hash:=fA w
 draws:=gz
 room:=λA=>A.units + 6 < WE
 inj:=λhx hy=>hx.inj hy
 keeps:=λx ho hd hs=>x.kept (L7 ho hd hs)
 pyHash:=λhu hk h=>hk.pyHash rfl hu h
 eqBool:=λhu hx hy h=>hx.L6 hy hu _ _ _ _ h
 quiet:=λhk h=>hk.quiet (by omega) h
def kN:Key->NK
 | .inl z=>.i z
 | .inr x=>.s x
theorem L8(h:kN p=kN q):p=q:=by
 cases p <;> cases q <;> first | (cases h; rfl) | cases h
def j3(h:Heap)(m:Bool)(k:NK)(u:Value):Prop:=match m with
 | true=>∃ a,u = .ref a/\dF h 6 k u
 | false=>∃ q:Key,ij q u=true/\k=kN q
theorem L9(h1:ij p u=true)(h2:ij q u=true):p=q:=by
 rcases jh h1 with ⟨i,t,rfl,rfl⟩ | ⟨x,t,rfl,rfl⟩ <;> rcases jh h2 with ⟨j,t',rfl,e⟩ | ⟨y,t',rfl,e⟩ <;> cases e <;> rfl
def ent(w:Wr)(x:NK×Value×Value):DictEntry:=⟨fA w x.1,x.2.1,x.2.2⟩
section
variable {prog:Wm} {w:Wr} {A:Ws} {E:Value->W2->Prop} {s:W2}
theorem vV(hu:A.units + 6 < WE)(hk:j3 s.heap m k u)(h:Q (fA w k) { s with toks:=s.toks + gz k }):W7 (model prog w) A (PySem.pyHash u) Q E s:=by
 cases m with
 | true=>obtain⟨a,rfl,r⟩:=hk; exact r.pyHash rfl hu h
 | false =>
  obtain⟨q,h1,rfl⟩:=hk;refine(e_ prog w).pyHash (k:=q) h1 ?_
  cases q <;> exact h
theorem B1:∀ {xs:List (NK×Value×Value)},(∀ x ∈ xs,j3 h true x.1 x.2.1)->∃ ys:List (NK×Addr×Value),xs=ys.map λy=>(y.1,Value.ref y.2.1,y.2.2)
 | [],_=>⟨[],rfl⟩
 | x :: xs,q=>by
  obtain⟨ys,e⟩:=B1 (xs:=xs) λy hy=>q y (Wc _ hy)
  obtain⟨a,e1,_⟩:=q x We;exact⟨(x.1,a,x.2.2) :: ys,by rw[Wd,<- e]; simp only[<- e1]⟩
theorem vW{m:Bool}{k:NK}{u:Value}{d:Addr}{o:Obj}{es ep}{xs:List (NK×Value×Value)}{Q:Option Nat->W2->Prop}(hu:A.units + 6 < WE)(hk:j3 s.heap m k u)
  (ho:s.heap.get? d=some o) (hd:o.data = .dict es ep) (he:es.toList=xs.map (ent w)) (hx:∀ x ∈ xs,j3 s.heap m x.1 x.2.1) (hn:(xs.map (·.1)).Nodup)
  (B2:(∀ (j:Nat) p,xs[j]?≠some (k,p))->Q none s) (B3:∀ (j:Nat) p,xs[j]? = some (k,p)->Q (some j) s):W7 (model prog w) A (dictFind d u (fA w k)) Q E s:=by
 cases m with
 | true =>
  obtain⟨a,rfl,r⟩:=hk;obtain⟨ys,rfl⟩:=B1 hx;refine wpAny_dictFind_heap (knd:=nkKind prog w) (xs:=ys) hu r ho hd (by rw[he,Wu]; rfl) (λy hy=>?_) (by rw[Wu] at hn; exact hn) (λdX=>B2 λj p e=>?_) λj p e=>?_
  ·obtain⟨b,e1,e2⟩:=hx _ (Wy hy)
   cases e1;exact e2
  ·rw[Wl] at e
   cases q:ys[j]? with
   | none=>rw[q] at e; cases e
   | some y =>
    rw[q] at e;simp only[WI,Wb] at e;exact dX j y.2 (by rw[q,<- show y.1=k from congrArg Prod.fst e])
  ·exact B3 j (.ref p.1,p.2) (by rw[Wl,e]; rfl)
 | false =>
  obtain⟨q,h1,rfl⟩:=hk;have nX:∀ (j:Nat) e,es[j]? = some e->∃ x,xs[j]? = some x/\e=ent w x:=λj e z=>by
   rw[<- Qw,he,Wl] at z
   cases y:xs[j]? with
   | none=>rw[y] at z; cases z
   | some x=>rw[y] at z; simp only[WI,Wb] at z; exact⟨x,rfl,z.symm⟩
  have ks:KeysOf (e_ prog w) es:=λe iG=>by
   obtain⟨j,hj⟩:=WO.mp (Array.mem_toList_iff.mpr iG);obtain⟨x,e1,rfl⟩:=nX j e (by rw[<- Qw]; exact hj);obtain⟨q',e2,e3⟩:=hx x (Wh e1);refine⟨q',e2,?_⟩;show fA w x.1=_;rw[e3]
   cases q' <;> rfl
  have hh:fA w (kN q)=(e_ prog w).hash q:=by cases q <;> rfl
  rw[hh];refine wpAny_dictFind_of (knd:=e_ prog w) (k:=q) h1 ho hd ks ?_
  cases hf:es.findIdx? λe=>(e_ prog w).is q e.key with
  | none =>
   refine B2 λj p e=>?_
   have hj:j < xs.length:=(W3.mp e).1;have hz:es.size=xs.length:=by rw[<- WP,he,Wi]
   obtain⟨x,e1,e2⟩:=nX j es[j] (by simp[hz,hj]);rw[e] at e1; cases e1
   have:=Array.findIdx?_eq_none_iff.mp hf es[j] (Array.getElem_mem _);obtain⟨q',e3,e4⟩:=hx _ (Wh e);rw[L8 e4] at this;rw[e2] at this;have z:ij q' p.1=false:=this;rw[show ij q' p.1=true from e3] at z
   cases z
  | some j =>
   obtain⟨bu,hp,_⟩:=Array.findIdx?_eq_some_iff_getElem.mp hf;obtain⟨x,e1,e2⟩:=nX j es[j] (by simp[bu]);obtain⟨q',e3,e4⟩:=hx x (Wh e1);rw[e2] at hp;have:q=q':=L9 (show ij q x.2.1=true from hp) e3;subst this;exact B3 j x.2 (by rw[e1,<- e4])
noncomputable def atN (xs:List (NK×Value×Value)) (k:NK):Option (Value×Value):=(xs.find? λx=>decide (x.1=k)).map (·.2)
noncomputable def stN (xs:List (NK×Value×Value)) (k:NK) (u v:Value):List (NK×Value×Value):=if (xs.any λx=>decide (x.1=k))=true then xs.map λx=>if x.1=k then(x.1,x.2.1,v) else x else xs ++ [(k,u,v)]
theorem sH(h:∀ (j:Nat) p,xs[j]?≠some (k,p)):atN xs k=none/\(xs.any λx=>decide (x.1=k))=false:=by
 have z:∀ x ∈ xs,decide (x.1=k)=false:=λx hx=>by
  obtain⟨j,hj⟩:=WO.mp hx;exact decide_eq_false λe=>h j x.2 (by rw[hj,<- e])
 refine⟨?_,by rw[Jc]; exactλx hx=>by rw[z x hx]; simp⟩;unfold atN;rw[List.find?_eq_none.mpr λx hx=>by rw[z x hx]; simp];rfl
theorem sI:∀ {xs:List (NK×Value×Value)} {k:NK} {j:Nat} {p:Value×Value},(xs.map (·.1)).Nodup->xs[j]? = some (k,p)->atN xs k=some p/\(xs.any λx=>decide (x.1=k))=true
 | [],k,j,p,_,e=>by simp at e
 | x :: xs,k,j,p,hn,e=>by
  rw[Wd,WL] at hn
  cases j with
  | zero=>simp at e; subst e; simp[atN]
  | succ j =>
   have e':xs[j]? = some (k,p):=by simpa using e
   have cn:¬ x.1=k:=λz=>hn.1 (by rw[z]; exact Wz.mpr ⟨_,Wh e',rfl⟩)
   obtain⟨h1,h2⟩:=sI hn.2 e';refine⟨?_,by rw[WV,h2]; simp⟩;unfold atN at h1 ⊢;rw[WM,decide_eq_false cn];exact h1
theorem L_{m:Bool}{k:NK}{u:Value}{d:Addr}{o:Obj}{es ep}{xs:List (NK×Value×Value)}{Q:Option Value->W2->Prop}(hu:A.units + 6 < WE)(hk:j3 s.heap m k u)
  (ho:s.heap.get? d=some o) (hd:o.data = .dict es ep) (he:es.toList=xs.map (ent w)) (hx:∀ x ∈ xs,j3 s.heap m x.1 x.2.1) (hn:(xs.map (·.1)).Nodup)
  (h:Q ((atN xs k).map (·.2)) { s with toks:=s.toks + gz k }):W7 (model prog w) A (dictGet d u) Q E s:=by
 unfold dictGet;try with_reducible refine WB ?_
 refine W0 (vV hu hk (W0 (vW (s:={ s with toks:=s.toks + gz k }) hu hk ho hd he hx hn ?_ ?_)))
 ·intro dX;rw[(sH dX).1] at h;exact W1 h
 ·intro j p hj;rw[(sI hn hj).1] at h;refine W0 (Q4 (s:={ s with toks:=s.toks + gz k }) ho hd ?_);rw[<- Qw,he,Wl,hj];exact W1 h
theorem B4(hn:(xs.map (·.1)).Nodup):((stN xs k u v).map (·.1)).Nodup:=by
 unfold stN;split
 ·rw[Wu];rw[show((λx:NK×Value×Value=>x.1) ∘ λx=>if x.1=k then(x.1,x.2.1,v) else x)=(·.1) from funext λx=>by simp only[Function.comp]; split <;> rfl];exact hn
 ·rename_i hh;rw[Q2,List.nodup_append];refine⟨hn,by simp,λx hx y hy e=>?_⟩;simp only[Wd,U1,List.mem_singleton] at hy;subst hy e;obtain⟨z,hz,e⟩:=Wz.mp hx;exact hh (Qz.mpr ⟨z,hz,decide_eq_true e⟩)
theorem B5:∀ {xs:List (NK×Value×Value)} {j:Nat} {p:Value×Value},(xs.map (·.1)).Nodup->xs[j]? = some (k,p) ->
  (xs.map (ent w)).modify j (λe=>{ e with val:=v })=(xs.map λx=>if x.1=k then(x.1,x.2.1,v) else x).map (ent w)
 | [],j,p,_,e=>by simp at e
 | x :: xs,j,p,hn,e=>by
  rw[Wd,WL] at hn
  cases j with
  | zero =>
   simp at e;subst e;have z:(xs.map λx=>if x.1=k then(x.1,x.2.1,v) else x)=xs:=by
    conv=>rhs; rw[<- List.map_id xs]
    refine WS λy hy=>?_
    rw[if_neg λq=>hn.1 (Wz.mpr ⟨y,hy,q⟩)];rfl
   rw[Wd,Wd,Wd,z,if_pos rfl];rfl
  | succ j =>
   have e':xs[j]? = some (k,p):=by simpa using e
   have cn:¬ x.1=k:=λz=>hn.1 (by rw[z]; exact Wz.mpr ⟨_,Wh e',rfl⟩)
   rw[Wd,Wd,Wd,if_neg cn];show ent w x :: (xs.map (ent w)).modify j _=_;rw[B5 hn.2 e']
theorem Ma{m:Bool}{k:NK}{u v:Value}{d:Addr}{o:Obj}{es ep}{xs:List (NK×Value×Value)}{Q:Unit->W2->Prop}(hu:A.units + 6 < WE)(hk:j3 s.heap m k u)
  (ho:s.heap.get? d=some o) (hc:o.ExactDict) (hd:o.data = .dict es ep) (he:es.toList=xs.map (ent w)) (hx:∀ x ∈ xs,j3 s.heap m x.1 x.2.1) (hn:(xs.map (·.1)).Nodup) (hz:xs.length<=W9)
  (hQ:∀ h' o' l5 fM,h'.get? d=some o'->o'.ExactDict->o'.data = .dict l5 fM->l5.toList=(stN xs k u v).map (ent w)->Qp d s.heap h'->Q () { s with heap:=h',toks:=s.toks + gz k }) :
  W7 (model prog w) A (dictSet d u v) Q E s:=by
 have hsz:es.size=xs.length:=by rw[<- WP,he,Wi]
 unfold dictSet;try with_reducible refine WB ?_
 refine W0 (vV hu hk ?_);unfold dictSetHashed;try with_reducible refine WB ?_
 refine W0 (vW (s:={ s with toks:=s.toks + gz k }) hu hk ho hd he hx hn ?_ ?_)
 ·intro dX;refine W0 (QT (wpAny_updateDictKeys (hz:=by omega) (s:={ s with toks:=s.toks + gz k }) ho hd
   (hQ _ _ _ (ep + 1) (QL _ ho (Obj.isFreed_of_dict (Obj.data_mapDictKeys hd _))) (hc.mapDictKeys _) (Obj.data_mapDictKeys hd _) ?_ (Qt ..))))
  unfold stN;rw[if_neg (by rw[(sH dX).2]; simp)];simp[he,ent]
 ·intro j p hj;refine W0 (QT (W0 (wpAny_updateDict (s:={ s with toks:=s.toks + gz k }) ho hd
   (wpAny_point (hQ _ _ _ ep (QL _ ho (Obj.isFreed_of_dict (Obj.data_mapDict hd _))) (hc.mapDict _) (Obj.data_mapDict hd _) ?_ (Qt ..))))))
  unfold stN;rw[if_pos (sI hn hj).2,<- B5 hn hj,<- he];obtain⟨l⟩:=es;simp
end
inductive kK (H:Hp):Nat->NK->V->Prop
 | int {n:Nat} (z:Int):kK H n (.i z) (.int z)
 | bl {n:Nat} (b:Bool):kK H n (.i (if b then 1 else 0)) (.bl b)
 | str {n:Nat} (x:Str):kK H n (.s x) (.str x)
 | tup {n:Nat} {a:Addr} {vs:List V} {ks:List NK}:H a=some (.tup vs)->ks.length=vs.length->(∀ (i:Nat) k v,ks[i]? = some k->vs[i]? = some v->kK H n k v)->kK H (n + 1) (.t ks) (.ref a)
def jD(H:Hp)(m:Bool)(k:NK)(v:V):Prop:=match m with
 | true=>(∃ a,v = .ref a)/\kK H 6 k v
 | false=>∃ q:Key,k=kN q/\v=kV q
theorem Vals.Mb{xs:List V}{us:List Value}(r:Vals xs us){i:Nat}{u:Value}(e:us[i]? = some u):∃ x,xs[i]? = some x/\RelV x u:=by
 have h1:=r.length;have h2:i < xs.length:=by have:=(W3.mp e).1; omega
 obtain⟨u',e',rr⟩:=r.get (W6 h2);rw[e] at e'; cases e'
 exact⟨_,W6 h2,rr⟩
theorem kK.nk{P:Wm}{w:Wr}{H:Hp}{h:Heap}{n:Nat}{k:NK}{v:V}(ok:cD P w H h)(r:kK H n k v):∀ {u:Value},RelV v u->dF h n k u:=by
 induction r with
 | int z=>intro u q; obtain⟨t,rfl⟩:=q; exact .int z t
 | bl b=>intro u q; cases q; exact .bl b
 | str x=>intro u q; obtain⟨t,rfl⟩:=q; exact .str x t
 | @tup n a vs ks h1 h2 h3 ih =>
  intro u q
  cases q;obtain⟨_,ag,r,p⟩:=(show b0 P w H h a (.tup vs) from ok a _ h1)
  have ht:h.IsTuple a ag.toArray:=p.tup;refine .tup ht (by rw[h2]; simpa using r.length) λi k u e1 e2=>?_
  obtain⟨x,e3,rx⟩:=r.Mb (u:=u) (i:=i) (by simpa using e2);exact ih i k x e1 e3 rx
theorem jD.key(ok:cD P w H h)(r:jD H m k v)(q:RelV v u):j3 h m k u:=by
 cases m with
 | true=>obtain⟨⟨a,rfl⟩,r⟩:=r; cases q; exact⟨a,rfl,r.nk ok rfl⟩
 | false=>obtain⟨q',rfl,rfl⟩:=r; exact⟨q',by rw[<- Ef P w]; exact md q,rfl⟩
abbrev NE:=NK×V×V
def dm:List NE->List (NK×Value×Value)->Prop:=Paired λ(p:NE) (x:NK×Value×Value)=>p.1=x.1/\RelV p.2.1 x.2.1/\RelV p.2.2 x.2.2
theorem B6:∀ {aa:List NE} {es:List DictEntry},Paired (λ(p:NE) (e:DictEntry)=>e.hash=fA w p.1/\RelV p.2.1 e.key/\RelV p.2.2 e.val) aa es->∃ xs,dm aa xs/\es=xs.map (ent w)
 | _,_,.nil=>⟨[],.nil,rfl⟩
 | p :: _,e :: _,.cons r t=>by
  obtain⟨xs,h1,h2⟩:=B6 t;refine⟨(p.1,e.key,e.val) :: xs,.cons ⟨rfl,r.2.1,r.2.2⟩ h1,?_⟩;rw[Wd,<- h2];unfold ent;rw[<- r.1]
theorem B7:∀ {aa:List NE} {xs:List (NK×Value×Value)},dm aa xs->Paired (λ(p:NE) (e:DictEntry)=>e.hash=fA w p.1/\RelV p.2.1 e.key/\RelV p.2.2 e.val) aa (xs.map (ent w))
 | _,_,.nil=>.nil
 | p :: _,x :: _,.cons r t=>.cons ⟨by show fA w x.1=_; rw[r.1],r.2.1,r.2.2⟩ (B7 t)
theorem dm.keys:∀ {aa:List NE} {xs:List (NK×Value×Value)},dm aa xs->aa.map (·.1)=xs.map (·.1)
 | _,_,.nil=>rfl
 | p :: _,x :: _,.cons r t=>by rw[Wd,Wd,r.1,dm.keys t]
noncomputable def valN (aa:List NE) (k:NK):Option V:=(aa.find? λp=>decide (p.1=k)).map (·.2.2)
noncomputable def putN (aa:List NE) (k:NK) (y v:V):List NE:=if (aa.any λp=>decide (p.1=k))=true then aa.map λp=>if p.1=k then(p.1,p.2.1,v) else p else aa ++ [(k,y,v)]
theorem dm.val(k:NK):∀ {aa:List NE} {xs:List (NK×Value×Value)},dm aa xs->fc (valN aa k) ((atN xs k).map (·.2))/\(aa.any λp=>decide (p.1=k))=xs.any λx=>decide (x.1=k)
 | _,_,.nil=>⟨trivial,rfl⟩
 | p :: aa,x :: xs,.cons r t=>by
  obtain⟨i1,i2⟩:=dm.val k t;rw[WV,WV,i2,r.1];refine⟨?_,rfl⟩;unfold valN atN at i1 ⊢;rw[WM,WM,r.1];by_cases e:x.1=k
  ·rw[decide_eq_true e]; exact r.2.2
  ·rw[decide_eq_false e]; exact i1
theorem dm.st(rv:RelV v r):∀ {aa:List NE} {xs:List (NK×Value×Value)},dm aa xs->dm (aa.map λp=>if p.1=k then(p.1,p.2.1,v) else p) (xs.map λx=>if x.1=k then(x.1,x.2.1,r) else x)
 | _,_,.nil=>.nil
 | p :: _,x :: _,.cons q t=>by
  rw[Wd,Wd];refine .cons ?_ (dm.st rv t);rw[q.1];by_cases e:x.1=k
  ·rw[if_pos e,if_pos e]; exact⟨rfl,q.2.1,rv⟩
  ·rw[if_neg e,if_neg e]; exact q
theorem dm.app(ry:RelV y u)(rv:RelV v r):∀ {aa:List NE} {xs:List (NK×Value×Value)},dm aa xs->dm (aa ++ [(k,y,v)]) (xs ++ [(k,u,r)])
 | _,_,.nil=>.cons ⟨rfl,ry,rv⟩ .nil
 | p :: _,x :: _,.cons q t=>.cons q (dm.app ry rv t)
theorem dm.put(ry:RelV y u)(rv:RelV v r)(h:dm aa xs):dm (putN aa k y v) (stN xs k u r):=by
 unfold putN stN;rw[(dm.val k h).2];split
 ·exact h.st rv
 ·exact h.app ry rv
section
variable {P:Wm} {w:Wr} {H:Hp} {h:Heap} {a:Addr} {ep:Nat} {aa:List NE}
structure j4(w:Wr)(h:Heap)(a:Addr)(ep:Nat)(xs:List (NK×Value×Value))(o:Obj)(es:Array DictEntry):Prop where
 get:h.get? a=some o
 ex:o.ExactDict
 data:o.data = .dict es ep
 ents:es.toList=xs.map (ent w)
 jE:(xs.map (·.1)).Nodup
theorem jd(ok:cD P w H h)(e:H a=some (.dN ep aa)):aa.length<=W9/\(a == Q8)=false/\∃ xs o es,dm aa xs/\j4 w h a ep xs o es:=by
 obtain⟨z,hS,o,es,h1,h2,h3,h4,h5⟩:=(show b0 P w H h a (.dN ep aa) from ok a _ e)
 obtain⟨xs,q1,q2⟩:=B6 h4;exact⟨z,hS,xs,o,es,q1,h1,h2,h3,q2,by rw[<- q1.keys]; exact h5⟩
theorem B8(z:aa.length<=W9)(hS:(a == Q8)=false)(r:dm aa xs)(d:j4 w h a ep xs o es):b0 P w H h a (.dN ep aa) :=
 ⟨z,hS,o,es,d.get,d.ex,d.data,by rw[d.ents]; exact B7 r,by rw[r.keys]; exact d.jE⟩
theorem j4.typeIs {s:W2} {xs:List (NK×Value×Value)} {o:Obj} {es:Array DictEntry} (d:j4 w s.heap a ep xs o es):s.TypeIs (.ref a) "dict":=⟨o,d.get,d.ex.1⟩
theorem j4.noDict(d:j4 w h a ep xs o es):∀ b,Value.ref a = .ref b->∃ ob,h.get? b=some ob/\ob.dict=none:=λb e=>by cases e; exact⟨o,d.get,d.ex.2.1⟩
theorem vX(ok:cD P w H h)(r:dm aa xs)(hk:∀ p ∈ aa,jD H m p.1 p.2.1):∀ x ∈ xs,j3 h m x.1 x.2.1:=by
 induction r with
 | nil=>intro x hx; simp at hx
 | cons q t ih =>
  intro x hx;rcases Wo.mp hx with rfl | hx
  ·rw[<- q.1]; exact(hk _ We).key ok q.2.1
  ·exact ih (λp hp=>hk p (Wc _ hp)) x hx
end
def lL(H:Hp)(a:Addr)(y:V)(r:Option V):Prop:=∃ m ep aa k,H a=some (.dN ep aa)/\(∀ p ∈ aa,jD H m p.1 p.2.1)/\jD H m k y/\r=valN aa k
section
variable {X:Cx} {pins:List (Addr×Obj)} {σ:St} {H:Hp} {s:W2} {a:Addr} {y v:V} {u r:Value} {o:Option V} {A:Ws} {E:Value->W2->Prop}
theorem B9(hu:A.units + 6 < WE)(I:Inv X pins σ H s)(g:lL H a y o)(ry:RelV y u)(h:∀ w' s',Inv X pins σ H s'->fc o w'->Q w' s') :
  W7 (model X.prog X.w) A (dictGet a u) Q E s:=by
 obtain⟨m,ep,aa,k,e,hk,ky,rfl⟩:=g;obtain⟨z,hS,xs,ob,es,rx,d⟩:=jd I.aC e;exact L_ hu (ky.key I.aC ry) d.get d.data d.ents (vX I.aC rx hk) d.jE (h _ _ (I.tok _) (rx.val k).1)
theorem vY (I:Inv X pins σ H s) (g:lL H a y o):s.TypeIs (.ref a) "dict"/\(∀ b,Value.ref a = .ref b->∃ ob,s.heap.get? b=some ob/\ob.dict=none)/\(a == Q8)=false:=by
 obtain⟨m,ep,aa,k,e,hk,ky,rfl⟩:=g;obtain⟨z,hS,xs,ob,es,rx,d⟩:=jd I.aC e;exact⟨d.typeIs,d.noDict,hS⟩
theorem Mc(hu:A.units + 8 < WE)(I:Inv X pins σ H s)(g:lL H a y (some v))(ry:RelV y u)(h:∀ w' s',Inv X pins σ H s'->RelV v w'->Q w' s') :
  W7 (model X.prog X.w) A (JM (.ref a) u) Q E s:=by
 obtain⟨hT,_,_⟩:=vY I g;unfold JM;try with_reducible refine WB ?_
 refine W0 (JR hT (by decide) ?_);refine W0 (WD (name:=Str.ofString "__getitem__") hT slot_dict_getitem (Ww slot_dict_getitem hT entry_dict_getitem ?_ (args_dict_getitem _ _)));show W7 _ _ (dictGet a u >>= _) _ _ s;refine W0 (B9 (show A.units + 1 + 6 < WE by omega) I g ry λw' s' I' rr=>?_);obtain⟨w2,rfl,r2⟩:=fc.some_of rr;exact W1 ⟨w2,rfl,W1 (h w2 s' I' r2)⟩
theorem Md(hu:A.units + 8 < WE)(I:Inv X pins σ H s)(g:lL H a y o)(ry:RelV y u)(h:∀ s',Inv X pins σ H s'->Q o.isSome s') :
  W7 (model X.prog X.w) A (contains (.ref a) u) Q E s:=by
 obtain⟨hT,_,hS⟩:=vY I g;unfold contains;try with_reducible refine WB ?_
 refine W0 (wpAny_specialOf hT slot_dict_contains.lookup ?_);show W7 _ _ (if (some (Value.builtin "dict.__contains__") == some Value.none)=true then _ else _) _ E s;rw[if_neg (by rw[beq_builtin_none]; exact Wv)];refine W0 (wpAny_callSpecialUnlessNone?_slot (name:=Str.ofString "__contains__") hT slot_dict_contains (Ww slot_dict_contains hT entry_dict_contains ?_ (args_dict_contains _ _)));show W7 _ _ (dictGet a u >>= _) _ _ s;refine W0 (B9 (show A.units + 1 + 6 < WE by omega) I g ry λw' s' I' rr=>?_)
 cases o with
 | some x =>
  obtain⟨w2,rfl,r2⟩:=fc.some_of rr;show W7 _ _ (ret (.bool true)) _ _ _;exact W1 ⟨_,rfl,QC (h s' I')⟩
 | none =>
  obtain rfl:=fc.none_of rr;show W7 _ _ (Builtin.Dict.pendingKey? a u >>= _) _ _ _;exact W0 (wpAny_pendingKey_other hS (W1 ⟨_,rfl,QC (h s' I')⟩))
theorem Me(hu:A.units + 8 < WE)(I:Inv X pins σ H s)(g:lL H a y o)(ry:RelV y u)(h:∀ s',Inv X pins σ H s'->Q (.bool o.isSome) s') :
  W7 (model X.prog X.w) A (WN .In u (.ref a)) Q E s:=by
 show W7 _ _ (do return .bool (<- contains (.ref a) u)) Q E s;exact W0 (Md hu I g ry λs' I'=>W1 (h s' I'))
def vZ(H:Hp)(a:Addr)(y v:V)(R:Hp->Prop):Prop:=∃ m ep aa k,H a=some (.dN ep aa)/\(∀ p ∈ aa,jD H m p.1 p.2.1)/\jD H m k y/\aa.length < W9/\∀ fM,R (upd H a (.dN fM (putN aa k y v)))
theorem B_(aa:List NE)(k:NK)(y v:V):(putN aa k y v).length<=aa.length + 1:=by
 unfold putN;split
 ·simp
 ·simp
theorem Mf(hu:A.units + 6 < WE)(I:Inv X pins σ H s)(g:vZ H a y v R)(ry:RelV y u)(rv:RelV v r)(h:∀ H' s',Inv X pins σ H' s'->R H'->Q () s') :
  W7 (model X.prog X.w) A (dictSet a u r) Q E s:=by
 obtain⟨m,ep,aa,k,e,hk,ky,hz,hR⟩:=g;obtain⟨z,hS,xs,ob,es,rx,d⟩:=jd I.aC e;have hl:xs.length<=W9:=by rw[<- Paired.length rx]; exact z
 refine Ma hu (ky.key I.aC ry) d.get d.ex d.data d.ents (vX I.aC rx hk) d.jE hl λh' o' l5 fM q1 q2 q3 q4 hs=>h _ _ ?_ (hR fM)
 have gI:(putN aa k y v).length<=W9:=by have:=B_ aa k y v; omega
 exact ph I (by rw[e]; exact True.intro) hs ⟨o',q1⟩ (B8 gI hS (rx.put ry rv) ⟨q1,q2,q3,q4,B4 d.jE⟩)
theorem Mg{R:Hp->Prop}{Q:Unit->W2->Prop}(hu:A.units + 8 < WE)(I:Inv X pins σ H s)(g:vZ H a y v R)(ry:RelV y u)(rv:RelV v r)(h:∀ H' s',Inv X pins σ H' s'->R H'->Q () s') :
  W7 (model X.prog X.w) A (setItem (.ref a) u r) Q E s:=by
 have hT:s.TypeIs (.ref a) "dict":=by
  obtain⟨m,ep,aa,k,e,_⟩:=g;obtain⟨z,hS,xs,ob,es,rx,d⟩:=jd I.aC e;exact d.typeIs
 unfold setItem;try with_reducible refine WB ?_
 refine W0 (JR hT (by decide) ?_);refine W0 (WD (name:=Str.ofString "__setitem__") hT slot_dict_setitem (Ww slot_dict_setitem hT entry_dict_setitem ?_ (args_dict_setitem _ _ _)));show W7 _ _ (Builtin.Dict.notOrdered "__setitem__" ⟨[.ref a,u,r],[]⟩ >>= _) _ _ s;refine W0 (QM hT ?_);show W7 _ _ (dictSet a u r >>= _) _ _ s;exact W0 (Mf (show A.units + 1 + 6 < WE by omega) I g ry rv λH' s' I' hR=>W1 ⟨.none,rfl,W1 (h H' s' I' hR)⟩)
end
end L2
namespace DV
open PySem PySem.Spec PyProof.Rows L2
theorem Mh(n:Nat)(i:Int):cz n (.int i)=some (.i i):=by cases n <;> rfl
theorem Mi(n:Nat)(b:Bool):cz n (.bl b)=some (.i (if b then 1 else 0)):=by cases n <;> rfl
theorem Mj(n:Nat)(x:Tx):cz n (.str x)=some (.s (toS x)):=by cases n <;> rfl
theorem Mk(n:Nat)(xs:List D):cz (n + 1) (.tup xs)=(fR n xs).map .t:=rfl
theorem sJ(h:cz n d=some x):(∃ i,d = .int i/\x = .i i)\/(∃ b,d = .bl b/\x = .i (if b then 1 else 0))\/(∃ s,d = .str s/\x = .s (toS s))\/∃ m xs ks,n=m + 1/\d = .tup xs/\fR m xs=some ks/\x = .t ks:=by
 cases d with
 | int i=>rw[Mh] at h; exact .inl ⟨i,rfl,(Wx h).symm⟩
 | bl b=>rw[Mi] at h; exact .inr (.inl ⟨b,rfl,(Wx h).symm⟩)
 | str s=>rw[Mj] at h; exact .inr (.inr (.inl ⟨s,rfl,(Wx h).symm⟩))
 | tup xs =>
  cases n with
  | zero=>cases h
  | succ m =>
   rw[Mk,WA] at h;obtain⟨ks,hk,e⟩:=h;exact .inr (.inr (.inr ⟨m,xs,ks,rfl,rfl,hk,e.symm⟩))
 | _=>cases n <;> cases h
theorem Ca(ih:∀ (d e:D) (x y:NK),cz n d=some x->cz n e=some y->ax d e=decide (x=y)):∀ (xs ys:List D) (ks ls:List NK),fR n xs=some ks->fR n ys=some ls->dP xs ys=decide (ks=ls)
 | [],[],ks,ls,h1,h2=>by
  simp[fR] at h1 h2;subst h1; subst h2
  simp[dP]
 | [],y :: ys,ks,ls,h1,h2=>by
  simp only[fR,Wb,Jo,WA] at h1 h2;subst h1;obtain⟨k,_,l,_,rfl⟩:=h2;simp[dP]
 | x :: xs,[],ks,ls,h1,h2=>by
  simp only[fR,Wb,Jo,WA] at h1 h2;subst h2;obtain⟨k,_,l,_,rfl⟩:=h1;simp[dP]
 | x :: xs,y :: ys,ks,ls,h1,h2=>by
  simp only[fR,Jo,WA] at h1 h2;obtain⟨k,hk,k',mh,rfl⟩:=h1;obtain⟨l,hl,l',gI,rfl⟩:=h2;simp only[dP];rw[ih x y k l hk hl,Ca ih xs ys k' l' mh gI];by_cases e1:k=l
  ·by_cases e2:k'=l'
   ·rw[decide_eq_true e1,decide_eq_true e2,decide_eq_true (by rw[e1,e2])]; rfl
   ·rw[decide_eq_true e1,decide_eq_false e2,decide_eq_false λq=>e2 (List.cons.inj q).2]; rfl
  ·rw[decide_eq_false e1,decide_eq_false λq=>e1 (List.cons.inj q).1]; rfl
theorem Cb:∀ (n:Nat) (d e:D) (x y:NK),cz n d=some x->cz n e=some y->ax d e=decide (x=y):=by
 intro n;induction n with
 | zero =>
  intro d e x y h1 h2;rcases sJ h1 with ⟨i,rfl,rfl⟩ | ⟨b,rfl,rfl⟩ | ⟨s,rfl,rfl⟩ | ⟨m,xs,ks,e,_⟩ <;> rcases sJ h2 with ⟨i,rfl,rfl⟩ | ⟨b,rfl,rfl⟩ | ⟨s,rfl,rfl⟩ | ⟨m,xs,ks,e,_⟩ <;>
   first | (cases e; done) | (simp only[ax]; first | (rw[decide_eq_false (λq=>nomatch q)]; done) | (rw[lK,<- vU]; done) | (rw[lK]; done) | (rw[vT,ny]; done))
 | succ n ih =>
  intro d e x y h1 h2;rcases sJ h1 with ⟨i,rfl,rfl⟩ | ⟨b,rfl,rfl⟩ | ⟨s,rfl,rfl⟩ | ⟨m,xs,ks,e1,rfl,hk,rfl⟩ <;> rcases sJ h2 with ⟨i,rfl,rfl⟩ | ⟨b,rfl,rfl⟩ | ⟨s,rfl,rfl⟩ | ⟨m,ys,ls,e2,rfl,hl,rfl⟩ <;>
   first | (simp only[ax]; first | (rw[decide_eq_false (λq=>nomatch q)]; done) | (rw[lK,<- vU]; done) | (rw[lK]; done) | (rw[vT,ny]; done)) | skip
  cases e1
  cases e2;simp only[ax];rw[Ca ih xs ys ks ls hk hl];by_cases e:ks=ls
  ·rw[decide_eq_true e,decide_eq_true (congrArg NK.t e)]
  ·rw[decide_eq_false e,decide_eq_false λq=>e (NK.t.inj q)]
theorem Cc:∀ {xs:List D} {ks:List NK},fR n xs=some ks->ks.length=xs.length/\∀ (i:Nat) d k,xs[i]? = some d->ks[i]? = some k->cz n d=some k
 | [],ks,h=>by simp[fR] at h; subst h; exact⟨rfl,λi d k e=>by simp at e⟩
 | x :: xs,ks,h=>by
  simp only[fR,Jo,WA] at h;obtain⟨k,hk,k',mh,rfl⟩:=h;obtain⟨h1,h2⟩:=Cc mh;refine⟨by simp[h1],λi d kk e1 e2=>?_⟩
  cases i with
  | zero=>simp at e1 e2; subst e1; subst e2; exact hk
  | succ i=>exact h2 i d kk (by simpa using e1) (by simpa using e2)
theorem Ml(r:Rep H O v d):∀ {n:Nat} {k:NK},cz n d=some k->kK H n k v:=by
 induction r with
 | int i=>intro n k h; cases n <;> (simp[cz] at h; subst h; exact .int i)
 | bl b=>intro n k h; cases n <;> (simp only[cz,Wb] at h; subst h; exact .bl b)
 | str x=>intro n k h; cases n <;> (simp[cz] at h; subst h; exact .str _)
 | @tup a vs ds h1 h2 h3 h4 ih =>
  intro n k h
  cases n with
  | zero=>simp[cz] at h
  | succ n =>
   simp only[cz,WA] at h;obtain⟨ks,hk,rfl⟩:=h;obtain⟨l,g⟩:=Cc hk;refine .tup h2 (by omega) λi k v e1 e2=>?_
   have hi:i < ds.length:=by have:=(W3.mp e1).1; omega
   exact ih i v ds[i] e2 (W6 hi) (g i ds[i] k (W6 hi) e1)
 | _=>intro n k h; cases n <;> simp[cz] at h
def gO(m:Bool)(d:D):Bool:=match d with
 | .tup _=>m
 | .int _=>!m
 | .str _=>!m
 | _=>false
theorem sL(hm:gO m d=true)(hk:cz 6 d=some k)(r:Rep H O v d):jD H m k v:=by
 cases m with
 | true =>
  have r':=Ml r hk
  cases r <;> simp[gO] at hm
  exact⟨⟨_,rfl⟩,r'⟩
 | false =>
  cases r <;> simp[gO] at hm
  ·simp[cz] at hk; subst hk; exact⟨.inl _,rfl,rfl⟩
  ·simp[cz] at hk; subst hk; exact⟨.inr _,rfl,rfl⟩
def gf(m:Bool)(ds:List (D×D))(k:D):Bool:=gO m k && (cz 6 k).isSome && ds.all λq=>gO m q.1
def gA(k:D):Bool:=gO true k
def fo(ds:List (D×D))(k:D):Option D:=(ds.find? λq=>ax q.1 k).map (·.2)
def je(ds:List (D×D))(k d:D):List (D×D):=if (ds.any λq=>ax q.1 k)=true then ds.map λq=>if ax q.1 k=true then(q.1,d) else q else ds ++ [(k,d)]
section
variable {H H':Hp} {O:Addr->Prop} {ws:List NE} {ds:List (D×D)} {p:NE} {q:D×D}
theorem DN.nil:DN H O [] []:=⟨rfl,λi p q e=>by simp at e,λi p q e=>by simp at e,λi p q e=>by simp at e⟩
theorem DN.cons(h1:Rep H O p.2.1 q.1)(h2:Rep H O p.2.2 q.2)(h3:cz 6 q.1=some p.1)(r:DN H O ws ds):DN H O (p :: ws) (q :: ds):=by
 refine⟨by simp[r.len],λi a b e1 e2=>?_,λi a b e1 e2=>?_,λi a b e1 e2=>?_⟩ <;> cases i <;> simp at e1 e2
 ·subst e1; subst e2; exact h1
 ·exact r.key _ a b e1 e2
 ·subst e1; subst e2; exact h2
 ·exact r.val _ a b e1 e2
 ·subst e1; subst e2; exact h3
 ·exact r.ml _ a b e1 e2
theorem DN.un(r:DN H O (p :: ws) (q :: ds)):Rep H O p.2.1 q.1/\Rep H O p.2.2 q.2/\cz 6 q.1=some p.1/\DN H O ws ds :=
 ⟨r.key 0 p q rfl rfl,r.val 0 p q rfl rfl,r.ml 0 p q rfl rfl,by simpa using r.len,λi a b e1 e2=>r.key (i + 1) a b (by simpa using e1) (by simpa using e2),λi a b e1 e2=>r.val (i + 1) a b (by simpa using e1) (by simpa using e2),λi a b e1 e2=>r.ml (i + 1) a b (by simpa using e1) (by simpa using e2)⟩
theorem DN.get(hk:cz 6 k=some kk):∀ {ws:List NE} {ds:List (D×D)},DN H O ws ds->((fo ds k=none/\valN ws kk=none)\/∃ v d,fo ds k=some d/\valN ws kk=some v/\Rep H O v d)/\(ds.any λq=>ax q.1 k)=ws.any λp=>decide (p.1=kk)
 | [],[],_=>⟨.inl ⟨rfl,rfl⟩,rfl⟩
 | [],_ :: _,r=>by have:=r.len; simp at this
 | _ :: _,[],r=>by have:=r.len; simp at this
 | p :: ws,q :: ds,r=>by
  obtain⟨r1,r2,r3,r4⟩:=r.un;obtain⟨i1,i2⟩:=DN.get hk r4;have e:=Cb 6 q.1 k p.1 kk r3 hk;refine⟨?_,by rw[WV,WV,i2,e]⟩;unfold fo valN at i1 ⊢;rw[WM,WM,e];by_cases z:p.1=kk
  ·rw[decide_eq_true z]; exact .inr ⟨_,_,rfl,rfl,r2⟩
  ·rw[decide_eq_false z]; exact i1
theorem DN.app(hk:cz 6 k=some kk)(ry:Rep H O y k)(rv:Rep H O v d):∀ {ws:List NE} {ds:List (D×D)},DN H O ws ds->DN H O (ws ++ [(kk,y,v)]) (ds ++ [(k,d)])
 | [],[],_=>.cons ry rv hk .nil
 | [],_ :: _,r=>by have:=r.len; simp at this
 | _ :: _,[],r=>by have:=r.len; simp at this
 | p :: ws,q :: ds,r=>by
  obtain⟨r1,r2,r3,r4⟩:=r.un;exact .cons r1 r2 r3 (DN.app hk ry rv r4)
theorem DN.st(hk:cz 6 k=some kk)(rv:Rep H O v d):∀ {ws:List NE} {ds:List (D×D)},DN H O ws ds->DN H O (ws.map λp=>if p.1=kk then(p.1,p.2.1,v) else p) (ds.map λq=>if ax q.1 k=true then(q.1,d) else q)
 | [],[],_=>.nil
 | [],_ :: _,r=>by have:=r.len; simp at this
 | _ :: _,[],r=>by have:=r.len; simp at this
 | p :: ws,q :: ds,r=>by
  obtain⟨r1,r2,r3,r4⟩:=r.un;have e:=Cb 6 q.1 k p.1 kk r3 hk;rw[Wd,Wd,e];by_cases z:p.1=kk
  ·rw[decide_eq_true z,if_pos z,if_pos rfl]; exact .cons r1 rv r3 (DN.st hk rv r4)
  ·rw[decide_eq_false z,if_neg z,if_neg (by simp)]; exact .cons r1 r2 r3 (DN.st hk rv r4)
theorem DN.put(hk:cz 6 k=some kk)(ry:Rep H O y k)(rv:Rep H O v d)(r:DN H O ws ds):DN H O (putN ws kk y v) (je ds k d):=by
 unfold putN je;rw[(DN.get hk r).2];split
 ·exact r.st hk rv
 ·exact r.app hk ry rv
theorem DN.v3(hm:(ds.all λq=>gO m q.1)=true)(r:DN H O ws ds):∀ p ∈ ws,jD H m p.1 p.2.1:=λp hp=>by
 obtain⟨i,e⟩:=WO.mp hp;have hi:i < ds.length:=by have:=(W3.mp e).1; have:=r.len; omega
 exact sL (Qe.mp hm ds[i] (J4 hi)) (r.ml i p ds[i] e (W6 hi)) (r.key i p ds[i] e (W6 hi))
end
theorem v5(r:cO c σ δ H v (.dic ds)):∃ a ep ws,v = .ref a/\H a=some (.dN ep ws)/\DN H (Av c σ δ) ws ds:=by
 rcases r with r | ⟨a,rfl,ep,ws,h1,h2⟩
 ·cases r with
  | dic h1 h2 h3 h4 h5 h6=>exact⟨_,_,_,rfl,h2,h3,h4,h5,h6⟩
 ·exact⟨a,ep,ws,rfl,h1,h2⟩
theorem Mm(h:gO m d=true)(r:cO c σ δ H v d):Rep H (Av c σ δ) v d:=by
 rcases r with r | ⟨a,rfl,r⟩
 ·exact r
 ·cases d <;> first | exact r.elim | simp[gO] at h
theorem v7(h:gf m ds k=true):gO m k=true/\(∃ kk,cz 6 k=some kk)/\(ds.all λq=>gO m q.1)=true:=by
 unfold gf at h;simp only[Wt] at h;exact⟨h.1.1,Qf.mp h.1.2,h.2⟩
theorem Mn(rx:cO c σ δ H x (.dic ds))(ry:cO c σ δ H y k)(h:gf m ds k=true) :
  ∃ a o,x = .ref a/\lL H a y o/\((fo ds k=none/\o=none)\/∃ v d,fo ds k=some d/\o=some v/\Rep H (Av c σ δ) v d):=by
 obtain⟨a,ep,ws,e,ha,dn⟩:=v5 rx;obtain⟨h1,⟨kk,hk⟩,h2⟩:=v7 h;exact⟨a,valN ws kk,e,⟨m,ep,ws,kk,ha,dn.v3 h2,sL h1 hk (Mm h1 ry),rfl⟩,(dn.get hk).1⟩
def Mo(neg:Bool):R2:=λx y H Q=>∃ a o,y = .ref a/\lL H a x o/\Q (.bl (if neg then !o.isSome else o.isSome)) H
theorem RP(hu:X.A.units + 64 < WE):bT X (WN .In) (Mo false):=by
 intro pins s σ H x y v u Q I rx ry h;obtain⟨a,o,rfl,g,q⟩:=h
 cases ry;exact Me (by omega) I g rx λs' I'=>⟨.bl _,H,I',rfl,q⟩
def RQ(neg:Bool)(x y:D):Option S:=match y with
 | .dic ds=>if gf (gA x) ds x then some (.pure (.bl (if neg then !(fo ds x).isSome else(fo ds x).isSome))) else none
 | _=>none
def sM:R2:=λx y H Q=>∃ a v,x = .ref a/\lL H a y (some v)/\Q v H
def gh(x y:D):Option S:=match x with
 | .dic ds=>if gf (gA y) ds y then(fo ds y).map .pure else none
 | _=>none
theorem sN(hu:X.A.units + 64 < WE):gL X sM:=by
 intro value slice pins s σ H x y v u Q I rx ry h hs;obtain⟨a,w,rfl,g,q⟩:=h
 cases rx;exact tail_any (vY I g).1 F.slot_dict_getitem.lookup (Mc (v:=w) (by omega) I g ry λw' s' I' aL=>⟨w,H,I',aL,q⟩) hs
theorem sO:cQ sM gh:=by
 intro c σ δ H x y d e s Q k rx ry hp q
 cases d <;> first | (simp[gh] at hp; done) | skip
 rename_i ds;simp only[gh] at hp;split at hp
 ·rename_i hg;obtain⟨a,o,ea,g,r⟩:=Mn rx ry hg;rcases r with ⟨r1,rfl⟩ | ⟨v,d,r1,rfl,r2⟩
  ·rw[r1] at hp; cases hp
  ·rw[r1] at hp; cases hp
   exact⟨a,v,ea,g,q v H (.refl k) r2⟩
 ·cases hp
section
variable {X:Cx} {c:Fc} {e:Expr} {fe:DE} {pos:Pos}
theorem Ok.Mp(k:Ok c σ δ H)(e:δ[i]? = some (some (.own d0)))(ea:σ[i]? = some (some (.ref a)))(r:fj (upd H a o) (Av c σ δ) a d') :
  aQ c σ δ H σ (δ.set i (some (.own d'))) (upd H a o):=by
 have hi:i < δ.length:=(W3.mp e).1;obtain⟨a',cF,oa,ia,nb⟩:=k.own i _ e;rw[ea] at cF; cases cF
 have lA:Own σ δ a:=⟨i,_,e,ea⟩
 have pG:Av c σ δ a:=.inr lA;have lB:∀ b,Own σ (δ.set i (some (.own d'))) b ↔ Own σ δ b:=λb=>by
  constructor
  ·rintro ⟨j,d,e1,e2⟩;by_cases hj:i=j
   ·subst hj;exact⟨i,_,e,e2⟩
   ·rw[W5 hj] at e1;exact⟨j,d,e1,e2⟩
  ·rintro ⟨j,d,e1,e2⟩;by_cases hj:i=j
   ·subst hj;exact⟨i,_,by rw[Wn hi],e2⟩
   ·exact⟨j,d,by rw[W5 hj]; exact e1,e2⟩
 have jx:∀ b,Av c σ (δ.set i (some (.own d'))) b->Av c σ δ b:=λb z=>z.elim .inl λz=>.inr ((lB b).mp z)
 have kp:∀ b w,H b=some w->¬ Av c σ δ b->upd H a o b=some w:=λb w h n=>by rw[ba λz=>n (by rw[z]; exact pG)]; exact h
 have g9:∀ b w,H b=some w->∃ o',upd H a o b=some o':=λb w h=>by
  by_cases hb:b=a
  ·exact⟨_,by rw[hb]; exact dq⟩
  ·exact⟨w,by rw[ba hb]; exact h⟩
 refine⟨⟨λb w h n=>?_,λb z=>?_,λb z=>?_,by rw[WT]; exact k.len,λj d h=>?_,λj d h=>?_,λj l b d d2 h1 h2 h3 h4=>?_,k.pinned⟩,λb w h n=>?_,λb z=>.inl ((lB b).mp z),g9⟩
 ·have hb:b≠a:=λz=>by
   subst z;rcases ia with z | z
   ·exact n z
   ·rw[z] at h; cases h
  rw[ba hb];exact k.keep b w h n
 ·obtain⟨w,h⟩:=k.bd b z;exact g9 b w h
 ·obtain⟨w,h⟩:=k.dM b z;exact g9 b w h
 ·have hj:i≠j:=λz=>by subst z; rw[Wn hi] at h; cases h
  rw[W5 hj] at h;obtain⟨v,h1,h2⟩:=k.slot j d h;exact⟨v,h1,(h2.keep kp).aJ λb z=>.inl (jx b z)⟩
 ·by_cases hj:i=j
  ·subst hj;rw[Wn hi] at h
   cases h;exact⟨a,ea,r.aJ λb z=>.inl (jx b z),ia,nb⟩
  ·rw[W5 hj] at h;obtain⟨b,h1,h2,h3,h4⟩:=k.own j d h;have hb:b≠a:=λz=>by subst z; exact hj (k.inj i j b _ d e h ea h1)
   exact⟨b,h1,(h2.keep kp λw q=>by rw[ba hb]; exact q).aJ λb z=>.inl (jx b z),h3,h4⟩
 ·have f1:∃ d,δ[j]? = some (some (.own d)):=by
   by_cases hj:i=j
   ·subst hj; exact⟨_,e⟩
   ·rw[W5 hj] at h1; exact⟨d,h1⟩
  have f2:∃ d,δ[l]? = some (some (.own d)):=by
   by_cases hj:i=l
   ·subst hj; exact⟨_,e⟩
   ·rw[W5 hj] at h2; exact⟨d2,h2⟩
  obtain⟨_,f1⟩:=f1;obtain⟨_,f2⟩:=f2;exact k.inj j l b _ _ f1 f2 h3 h4
 ·have hb:b≠a:=λz=>n (by rw[z]; exact lA)
  rw[ba hb]; exact h
theorem Ok.v8(k:Ok c σ δ H)(e:δ[i]? = some (some (.own (.dic ds))))(ea:σ[i]? = some (some (.ref a)))(r:DN H (Av c σ δ) ws dJ) :
  aQ c σ δ H σ (δ.set i (some (.own (.dic dJ)))) (upd H a (.dN ep ws)) :=
 Ok.Mp k e ea ⟨ep,ws,dq,r.keep λb w h n=>by rw[ba λz=>n (by rw[z]; exact .inr ⟨i,_,e,ea⟩)]; exact h⟩
def lM(δ:Dl)(i:Nat):Bool:=match δ[i]? with
 | some (some (.own (.dic _)))=>true
 | _=>false
theorem Cd(h:lM δ i=true):∃ ds,δ[i]? = some (some (.own (.dic ds))):=by
 unfold lM at h;split at h
 ·rename_i ds e; exact⟨ds,e⟩
 ·cases h
def iM(i:Nat)(fi fe:DE):DS:=λδ=>(fe δ).bind λr δ1=>if lM δ1 i then(fi δ1).bind λk δ2=>match δ2[i]? with
  | some (some (.own (.dic ds)))=>if gf (gA k.d) ds k.d && decide (ds.length < W9) then .ok .next (δ2.set i (some (.own (.dic (je ds k.d r.d))))) else .stuck
  | _=>.stuck else .stuck
end
end DV
namespace L2
open PySem PySem.Spec PyProof.Rows
def Mq(td ty tv:TE):TS:=λD σ H=>tv σ H λv H1=>td σ H1 λx H2=>ty σ H2 λy H3=>∃ a,x = .ref a/\vZ H3 a y v λH4=>D.nx σ H4
theorem Mr(hu:X.A.units + 8 < WE)(ho:PE X o td)(hi:PE X i ty)(hv:PE X value tv)(hs:Jg value (some (.Subscript o i pos')) pos.line X.env=pure false) :
  PS X (.Assign [.Subscript o i pos'] value pos) (Mq td ty tv):=by
 intro pins s σ H D I h;refine wpAny_Assign_Subscript (a_ (hv pins s σ H _ I h) λr s1 ⟨v,H1,I1,rv,q1⟩=>a_ (ho pins s1 σ H1 _ I1 q1) λu s2 ⟨x,H2,I2,rx,q2⟩=>a_ (hi pins s2 σ H2 _ I2 q2) λiv s3 ⟨y,H3,I3,ry,a,ex,g⟩=>?_) hs;subst ex;obtain rfl:u=Value.ref a:=rx;exact Mg hu I3 g ry rv λH4 s4 I4 q4=>⟨σ,H4,I4,q4⟩
end L2
namespace DV
open PySem PySem.Spec PyProof.Rows L2
section
variable {X:Cx} {c:Fc} {e:Expr} {fe:DE} {pos:Pos}
theorem v9(hu:X.A.units + 64 < WE)(ho:PE X o (c9 i))(hi:SE X c ix fi)(he:SE X c e fe)
  (hs:Jg e (some (.Subscript o ix sp)) pos.line X.env=pure false:=by rfl):SS X c (.Assign [.Subscript o ix sp] e pos) (iM i fi fe) :=
 PS.weak (Mr (by omega) ho hi he hs) λD σ H ⟨δ,k,q⟩=>by
  unfold iM eV at q;rw[bC] at q;refine⟨δ,k,aU q λr δ1 q1 v H1 a1 r1=>?_⟩;split at q1
  case isFalse=>exact q1.elim
  rename_i hown1;obtain⟨ds1,e1⟩:=Cd hown1;obtain⟨a,ea,_,_⟩:=a1.ok.own i _ e1;refine⟨.ref a,ea,δ1,a1.ok,?_⟩;rw[bC] at q1;refine aU q1 λkx δ2 q2 u H2 a2 r2=>?_
  split at q2
  ·rename_i ds e2;split at q2
   ·rename_i hz;simp only[Wt,decide_eq_true_eq] at hz;obtain⟨hg,hz⟩:=hz;obtain⟨a',cF,oa,_⟩:=a2.ok.own i _ e2;rw[ea] at cF; cases cF
    obtain⟨ep,ws,ha,dn⟩:=id oa;obtain⟨h1,⟨kk,hk⟩,h2⟩:=v7 hg;have ry:Rep H2 (Av c σ δ2) u kx.d:=r2.rep;have rv:Rep H2 (Av c σ δ2) v r.d:=Rep.dO r1.rep a2;refine⟨a,rfl,gA kx.d,ep,ws,kk,ha,dn.v3 h2,sL h1 hk ry,by rw[dn.len]; exact hz,λfM=>?_⟩;exact q2 σ _ (a1.trans (a2.trans (Ok.v8 a2.ok e2 ea (dn.put hk ry rv))))
   ·exact q2.elim
  ·exact q2.elim
end
end DV
namespace L2
open PySem PySem.Spec PyProof.Rows
section
variable {prog:Wm} {w:Wr} {A:Ws} {E:Value->W2->Prop} {s:W2}
theorem Ms (hd:(d == Q8)=false) (hT:s.TypeIs (.ref d) "dict")
  (h:Q (.ref s.heap.objs.size) { s with heap:=s.heap.push { cls:=.type "dict_items",data:=.fields #[.ref d] } }):W7 (model prog w) A (call (.builtin "dict.items") [.ref d]) Q E s:=by
 refine Ww F.slot_dict_items hT F.entry_dict_items ?_ (F.args_dict_items_1 _);unfold Builtin.«dict.items» Builtin.Dict.noArgs;refine W0 (W0 (QM hT (show W7 _ _ (pure d) _ _ s from W1 ?_)));show W7 _ _ (QO d >>= _) _ _ s;unfold QO;rw[if_neg (by rw[hd]; exact Wv)];exact W0 (W1 (W0 (WK (W1 ⟨_,rfl,h⟩))))
theorem Mt(hv:s.heap.IsItemsView v d)(ho:s.heap.get? d=some o)(hW:o.data = .dict es ep)
  (hQ:Q (.ref s.heap.objs.size) { s with heap:=s.heap.push { cls:=.type "dict_itemiterator",data:=.fields #[.none,.bool false,.ref d,.int 0 0,.int es.size 0,.int ep 0,.none,.none] } }):W7 (model prog w) A (pyIter (.ref v)) Q E s:=by
 obtain⟨ov,hov,hcv,hdv⟩:=id hv;refine Jt hv.typeIs F.slot_dict_items_iter (Ww F.slot_dict_items_iter hv.typeIs F.entry_dict_items_iter ?_ (F.args_dict_items_iter_1 _));unfold Builtin.«dict_items.__iter__»;refine W0 (W1 (W0 ?_));unfold Builtin.Dict_items.dictOf;refine W0 (WQ hov hdv (x:=.ref d) rfl (W1 (W0 ?_)));unfold Builtin.Dict_items.newIterator;refine W0 (Q4 ho hW (W0 (QF ho hW ?_)));have eX:WU "dict_itemiterator" = true:=by decide
 simp only[eX,if_true];refine WK (W1 ⟨_,rfl,"dict_itemiterator",_,⟨_,Wg _ rfl,rfl⟩,F.slot_dict_itemiterator_next.lookup,?_⟩)
  (by simp only[sizeOk,Builtin.Dict_items.ownedTupleFields,Wq,WX,WG,QS,QG]; omega)
 simpa[Q6,Builtin.Dict_items.ownedTupleFields] using hQ
theorem Mu(hit:IsItemIter s.heap it d i es.size ep ok ov)
  (gi:s.heap.get? d=some od) (eF:od.data = .dict es ep) (hx:es[i]? = some e)
  (hQ:∀ h',IsItemIterOut h' it d (i + 1) es.size ep e.key e.val s.heap.objs.size->h'.get? s.heap.objs.size=some { cls:=.type "tuple",data:=.seq #[e.key,e.val] }->h'.objs.size=s.heap.objs.size + 1 ->
   (∀ b o,b≠it->s.heap.get? b=some o->h'.get? b=some o)->Q (some (.ref s.heap.objs.size)) { s with heap:=h' }):W7 (model prog w) A (Qu (.ref it)) Q E s:=by
 obtain⟨hp,g,dr,tk,os⟩:=s;have hT:Shared.TypeIs ⟨hp,g,dr,tk,os⟩ (.ref it) "dict_itemiterator":=⟨_,hit,rfl⟩
 have RS:i < es.size:=by
  rcases Nat.lt_or_ge i es.size with h | h
  ·exact h
  ·simp[Jr h] at hx
 unfold Qu;refine W0 (Jb (WD (name:=Str.ofString "__next__") hT QZ (Ww QZ hT F.entry_dict_itemiterator_next ?_ (F.args_dict_itemiterator_next_1 _))));refine W0 (W1 (W0 (W0 ?_)));first | refine W0 (QU hT (W1 ?_)) | refine W0 (Jf hT (W1 ?_))
 refine W0 (Jx hit rfl ?_);have eX:WU "dict_itemiterator" = true:=by decide
 simp only[eX,if_true];show W7 _ _ (if (Value.ref d == Value.none)=true then _ else _) _ _ _;rw[if_neg (show ¬ ((Value.ref d == Value.none)=true) from Wv)];refine W0 (W1 (W0 (Q4 gi eF ?_)));rw[if_neg (by simp)];refine W0 (W1 (W0 (QF gi eF ?_)));rw[if_neg (by simp)];refine W1 ?_;simp only[show ¬ ((i:Int) < 0) from by omega,if_false,Qs,hx];refine W0 ?_;first | refine W0 (QU hT (W1 ?_)) | refine W0 (Jf hT (W1 ?_))
 refine W0 (wpAny_isOneOf_itemiter hT ?_);show W7 _ _ (setField (.ref it) 3 (Q6 ((i:Int) + 1)) >>= _) _ _ ⟨hp,g,dr,tk,os⟩;refine W0 (WY hit (by simp) λh1 e1 s1=>?_);replace s1:Qp it hp h1:=s1;replace e1:IsItemIter h1 it d (i + 1) es.size ep ok ov:=by
  have z:((i + 1:Nat):Int)=(i:Int) + 1:=by omega
  unfold IsItemIter; rw[z]; simpa[Q6] using e1
 have v_:Shared.TypeIs ⟨h1,g,dr,tk,os⟩ (.ref it) "dict_itemiterator":=⟨_,e1,rfl⟩
 refine W0 (WB (W0 (wpAny_isOneOf_itemiter v_ (W0 (wpAny_isOneOf_itemiter v_ ?_)))));show W7 _ _ (Builtin.Dict_items.pairFromOwner (.ref it) 6 e.key e.val) _ _ ⟨h1,g,dr,tk,os⟩;unfold Builtin.Dict_items.pairFromOwner;refine W0 (wpAny_newTuple ?_);have e2:IsItemIter (h1.push { cls:=.type "tuple",data:=.seq #[e.key,e.val] }) it d (i + 1) es.size ep ok ov:=W8 _ e1;generalize hh2:h1.push { cls:=.type "tuple",data:=.seq #[e.key,e.val] } = h2 at e2;have z1:h1.objs.size=hp.objs.size:=s1.1;have lC:it < hp.objs.size:=Wp hit;have t2:h2.get? hp.objs.size=some { cls:=.type "tuple",data:=.seq #[e.key,e.val] }:=by rw[<- hh2,<- z1]; exact Wg _ rfl
 have z2:h2.objs.size=hp.objs.size + 1:=by rw[<- hh2,Qr,z1]
 have k2:∀ b o,b≠it->hp.get? b=some o->h2.get? b=some o:=λb o hb q=>by rw[<- hh2]; exact W8 _ (s1.extBut b o hb q)
 show W7 _ _ (Builtin.Dict_items.ownedTupleIsFree (.ref it) >>= _) _ _ ⟨h2,g,dr,tk,os⟩;rw[z1];clear hh2 e1 s1 v_ z1 h1;refine W0 ?_;unfold Builtin.Dict_items.ownedTupleIsFree;refine W0 (WQ e2 rfl (x:=.none) rfl (W1 ?_));simp only[if_true];refine W0 (WQ e2 rfl (x:=ok) rfl (W0 (WQ e2 rfl (x:=ov) rfl ?_)));refine W0 (WY e2 (by simp) λh3 e3 s3=>?_);replace s3:Qp it h2 h3:=s3;replace e3:IsItemIter h3 it d (i + 1) es.size ep e.key ov:=e3;refine W0 (WY e3 (by simp) λh4 e4 s4=>?_);replace s4:Qp it h3 h4:=s4;replace e4:IsItemIter h4 it d (i + 1) es.size ep e.key e.val:=e4;refine W0 (WY e4 (by simp) λh5 e5 s5=>?_);replace s5:Qp it h4 h5:=s5;replace e5:IsItemIterOut h5 it d (i + 1) es.size ep e.key e.val hp.objs.size:=e5;refine W0 (WY e5 (by simp) λh6 e6 s6=>?_);replace s6:Qp it h5 h6:=s6;replace e6:IsItemIterOut h6 it d (i + 1) es.size ep e.key e.val hp.objs.size:=e6;have up:∀ b o,b≠it->h2.get? b=some o->h6.get? b=some o:=λb o hb q=>s6.extBut b o hb (s5.extBut b o hb (s4.extBut b o hb (s3.extBut b o hb q)))
 refine W0 (wpAny_letGo (W1 (W1 ⟨_,rfl,W1 (hQ h6 e6 (up _ _ (JE lC) t2) ?_ λb o hb q=>up b o hb (k2 b o hb q))⟩)));show h6.objs.size=hp.objs.size + 1;rw[s6.1,s5.1,s4.1,s3.1,z2]
theorem Mv(hh:A.handled=none)(hit:IsItemIter s.heap it d i es.size ep ok ov)
  (gi:s.heap.get? d=some od) (eF:od.data = .dict es ep) (hx:es.size<=i) (hQ:∀ h',Heap.ExtBut it s.heap h'->Q none { s with heap:=h' }):W7 (model prog w) A (Qu (.ref it)) Q E s:=by
 have hT:s.TypeIs (.ref it) "dict_itemiterator":=⟨_,hit,rfl⟩
 unfold Qu;refine W0 (Jb (WD (name:=Str.ofString "__next__") hT QZ (Ww QZ hT F.entry_dict_itemiterator_next ?_ (F.args_dict_itemiterator_next_1 _))));refine W0 (W1 (W0 (W0 ?_)));first | refine W0 (QU hT (W1 ?_)) | refine W0 (Jf hT (W1 ?_))
 refine W0 (Jx hit rfl ?_);have eX:WU "dict_itemiterator" = true:=by decide
 simp only[eX,if_true];show W7 _ _ (if (Value.ref d == Value.none)=true then _ else _) _ _ s;rw[if_neg (show ¬ ((Value.ref d == Value.none)=true) from Wv)];refine W0 (W1 (W0 (Q4 gi eF ?_)));rw[if_neg (by simp)];refine W0 (W1 (W0 (QF gi eF ?_)));rw[if_neg (by simp)];refine W1 ?_;simp only[show ¬ ((i:Int) < 0) from by omega,if_false,Qs,Jr hx];refine W0 ?_;first | refine W0 (QU hT (W1 ?_)) | refine W0 (Jf hT (W1 ?_))
 show W7 _ _ (setField (.ref it) 2 .none >>= _) _ _ s;refine W0 (JP hit rfl (by simp) ?_);show W7 _ _ (newExc (.type "StopIteration") [] >>= _) _ _ _;refine W0 ?_;simp only[newExc,newTuple];refine W0 (WK ?_ (by size_fits));refine W0 (m:=Jy _ _) (wpAny_of_eq (a:=Value.none) (by first | rfl | (simp only[Jy]; rfl)) ?_);refine WK ?_ (by size_fits);simp only[raiseNew];refine W0 (wpAny_handled ?_);rw[show A.in1.handled=none from hh];refine W0 (W1 (wpAny_throw ?_));refine W0 (Jl (T:="StopIteration") (b:=true) ⟨_,Wg _ rfl,rfl⟩ JQ ?_);exact W1 (hQ _ (((Qt ..).extBut.push _).push _))
end
def Ce(a:Addr)(ep:Nat)(aa:List NE):It :=
 ⟨λi H=>H a=some (.dN ep aa)/\i < aa.length,
  λi H v H'=>∃ p k y x,H p=none/\aa[i]? = some (k,y,x)/\H'=upd H p (.tup [y,x])/\v = .ref p,
  λi H=>H a=some (.dN ep aa)/\i=aa.length⟩
theorem dm.get(r:dm aa xs):∀ {i:Nat} {p:NE},aa[i]? = some p->∃ x,xs[i]? = some x/\RelV p.2.1 x.2.1/\RelV p.2.2 x.2.2:=by
 unfold dm at r;induction r with
 | nil=>intro i p e; simp at e
 | cons h t ih =>
  intro i p e
  cases i with
  | zero=>simp at e; subst e; exact⟨_,rfl,h.2⟩
  | succ i=>obtain⟨x,e1,e2⟩:=ih (i:=i) (by simpa using e); exact⟨x,by simpa using e1,e2⟩
theorem Mw{P:Wm}{w:Wr}{K:W4}{elts:List Expr}{ctx}{pos:Pos}(a it:Addr)(aa:List NE)(ep:Nat) :
  Turn P w K (.Tuple elts ctx pos) (Ce a ep aa) [it] it (λi h=>∃ ok ov,IsItemIter h it a i aa.length ep ok ov):=by
 have at_:∀ {X:Cx} {pins s σ H},X.prog=P->X.w=w->Inv X pins σ H s->H a=some (.dN ep aa)->∃ xs o es,dm aa xs/\j4 w s.heap a ep xs o es/\es.size=aa.length:=by
  intro X pins s σ H hP hw I e;subst hP hw;obtain⟨_,_,xs,o,es,r,d⟩:=jd I.aC e;exact⟨xs,o,es,r,d,by rw[<- WP,d.ents,Wi]; exact(Paired.length r).symm⟩
 refine⟨by simp,?_,?_,?_,?_,?_⟩
 ·rintro i h ⟨ok,ov,q⟩ b hb;have e:b=it:=by simpa using hb
  subst e;exact⟨_,q,λv z=>by
   have z':Data.fields _=Data.cell v:=z
   cases z'⟩
 ·rintro i h h' ⟨ok,ov,q⟩ k;exact⟨ok,ov,k it (by simp) _ q⟩
 ·intro X hP hw hK hc i pins s σ H E I hf ⟨ok,ov,st⟩ ⟨hg,hi⟩;obtain⟨xs,o,es,r,d,hz⟩:=at_ hP hw I hg;subst hP hw hK;have hx:aa[i]? = some (aa[i].1,aa[i].2.1,aa[i].2.2):=by simp[hi]
  obtain⟨x,hu,ry,rv⟩:=r.get hx;have wa:es[i]? = some (ent X.w x):=by rw[<- Qw,d.ents,Wl,hu]; rfl
  have lC:it < s.heap.objs.size:=Wp st;rw[<- hz] at st;refine Mu st d.get d.data wa λh' hit hT hsz kp=>⟨_,rfl,wpAny_letOwnedTupleGo_items hit λh2 Mx sb=>?_⟩
  have nz:s.heap.objs.size≠it:=JE lC;have bu:∀ b ∈ [it],b < s.heap.objs.size:=λb hb=>by
   have e:b=it:=by simpa using hb
   subst e;exact lC
  have I2:Inv X pins σ (upd H s.heap.objs.size (.tup [aa[i].2.1,aa[i].2.2])) { s with heap:=h2,toks:=s.toks } :=
   Inv.Bx (t':=s.toks) [it] I hf bu ry rv ((sb.2 _ nz).trans hT) λb o hb e=>by
    have g:b≠it:=λz=>hb (by simp[z])
    exact(sb.2 b g).trans (kp b o g e)
  refine⟨.ref s.heap.objs.size,_,I2,rfl,⟨s.heap.objs.size,_,_,_,I.aC.fresh (Wk _),hx,rfl,rfl⟩,⟨_,_,by rw[<- hz]; exact Mx⟩,λb hb=>?_⟩;have e:b=it:=by simpa using hb
  subst e;rw[ba (Ne.symm nz)];exact(hf _ hb).1
 ·intro X hP hw hK hc i pins s σ H E I hf ⟨ok,ov,st⟩ ⟨hg,hi⟩;obtain⟨xs,o,es,r,d,hz⟩:=at_ hP hw I hg;subst hP hw hK;rw[<- hz] at st;refine Mv (I.ok.hd hc) st d.get d.data (by omega) λh' eb=>⟨rfl,Inv.sr (t':=s.toks) [it] I (λb o hb e=>eb b o (λz=>hb (by simp[z])) e) hf⟩
 ·intro A i s Q E ⟨ok,ov,st⟩ h;exact LV st h
section
variable {X:Cx} {o:Expr} {apos bE:Pos} {elts:List Expr} {ctx:Nat} {tp:Pos} {td:TE}
def My(td:TE):TI:=λσ H R=>td σ H λv H1=>∃ a ep aa,v = .ref a/\H1 a=some (.dN ep aa)/\R (Ce a ep aa) H1
theorem Mz (ho:PE X o td) (hb:QY o "items" X.env (eval o X.env)=eval o X.env:=by rfl) (hl:(apos.endLine == bE.line)=true:=by rfl) :
  PI X (.Tuple elts ctx tp) (.Call (.Attribute o "items" apos) [] [] bE) (My td):=by
 intro pins s σ H R I h;refine wpAny_Call_method (T:="dict") (id:="dict.items") hb rfl hl F.plainAttrs_dict F.slot_dict_items F.type_dict_items (a_ (ho pins s σ H _ I h) λu s1 ⟨x,H1,I1,rx,a,ep,aa,ex,ea,q⟩=>?_);subst ex;obtain rfl:u=Value.ref a:=rx;obtain⟨z,hS,xs,ob,es,r,d⟩:=jd I1.aC ea;have hz:es.size=aa.length:=by rw[<- WP,d.ents,Wi]; exact(Paired.length r).symm
 refine⟨d.typeIs,d.noDict,?_⟩;refine Calls.callWith_builtin rfl (PySem.evalArgs_none (Ms hS d.typeIs ?_));have wb:∀ b u,s1.heap.get? b=some u->(s1.heap.push { cls:=.type "dict_items",data:=.fields #[.ref a] }).get? b=some u:=λb u e=>W8 _ e
 refine Mt (d:=a) ⟨_,Wg _ rfl,rfl,rfl⟩ (wb _ _ d.get) d.data ?_;generalize hh1:s1.heap.push { cls:=.type "dict_items",data:=.fields #[.ref a] } = h1;have up1:∀ b u,s1.heap.get? b=some u->h1.get? b=some u:=λb u e=>by rw[<- hh1]; exact W8 _ e
 have pW:s1.heap.objs.size<=h1.objs.size:=by rw[<- hh1,Qr]; exact JW _
 generalize hh2:h1.push { cls:=.type "dict_itemiterator",data:=.fields #[.none,.bool false,.ref a,.int 0 0,.int es.size 0,.int ep 0,.none,.none] } = h2;have wc:∀ b u,s1.heap.get? b=some u->h2.get? b=some u:=λb u e=>by rw[<- hh2]; exact W8 _ (up1 b u e)
 have hit:IsItemIter h2 h1.objs.size a 0 aa.length ep .none .none:=by rw[<- hz,<- hh2]; exact Wg _ rfl
 have I2:Inv X pins σ H1 { s1 with heap:=h2,toks:=s1.toks }:=I1.kept (t':=s1.toks) wc;refine⟨h1.objs.size,[h1.objs.size],_,_,_,rfl,I2,Mw a h1.objs.size aa ep,⟨_,_,hit⟩,λb hb=>?_,q⟩;have e:b=h1.objs.size:=by simpa using hb
 subst e;exact I1.jP pW (I1.aC.fresh pW)
end
section
variable {X:Cx} {pos:Pos}
theorem MA (h:Heap) (hb:Q8 < h.objs.size):b0 P w H (h.push { cls:=.type "dict",data:=.dict #[] }) h.objs.size (.dN 0 []) :=
 ⟨Qc _,beq_eq_false_iff_ne.mpr (Ne.symm (WW hb)),_,#[],Wg _ rfl,⟨rfl,rfl,rfl⟩,rfl,.nil,List.nodup_nil⟩
def MB:TE:=λ_ H Q=>∀ p,H p=none->Q (.ref p) (upd H p (.dN 0 []))
theorem MC:PE X (.Dict [] [] pos) MB:=by
 intro pins s σ H Q I h;exact wpAny_Dict_empty ⟨.ref s.heap.objs.size,_,I.laid (a:=s.heap.objs.size) (o:=.dN 0 []) (t':=s.toks) (λ_ _ q=>W8 _ q) (Wk _) (MA s.heap I.big),rfl,h _ (I.aC.fresh (Wk _))⟩
end
end L2
namespace DV
open PySem PySem.Spec PyProof.Rows L2
theorem bp.MD(k:Ok c σ δ H)(hp:H p=none)(r:DN H (Av c σ δ) ws ds):bp c σ δ H (upd H p (.dN ep ws)) (.ref p) (.own (.dic ds)):=by
 refine⟨p,rfl,⟨ep,ws,dq,?_⟩,λz=>k.iX hp (.inl z),k.nt hp,k.plus hp _,hp⟩;exact(r.aJ λb z=>by
  rcases z with (z | z) | z
  ·exact .inl (.inl z)
  ·exact .inr (by rw[z]; exact hp)
  ·exact .inl (.inr z)).keep λb w e _=>by rw[ba (gq e hp)]; exact e
def gP:DE:=λδ=>.ok (.own (.dic [])) δ
theorem sP:SE X c (.Dict [] [] pos) gP:=PE.weak MC λσ H Q ⟨δ,k,q⟩=>λp hp=>q _ _ (.alloc k hp _) (bp.MD k hp .nil)
section
variable {X:Cx} {c:Fc} {o:Expr} {fe:DE} {apos bE:Pos} {elts:List Expr} {ctx:Nat} {tp:Pos}
end
end DV
namespace L2
open PySem PySem.Spec PyProof.Rows
section
variable {X:Cx} {k v o e f:Expr} {pos apos bE:Pos} {tk tv td ty tx:TE}
def Cf(H:Hp)(a:Addr):Prop:=∃ ep aa,H a=some (.dN ep aa)
theorem ME (I:Inv X pins σ H s) (d:Cf H a):s.TypeIs (.ref a) "dict"/\(∀ b,Value.ref a = .ref b->∃ ob,s.heap.get? b=some ob/\ob.dict=none):=by
 obtain⟨ep,aa,e⟩:=d;obtain⟨_,_,xs,ob,es,_,d⟩:=jd I.aC e;exact⟨d.typeIs,d.noDict⟩
end
end L2
namespace DV
open PySem PySem.Spec PyProof.Rows L2
section
variable {X:Cx} {c:Fc} {o e f:Expr} {fe ff:DE} {i:Nat} {apos bE:Pos}
end
end DV
namespace L2
open PySem PySem.Spec PyProof.Rows
section
variable {X:Cx} {pins:List (Addr×Obj)} {σ:St} {H:Hp} {s:W2} {a:Addr} {ep:Nat} {aa:List NE} {A:Ws} {E:Value->W2->Prop}
theorem MF {Q:Value->W2->Prop} (I:Inv X pins σ H s) (e:H a=some (.dN ep aa)) (h:∀ t s',Inv X pins σ H s'->Q (.int aa.length t) s'):W7 (model X.prog X.w) A (call (.builtin "len") [.ref a]) Q E s:=by
 obtain⟨z,hS,xs,o,es,r,d⟩:=jd I.aC e;have hz:es.size=aa.length:=by rw[<- WP,d.ents,Wi]; exact(Paired.length r).symm
 refine Calls.call_function_entry kind_len plain_len entry_len (args_len1 _) ?_;unfold Builtin.«len»;refine W0 (m:=oneArg "len" _) (W1 ?_);refine W0 (m:=callSpecial? (.ref a) (Str.ofString "__len__")) (WD (name:=Str.ofString "__len__") d.typeIs F.slot_dict_len
  (Ww F.slot_dict_len d.typeIs F.entry_dict_len ?_ (F.args_dict_len_1 _)))
 show W7 _ _ (dictSize a >>= _) _ _ s;unfold dictSize;refine W0 (W0 (Q4 d.get d.data (W1 ?_)));show W7 _ _ (Builtin.Dict.pendingCount a >>= _) _ _ s;refine W0 (wpAny_pendingCount_other hS ?_);refine wpAny_ret_mkInt ?_;show W7 _ _ _ _ _ { s with toks:=s.toks + 1 };rw[hz];refine W0 (WB (W1 ?_));refine W0 (wpAny_letGo ?_);rw[QG] at z;show W7 _ _ (if ((aa.length:Nat):Int) < 0 then _ else _) _ _ _;rw[if_neg (by omega)];show W7 _ _ (if ((aa.length:Nat):Int) ≥ 2 ^ 63 then _ else _) _ _ _;rw[if_neg (by omega)];exact W0 (wpAny_mkInt (W1 ⟨_,rfl,h _ _ (I.tok _)⟩))
theorem MG {X:Cx}:eB X (.builtin "len") (λxs H Q=>∃ a ep aa,xs=[V.ref a]/\H a=some (.dN ep aa)/\Q (.int aa.length) H):=by
 intro pins s σ H xs us Q I r h;obtain⟨a,ep,aa,rfl,ha,q⟩:=h;obtain⟨u,rfl,ru⟩:=gY r
 cases ru;exact MF I ha λt s' I'=>⟨.int aa.length,H,I',⟨t,rfl⟩,q⟩
end
section
variable {X:Cx} {pins:List (Addr×Obj)} {σ:St} {H:Hp} {s:W2} {a:Addr} {y v:V} {u r:Value} {A:Ws} {E:Value->W2->Prop}
def Cg(H:Hp)(a:Addr)(y v:V)(R:V->Hp->Prop):Prop:=∃ m ep aa k,H a=some (.dN ep aa)/\(∀ p ∈ aa,jD H m p.1 p.2.1)/\jD H m k y/\aa.length < W9 /\
 (∀ x,valN aa k=some x->R x H)/\(valN aa k=none->∀ fM,R v (upd H a (.dN fM (putN aa k y v))))
theorem MH{R:V->Hp->Prop}{Q:Value->W2->Prop}(hu:A.units + 8 < WE)(I:Inv X pins σ H s)(g:Cg H a y v R)(ry:RelV y u)(rv:RelV v r)(h:∀ x H' w' s',R x H'->Inv X pins σ H' s'->RelV x w'->Q w' s') :
  W7 (model X.prog X.w) A (call (.builtin "dict.setdefault") [.ref a,u,r]) Q E s:=by
 obtain⟨m,ep,aa,k,e,hk,ky,hz,h1,h2⟩:=g;obtain⟨z,hS,xs,o,es,rx,d⟩:=jd I.aC e;have hl:xs.length<=W9:=by rw[<- Paired.length rx]; exact z
 have hsz:es.size=xs.length:=by rw[<- WP,d.ents,Wi]
 have rk:=(rx.val k).1;have qJ:=ky.key I.aC ry;refine Ww PySem.F.slot_dict_setdefault d.typeIs PySem.F.entry_dict_setdefault ?_ (PySem.F.args_dict_setdefault_3 _ _ _);unfold Builtin.«dict.setdefault»;refine W0 ?_;unfold Builtin.Dict.keyAndDefault;refine W0 (QM d.typeIs ?_);show W7 _ _ (pure (a,u,some r)) _ _ s;refine W1 ?_;show W7 _ _ (if (a == Q8)=true then _ else(dictSetDefault a u r >>= _)) _ _ s;rw[if_neg (by rw[hS]; exact Wv)];refine W0 ?_;unfold dictSetDefault;try with_reducible refine WB ?_
 refine W0 (vV (show A.units + 1 + 6 < WE by omega) qJ ?_);refine W0 (vW (s:={ s with toks:=s.toks + gz k }) (show A.units + 1 + 6 < WE by omega) qJ d.get d.data d.ents (vX I.aC rx hk) d.jE ?_ ?_)
 ·intro dX;have l:valN aa k=none:=by
   rw[(sH dX).1] at rk
   cases l:valN aa k with
   | none=>rfl
   | some x=>rw[l] at rk; exact rk.elim
  refine W0 (QT (W0 (wpAny_updateDictKeys (hz:=by omega) (s:={ s with toks:=s.toks + gz k }) d.get d.data (W1 (W1 ⟨_,rfl,?_⟩)))));have q1:=QL (Obj.mapDictKeys (λes=>es.push ⟨fA X.w k,u,r⟩)) d.get (Obj.isFreed_of_dict (Obj.data_mapDictKeys d.data _));have gI:(putN aa k y v).length<=W9:=by have:=B_ aa k y v; omega
  refine h v _ _ _ (h2 l (ep + 1)) ?_ rv;refine ph (I.tok _) (by rw[e]; exact True.intro) (Qt ..) ⟨_,q1⟩ (B8 gI hS (rx.put ry rv) ⟨q1,d.ex.mapDictKeys _,Obj.data_mapDictKeys d.data _,?_,B4 d.jE⟩);unfold stN;rw[if_neg (by rw[(sH dX).2]; simp)];simp[d.ents,ent]
 ·intro j p hj;rw[(sI d.jE hj).1] at rk
  cases l:valN aa k with
  | none=>rw[l] at rk; exact rk.elim
  | some x =>
   rw[l] at rk;refine W0 (Q4 (s:={ s with toks:=s.toks + gz k }) d.get d.data ?_);rw[<- Qw,d.ents,Wl,hj];exact W0 (QT (W1 (W1 ⟨_,rfl,h x H _ _ (h1 x l) (I.tok _) rk⟩)))
end
section
variable {X:Cx} {o e f:Expr} {apos bE:Pos} {td ty tx:TE}
def wd(td ty tx:TE):TE:=λσ H Q=>td σ H λx H1=>∃ a,x = .ref a/\Cf H1 a/\ty σ H1 λy H2=>tx σ H2 λz H3=>Cg H3 a y z Q
theorem Ci (hu:X.A.units + 8 < WE) (ho:PE X o td) (he:PE X e ty) (hf:PE X f tx) (m:M2 X o "setdefault" apos e f bE):PE X (.Call (.Attribute o "setdefault" apos) [e,f] [] bE) (wd td ty tx):=by
 intro pins s σ H Q I h;refine wpAny_Call_method m.base m.GJ m.line PySem.F.plainAttrs_dict PySem.F.slot_dict_setdefault PySem.F.type_dict_setdefault (a_ (ho pins s σ H _ I h) λu s1 ⟨x,H1,I1,rx,a,ex,d,q1⟩=>?_);subst ex;obtain rfl:u=Value.ref a:=rx;obtain⟨t1,t2⟩:=ME I1 d;refine⟨t1,t2,?_⟩;rw[m.trees];refine Calls.callWith_builtin rfl (Calls.evalArgs_plain (Calls.spliced_cons (a_ (he pins s1 σ H1 _ I1 q1) λiv s2 ⟨y,H2,I2,ry,q2⟩ =>
  Calls.spliced_cons (a_ (hf pins s2 σ H2 _ I2 q2) λfv s3 ⟨z,H3,I3,rz,g⟩=>Calls.spliced_nil ?_))))
 exact MH hu I3 g ry rz λx H4 w' s4 q4 I4 r4=>⟨x,H4,I4,r4,q4⟩
end
end L2
namespace DV
open PySem PySem.Spec PyProof.Rows L2
section
variable {X:Cx} {c:Fc} {o e f:Expr} {fe ff:DE} {fb:BE} {i:Nat} {apos bE pos pp:Pos}
def ic:D->Option S
 | .dic ds=>some (.pure (.int ds.length))
 | _=>none
theorem MI:jV (λv H Q=>∃ a ep aa,v=V.ref a/\H a=some (.dN ep aa)/\Q (.int aa.length) H) ic:=by
 intro c σ δ H x d s Q k rx hp q
 cases d <;> first | (simp[ic] at hp; done) | skip
 rename_i ds
 cases hp;obtain⟨a,ep,ws,e,ha,dn⟩:=v5 rx;exact⟨a,ep,ws,e,ha,by rw[dn.len]; exact q _ H (.refl k) (.int _)⟩
theorem we (hg:Gl X "len") (hm:X.mg "len" = none) (he:SB X c e fb) (hs:Wj [e] X.env=(false,eval e X.env) :: Wj [] X.env:=by rfl):SE X c (.Call (.Name "len" pp) [e] [] pos) (aK ic fb) :=
 nA MG (λv H Q h=>by
  obtain⟨a,ep,aa,e,h⟩:=h;exact⟨a,ep,aa,by rw[e],h⟩) MI hg hm PySem.boot_len he (by decide) (by decide) hs
def oi(i:Nat)(fe ff:DE):DE:=λδ=>if lM δ i then(fe δ).bind λk δ1=>(ff δ1).bind λz δ2=>match δ2[i]?,z with
  | some (some (.own (.dic ds))),.pure zd=>if gf (gA k.d) ds k.d && decide (ds.length < W9) then(match fo ds k.d with
   | some d=>.ok (.pure d) δ2
   | none=>.ok (.pure zd) (δ2.set i (some (.own (.dic (je ds k.d zd)))))) else .stuck
  | _,_=>.stuck else .stuck
theorem MJ (hu:X.A.units + 64 < WE) (ho:PE X o (c9 i)) (he:SE X c e fe) (hx:SE X c f ff) (m:M2 X o "setdefault" apos e f bE):SE X c (.Call (.Attribute o "setdefault" apos) [e,f] [] bE) (oi i fe ff) :=
 PE.weak (Ci (by omega) ho he hx m) λσ H Q ⟨δ,k,q⟩=>by
  unfold oi at q;split at q
  case isFalse=>exact q.elim
  rename_i hd;obtain⟨ds0,e0⟩:=Cd hd;obtain⟨a,ea,oa0,_⟩:=k.own i _ e0;obtain⟨ep0,ws0,ha0,_⟩:=id oa0;rw[bC] at q;refine⟨.ref a,ea,a,rfl,⟨_,_,ha0⟩,δ,k,aU q λkx δ1 q1 y H1 a1 r1=>⟨δ1,a1.ok,?_⟩⟩;rw[bC] at q1;refine aU q1 λzx δ2 q2 z H2 a2 r2=>?_
  split at q2
  ·rename_i ds zd e2;split at q2
   ·rename_i hz;simp only[Wt,decide_eq_true_eq] at hz;obtain⟨hg,hz⟩:=hz;obtain⟨a',cF,oa,_⟩:=a2.ok.own i _ e2;rw[ea] at cF; cases cF
    obtain⟨ep,ws,ha,dn⟩:=id oa;obtain⟨h1,⟨kk,hk⟩,h2⟩:=v7 hg;have ry:Rep H2 (Av c σ δ2) y kx.d:=Rep.dO r1.rep a2;have rz:Rep H2 (Av c σ δ2) z zd:=r2.rep;refine⟨gA kx.d,ep,ws,kk,ha,dn.v3 h2,sL h1 hk ry,by rw[dn.len]; exact hz,λx hx=>?_,λhx fM=>?_⟩
    ·rcases (dn.get hk).1 with ⟨_,z2⟩ | ⟨v,d,z1,z2,z3⟩
     ·rw[z2] at hx; cases hx
     ·rw[z2] at hx; cases hx
      rw[z1] at q2;exact q2 _ H2 (a1.trans a2) z3
    ·rcases (dn.get hk).1 with ⟨z1,_⟩ | ⟨v,d,_,z2,_⟩
     ·rw[z1] at q2;have a3:=Ok.v8 (ep:=fM) a2.ok e2 ea (dn.put hk ry rz);exact q2 _ _ (a1.trans (a2.trans a3)) (Rep.dO rz a3)
     ·rw[z2] at hx; cases hx
   ·exact q2.elim
  ·exact q2.elim
end
end DV
namespace L2
open PySem PySem.Spec PyProof.Rows
section
variable {prog:Wm} {w:Wr} {A:Ws} {E:Value->W2->Prop} {s:W2}
theorem MK {d:Addr} {o:Obj} {es:Array DictEntry} {ep:Nat} {Q:Value->W2->Prop} (hd:(d == Q8)=false) (hT:s.TypeIs (.ref d) "dict") (ho:s.heap.get? d=some o) (hW:o.data = .dict es ep)
  (hQ:Q (.ref s.heap.objs.size) { s with heap:=s.heap.push { cls:=.type "dict_keyiterator",data:=.fields #[.ref d,.int 0 0,.int es.size 0,.int ep 0] } }):W7 (model prog w) A (pyIter (.ref d)) Q E s:=by
 refine Jt hT F.slot_dict_iter (Ww F.slot_dict_iter hT F.entry_dict_iter ?_ (F.args_dict_iter_1 _));unfold Builtin.«dict.__iter__»;refine W0 ?_;unfold Builtin.Dict.dictSlotNone;refine W0 (QM hT ?_);show W7 _ _ (pure (Value.ref d)) _ _ s;refine W1 ?_;show W7 _ _ (QO d >>= _) _ _ s;unfold QO;rw[if_neg (by rw[hd]; exact Wv)];refine W0 (W1 (W0 (Q4 ho hW (W0 (QF ho hW ?_)))));refine W0 (WK (W1 ⟨_,rfl,"dict_keyiterator",_,⟨_,Wg _ rfl,rfl⟩,F.slot_dict_keyiterator_next.lookup,?_⟩));simpa[Q6] using hQ
theorem nextK{it d:Addr}{i ep:Nat}{od:Obj}{es:Array DictEntry}{e:DictEntry}{Q:Option Value->W2->Prop}(hit:s.heap.IsKeyIter it d i es.size ep)(gi:s.heap.get? d=some od)(eF:od.data = .dict es ep)(hx:es[i]? = some e)
  (hQ:∀ h',h'.IsKeyIter it d (i + 1) es.size ep->Qp it s.heap h'->Q (some e.key) { s with heap:=h' }):W7 (model prog w) A (Qu (.ref it)) Q E s:=by
 obtain⟨o,ho,hc,hd⟩:=id hit;unfold Qu;refine W0 (Jb (WD (name:=Str.ofString "__next__") hit.typeIs J5
  (Ww J5 hit.typeIs F.entry_dict_keyiterator_next ?_ (F.args_dict_keyiterator_next_1 _))))
 refine W0 (W1 (W0 (W0 ?_)));first | refine W0 (J0 hit.typeIs (W1 ?_)) | refine W0 (Jm hit.typeIs (W1 ?_))
 refine W0 (Jx ho hd ?_);have eX:WU "dict_keyiterator" = false:=by decide
 simp only[eX,Q7,if_false];show W7 _ _ (if (Value.ref d == Value.none)=true then _ else _) _ _ s;rw[if_neg (show ¬ ((Value.ref d == Value.none)=true) from Wv)];refine W0 (W1 (W0 (Q4 gi eF ?_)));rw[if_neg (by simp)];refine W0 (W1 (W0 (QF gi eF ?_)));rw[if_neg (by simp)];refine W1 ?_;simp only[show ¬ ((i:Int) < 0) from by omega,if_false,Qs,hx];refine W0 ?_;first | refine W0 (J0 hit.typeIs (W1 ?_)) | refine W0 (Jm hit.typeIs (W1 ?_))
 refine W0 (wpAny_isOneOf_keyiter hit.typeIs ?_);show W7 _ _ (setField (.ref it) 1 (Q6 ((i:Int) + 1)) >>= _) _ _ s;refine W0 (JP ho hd (by simp) ?_);have lN:(s.heap.update it (Obj.mapFields (·.setIfInBounds 1 (Q6 ((i:Int) + 1))))).IsKeyIter it d (i + 1) es.size ep :=
  ⟨_,QL _ ho (Obj.isFreed_of_fields (Obj.data_mapFields hd _)),(Obj.cls_mapFields ..).trans hc,by rw[Obj.data_mapFields hd]; simp[Q6]⟩
 refine W0 (WB ?_);refine W0 (wpAny_isOneOf_keyiter (s:={ s with heap:=s.heap.update it (Obj.mapFields (·.setIfInBounds 1 (Q6 ((i:Int) + 1)))) }) lN.typeIs ?_);show W7 _ _ (pure e.key) _ _ _;exact W1 (W1 ⟨_,rfl,W1 (hQ _ lN (Qt ..))⟩)
theorem ML{it d:Addr}{i ep:Nat}{od:Obj}{es:Array DictEntry}{Q:Option Value->W2->Prop}(hh:A.handled=none)(hit:s.heap.IsKeyIter it d i es.size ep)(gi:s.heap.get? d=some od)(eF:od.data = .dict es ep)(hx:es.size<=i)
  (hQ:∀ h',Heap.ExtBut it s.heap h'->Q none { s with heap:=h' }):W7 (model prog w) A (Qu (.ref it)) Q E s:=by
 obtain⟨o,ho,hc,hd⟩:=id hit;unfold Qu;refine W0 (Jb (WD (name:=Str.ofString "__next__") hit.typeIs J5
  (Ww J5 hit.typeIs F.entry_dict_keyiterator_next ?_ (F.args_dict_keyiterator_next_1 _))))
 refine W0 (W1 (W0 (W0 ?_)));first | refine W0 (J0 hit.typeIs (W1 ?_)) | refine W0 (Jm hit.typeIs (W1 ?_))
 refine W0 (Jx ho hd ?_);have eX:WU "dict_keyiterator" = false:=by decide
 simp only[eX,Q7,if_false];show W7 _ _ (if (Value.ref d == Value.none)=true then _ else _) _ _ s;rw[if_neg (show ¬ ((Value.ref d == Value.none)=true) from Wv)];refine W0 (W1 (W0 (Q4 gi eF ?_)));rw[if_neg (by simp)];refine W0 (W1 (W0 (QF gi eF ?_)));rw[if_neg (by simp)];refine W1 ?_;simp only[show ¬ ((i:Int) < 0) from by omega,if_false,Qs,Jr hx];refine W0 ?_;first | refine W0 (J0 hit.typeIs (W1 ?_)) | refine W0 (Jm hit.typeIs (W1 ?_))
 show W7 _ _ (setField (.ref it) 0 .none >>= _) _ _ s;refine W0 (JP ho hd (by simp) ?_);show W7 _ _ (newExc (.type "StopIteration") [] >>= _) _ _ _;refine W0 ?_;simp only[newExc,newTuple];refine W0 (WK ?_ (by size_fits));refine W0 (m:=Jy _ _) (wpAny_of_eq (a:=Value.none) (by first | rfl | (simp only[Jy]; rfl)) ?_);refine WK ?_ (by size_fits);simp only[raiseNew];refine W0 (wpAny_handled ?_);rw[show A.in1.handled=none from hh];refine W0 (W1 (wpAny_throw ?_));refine W0 (Jl (T:="StopIteration") (b:=true) ⟨_,Wg _ rfl,rfl⟩ JQ ?_);exact W1 (hQ _ (((Qt ..).extBut.push _).push _))
end
theorem MM{prog:Wm}{w:Wr}{d:Addr}{ep:Nat}{xs:List (NK×Value×Value)}{es:Array DictEntry}(lo:(d == Q8)=false) :
  PySem.W.KdlSrc prog w "dict" d d es.size (λi v=>∃ e,es[i]? = some e/\e.key=v) (λh=>∃ o,j4 w h d ep xs o es) where
 type:=λ_ ⟨_,hm⟩=>hm.typeIs
 there:=λ_ ⟨_,hm⟩=>⟨Wp hm.get,Wp hm.get⟩
 keep:=λ_ _ ⟨o,hm⟩ hk=>⟨o,hk d (.inl rfl) o hm.get,hm.ex,hm.data,hm.ents,hm.jE⟩
 notList:=by decide
 notTuple:=by decide
 hint:=λ_ _ _ _ ⟨_,hm⟩ hq=>PySem.W.kdl_hint_dict hm.typeIs hq
 iter:=λA s hh ⟨o,hm⟩=>⟨_,(λi h=>h.IsKeyIter s.heap.objs.size d i es.size ep/\∃ o,j4 w h d ep xs o es),(λ_ _ hq=>MK lo hm.typeIs hm.get hm.data hq),{
   sub:=λb hb=>by simp at hb; simp[hb]
   frame:=λ_ _ _ st hk=>⟨st.1.at λo e=>hk _ (by simp) o e,let ⟨o,m⟩:=st.2; ⟨o,hk d (by simp) o m.get,m.ex,m.data,m.ents,m.jE⟩⟩
   item:=λi s1 Q E hi st hQ=>by
    obtain⟨st1,o1,m1⟩:=st;have hx:es[i]? = some es[i]:=by simp[hi]
    have cn:d≠s.heap.objs.size:=WW (Wp hm.get);exact nextK st1 m1.get m1.data hx λh' lN ni=>hQ _ h' s1.toks ⟨_,hx,rfl⟩ ⟨lN,o1,ni.extBut d o1 cn m1.get,m1.ex,m1.data,m1.ents,m1.jE⟩ λb o hb e=>ni.extBut b o (λh=>hb (by simp[h])) e
   done:=λs1 Q E st hQ=>by
    obtain⟨st1,o1,m1⟩:=st;exact ML hh st1 m1.get m1.data (Wk _) λh' rf=>hQ h' s1.toks λb o hb e=>rf b o (λh=>hb (by simp[h])) e
   self:=λ_ _ _ _ st hQ=>wpAny_pyIter_keyiter st.1 hQ },⟨⟨_,Wg _ rfl,rfl,rfl⟩,o,W8 _ hm.get,hm.ex,hm.data,hm.ents,hm.jE⟩⟩
theorem Cj{w:Wr}:∀ {aa:List NE} {xs:List (NK×Value×Value)} {us:List Value},dm aa xs->us.length=xs.length->(∀ (j:Nat) v,us[j]? = some v->∃ x,xs[j]? = some x/\x.2.1=v)->Vals (aa.map (·.2.1)) us
 | [],_,[],.nil,_,_=>.nil
 | [],_,_ :: _,.nil,h,_=>by simp at h
 | p :: r,_,[],.cons _ _,h,_=>by simp at h
 | p :: r,q :: vs,u :: us,.cons h1 h2,hl,hk=>by
  refine .cons ?_ (Cj (w:=w) h2 (by simpa using hl) λj v e=>by simpa using hk (j + 1) v (by simpa using e));obtain⟨x,e,z⟩:=hk 0 u rfl;simp at e;subst e;rw[<- z];exact h1.2.1
theorem MN {X:Cx} (hc:X.calm=true):eB X (.type "list") (λxs H Q=>∃ a ep aa,xs=[V.ref a]/\H a=some (.dN ep aa)/\∀ l,H l=none->Q (.ref l) (upd H l (.lst (aa.map (·.2.1))))):=by
 intro pins s σ H xs us Q I r h;obtain⟨a,ep,aa,rfl,ha,q⟩:=h;obtain⟨u,rfl,ru⟩:=gY r
 cases ru;obtain⟨z,lo,ys,o,es,rx,d⟩:=jd I.aC ha;have hl:aa.length=ys.length:=Paired.length rx;have hz:es.size=ys.length:=by rw[<- WP,d.ents,Wi]
 refine PySem.W.kdl_call (MM (prog:=X.prog) (w:=X.w) (d:=a) (ep:=ep) (xs:=ys) (es:=es) lo) (I.ok.hd hc) ⟨o,d⟩ (by omega) λh' tk acc c' kp e Ck=>?_
 have hv:Vals (aa.map (·.2.1)) acc.toList:=Cj (w:=X.w) rx (by rw[WP,Ck.1,hz]) λj v ej=>by
  obtain⟨en,e1,e2⟩:=Ck.2 j v (by simpa using ej);rw[<- Qw,d.ents,Wl] at e1
  cases hy:ys[j]? with
  | none=>rw[hy] at e1; cases e1
  | some x =>
   rw[hy] at e1
   cases e1;exact⟨x,rfl,e2⟩
 exact⟨.ref s.heap.objs.size,_,I.laid (t':=tk) kp (Wk _) (show b0 X.prog X.w _ h' _ (.lst _) from⟨by simpa using z,acc.toList,c',hv,by simpa using e⟩),rfl,q _ (I.aC.fresh (Wk _))⟩
end L2
namespace DV
open PySem PySem.Spec PyProof.Rows L2
def oj:D->Option S
 | .dic ds=>some (.own (.lst (ds.map (·.1))))
 | _=>none
theorem DN.Cm{H:Hp}{O:Addr->Prop}:∀ {ws:List NE} {ds:List (D×D)},DN H O ws ds->aD H O (ws.map (·.2.1)) (ds.map (·.1))
 | [],[],_=>.nil
 | [],_ :: _,r=>by have:=r.len; simp at this
 | _ :: _,[],r=>by have:=r.len; simp at this
 | p :: ws,q :: ds,r=>by
  obtain⟨r1,_,_,r4⟩:=r.un;exact .cons r1 (DN.Cm r4)
section
variable {X:Cx} {c:Fc} {e:Expr} {fb:BE} {pos pp p:Pos}
theorem MO (hc:X.calm=true) (hg:Gl X "list") (hm:X.mg "list" = none) (he:SB X c e fb) (hs:mB e=true:=by rfl):SE X c (.Call (.Name "list" pp) [e] [] pos) (aK oj fb) :=
 rR (r:=λv H Q=>∃ a ep aa,v=V.ref a/\H a=some (.dN ep aa)/\∀ l,H l=none->Q (.ref l) (upd H l (.lst (aa.map (·.2.1))))) (MN hc) (λv H Q ⟨a,ep,aa,e,h⟩=>⟨a,ep,aa,by rw[e],h⟩)
  (λc σ δ H x d s Q k rx hp q=>by
   cases d with
   | dic ds =>
    cases hp;obtain⟨a,ep,ws,e,ha,dn⟩:=v5 rx;exact⟨a,ep,ws,e,ha,λl hl=>q _ _ (.alloc k hl _) (bp.nu k dn.Cm hl)⟩
   | _=>simp[oj] at hp) hg hm PyProof.Rows.boot_list he (by decide) (by decide) (nV hs)
end
end DV
namespace L2
open PySem PySem.Spec PyProof.Rows
section
variable {prog:Wm} {w:Wr} {A:Ws} {E:Value->W2->Prop} {s:W2}
theorem MP {d:Addr} {Q:Value->W2->Prop} (hd:(d == Q8)=false) (hT:s.TypeIs (.ref d) "dict")
  (h:Q (.ref s.heap.objs.size) { s with heap:=s.heap.push { cls:=.type "dict_values",data:=.fields #[.ref d] } }):W7 (model prog w) A (call (.builtin "dict.values") [.ref d]) Q E s:=by
 refine Ww F.slot_dict_values hT F.entry_dict_values ?_ (F.args_dict_values_1 _);refine W0 ?_;unfold Builtin.Dict.noArgs;refine W0 (QM hT (show W7 _ _ (pure d) _ _ s from W1 ?_));show W7 _ _ (QO d >>= _) _ _ s;unfold QO;rw[if_neg (by rw[hd]; exact Wv)];exact W0 (W1 (W0 (WK (W1 ⟨_,rfl,h⟩))))
theorem MQ{v d:Addr}{o:Obj}{es:Array DictEntry}{ep:Nat}{Q:Value->W2->Prop}(hv:s.heap.IsValuesView v d)(ho:s.heap.get? d=some o)(hW:o.data = .dict es ep)
  (hQ:Q (.ref s.heap.objs.size) { s with heap:=s.heap.push { cls:=.type "dict_valueiterator",data:=.fields #[.ref d,.int 0 0,.int es.size 0,.int ep 0] } }):W7 (model prog w) A (pyIter (.ref v)) Q E s:=by
 obtain⟨ov,hov,hcv,hdv⟩:=id hv;refine Jt hv.typeIs F.slot_dict_values_iter (Ww F.slot_dict_values_iter hv.typeIs F.entry_dict_values_iter ?_ (F.args_dict_values_iter_1 _));unfold Builtin.«dict_values.__iter__»;refine W0 (W1 (W0 ?_));unfold Builtin.Dict_items.dictOf;refine W0 (WQ hov hdv (x:=.ref d) rfl (W1 (W0 ?_)));unfold Builtin.Dict_items.newIterator;refine W0 (Q4 ho hW (W0 (QF ho hW ?_)));have eX:WU "dict_valueiterator" = false:=by decide
 simp only[eX,Q7,if_false];refine WK (W1 ⟨_,rfl,"dict_valueiterator",_,⟨_,Wg _ rfl,rfl⟩,F.slot_dict_valueiterator_next.lookup,?_⟩);simpa[Q6] using hQ
theorem MR{it d:Addr}{i ep:Nat}{od:Obj}{es:Array DictEntry}{e:DictEntry}{Q:Option Value->W2->Prop}(hit:s.heap.IsValIter it d i es.size ep)(gi:s.heap.get? d=some od)(eF:od.data = .dict es ep)(hx:es[i]? = some e)
  (hQ:∀ h',h'.IsValIter it d (i + 1) es.size ep->Qp it s.heap h'->Q (some e.val) { s with heap:=h' }):W7 (model prog w) A (Qu (.ref it)) Q E s:=by
 obtain⟨o,ho,hc,hd⟩:=id hit;unfold Qu;refine W0 (Jb (WD (name:=Str.ofString "__next__") hit.typeIs QV
  (Ww QV hit.typeIs F.entry_dict_valueiterator_next ?_ (F.args_dict_valueiterator_next_1 _))))
 refine W0 (W1 (W0 (W0 ?_)));first | refine W0 (J1 hit.typeIs (W1 ?_)) | refine W0 (Jn hit.typeIs (W1 ?_))
 refine W0 (Jx ho hd ?_);have eX:WU "dict_valueiterator" = false:=by decide
 simp only[eX,Q7,if_false];show W7 _ _ (if (Value.ref d == Value.none)=true then _ else _) _ _ s;rw[if_neg (show ¬ ((Value.ref d == Value.none)=true) from Wv)];refine W0 (W1 (W0 (Q4 gi eF ?_)));rw[if_neg (by simp)];refine W0 (W1 (W0 (QF gi eF ?_)));rw[if_neg (by simp)];refine W1 ?_;simp only[show ¬ ((i:Int) < 0) from by omega,if_false,Qs,hx];refine W0 ?_;first | refine W0 (J1 hit.typeIs (W1 ?_)) | refine W0 (Jn hit.typeIs (W1 ?_))
 refine W0 (wpAny_isOneOf_valiter hit.typeIs ?_);show W7 _ _ (setField (.ref it) 1 (Q6 ((i:Int) + 1)) >>= _) _ _ s;refine W0 (JP ho hd (by simp) ?_);have lN:(s.heap.update it (Obj.mapFields (·.setIfInBounds 1 (Q6 ((i:Int) + 1))))).IsValIter it d (i + 1) es.size ep :=
  ⟨_,QL _ ho (Obj.isFreed_of_fields (Obj.data_mapFields hd _)),(Obj.cls_mapFields ..).trans hc,by rw[Obj.data_mapFields hd]; simp[Q6]⟩
 refine W0 (WB ?_);refine W0 (wpAny_isOneOf_valiter (s:={ s with heap:=s.heap.update it (Obj.mapFields (·.setIfInBounds 1 (Q6 ((i:Int) + 1)))) }) lN.typeIs ?_);refine W0 (wpAny_isOneOf_valiter (s:={ s with heap:=s.heap.update it (Obj.mapFields (·.setIfInBounds 1 (Q6 ((i:Int) + 1)))) }) lN.typeIs ?_);show W7 _ _ (pure e.val) _ _ _;exact W1 (W1 ⟨_,rfl,W1 (hQ _ lN (Qt ..))⟩)
theorem MS{it d:Addr}{i ep:Nat}{od:Obj}{es:Array DictEntry}{Q:Option Value->W2->Prop}(hh:A.handled=none)(hit:s.heap.IsValIter it d i es.size ep)(gi:s.heap.get? d=some od)(eF:od.data = .dict es ep)(hx:es.size<=i)
  (hQ:∀ h',Heap.ExtBut it s.heap h'->Q none { s with heap:=h' }):W7 (model prog w) A (Qu (.ref it)) Q E s:=by
 obtain⟨o,ho,hc,hd⟩:=id hit;unfold Qu;refine W0 (Jb (WD (name:=Str.ofString "__next__") hit.typeIs QV
  (Ww QV hit.typeIs F.entry_dict_valueiterator_next ?_ (F.args_dict_valueiterator_next_1 _))))
 refine W0 (W1 (W0 (W0 ?_)));first | refine W0 (J1 hit.typeIs (W1 ?_)) | refine W0 (Jn hit.typeIs (W1 ?_))
 refine W0 (Jx ho hd ?_);have eX:WU "dict_valueiterator" = false:=by decide
 simp only[eX,Q7,if_false];show W7 _ _ (if (Value.ref d == Value.none)=true then _ else _) _ _ s;rw[if_neg (show ¬ ((Value.ref d == Value.none)=true) from Wv)];refine W0 (W1 (W0 (Q4 gi eF ?_)));rw[if_neg (by simp)];refine W0 (W1 (W0 (QF gi eF ?_)));rw[if_neg (by simp)];refine W1 ?_;simp only[show ¬ ((i:Int) < 0) from by omega,if_false,Qs,Jr hx];refine W0 ?_;first | refine W0 (J1 hit.typeIs (W1 ?_)) | refine W0 (Jn hit.typeIs (W1 ?_))
 show W7 _ _ (setField (.ref it) 0 .none >>= _) _ _ s;refine W0 (JP ho hd (by simp) ?_);show W7 _ _ (newExc (.type "StopIteration") [] >>= _) _ _ _;refine W0 ?_;simp only[newExc,newTuple];refine W0 (WK ?_ (by size_fits));refine W0 (m:=Jy _ _) (wpAny_of_eq (a:=Value.none) (by first | rfl | (simp only[Jy]; rfl)) ?_);refine WK ?_ (by size_fits);simp only[raiseNew];refine W0 (wpAny_handled ?_);rw[show A.in1.handled=none from hh];refine W0 (W1 (wpAny_throw ?_));refine W0 (Jl (T:="StopIteration") (b:=true) ⟨_,Wg _ rfl,rfl⟩ JQ ?_);exact W1 (hQ _ (((Qt ..).extBut.push _).push _))
end
def wj(a:Addr)(ep:Nat)(aa:List NE):It :=
 ⟨λi H=>H a=some (.dN ep aa)/\i < aa.length,
  λi H v H'=>H'=H/\∃ k y,aa[i]? = some (k,y,v),
  λi H=>H a=some (.dN ep aa)/\i=aa.length⟩
theorem MT{P:Wm}{w:Wr}{K:W4}{tg:Expr}(a it:Addr)(aa:List NE)(ep:Nat):Turn P w K tg (wj a ep aa) [it] it (λi h=>h.IsValIter it a i aa.length ep):=by
 have at_:∀ {X:Cx} {pins s σ H},X.prog=P->X.w=w->Inv X pins σ H s->H a=some (.dN ep aa)->∃ xs o es,dm aa xs/\j4 w s.heap a ep xs o es/\es.size=aa.length:=by
  intro X pins s σ H hP hw I e;subst hP hw;obtain⟨_,_,xs,o,es,r,d⟩:=jd I.aC e;exact⟨xs,o,es,r,d,by rw[<- WP,d.ents,Wi]; exact(Paired.length r).symm⟩
 refine⟨by simp,?_,?_,?_,?_,?_⟩
 ·rintro i h ⟨o,e,c,d⟩ b hb;have z:b=it:=by simpa using hb
  subst z;exact⟨o,e,λv z=>by rw[d] at z; cases z⟩
 ·rintro i h h' q k;exact q.at λo e=>k it (by simp) o e
 ·intro X hP hw hK hc i pins s σ H E I hf st ⟨hg,hi⟩;obtain⟨xs,o,es,r,d,hz⟩:=at_ hP hw I hg;subst hP hw hK;have hx:aa[i]? = some (aa[i].1,aa[i].2.1,aa[i].2.2):=by simp[hi]
  obtain⟨x,hu,ry,rv⟩:=r.get hx;have wa:es[i]? = some (ent X.w x):=by rw[<- Qw,d.ents,Wl,hu]; rfl
  obtain⟨f0,f1,f2,f3,f4,f5⟩:=hf it (by simp);rw[<- hz] at st;refine MR st d.get d.data wa λh' cy sb=>?_
  have I1:Inv X pins σ H { s with heap:=h' }:=I.turned (t':=s.toks) (λb o hb e=>(sb.2 b hb).trans e) f0 f1 f3 f4 f5;obtain⟨o',e',c',d'⟩:=id cy;exact⟨_,rfl,oT (s:={ s with heap:=h' }) e' c' d' (by decide) ⟨aa[i].2.2,H,I1,rv,⟨rfl,_,_,hx⟩,by rw[<- hz]; exact cy,λb hb=>(hf b hb).1⟩⟩
 ·intro X hP hw hK hc i pins s σ H E I hf st ⟨hg,hi⟩;obtain⟨xs,o,es,r,d,hz⟩:=at_ hP hw I hg;subst hP hw hK;rw[<- hz] at st;exact MS (I.ok.hd hc) st d.get d.data (by omega) λh' eb=>⟨rfl,Inv.sr (t':=s.toks) [it] I (λb o hb e=>eb b o (λz=>hb (by simp[z])) e) hf⟩
 ·intro A i s Q E st h;exact wpAny_pyIter_valiter st h
section
variable {X:Cx} {o tg:Expr} {apos bE:Pos} {td:TE}
def MU(td:TE):TI:=λσ H R=>td σ H λv H1=>∃ a ep aa,v = .ref a/\H1 a=some (.dN ep aa)/\R (wj a ep aa) H1
theorem MV (ho:PE X o td) (hb:QY o "values" X.env (eval o X.env)=eval o X.env:=by rfl) (hl:(apos.endLine == bE.line)=true:=by rfl):PI X tg (.Call (.Attribute o "values" apos) [] [] bE) (MU td):=by
 intro pins s σ H R I h;refine wpAny_Call_method (T:="dict") (id:="dict.values") hb rfl hl F.plainAttrs_dict F.slot_dict_values F.type_dict_values (a_ (ho pins s σ H _ I h) λu s1 ⟨x,H1,I1,rx,a,ep,aa,ex,ea,q⟩=>?_);subst ex;obtain rfl:u=Value.ref a:=rx;obtain⟨z,hS,xs,ob,es,r,d⟩:=jd I1.aC ea;have hz:es.size=aa.length:=by rw[<- WP,d.ents,Wi]; exact(Paired.length r).symm
 refine⟨d.typeIs,d.noDict,?_⟩;refine Calls.callWith_builtin rfl (PySem.evalArgs_none (MP hS d.typeIs ?_));have wb:∀ b u,s1.heap.get? b=some u->(s1.heap.push { cls:=.type "dict_values",data:=.fields #[.ref a] }).get? b=some u:=λb u e=>W8 _ e
 refine MQ (d:=a) ⟨_,Wg _ rfl,rfl,rfl⟩ (wb _ _ d.get) d.data ?_;generalize hh1:s1.heap.push { cls:=.type "dict_values",data:=.fields #[.ref a] } = h1;have up1:∀ b u,s1.heap.get? b=some u->h1.get? b=some u:=λb u e=>by rw[<- hh1]; exact W8 _ e
 have pW:s1.heap.objs.size<=h1.objs.size:=by rw[<- hh1,Qr]; exact JW _
 generalize hh2:h1.push { cls:=.type "dict_valueiterator",data:=.fields #[.ref a,.int 0 0,.int es.size 0,.int ep 0] } = h2;have wc:∀ b u,s1.heap.get? b=some u->h2.get? b=some u:=λb u e=>by rw[<- hh2]; exact W8 _ (up1 b u e)
 have hit:h2.IsValIter h1.objs.size a 0 aa.length ep:=by rw[<- hz,<- hh2]; exact⟨_,Wg _ rfl,rfl,rfl⟩
 have I2:Inv X pins σ H1 { s1 with heap:=h2,toks:=s1.toks }:=I1.kept (t':=s1.toks) wc;refine⟨h1.objs.size,[h1.objs.size],_,_,_,rfl,I2,MT a h1.objs.size aa ep,hit,λb hb=>?_,q⟩;have e:b=h1.objs.size:=by simpa using hb
 subst e;exact I1.jP pW (I1.aC.fresh pW)
end
end L2
namespace DV
open PySem PySem.Spec PyProof.Rows L2
def pX(fe:DE):DI:=λδ=>(fe δ).bind λr δ1=>match r.d with
 | .dic ds=>.ok (ds.map (·.2)) δ1
 | _=>.stuck
section
variable {X:Cx} {c:Fc} {o tg:Expr} {fe:DE} {apos bE:Pos}
theorem MW{σ:St}{δ:Dl}{H:Hp}{a:Addr}{ep:Nat}{ws:List NE}{ds:List (D×D)}(h:H a=some (.dN ep ws))(n:¬ Own σ δ a)(r:DN H (Av c σ δ) ws ds):kA c σ δ H (wj a ep ws) (ds.map (·.2)):=by
 intro H2 kp;have h2:=kp a _ h n;refine⟨⟨h2,by simp[r.len]⟩,λi d e=>?_⟩;rw[Wl] at e
 cases ej:ds[i]? with
 | none=>rw[ej] at e; cases e
 | some q =>
  rw[ej] at e
  cases e;have hi:i < ws.length:=by rw[r.len]; exact(W3.mp ej).1
  exact⟨⟨h2,hi⟩,λx H3 ⟨e3,kk,y,hkv⟩=>.inl ⟨e3,r.val i _ q hkv ej⟩⟩
theorem MX (ho:SE X c o fe) (hb:QY o "values" X.env (eval o X.env)=eval o X.env:=by rfl) (hl:(apos.endLine == bE.line)=true:=by rfl) :
  SI X c tg (.Call (.Attribute o "values" apos) [] [] bE) (pX fe) :=
 PI.weak (MV ho hb hl) λσ H R ⟨δ,k,q⟩=>by
  unfold pX at q;rw[bC] at q;refine⟨δ,k,aU q λr δ1 q1 v H1 a1 r1=>?_⟩;have rp:=r1.rep;generalize r.d=d at q1 rp
  cases d <;> first | exact q1.elim | skip
  rename_i ds
  cases rp with
  | dic h1 h2 h3 h4 h5 h6 =>
   exact⟨_,_,_,rfl,h2,q1 _ _ a1 (MW h2 (λz=>h1 (.inr z)) ⟨h3,h4,h5,h6⟩)⟩
end
end DV
namespace PySem
open Sem (wp)
abbrev om(h:Heap)(z TI TO a:Addr)(f:Bool):Prop :=
 h.get? z=some { cls:=.type "zip",dict:=none,data:=.fields #[Q6 a,.bool f,.bool false,.ref TI,.ref TO],slots:=#[] }
section
variable {prog:Wm} {w:Wr} {A:Ws} {E:Value->W2->Prop} {s:W2}
theorem MY(ho:s.heap.get? a=some o)(h:Q (some o) s):W7 (model prog w) A (loadIfAlive a) Q E s:=by
 have h':Q (s.heap.get? a) s:=by rw[ho]; exact h
 exactλ_ _ _=>h'
theorem Cn(hz:om s.heap z TI TO a f)(ha:s.heap.get? a=some oa)
  (h:∀ h',om h' z TI TO a true->Qp z s.heap h'->Q false { s with heap:=h' }):W7 (model prog w) A (WJ (.ref z)) Q E s:=by
 unfold WJ;refine W0 (WQ hz rfl (x:=Q6 a) rfl ?_);show W7 _ _ (loadIfAlive ((a:Int).toNat) >>= _) _ _ _;rw[Qs];refine W0 (MY ha ?_);simp only[Option.isNone_some,Q7,if_false];refine W0 (WQ hz rfl (x:=.bool f) rfl ?_)
 cases f with
 | true =>
  rw[if_neg (show ¬ ((Value.bool true != Value.bool true)=true) from Wv)];exact W1 (h s.heap hz (Heap.SameBut.refl _ _))
 | false =>
  rw[if_pos (show(Value.bool false != Value.bool true)=true from rfl)];exact W0 (WY hz (by simp) λh₃ MZ M0=>W1 (h h₃ MZ M0))
theorem M1{z TI TO i1 i2 a:Addr}{f:Bool}{oa:Obj}{f1 f2:List Addr}{n1 n2 i:Nat}{P1 P2:Nat->Value->Prop}{S1 S2:Nat->Heap->Prop}{Q:Value->W2->Prop}(D1:Draws prog w A i1 f1 n1 P1 S1)(D2:Draws prog w A i2 f2 n2 P2 S2)(C:ZA z TI TO i1 i2 f1 f2)
  (hz:om s.heap z TI TO a f) (ha:s.heap.get? a=some oa) (hI:IsPair s.heap TI (.ref i1) (.ref i2)) (g1:S1 i s.heap) (g2:S2 i s.heap) (l1:i < n1) (l2:i < n2)
  (q:∀ x y h' tk,P1 i x->P2 i y->om h' z TI TO a true->S1 (i + 1) h'->S2 (i + 1) h'->IsPair h' s.heap.objs.size x y->h'.objs.size=s.heap.objs.size + 1 ->
   (∀ c o,c≠z->c≠i1->c≠i2->s.heap.get? c=some o->h'.get? c=some o)->Q (.ref s.heap.objs.size) { s with heap:=h',toks:=tk }) :
  W7 (model prog w) A (Builtin.«zip.__next__» ⟨[.ref z],[]⟩) (λfin s'=>∃ v,fin = .done (.ret v)/\Q v s') E s:=by
 have i1z:i1≠z:=λe=>C.z1 (e ▸ C.m1)
 have i2z:i2≠z:=λe=>C.z2 (e ▸ C.m2)
 have i12:i1≠i2:=λe=>C.k1 (e ▸ C.m2)
 show W7 _ _ (field (.ref z) 2 >>= _) _ _ _; refine W0 (WQ hz rfl (x:=.bool false) rfl ?_)
 show W7 _ _ (field (.ref z) 3 >>= _) _ _ _; refine W0 (WQ hz rfl (x:=.ref TI) rfl (W0 (QN hI rfl ?_)))
 show W7 _ _ (WJ (.ref z) >>= _) _ _ _;refine W0 (Cn hz ha λh1 jF s1=>?_);simp only[Q7,if_false];refine W0 ?_;simp only[List.forIn_toArray,JD,JO];refine W0 (W0 (WB ?_)); show W7 _ _ (Q5 (.ref i1) >>= _) _ _ _
 have e1:S1 i h1:=D1.frame _ _ _ g1 λc hc o e=>s1.extBut _ _ (λx=>C.z1 (x ▸ hc)) e
 refine W0 (D1.item i _ _ _ l1 e1 λx h2 wk p1 e2 s2=>W1 ?_);refine W1 (W0 (W0 (WB ?_))); show W7 _ _ (Q5 (.ref i2) >>= _) _ _ _
 have e3:S2 i h2:=D2.frame _ _ _ g2 λc hc o e=>s2.extBut _ _ (λx=>C.k1 (x ▸ hc)) (s1.extBut _ _ (λx=>C.z2 (x ▸ hc)) e)
 refine W0 (D2.item i _ _ _ l2 e3 λy h4 M3 p2 e4 s4=>W1 ?_);refine W1 (W1 (W0 (wpAny_newTuple ?_ (by show 2<=W9; decide))));have hsz:h4.objs.size=s.heap.objs.size:=by rw[s4.1,s2.1,s1.1]
 have sQ:om h4 z TI TO a true:=s4.extBut _ _ i2z.symm (s2.extBut _ _ i1z.symm jF);have r1:S1 (i + 1) h4:=D1.frame _ _ _ e2 λc hc o e=>s4.extBut _ _ (λx=>C.k2 (x ▸ hc)) e
 refine W1 ⟨_,rfl,?_⟩;show Q (.ref h4.objs.size) _; rw[hsz]
 refine q x y _ _ p1 p2 (W8 _ sQ) (D1.frame _ _ _ r1 λc _ o e=>W8 _ e) (D2.frame _ _ _ e4 λc _ o e=>W8 _ e) ?_ (by rw[Qr,hsz]) λc o c1 c3 c4 e=>W8 _ (s4.extBut _ _ c4 (s2.extBut _ _ c3 (s1.extBut _ _ c1 e)))
 rw[<- hsz]; exact Wg _ rfl
theorem M4(D1:Draws prog w A i1 f1 n1 P1 S1)(D2:Draws prog w A i2 f2 n2 P2 S2)(C:ZA z TI TO i1 i2 f1 f2)
  (hz:om s.heap z TI TO a f) (ha:s.heap.get? a=some oa) (hI:IsPair s.heap TI (.ref i1) (.ref i2)) (g1:S1 i s.heap) (g2:S2 i s.heap) (l:i=n1\/(i < n1/\i=n2))
  (q:∀ h' tk e,(∀ c o,c≠z->c≠i1->c≠i2->s.heap.get? c=some o->h'.get? c=some o)->(∃ o,h'.get? e=some o/\o.cls = .type "StopIteration")->E (.ref e) { s with heap:=h',toks:=tk }) :
  W7 (model prog w) A (Builtin.«zip.__next__» ⟨[.ref z],[]⟩) Q E s:=by
 have i1z:i1≠z:=λe=>C.z1 (e ▸ C.m1)
 have i2z:i2≠z:=λe=>C.z2 (e ▸ C.m2)
 show W7 _ _ (field (.ref z) 2 >>= _) _ _ _; refine W0 (WQ hz rfl (x:=.bool false) rfl ?_)
 show W7 _ _ (field (.ref z) 3 >>= _) _ _ _; refine W0 (WQ hz rfl (x:=.ref TI) rfl (W0 (QN hI rfl ?_)))
 show W7 _ _ (WJ (.ref z) >>= _) _ _ _;refine W0 (Cn hz ha λh1 jF s1=>?_);simp only[Q7,if_false];refine W0 ?_;simp only[List.forIn_toArray,JD,JO];refine W0 (W0 (WB ?_)); show W7 _ _ (Q5 (.ref i1) >>= _) _ _ _
 have e1:S1 i h1:=D1.frame _ _ _ g1 λc hc o e=>s1.extBut _ _ (λx=>C.z1 (x ▸ hc)) e
 rcases l with l | ⟨l,l'⟩
 ·subst l;refine W0 (D1.done _ _ _ e1 λh2 e s2 ⟨oe,he,ce⟩=>?_);exact q h2 _ e (λc o c1 c3 _ x=>s2 _ _ c3 (s1.extBut _ _ c1 x)) ⟨oe,he,ce⟩
 ·refine W0 (D1.item i _ _ _ l e1 λx h2 wk p1 e2 s2=>W1 ?_);refine W1 (W0 (W0 (WB ?_))); show W7 _ _ (Q5 (.ref i2) >>= _) _ _ _
  have e3:S2 i h2:=D2.frame _ _ _ g2 λc hc o e=>s2.extBut _ _ (λx=>C.k1 (x ▸ hc)) (s1.extBut _ _ (λx=>C.z2 (x ▸ hc)) e)
  subst l';refine W0 (D2.done _ _ _ e3 λh4 e s4 ⟨oe,he,ce⟩=>?_);exact q h4 _ e (λc o c1 c3 c4 x=>s4 _ _ c4 (s2.extBut _ _ c3 (s1.extBut _ _ c1 x))) ⟨oe,he,ce⟩
end
abbrev gE(h:Heap)(z TI TO:Addr)(v0:Value)(f:Bool):Prop :=
 h.get? z=some { cls:=.type "zip",dict:=none,data:=.fields #[v0,.bool f,.bool false,.ref TI,.ref TO],slots:=#[] }
section
variable {prog:Wm} {w:Wr} {A:Ws} {E:Value->W2->Prop} {s:W2}
theorem M5{a:Addr}{Q:Option Obj->W2->Prop}(ho:s.heap.get? a=none)(h:Q none s):W7 (model prog w) A (loadIfAlive a) Q E s:=by
 have h':Q (s.heap.get? a) s:=by rw[ho]; exact h
 exactλ_ _ _=>h'
theorem Co{z TI TO:Addr}{v0:Value}{f:Bool}{Q:Bool->W2->Prop}(hz:gE s.heap z TI TO v0 f)(hv:v0 = .none\/∃ p:Addr,v0=Q6 p/\s.heap.get? p=none)(h:Q true s) :
  W7 (model prog w) A (WJ (.ref z)) Q E s:=by
 unfold WJ;rcases hv with rfl | ⟨p,rfl,hp⟩
 ·exact W0 (WQ hz rfl (x:=.none) rfl (W1 h))
 ·refine W0 (WQ hz rfl (x:=Q6 p) rfl ?_);show W7 _ _ (loadIfAlive ((p:Int).toNat) >>= _) _ _ _;rw[Qs];exact W0 (M5 hp (W1 h))
theorem M6{z TI TO i1 i2:Addr}{f1 f2:List Addr}{n1 n2 i:Nat}{P1 P2:Nat->Value->Prop}{S1 S2:Nat->Heap->Prop}{a b v0:Value}{f:Bool}{Q:Value->W2->Prop}(D1:Draws prog w A i1 f1 n1 P1 S1)(D2:Draws prog w A i2 f2 n2 P2 S2)(C:ZA z TI TO i1 i2 f1 f2)
  (hz:gE s.heap z TI TO v0 f) (hv:v0 = .none\/∃ p:Addr,v0=Q6 p/\s.heap.get? p=none) (hI:IsPair s.heap TI (.ref i1) (.ref i2)) (hO:IsPair s.heap TO a b) (g1:S1 i s.heap) (g2:S2 i s.heap) (l1:i < n1) (l2:i < n2)
  (q:∀ x y h' tk,P1 i x->P2 i y->gE h' z TI TO (Q6 s.heap.objs.size) false->IsPair h' TO x y->S1 (i + 1) h'->S2 (i + 1) h'->IsPair h' s.heap.objs.size x y ->
   (∀ c o,c≠z->c≠TO->c≠i1->c≠i2->s.heap.get? c=some o->h'.get? c=some o)->Q (.ref s.heap.objs.size) { s with heap:=h',toks:=tk }) :
  W7 (model prog w) A (Builtin.«zip.__next__» ⟨[.ref z],[]⟩) (λfin s'=>∃ v,fin = .done (.ret v)/\Q v s') E s:=by
 have i1z:i1≠z:=λe=>C.z1 (e ▸ C.m1)
 have i2z:i2≠z:=λe=>C.z2 (e ▸ C.m2)
 have pY:TO≠i1:=λe=>C.t1 (e ▸ C.m1)
 have wm:TO≠i2:=λe=>C.t2 (e ▸ C.m2)
 have i12:i1≠i2:=λe=>C.k1 (e ▸ C.m2)
 show W7 _ _ (field (.ref z) 2 >>= _) _ _ _; refine W0 (WQ hz rfl (x:=.bool false) rfl ?_)
 show W7 _ _ (field (.ref z) 3 >>= _) _ _ _; refine W0 (WQ hz rfl (x:=.ref TI) rfl (W0 (QN hI rfl ?_)))
 show W7 _ _ (WJ (.ref z) >>= _) _ _ _; refine W0 ?_
 refine Co hz hv ?_;simp only[if_true]; refine W0 (QT (W0 (WQ hz rfl (x:=.ref TO) rfl (W0 (WY hz (by simp) λh1 jF s1=>?_)))))
 replace jF:gE h1 z TI TO .ellipsis f:=jF;refine W0 ?_; simp only[List.zipIdx_cons,List.zipIdx_nil,JD,JO]
 refine W0 (W0 (wpAny_onRaise ?_)); show W7 _ _ (Q5 (.ref i1) >>= _) _ _ _
 have e1:S1 i h1:=D1.frame _ _ _ g1 λc hc o e=>s1.extBut _ _ (λx=>C.z1 (x ▸ hc)) e
 refine W0 (D1.item i _ _ _ l1 e1 λx h2 wk p1 e2 s2=>W1 ?_);have pZ:IsPair h2 TO a b:=s2.extBut _ _ pY (s1.extBut _ _ C.tz hO);refine W0 (QN pZ rfl (W0 (wpAny_updateSeq_pair pZ λh3 sR s3=>?_)));replace sR:IsPair h3 TO x b:=sR;refine W0 (wpAny_letGo (W1 (W0 (W0 (wpAny_onRaise ?_))))); show W7 _ _ (Q5 (.ref i2) >>= _) _ _ _
 have e3:S2 i h3:=D2.frame _ _ _ g2 λc hc o e=>s3.extBut _ _ (λx=>C.t2 (x ▸ hc)) (s2.extBut _ _ (λx=>C.k1 (x ▸ hc)) (s1.extBut _ _ (λx=>C.z2 (x ▸ hc)) e))
 refine W0 (D2.item i _ _ _ l2 e3 λy h4 M3 p2 e4 s4=>W1 ?_);have Cp:IsPair h4 TO x b:=s4.extBut _ _ wm sR;refine W0 (QN Cp rfl (W0 (wpAny_updateSeq_pair Cp λh5 sS s5=>?_)));replace sS:IsPair h5 TO x y:=sS;refine W0 (wpAny_letGo (W1 (W1 (W0 (QN sS rfl (W0 (wpAny_newTuple ?_)))))));have hsz:h5.objs.size=s.heap.objs.size:=by rw[s5.1,s4.1,s3.1,s2.1,s1.1]
 have Cq:gE h5 z TI TO .ellipsis f:=s5.extBut _ _ C.tz.symm (s4.extBut _ _ i2z.symm (s3.extBut _ _ C.tz.symm (s2.extBut _ _ i1z.symm jF)));have k5:∀ c o,c≠z->c≠TO->c≠i1->c≠i2->s.heap.get? c=some o->h5.get? c=some o:=λc o c1 c2 c3 c4 e=>s5.extBut _ _ c2 (s4.extBut _ _ c4 (s3.extBut _ _ c2 (s2.extBut _ _ c3 (s1.extBut _ _ c1 e))))
 have r1:S1 (i + 1) h5:=D1.frame _ _ _ e2 λc hc o e=>s5.extBut _ _ (λx=>C.t1 (x ▸ hc)) (s4.extBut _ _ (λx=>C.k2 (x ▸ hc)) (s3.extBut _ _ (λx=>C.t1 (x ▸ hc)) e))
 have r2:S2 (i + 1) h5:=D2.frame _ _ _ e4 λc hc o e=>s5.extBut _ _ (λx=>C.t2 (x ▸ hc)) e
 have zl:z < h5.objs.size:=Wp Cq;show W7 _ _ (Builtin.SmallTypes.ownedTupleHandOut (.ref z) (.ref h5.objs.size) >>= _) _ _ _; refine W0 ?_
 unfold Builtin.SmallTypes.ownedTupleHandOut;have M7:gE (h5.push { cls:=.type "tuple",data:=.seq #[x,y] }) z TI TO .ellipsis f:=W8 _ Cq;refine W0 (WY M7 (by simp) λh7 wo s7=>?_);replace wo:gE h7 z TI TO (Q6 h5.objs.size) f:=wo;refine WY wo (by simp) λh8 sU s8=>?_
 replace sU:gE h8 z TI TO (Q6 h5.objs.size) false:=sU;have up:∀ c o,c≠z->h5.get? c=some o->h8.get? c=some o:=λc o c1 e=>s8.extBut _ _ c1 (s7.extBut _ _ c1 (W8 _ e))
 have hT:IsPair h8 h5.objs.size x y:=s8.extBut _ _ (JE zl) (s7.extBut _ _ (JE zl) (Wg _ rfl));rw[hsz] at sU hT;refine W1 ⟨_,rfl,?_⟩; show Q (.ref h5.objs.size) _; rw[hsz]
 exact q x y h8 _ p1 p2 sU (up _ _ C.tz sS) (D1.frame _ _ _ r1 λc hc o e=>up c o (λx=>C.z1 (x ▸ hc)) e) (D2.frame _ _ _ r2 λc hc o e=>up c o (λx=>C.z2 (x ▸ hc)) e) hT λc o c1 c2 c3 c4 e=>up c o c1 (k5 c o c1 c2 c3 c4 e)
theorem M8{z TI TO i1 i2:Addr}{f1 f2:List Addr}{n1 n2 i:Nat}{P1 P2:Nat->Value->Prop}{S1 S2:Nat->Heap->Prop}{a b v0:Value}{f:Bool}{Q:Fin->W2->Prop}(D1:Draws prog w A i1 f1 n1 P1 S1)(D2:Draws prog w A i2 f2 n2 P2 S2)(C:ZA z TI TO i1 i2 f1 f2)
  (hz:gE s.heap z TI TO v0 f) (hv:v0 = .none\/∃ p:Addr,v0=Q6 p/\s.heap.get? p=none) (hI:IsPair s.heap TI (.ref i1) (.ref i2)) (hO:IsPair s.heap TO a b) (g1:S1 i s.heap) (g2:S2 i s.heap) (l:i=n1\/(i < n1/\i=n2))
  (q:∀ h' tk e,(∀ c o,c≠z->c≠TO->c≠i1->c≠i2->s.heap.get? c=some o->h'.get? c=some o)->(∃ o,h'.get? e=some o/\o.cls = .type "StopIteration")->E (.ref e) { s with heap:=h',toks:=tk }) :
  W7 (model prog w) A (Builtin.«zip.__next__» ⟨[.ref z],[]⟩) Q E s:=by
 have i1z:i1≠z:=λe=>C.z1 (e ▸ C.m1)
 have i2z:i2≠z:=λe=>C.z2 (e ▸ C.m2)
 have pY:TO≠i1:=λe=>C.t1 (e ▸ C.m1)
 show W7 _ _ (field (.ref z) 2 >>= _) _ _ _; refine W0 (WQ hz rfl (x:=.bool false) rfl ?_)
 show W7 _ _ (field (.ref z) 3 >>= _) _ _ _; refine W0 (WQ hz rfl (x:=.ref TI) rfl (W0 (QN hI rfl ?_)))
 show W7 _ _ (WJ (.ref z) >>= _) _ _ _; refine W0 ?_
 refine Co hz hv ?_;simp only[if_true]; refine W0 (QT (W0 (WQ hz rfl (x:=.ref TO) rfl (W0 (WY hz (by simp) λh1 jF s1=>?_)))))
 replace jF:gE h1 z TI TO .ellipsis f:=jF;refine W0 ?_; simp only[List.zipIdx_cons,List.zipIdx_nil,JD,JO]
 refine W0 (W0 (wpAny_onRaise ?_)); show W7 _ _ (Q5 (.ref i1) >>= _) _ _ _
 have e1:S1 i h1:=D1.frame _ _ _ g1 λc hc o e=>s1.extBut _ _ (λx=>C.z1 (x ▸ hc)) e
 rcases l with l | ⟨l,l'⟩
 ·subst l;refine W0 (D1.done _ _ _ e1 λh2 e s2 ⟨oe,he,ce⟩=>?_);have Cr:gE h2 z TI TO .ellipsis f:=s2 _ _ i1z.symm jF;have ez:e≠z:=λx=>by subst x; rw[Cr] at he; cases he; simp at ce
  exact WY Cr (by simp) λh3 _ s3=>q h3 _ e (λc o c1 _ c3 _ x=>s3.extBut _ _ c1 (s2 _ _ c3 (s1.extBut _ _ c1 x))) ⟨oe,s3.extBut _ _ ez he,ce⟩
 ·refine W0 (D1.item i _ _ _ l e1 λx h2 wk p1 e2 s2=>W1 ?_);have pZ:IsPair h2 TO a b:=s2.extBut _ _ pY (s1.extBut _ _ C.tz hO);refine W0 (QN pZ rfl (W0 (wpAny_updateSeq_pair pZ λh3 sR s3=>?_)));refine W0 (wpAny_letGo (W1 (W0 (W0 (wpAny_onRaise ?_))))); show W7 _ _ (Q5 (.ref i2) >>= _) _ _ _
  have e3:S2 i h3:=D2.frame _ _ _ g2 λc hc o e=>s3.extBut _ _ (λx=>C.t2 (x ▸ hc)) (s2.extBut _ _ (λx=>C.k1 (x ▸ hc)) (s1.extBut _ _ (λx=>C.z2 (x ▸ hc)) e))
  subst l';refine W0 (D2.done _ _ _ e3 λh4 e s4 ⟨oe,he,ce⟩=>?_);have sQ:gE h4 z TI TO .ellipsis f:=s4 _ _ i2z.symm (s3.extBut _ _ C.tz.symm (s2.extBut _ _ i1z.symm jF));have ez:e≠z:=λx=>by subst x; rw[sQ] at he; cases he; simp at ce
  exact WY sQ (by simp) λh5 _ s5=>q h5 _ e (λc o c1 c2 c3 c4 x=>s5.extBut _ _ c1 (s4 _ _ c4 (s3.extBut _ _ c2 (s2.extBut _ _ c3 (s1.extBut _ _ c1 x))))) ⟨oe,s5.extBut _ _ ez he,ce⟩
end
section
variable {prog:Wm} {w:Wr} {A:Ws} {E:Value->W2->Prop} {s:W2}
theorem M9{z TI TO i1 i2:Addr}{f1 f2:List Addr}{n1 n2 i:Nat}{P1 P2:Nat->Value->Prop}{S1 S2:Nat->Heap->Prop}{a b v0:Value}{f:Bool}{Q:Option Value->W2->Prop}(D1:Draws prog w A.in1 i1 f1 n1 P1 S1)(D2:Draws prog w A.in1 i2 f2 n2 P2 S2)(C:ZA z TI TO i1 i2 f1 f2)
  (hz:gE s.heap z TI TO v0 f) (hv:v0 = .none\/∃ p:Addr,v0=Q6 p) (hI:IsPair s.heap TI (.ref i1) (.ref i2)) (hO:IsPair s.heap TO a b) (g1:S1 i s.heap) (g2:S2 i s.heap) (l1:i < n1) (l2:i < n2)
  (q:∀ x y h' tk (p':Addr) f',P1 i x->P2 i y->gE h' z TI TO (Q6 p') f'->(∃ a b,IsPair h' TO a b)->S1 (i + 1) h'->S2 (i + 1) h'->IsPair h' s.heap.objs.size x y ->
   (∀ c o,c≠z->c≠TO->c≠i1->c≠i2->s.heap.get? c=some o->h'.get? c=some o)->Q (some (.ref s.heap.objs.size)) { s with heap:=h',toks:=tk }) :
  W7 (model prog w) A (Qu (.ref z)) Q E s:=by
 have ty:s.TypeIs (.ref z) "zip":=⟨_,hz,rfl⟩
 have pY:TO≠i1:=λe=>C.t1 (e ▸ C.m1)
 have wm:TO≠i2:=λe=>C.t2 (e ▸ C.m2)
 unfold Qu;refine W0 (Jb (WD (name:=Str.ofString "__next__") ty F.slot_zip_next (Ww F.slot_zip_next ty F.entry_zip_next ?_ (F.args_zip_next_1 _))));have cs:(v0 = .none\/∃ p:Addr,v0=Q6 p/\s.heap.get? p=none)\/∃ (p:Addr) (oa:Obj),v0=Q6 p/\s.heap.get? p=some oa:=by
  rcases hv with e | ⟨p,e⟩
  ·exact .inl (.inl e)
  ·cases hp:s.heap.get? p with
   | none=>exact .inl (.inr ⟨p,e,hp⟩)
   | some oa=>exact .inr ⟨p,oa,e,hp⟩
 rcases cs with hf | ⟨p,oa,e,hp⟩
 ·exact M6 D1 D2 C hz hf hI hO g1 g2 l1 l2 λx y h' tk b1 b2 b3 b4 b5 b6 b7 b8=>W1 (q x y h' tk _ _ b1 b2 b3 ⟨_,_,b4⟩ b5 b6 b7 b8)
 ·subst e;exact M1 D1 D2 C hz hp hI g1 g2 l1 l2 λx y h' tk b1 b2 b3 b5 b6 b7 b8 b9=>W1 (q x y h' tk _ _ b1 b2 b3 ⟨_,_,b9 _ _ C.tz pY wm hO⟩ b5 b6 b7 λc o c1 _ c3 c4 e=>b9 c o c1 c3 c4 e)
theorem M_{z TI TO i1 i2:Addr}{f1 f2:List Addr}{n1 n2 i:Nat}{P1 P2:Nat->Value->Prop}{S1 S2:Nat->Heap->Prop}{a b v0:Value}{f:Bool}{Q:Option Value->W2->Prop}(D1:Draws prog w A.in1 i1 f1 n1 P1 S1)(D2:Draws prog w A.in1 i2 f2 n2 P2 S2)(C:ZA z TI TO i1 i2 f1 f2)
  (hz:gE s.heap z TI TO v0 f) (hv:v0 = .none\/∃ p:Addr,v0=Q6 p) (hI:IsPair s.heap TI (.ref i1) (.ref i2)) (hO:IsPair s.heap TO a b) (g1:S1 i s.heap) (g2:S2 i s.heap) (l:i=n1\/(i < n1/\i=n2))
  (q:∀ h' tk,(∀ c o,c≠z->c≠TO->c≠i1->c≠i2->s.heap.get? c=some o->h'.get? c=some o)->Q none { s with heap:=h',toks:=tk }) :
  W7 (model prog w) A (Qu (.ref z)) Q E s:=by
 have ty:s.TypeIs (.ref z) "zip":=⟨_,hz,rfl⟩
 unfold Qu;refine W0 (Jb (WD (name:=Str.ofString "__next__") ty F.slot_zip_next (Ww F.slot_zip_next ty F.entry_zip_next ?_ (F.args_zip_next_1 _))));have cs:(v0 = .none\/∃ p:Addr,v0=Q6 p/\s.heap.get? p=none)\/∃ (p:Addr) (oa:Obj),v0=Q6 p/\s.heap.get? p=some oa:=by
  rcases hv with e | ⟨p,e⟩
  ·exact .inl (.inl e)
  ·cases hp:s.heap.get? p with
   | none=>exact .inl (.inr ⟨p,e,hp⟩)
   | some oa=>exact .inr ⟨p,oa,e,hp⟩
 rcases cs with hf | ⟨p,oa,e,hp⟩
 ·refine M8 D1 D2 C hz hf hI hO g1 g2 l λh' tk e k ⟨o,ho,hc⟩=>?_
  exact W0 (Jl (T:="StopIteration") (b:=true) ⟨o,ho,hc⟩ JQ (W1 (q _ _ k)))
 ·subst e;refine M4 D1 D2 C hz hp hI g1 g2 l λh' tk e k ⟨o,ho,hc⟩=>?_
  exact W0 (Jl (T:="StopIteration") (b:=true) ⟨o,ho,hc⟩ JQ (W1 (q _ _ λc o c1 _ c3 c4 x=>k c o c1 c3 c4 x)))
end
abbrev cK(x:Str)(t:Tok):Obj:={ cls:=.type (Jh x),data:=.fields #[.str x t,.int 0 0] }
abbrev sV(h:Heap)(a:Obj):Heap:=h.push a
abbrev sW(h:Heap)(a b:Obj):Heap:=(sV h a).push b
abbrev sX (h:Heap) (a b:Obj):Heap:=(sW h a b).push { cls:=.type "tuple",data:=.seq #[.ref h.objs.size,.ref (sV h a).objs.size] }
abbrev sY (h:Heap) (a b:Obj):Heap:=(sX h a b).push { cls:=.type "tuple",data:=.seq #[.none,.none] }
abbrev oq (h:Heap) (a b:Obj):Heap:=(sY h a b).push { cls:=.type "zip",data:=.fields #[.none,.bool false,.bool false,.ref (sW h a b).objs.size,.ref (sX h a b).objs.size] }
set_option maxHeartbeats 4000000 in
theorem Na (x y:Str) (t u:Tok):Meets (Builtin.«zip.__new__» ⟨[.type "zip",.str x t,.str y u],[]⟩) (λ_ R s=>R (.ok (.ret (.ref (sY s.heap (cK x t) (cK y u)).objs.size))) { s with heap:=oq s.heap (cK x t) (cK y u) }) :=
 .of_wp λprog w A R s h=>by
  obtain⟨hp,g,d,tk,os⟩:=s;have ot:=sub_zip;have p1:∀ {A:Ws} {E:Value->W2->Prop} {s:W2} {Q:Value->W2->Prop},Q (.ref s.heap.objs.size) { s with heap:=s.heap.push (cK x t) }->W7 (model prog w) A (pyIter (.str x t)) Q E s:=λh=>wpAny_pyIter_strU h
  have p2:∀ {A:Ws} {E:Value->W2->Prop} {s:W2} {Q:Value->W2->Prop},Q (.ref s.heap.objs.size) { s with heap:=s.heap.push (cK y u) }->W7 (model prog w) A (pyIter (.str y u)) Q E s:=λh=>wpAny_pyIter_strU h
  generalize cK x t=o1 at *;generalize cK y u=o2 at *;wp_walk using p1,p2
  exact⟨_,rfl,h⟩
theorem Nb{prog:Wm}{w:Wr}{A:Ws}{E:Value->W2->Prop}{s:W2}{x y:Str}{t u:Tok}{Q:Value->W2->Prop}
  (h:∀ h',IsZip h' (s.heap.objs.size + 4) (s.heap.objs.size + 2) (s.heap.objs.size + 3) .none->IsPair h' (s.heap.objs.size + 2) (.ref s.heap.objs.size) (.ref (s.heap.objs.size + 1)) ->
   IsPair h' (s.heap.objs.size + 3) .none .none->h'.IsStrIter s.heap.objs.size (Jh x) x t 0->h'.IsStrIter (s.heap.objs.size + 1) (Jh y) y u 0 ->
   (∀ c o,s.heap.get? c=some o->h'.get? c=some o)->Q (.ref (s.heap.objs.size + 4)) { s with heap:=h' }) :
  W7 (model prog w) A (call (.type "zip") [.str x t,.str y u]) Q E s:=by
 refine callType_new F.called_zip (by decide) (F.typeCall_zip_2 _ _) (F.newCall_zip_2 _ _) (λobj=>F.args_object_init_3 obj _ _) F.entry_zip_new (Na x y t u) ?_;have z1:(sV s.heap (cK x t)).objs.size=s.heap.objs.size + 1:=Qr ..;have z2:(sW s.heap (cK x t) (cK y u)).objs.size=s.heap.objs.size + 2:=by rw[Qr,z1]
 have z3:(sX s.heap (cK x t) (cK y u)).objs.size=s.heap.objs.size + 3:=by rw[Qr,z2]
 have z4:(sY s.heap (cK x t) (cK y u)).objs.size=s.heap.objs.size + 4:=by rw[Qr,z3]
 have up:∀ {h:Heap} {o:Obj} {c:Addr} {o':Obj},h.get? c=some o'->(h.push o).get? c=some o':=λe=>W8 _ e
 have g5:(oq s.heap (cK x t) (cK y u)).get? (sY s.heap (cK x t) (cK y u)).objs.size=some _:=Wg _ rfl;have g4:(oq s.heap (cK x t) (cK y u)).get? (sX s.heap (cK x t) (cK y u)).objs.size=some _:=up (Wg _ rfl);have g3:(oq s.heap (cK x t) (cK y u)).get? (sW s.heap (cK x t) (cK y u)).objs.size=some _:=up (up (Wg _ rfl));have g2:(oq s.heap (cK x t) (cK y u)).get? (sV s.heap (cK x t)).objs.size=some (cK y u):=up (up (up (Wg _ rfl)));have g1:(oq s.heap (cK x t) (cK y u)).get? s.heap.objs.size=some (cK x t):=up (up (up (up (Wg _ rfl))));show _/\_;rw[z2,z3,z4] at g5;rw[z1,z2] at g3;rw[z3] at g4;rw[z1] at g2;rw[z4];exact⟨⟨_,g5,rfl⟩,h _ g5 g3 g4 ⟨_,g1,rfl,rfl⟩ ⟨_,g2,rfl,rfl⟩ λc o x=>up (up (up (up (up x))))⟩
end PySem
namespace L2
open PySem PySem.Spec PyProof.Rows
def Cs(x y:Str):It:=⟨λi _=>i < x.cps.size/\i < y.cps.size,λi H v H'=>∃ p c d,H p=none/\x.cps[i]? = some c/\y.cps[i]? = some d/\H'=upd H p (.tup [.str ⟨#[c]⟩,.str ⟨#[d]⟩])/\v = .ref p,λi _=>i=x.cps.size\/(i < x.cps.size/\i=y.cps.size)⟩
theorem Nc {P:Wm} {w:Wr} {K:W4} {nm:Str} {pos:Pos} (x y:Str) (t u:Tok) (n:Addr) (T1 T2:String) (h1:T1 = "str_ascii_iterator"\/T1 = "str_iterator") (h2:T2 = "str_ascii_iterator"\/T2 = "str_iterator") :
  Turn P w K (.Name nm pos) (Cs x y) [n + 4,n + 2,n + 3,n,n + 1] (n + 4) (λi h=>(∃ v0 f,gE h (n + 4) (n + 2) (n + 3) v0 f/\(v0 = .none\/∃ p:Addr,v0=Q6 p))/\IsPair h (n + 2) (.ref n) (.ref (n + 1))/\(∃ a b,IsPair h (n + 3) a b)/\h.IsStrIter n T1 x t i/\h.IsStrIter (n + 1) T2 y u i):=by
 have DD:∀ {T:String} (A:Ws) (it:Addr) (x:Str) (t:Tok),(T = "str_ascii_iterator"\/T = "str_iterator")->A.handled=none->Draws P w A it [it] x.cps.size (λi v=>∃ c u,x.cps[i]? = some c/\v = .str ⟨#[c]⟩ u) (λi h=>h.IsStrIter it T x t i):=λA it x t hT hh=>by
  rcases hT with rfl | rfl
  ·exact Draws.strAscii hh it x t
  ·exact Draws.strWide hh it x t
 have ne:∀ (i j:Nat),i≠j->n + i≠n + j:=λi j h e=>h (Nat.add_left_cancel e)
 have nm:∀ {x a:Addr},x≠a->x ∉ [a]:=λh1 h=>h1 (List.mem_singleton.mp h)
 have C:ZA (n + 4) (n + 2) (n + 3) n (n + 1) [n] [n + 1] :=
  ⟨We,We,nm (ne 4 0 (by decide)),nm (ne 4 1 (by decide)),nm (ne 3 0 (by decide)),nm (ne 3 1 (by decide)),nm (ne 0 1 (by decide)),nm (ne 1 0 (by decide)),ne 3 4 (by decide),ne 2 4 (by decide),ne 2 3 (by decide),ne 2 0 (by decide),ne 2 1 (by decide)⟩
 have Ct:∀ {h:Heap} {it:Addr} {T:String} {x:Str} {t:Tok} {i:Nat},h.IsStrIter it T x t i->∃ o,h.get? it=some o/\∀ v,o.data≠.cell v:=λq=>by
  obtain⟨o,e,c,d⟩:=q;exact⟨o,e,λv z=>by rw[d] at z; cases z⟩
 have Cu:∀ {h h':Heap} {it:Addr} {T:String} {x:Str} {t:Tok} {i:Nat},h.IsStrIter it T x t i->(∀ o,h.get? it=some o->h'.get? it=some o)->h'.IsStrIter it T x t i:=λq k=>by
  obtain⟨o,e,r⟩:=q;exact⟨o,k o e,r⟩
 have mm:∀ {b:Addr},b ∈ [n + 4,n + 2,n + 3,n,n + 1]->b=n + 4\/b=n + 2\/b=n + 3\/b=n\/b=n + 1:=λh=>by simpa using h
 refine⟨by simp,?_,?_,?_,?_,?_⟩
 ·rintro i h ⟨⟨v0,f,hz,_⟩,hI,⟨a,b,hO⟩,q1,q2⟩ c hc;rcases mm hc with e | e | e | e | e <;> subst e
  ·exact⟨_,hz,λv z=>by
    have z':Data.fields _=Data.cell v:=z
    cases z'⟩
  ·exact⟨_,hI,λv z=>by
    have z':Data.seq _ _=Data.cell v:=z
    cases z'⟩
  ·exact⟨_,hO,λv z=>by
    have z':Data.seq _ _=Data.cell v:=z
    cases z'⟩
  ·exact Ct q1
  ·exact Ct q2
 ·rintro i h h' ⟨⟨v0,f,hz,hv⟩,hI,⟨a,b,hO⟩,q1,q2⟩ k;exact⟨⟨v0,f,k _ (by simp) _ hz,hv⟩,k _ (by simp) _ hI,⟨a,b,k _ (by simp) _ hO⟩,Cu q1 λo e=>k _ (by simp) o e,Cu q2 λo e=>k _ (by simp) o e⟩
 ·intro X hP hw hK hc i pins s σ H E I hf st hg;subst hP hw hK;obtain⟨⟨v0,f,hz,hv⟩,hI,⟨a,b,hO⟩,q1,q2⟩:=st;obtain⟨l1,l2⟩:=(hg:i < x.cps.size/\i < y.cps.size)
  have D1:=DD X.A.in1 n x t h1 (I.ok.hd hc);have D2:=DD X.A.in1 (n + 1) y u h2 (I.ok.hd hc);have bu:∀ c ∈ [n + 4,n + 2,n + 3,n,n + 1],c < s.heap.objs.size:=λc hc=>by
   have z:=Wp hz;have le:∀ k:Nat,k<=4->n + k < s.heap.objs.size:=λk hk=>Nat.lt_of_le_of_lt (Nat.add_le_add_left hk n) z
   rcases mm hc with e | e | e | e | e <;> subst e
   ·exact z
   ·exact le 2 (by decide)
   ·exact le 3 (by decide)
   ·exact le 0 (by decide)
   ·exact le 1 (by decide)
  refine M9 D1 D2 C hz hv hI hO q1 q2 l1 l2 λx' y' h' tk p' f' e1 e2 Nd Nf s1 s2 hT k=>?_
  obtain⟨c,uu,hx,rfl⟩:=e1;obtain⟨d,vv,hy,rfl⟩:=e2;refine⟨_,rfl,?_⟩;show W7 _ _ (pure ()) _ _ _;refine W1 ?_;have k2:∀ c o,c ∉ [n + 4,n + 2,n + 3,n,n + 1]->s.heap.get? c=some o->h'.get? c=some o:=λc o hc e=>k c o (λz=>hc (by simp[z])) (λz=>hc (by simp[z])) (λz=>hc (by simp[z])) (λz=>hc (by simp[z])) e
  have I2:Inv X pins σ (upd H s.heap.objs.size (.tup [.str ⟨#[c]⟩,.str ⟨#[d]⟩])) { s with heap:=h',toks:=tk }:=Inv.Bx (t':=tk) _ I hf bu ⟨uu,rfl⟩ ⟨vv,rfl⟩ hT k2;refine⟨.ref s.heap.objs.size,_,I2,rfl,⟨s.heap.objs.size,c,d,I.aC.fresh (Wk _),hx,hy,rfl,rfl⟩,⟨⟨_,_,Nd,.inr ⟨p',rfl⟩⟩,k _ _ (ne 2 4 (by decide)) (ne 2 3 (by decide)) (ne 2 0 (by decide)) (ne 2 1 (by decide)) hI,Nf,s1,s2⟩,λc hc=>?_⟩;rw[ba (WW (bu c hc))];exact(hf c hc).1
 ·intro X hP hw hK hc i pins s σ H E I hf st hg;subst hP hw hK;obtain⟨⟨v0,f,hz,hv⟩,hI,⟨a,b,hO⟩,q1,q2⟩:=st;have hl:i=x.cps.size\/(i < x.cps.size/\i=y.cps.size):=hg;have D1:=DD X.A.in1 n x t h1 (I.ok.hd hc);have D2:=DD X.A.in1 (n + 1) y u h2 (I.ok.hd hc);refine M_ D1 D2 C hz hv hI hO q1 q2 hl λh' tk k=>⟨rfl,Inv.sr (t':=tk) [n + 4,n + 2,n + 3,n,n + 1] I (λc o hc e=>?_) hf⟩
  exact k c o (λz=>hc (by simp[z])) (λz=>hc (by simp[z])) (λz=>hc (by simp[z])) (λz=>hc (by simp[z])) e
 ·intro A i s Q E st h;obtain⟨v0,f,hz,_⟩:=st.1;have hT:s.TypeIs (.ref (n + 4)) "zip":=⟨_,hz,rfl⟩
  refine Jt hT F.slot_zip_iter (Ww F.slot_zip_iter hT F.entry_zip_iter ?_ (F.args_zip_iter_1 _));show W7 _ _ (ret (.ref (n + 4))) _ _ s;exact W1 ⟨_,rfl,"zip",_,hT,F.slot_zip_next.lookup,h⟩
end L2
namespace DV
open PySem PySem.Spec PyProof.Rows L2
section
variable {X:Cx} {c:Fc} {a b:Expr} {f g:DE} {pos pp tp:Pos} {nm:Str}
def Ng(ta:TA):TI:=λσ H R=>ta σ H λvs H1=>∃ x y,vs=[.str x,.str y]/\R (Cs x y) H1
theorem Nh {ta:TA} (hg:Gl X "zip") (hm:X.mg "zip" = none) (ha:PA X [a,b] ta) (hs:Wj [a,b] X.env=(false,eval a X.env) :: Wj [b] X.env:=by rfl) (c_:(QJ pos (Wj [b] X.env)).any (·.1)=false:=by rfl):PI X (.Name nm tp) (.Call (.Name "zip" pp) [a,b] [] pos) (Ng ta):=by
 intro pins s σ H R I h;refine Call_ (oR I hg hm boot_zip (PyProof.Rows.callWith_type1 (a_ (ha pos pins s σ H _ I h) λus s1 ⟨vs,H1,I1,r1,q1⟩=>?_) hs c_));obtain⟨x,y,ev,q⟩:=q1;subst ev;have hT:∀ z:Str,Jh z = "str_ascii_iterator"\/Jh z = "str_iterator":=λz=>by
  unfold Jh;split
  ·exact .inl rfl
  ·exact .inr rfl
 cases r1 with
 | cons r rr =>
  cases rr with
  | cons r' rr =>
   cases rr;obtain⟨t,rfl⟩:=r;obtain⟨u,rfl⟩:=r';refine Nb λh' hz hI hO q1 q2 kp=>wpAny_pyIter_zip hz ?_
   refine⟨s1.heap.objs.size + 4,_,_,_,H1,rfl,I1.kept (t':=s1.toks) kp,Nc x y t u s1.heap.objs.size _ _ (hT x) (hT y),⟨⟨_,_,hz,.inl rfl⟩,hI,⟨_,_,hO⟩,q1,q2⟩,λb hb=>?_,q⟩;have hb:b=s1.heap.objs.size + 4\/b=s1.heap.objs.size + 2\/b=s1.heap.objs.size + 3\/b=s1.heap.objs.size\/b=s1.heap.objs.size + 1:=by simpa using hb
   have hle:s1.heap.objs.size<=b:=by rcases hb with z | z | z | z | z <;> subst z <;> first | exact Wk _ | exact Nat.le_add_right _ _
   exact I1.jP hle (I1.aC.fresh hle)
def jG(x y:Tx):List D:=List.zipWith (λa b=>D.tup [.str [a],.str [b]]) x y
def ou(f g:DE):DI:=λδ=>(f δ).bind λx δ1=>(g δ1).bind λy δ2=>match x.d,y.d with
 | .str xs,.str ys=>.ok (jG xs ys) δ2
 | _,_=>.stuck
theorem Ni (hg:Gl X "zip") (hm:X.mg "zip" = none) (ha:SE X c a f) (hb:SE X c b g) (hs:Wj [a,b] X.env=(false,eval a X.env) :: Wj [b] X.env:=by rfl)
  (nG:Wj [b] X.env=(false,eval b X.env) :: Wj [] X.env:=by rfl) (c_:(QJ pos (Wj [b] X.env)).any (·.1)=false:=by rfl):SI X c (.Name nm tp) (.Call (.Name "zip" pp) [a,b] [] pos) (ou f g) :=
 PI.weak (Nh hg hm (fO ha (fO hb iq nG) hs) hs c_) λσ H R ⟨δ,k,q⟩=>by
  unfold ou at q;rw[bC] at q;refine⟨δ,k,aU q λx δ1 q1 v H1 a1 r1=>⟨δ1,a1.ok,?_⟩⟩;rw[bC] at q1;refine aU q1 λy δ2 q2 u H2 a2 r2=>?_
  have hx:Rep H2 (Av c σ δ2) v x.d:=Rep.dO r1.rep a2;have hy:Rep H2 (Av c σ δ2) u y.d:=r2.rep;generalize x.d=xd at q2 hx;generalize y.d=yd at q2 hy
  cases xd <;> cases yd <;> first | exact q2.elim | skip
  rename_i xs ys
  cases hx
  cases hy;refine⟨toS xs,toS ys,rfl,q2 _ H2 (a1.trans a2) ?_⟩;have z1:(toS xs).cps.size=xs.length:=by simp[toS]
  have z2:(toS ys).cps.size=ys.length:=by simp[toS]
  intro H3 kp;have hl:(jG xs ys).length=min xs.length ys.length:=by simp[jG]
  refine⟨by show(jG xs ys).length=(toS xs).cps.size\/((jG xs ys).length < (toS xs).cps.size/\(jG xs ys).length=(toS ys).cps.size); rw[hl,z1,z2]; omega,λi d e=>?_⟩;unfold jG at e;rw[List.getElem?_zipWith] at e
  cases e1:xs[i]? with
  | none=>rw[e1] at e; cases e
  | some m =>
   cases e2:ys[i]? with
   | none=>rw[e1,e2] at e; cases e
   | some n =>
    rw[e1,e2] at e
    cases e;have i1:i < xs.length:=(W3.mp e1).1;have i2:i < ys.length:=(W3.mp e2).1;refine⟨by show i < (toS xs).cps.size/\i < (toS ys).cps.size; rw[z1,z2]; exact⟨i1,i2⟩,λy H4 ⟨p,cc,dd,hp,hx,hy,e3,ey⟩=>.inr ⟨p,_,_,hp,e3,ey,rfl,?_⟩⟩;have hc:cc=m:=by
     have:(toS xs).cps[i]? = some m:=by simp[toS,e1]
     rw[hx] at this; cases this; rfl
    have hd:dd=n:=by
     have:(toS ys).cps[i]? = some n:=by simp[toS,e2]
     rw[hy] at this; cases this; rfl
    subst hc hd;exact aD.two (.str [cc]) (.str [dd])
end
abbrev GE:=Int×Addr×List Tx
def fJ(e:GE):NE:=(.i e.1,.int e.1,.ref e.2.1)
def iN(gs:List GE):List (Int×List Tx):=gs.map λe=>(e.1,e.2.2)
def j5(xs:List Tx):List V:=xs.map λx=>.str (toS x)
def j6(gs:List (Int×List Tx))(x:Tx)(z:Int):List (Int×List Tx):=if (gs.any λe=>decide (e.1=z))=true then gs.map λe=>if e.1=z then(e.1,e.2 ++ [x]) else e else gs ++ [(z,[x])]
structure GI(H1:Hp)(g:Addr)(gs:List GE)(H:Hp):Prop where
 dict:∃ ep,H g=some (.dN ep (gs.map fJ))
 lists:∀ e ∈ gs,H e.2.1=some (.lst (j5 e.2.2))
 fresh:∀ e ∈ gs,H1 e.2.1=none
 nd:(gs.map (·.2.1)).Nodup
 kd:(gs.map (·.1)).Nodup
 old:∀ a o,H1 a=some o->a≠g->H a=some o
 there:∃ o,H1 g=some o
section
variable {H1 H:Hp} {g p:Addr} {gs:List GE}
theorem GI.wq(I:GI H1 g gs H):∀ e ∈ gs,e.2.1≠g:=λe he z=>by
 obtain⟨o,h⟩:=I.there;have:=I.fresh e he;rw[z,h] at this
 cases this
theorem GI.alloc(I:GI H1 g gs H)(hp:H p=none)(o:HO):GI H1 g gs (upd H p o):=by
 have ne:∀ {a w},H a=some w->a≠p:=λe z=>by rw[z,hp] at e; cases e
 obtain⟨ep,hd⟩:=I.dict;refine⟨⟨ep,by rw[ba (ne hd)]; exact hd⟩,λe he=>by rw[ba (ne (I.lists e he))]; exact I.lists e he,I.fresh,I.nd,I.kd,λa o e h=>by rw[ba (ne (I.old a o e h))]; exact I.old a o e h,I.there⟩
theorem GI.hit(I:GI H1 g gs H){e:GE}(he:e ∈ gs)(x:Tx):GI H1 g (gs.map λq=>if q.1=e.1 then(q.1,q.2.1,q.2.2 ++ [x]) else q) (upd H e.2.1 (.lst (j5 (e.2.2 ++ [x])))):=by
 obtain⟨ep,hd⟩:=I.dict;have one:∀ q ∈ gs,q.1=e.1->q=e:=λq hq h=>by
  have kd:=I.kd;obtain⟨i,hi⟩:=WO.mp hq;obtain⟨j,hj⟩:=WO.mp he;have:i=j:=(JT (l:=gs.map (·.1)) (by simpa using (W3.mp hi).1) kd).mp (by rw[Wl,Wl,hi,hj]; simp[h]);subst this;rw[hi] at hj; cases hj; rfl
 have adr:∀ q ∈ gs,q.2.1=e.2.1->q=e:=λq hq h=>by
  have kd:=I.nd;obtain⟨i,hi⟩:=WO.mp hq;obtain⟨j,hj⟩:=WO.mp he;have:i=j:=(JT (l:=gs.map (·.2.1)) (by simpa using (W3.mp hi).1) kd).mp (by rw[Wl,Wl,hi,hj]; simp[h]);subst this;rw[hi] at hj; cases hj; rfl
 have e1:(gs.map λq=>if q.1=e.1 then(q.1,q.2.1,q.2.2 ++ [x]) else q).map fJ=gs.map fJ:=by
  rw[Wu];refine WS λq _=>?_
  simp only[Function.comp];split <;> rfl
 have e2:(gs.map λq=>if q.1=e.1 then(q.1,q.2.1,q.2.2 ++ [x]) else q).map (·.2.1)=gs.map (·.2.1):=by
  rw[Wu];refine WS λq _=>?_
  simp only[Function.comp];split <;> rfl
 have e3:(gs.map λq=>if q.1=e.1 then(q.1,q.2.1,q.2.2 ++ [x]) else q).map (·.1)=gs.map (·.1):=by
  rw[Wu];refine WS λq _=>?_
  simp only[Function.comp];split <;> rfl
 refine⟨⟨ep,by rw[ba (I.wq e he).symm,e1]; exact hd⟩,λq' wt=>?_,λq' wt=>?_,by rw[e2]; exact I.nd,by rw[e3]; exact I.kd,λa o h n=>?_,I.there⟩
 ·obtain⟨q,hq,rfl⟩:=Wz.mp wt;by_cases h:q.1=e.1
  ·have:=one q hq h;subst this;rw[if_pos rfl];exact dq
  ·rw[if_neg h];rw[ba λz=>h (by rw[adr q hq z])];exact I.lists q hq
 ·obtain⟨q,hq,rfl⟩:=Wz.mp wt;split
  ·exact I.fresh q hq
  ·exact I.fresh q hq
 ·rw[ba λz=>by rw[z,I.fresh e he] at h; cases h];exact I.old a o h n
theorem GI.new(I:GI H1 g gs H)(hp:H p=none){z:Int}(hz:z ∉ gs.map (·.1))(x:Tx)(ep:Nat):GI H1 g (gs ++ [(z,p,[x])]) (upd (upd (upd H p (.lst [])) g (.dN ep ((gs ++ [(z,p,[x])]).map fJ))) p (.lst (j5 [x]))):=by
 obtain⟨ep0,hd⟩:=I.dict;have ne:∀ {a w},H a=some w->a≠p:=λe z=>by rw[z,hp] at e; cases e
 have gp:g≠p:=ne hd;have Nj:H1 p=none:=by
  cases h:H1 p with
  | none=>rfl
  | some o =>
   have:=I.old p o h gp.symm;rw[hp] at this; cases this
 refine⟨⟨ep,by rw[ba gp]; exact dq⟩,λe he=>?_,λe he=>?_,?_,?_,λa o h n=>?_,I.there⟩
 ·rcases Qa.mp he with he | he
  ·rw[ba (ne (I.lists e he)),ba (I.wq e he),ba (ne (I.lists e he))];exact I.lists e he
  ·have:e=(z,p,[x]):=by simpa using he
   subst this;exact dq
 ·rcases Qa.mp he with he | he
  ·exact I.fresh e he
  ·have:e=(z,p,[x]):=by simpa using he
   subst this;exact Nj
 ·rw[Q2];refine JU.mpr ⟨I.nd,by simp,λa ha b hb e=>?_⟩;obtain⟨q,hq,rfl⟩:=Wz.mp ha;have p_:b=p:=by simpa using hb
  exact ne (I.lists q hq) (e.trans p_)
 ·rw[Q2];refine JU.mpr ⟨I.kd,by simp,λa ha b hb e=>?_⟩;have p_:b=z:=by simpa using hb
  rw[e,p_] at ha;exact hz ha
 ·have h':=I.old a o h n;rw[ba (ne h'),ba n,ba (ne h')];exact h'
end
theorem Nk{K:W4}{Dn:Ends}{σ:St}{H1 H:Hp}{g:Addr}{gs:List GE}{i ia ib:Nat}{x:Tx}{z:Int}(I:GI H1 g gs H)(e1:σ[i]? = some (some (.ref g)))(e2:σ[ia]? = some (some (.str (toS x))))(e3:σ[ib]? = some (some (.int z)))(hl:gs.length < W9)(kn:∀ e ∈ gs,e.2.2.length < W9)
  (q:∀ sZ H',GI H1 g sZ H'->iN sZ=j6 (iN gs) x z->Dn.nx σ H'):qz (qP K "list" qR (wd (c9 i) (c9 ib) (tZ mZ)) (oW (c9 ia) mZ)) Dn σ H:=by
 obtain⟨ep,hd⟩:=I.dict;refine⟨.ref g,e1,g,rfl,⟨_,_,hd⟩,.int z,e3,by simp,λp hp=>?_⟩;have gp:g≠p:=λh=>by rw[h,hp] at hd; cases hd
 have I3:=I.alloc hp (.lst []);have Nl:upd H p (.lst []) g=some (.dN ep (gs.map fJ)):=by rw[ba gp]; exact hd
 have ow:((iN gs).any λe=>decide (e.1=z))=gs.any λe=>decide (e.1=z):=by
  unfold iN;rw[Jj];rfl
 have hv:valN (gs.map fJ) (.i z)=(gs.find? λe=>decide (e.1=z)).map λe=>V.ref e.2.1:=by
  unfold valN;rw[List.find?_map,Option.map_map];have:((λp:NE=>decide (p.1=NK.i z)) ∘ fJ)=λe:GE=>decide (e.1=z):=by
   funext e
   simp only[Function.comp,fJ,NK.i.injEq]
  rw[this];rfl
 refine⟨false,ep,gs.map fJ,.i z,Nl,λpe Nm=>?_,⟨.inl z,rfl,rfl⟩,by simpa using hl,λv qa=>?_,λwu fM=>?_⟩
 ·obtain⟨e,_,rfl⟩:=Wz.mp Nm;exact⟨.inl e.1,rfl,rfl⟩
 ·rw[hv] at qa
  cases hf:gs.find? λe=>decide (e.1=z) with
  | none=>rw[hf] at qa; cases qa
  | some e =>
   rw[hf] at qa
   cases qa;have hm:=List.mem_of_find?_eq_some hf;have hz:e.1=z:=by simpa using List.find?_some hf
   have Cv:=I3.lists e hm;refine⟨.inl ⟨rfl,_,.of Cv⟩,_,e2,e.2.1,j5 e.2.2,_,rfl,rfl,Cv,by simpa[j5] using kn e hm,?_⟩;have I4:=I3.hit hm x;have et:j5 e.2.2 ++ [V.str (toS x)]=j5 (e.2.2 ++ [x]):=by simp[j5]
   show Dn.nx σ _;rw[et];refine q _ _ I4 ?_;unfold j6;rw[ow,Qz.mpr ⟨e,hm,decide_eq_true hz⟩,if_pos rfl];unfold iN;rw[Wu,Wu];refine WS λq _=>?_
   simp only[Function.comp,hz];split <;> rfl
 ·rw[hv] at wu;have dX:∀ e ∈ gs,e.1≠z:=λe he h=>by
   cases hf:gs.find? λe=>decide (e.1=z) with
   | some e=>rw[hf] at wu; cases wu
   | none=>exact absurd (decide_eq_true h) (List.find?_eq_none.mp hf e he)
  have Cw:(gs.any λe=>decide (e.1=z))=false:=by
   rw[Jc];intro e he h;exact dX e he (by simpa using h)
  have vz:putN (gs.map fJ) (.i z) (.int z) (.ref p)=(gs ++ [(z,p,[x])]).map fJ:=by
   unfold putN;have:((gs.map fJ).any λp=>decide (p.1=NK.i z))=false:=by
    rw[Jj,<- Cw];congr 1
    funext e
    simp only[Function.comp,fJ,NK.i.injEq]
   rw[this,if_neg (by simp),Q2];rfl
  rw[vz];have I4:=I.new hp (z:=z) (λh=>by
   obtain⟨e,he,h⟩:=Wz.mp h;exact dX e he h) x fM
  have Cy:upd (upd H p (.lst [])) g (.dN fM ((gs ++ [(z,p,[x])]).map fJ)) p=some (.lst []):=by rw[ba gp.symm]; exact dq
  refine⟨.inl ⟨rfl,_,.of Cy⟩,_,e2,p,[],_,rfl,rfl,Cy,by rw[PySem.sizeLine_eq]; decide,?_⟩;refine q _ _ I4 ?_;unfold j6;rw[ow,Cw,if_neg (by simp)];unfold iN;rw[Q2];rfl
theorem aQ.Nn{c:Fc}{σ:St}{δ:Dl}{H H2:Hp}(k:Ok c σ δ H)(ext:∀ a o,H a=some o->H2 a=some o):aQ c σ δ H σ δ H2:=by
 refine⟨⟨λa o h n=>ext a o (k.keep a o h n),λa z=>(k.bd a z).elim λo h=>⟨o,ext a o h⟩,λa z=>(k.dM a z).elim λo h=>⟨o,ext a o h⟩,k.len,λj d q=>?_,λj d q=>?_,k.inj,k.pinned⟩,λa o h _=>ext a o h,λa h=>.inl h,λa o h=>⟨o,ext a o h⟩⟩
 ·obtain⟨v,g1,g2⟩:=k.slot j d q;exact⟨v,g1,g2.keep λb w e _=>ext b w e⟩
 ·obtain⟨b,g1,g2,g3,g4⟩:=k.own j d q;exact⟨b,g1,g2.keep (λb w e _=>ext b w e) λw e=>ext b w e,g3,g4⟩
def lO:List (D×D)->Option (List (Tx×Int))
 | []=>some []
 | (.str x,.int z) :: r=>(lO r).map ((x,z) :: ·)
 | _=>none
theorem Cz:∀ {ds:List (D×D)} {ps:List (Tx×Int)},lO ds=some ps->ds=ps.map λp=>(D.str p.1,D.int p.2)
 | [],ps,h=>by cases h; rfl
 | (a,b) :: r,ps,h=>by
  cases a <;> cases b <;> first | (simp[lO] at h; done) | skip
  rename_i x z;simp only[lO,WA] at h;obtain⟨q,hq,rfl⟩:=h;rw[Cz hq];rfl
def eO(ps:List (Tx×Int)):List (Int×List Tx):=ps.foldl (λgs p=>j6 gs p.1 p.2) []
def lP(gs:List (Int×List Tx)):List (D×D):=gs.map λe=>(.int e.1,.lst (e.2.map .str))
def s_(ia ib:Nat)(ps:List (Tx×Int))(δ:Dl):Dl:=match ps.getLast? with
 | none=>δ
 | some p=>(δ.set ia (some (.pure (.str p.1)))).set ib (some (.pure (.int p.2)))
def lQ(ia ib:Nat)(ps:List (Tx×Int))(σ:St):St:=match ps.getLast? with
 | none=>σ
 | some p=>(σ.set ia (some (.str (toS p.1)))).set ib (some (.int p.2))
theorem Nq(gs:List (Int×List Tx))(x:Tx)(z:Int)(n:Nat)(h:gs.length<=n/\∀ e ∈ gs,e.2.length<=n):(j6 gs x z).length<=n + 1/\∀ e ∈ j6 gs x z,e.2.length<=n + 1:=by
 unfold j6;split
 ·refine⟨by rw[Wi]; omega,λe he=>?_⟩;obtain⟨q,hq,rfl⟩:=Wz.mp he;have:=h.2 q hq;split
  ·simp;omega
  ·omega
 ·refine⟨by simp; omega,λe he=>?_⟩;rcases Qa.mp he with he | he
  ·have:=h.2 e he;omega
  ·have:e=(z,[x]):=by simpa using he
   subst this;simp
theorem wx(ps:List (Tx×Int)):∀ k,k<=ps.length->(eO (ps.take k)).length<=k/\∀ e ∈ eO (ps.take k),e.2.length<=k
 | 0,_=>by simp[eO]
 | k + 1,h=>by
  have ih:=wx ps k (by omega);have e:ps.take (k + 1)=ps.take k ++ [ps[k]]:=by rw[QX]; simp[show k < ps.length by omega]
  rw[e];unfold eO at ih ⊢;rw[List.foldl_append];exact Nq _ _ _ k ih
def qb(np:List Nat)(i ia ib:Nat)(fe:DE):DS:=λδ=>(fe δ).bind λr δ1=>match r.d,δ1[i]? with
 | .dic ds,some (some (.own (.dic [])))=>match lO ds with
  | some ps=>if i≠ia/\i≠ib/\ia≠ib/\ia < δ1.length/\ib < δ1.length/\np.contains ia=false/\np.contains ib=false/\ps.length < W9 then .ok .next (s_ ia ib ps (δ1.set i (some (.own (.dic (lP (eO ps))))))) else .stuck
  | none=>.stuck
 | _,_=>.stuck
section
variable {X:Cx} {c:Fc} {o:Expr} {fe:DE}
theorem Nr{σ:St}{δ:Dl}{H1 H':Hp}{i ia ib:Nat}{g:Addr}{gs:List GE}{ps:List (Tx×Int)}{np:List Nat}(ay:Np c np)(k:Ok c σ δ H1)(e:δ[i]? = some (some (.own (.dic []))))(eg:σ[i]? = some (some (.ref g)))(I:GI H1 g gs H')(eG:iN gs=eO ps)
  (na:np.contains ia=false) (nb:np.contains ib=false):aQ c σ δ H1 (lQ ia ib ps σ) (s_ ia ib ps (δ.set i (some (.own (.dic (lP (eO ps))))))) H':=by
 obtain⟨epg,hd⟩:=I.dict;let H2:Hp:=λa=>if a=g then H1 g else H' a
 have Nt:H2 g=H1 g:=by show(if g=g then _ else _)=_; rw[if_pos rfl]
 have wz:∀ a,a≠g->H2 a=H' a:=λa h=>by show(if a=g then _ else _)=_; rw[if_neg h]
 have A1:aQ c σ δ H1 σ δ H2:=aQ.Nn k λa w h=>by
  by_cases z:a=g
  ·subst z; rw[Nt]; exact h
  ·rw[wz a z]; exact I.old a w h z
 have dn:DN H2 (Av c σ δ) (gs.map fJ) (lP (eO ps)):=by
  rw[<- eG];unfold lP iN;rw[Wu];have gt:∀ {j:Nat} {p:NE} {q:D×D},(gs.map fJ)[j]? = some p->(gs.map ((λe:Int×List Tx=>(D.int e.1,D.lst (e.2.map D.str))) ∘ λe:GE=>(e.1,e.2.2)))[j]? = some q->∃ e ∈ gs,p=fJ e/\q=(D.int e.1,D.lst (e.2.2.map D.str)):=λ{j p q} h1 h2=>by
   rw[Wl,WA] at h1 h2;obtain⟨e1,h1,rfl⟩:=h1;obtain⟨e2,h2,rfl⟩:=h2;rw[h1] at h2; cases h2
   exact⟨e1,Wh h1,rfl,rfl⟩
  refine⟨by simp,λj p q h1 h2=>?_,λj p q h1 h2=>?_,λj p q h1 h2=>?_⟩
  ·obtain⟨e,he,rfl,rfl⟩:=gt h1 h2;exact .int _
  ·obtain⟨e,he,rfl,rfl⟩:=gt h1 h2;refine .lst (k.iX (I.fresh e he)) (.inl (by rw[wz _ (I.wq e he)]; exact I.lists e he)) (by simp[j5]) λm v d h3 h4=>?_
   unfold j5 at h3;rw[Wl,WA] at h3 h4;obtain⟨x1,h3,rfl⟩:=h3;obtain⟨x2,h4,rfl⟩:=h4;rw[h3] at h4; cases h4
   exact .str _
  ·obtain⟨e,he,rfl,rfl⟩:=gt h1 h2;rfl
 have A2:=Ok.v8 (ep:=epg) A1.ok e eg dn;have hH:upd H2 g (.dN epg (gs.map fJ))=H':=by
  funext a
  by_cases z:a=g
  ·subst z; rw[dq]; exact hd.symm
  ·rw[ba z,wz a z]
 rw[hH] at A2;have A3:=A1.trans A2;unfold lQ s_
 cases ps.getLast? with
 | none=>exact A3
 | some p =>
  have nQ:∀ m,np.contains m=false->∀ q ∈ c.pin,q.1≠m:=λm hm q hq z=>by
   have:=ay q hq;rw[z,hm] at this
   cases this
  have A4:=Ok.set (v:=.str (toS p.1)) (r:=.pure (.str p.1)) A3 (.str _) (nQ ia na);exact Ok.set (v:=.int p.2) (r:=.pure (.int p.2)) A4 (.int _) (nQ ib nb)
theorem Nu{np:List Nat}{i ia ib:Nat}{body:List Stmt}{apos bE pos:Pos}{elts:List Expr}{ctx:Nat}{tp:Pos}(ay:Np c np)(hp:PassesOwn (model X.prog X.w) X.A X.env X.xe)(hc:X.calm=true)(ho:SE X c o fe)
  (hg:PG X (.Tuple elts ctx tp) (yp X.K 2 (tO (mX ia) (tO (mX ib) yo)))) (kh:eA X body (qz (qP X.K "list" qR (wd (c9 i) (c9 ib) (tZ mZ)) (oW (c9 ia) mZ))))
  (hb:QY o "items" X.env (eval o X.env)=eval o X.env:=by rfl) (hl:(apos.endLine == bE.line)=true:=by rfl) (hs:∀ x,QD (.Call (.Attribute o "items" apos) [] [] bE) X.env x=pure x:=by intro _; rfl) :
  SS X c (.For (.Tuple elts ctx tp) (.Call (.Attribute o "items" apos) [] [] bE) body [] pos) (qb np i ia ib fe) :=
 PS.weak (yw hp hc (Mz ho hb hl) hg kh hs) λDn σ H ⟨δ,k,q⟩=>by
  unfold qb eV at q;rw[bC] at q;refine⟨δ,k,aU q λr δ1 q1 v H1 a1 r1=>?_⟩;have rp:=r1.rep;generalize r.d=d at q1 rp;split at q1
  case h_2=>exact q1.elim
  rename_i ds es;split at q1
  case h_2=>exact q1.elim
  rename_i ps hZ;split at q1
  case isFalse=>exact q1.elim
  rename_i hcond;obtain⟨nia,nib,nab,la,lb,na,nb,hz⟩:=hcond;have k7:=Cz hZ;subst k7
  cases rp with
  | @dic e ep ws _ h1 h2 h3 h4 h5 h6 =>
   have hlen:ws.length=ps.length:=by simpa using h3
   have k1:=a1.ok;obtain⟨g,eg,oa,_⟩:=k1.own i _ es;obtain⟨epg,wg,hgg,dng⟩:=id oa;have Nv:wg=[]:=List.length_eq_zero_iff.mp (by rw[dng.len]; rfl);subst Nv;have neg:e≠g:=λz=>h1 (.inr ⟨i,_,es,by rw[z]; exact eg⟩)
   have RT:ia < σ.length:=by rw[<- k1.len]; exact la
   have Nw:ib < σ.length:=by rw[<- k1.len]; exact lb
   have Nx:∀ (j:Nat) (p:Tx×Int) kk y x,ps[j]? = some p->ws[j]? = some (kk,y,x)->y = .str (toS p.1)/\x = .int p.2:=λj p kk y x e1 e2=>by
    have ej:(ps.map λp:Tx×Int=>(D.str p.1,D.int p.2))[j]? = some (D.str p.1,D.int p.2):=by rw[Wl,e1]; rfl
    have r1:=h4 j _ _ e2 ej;have r2:=h5 j _ _ e2 ej;constructor
    ·cases r1; rfl
    ·cases r2; rfl
   refine⟨e,ep,ws,rfl,h2,λj m σ2 H2=>m=ws.length - j/\j<=ws.length/\σ2=lQ ia ib (ps.take j) σ/\∃ gs,GI H1 g gs H2/\iN gs=eO (ps.take j),⟨_,rfl,Qc _,by simp[lQ],[],⟨⟨_,hgg⟩,by simp,by simp,by simp,by simp,λa o h _=>h,⟨_,hgg⟩⟩,by simp[iN,eO]⟩,?_⟩;rintro j m σ2 H2 ⟨rfl,hj,hσ,gs,I,eG⟩;have CA:H2 e=some (.dN ep ws):=I.old e _ h2 neg;by_cases bu:j < ws.length
   ·right
    have CB:j < ps.length:=by omega
    have e1:ps[j]? = some ps[j]:=by simp[CB]
    have tk:ps.take (j + 1)=ps.take j ++ [ps[j]]:=by rw[QX]; simp[CB]
    refine⟨⟨CA,bu⟩,λσ3 H3=>σ3=lQ ia ib (ps.take (j + 1)) σ/\∃ gs,GI H1 g gs H3/\iN gs=eO (ps.take (j + 1)),λσ3 H3 ⟨z1,z2⟩=>⟨ws.length - (j + 1),by omega,rfl,bu,z1,z2⟩,λx H3 ⟨p,kk,y,xv,hp,hkv,e3,ex⟩=>?_⟩;obtain⟨rfl,rfl⟩:=Nx j ps[j] kk y xv e1 hkv;subst ex e3;refine⟨p,_,rfl,.of dq,rfl,_,_,rfl,_,_,rfl,rfl,?_⟩;have Ny:(σ2.set ia (some (.str (toS ps[j].1)))).set ib (some (.int ps[j].2))=lQ ia ib (ps.take (j + 1)) σ:=by
     rw[hσ,tk];unfold lQ;rw[List.getLast?_append];simp only[List.getLast?_singleton,Option.some_or]
     cases (ps.take j).getLast? with
     | none=>rfl
     | some q =>
      simp only;rw[List.set_comm _ _ nab.symm,List.set_set,List.set_set]
    have iG:(σ2.set ia (some (.str (toS ps[j].1)))).length=σ.length/\σ2[i]? = σ[i]?:=by
     rw[hσ,WT];unfold lQ
     cases (ps.take j).getLast? with
     | none=>exact⟨rfl,rfl⟩
     | some q =>
      simp only;refine⟨by simp,?_⟩;rw[W5 (Ne.symm nib),W5 (Ne.symm nia)]
    have bl:=wx ps j (by omega);have Nz:(iN gs).length=gs.length:=by simp[iN]
    refine Nk (i:=i) (ia:=ia) (ib:=ib) (x:=ps[j].1) (z:=ps[j].2) (I.alloc hp _) ?_ ?_ ?_ (by rw[<- Nz,eG]; omega) (λq hq=>?_) λsZ H' I' NA=>?_
    ·rw[W5 (Ne.symm nib),W5 (Ne.symm nia),iG.2];exact eg
    ·rw[W5 (Ne.symm nab)];exact Wn (by have:=iG.1; rw[WT] at this; omega)
    ·exact Wn (by rw[iG.1]; exact Nw)
    ·have:=bl.2 (q.1,q.2.2) (by rw[<- eG]; exact Wz.mpr ⟨q,hq,rfl⟩);have:q.2.2.length<=j:=this;omega
    ·refine⟨Ny,sZ,I',?_⟩;rw[NA,eG,tk];unfold eO;rw[List.foldl_append];rfl
   ·left
    have NB:j=ps.length:=by omega
    subst NB;refine⟨⟨CA,hlen.symm⟩,?_⟩;rw[Jk] at hσ eG;rw[hσ];exact q1 _ _ (a1.trans (Nr ay k1 es eg I eG na nb))
end
theorem NC{u:Nat}(h:u + 64 < WE):u + 8 < WE:=by omega
def iO(x y:D):Option S:=match x with
 | .dic ds=>gh (.dic ds) y
 | x=>bV x y
theorem CC{X:Cx}(hu:X.A.units + 64 < WE):gL X (λx y H Q=>sM x y H Q\/(pP x y H Q\/m_ X.K x y H Q)):=(sN hu).or (jB hu)
theorem CD{K:W4}:cQ (λx y H Q=>sM x y H Q\/(pP x y H Q\/m_ K x y H Q)) iO:=by
 intro c σ δ H x y d e s Q k rx ry hp q
 cases d with
 | dic ds=>exact .inl (sO c σ δ H x y (.dic ds) e s Q k rx ry hp q)
 | _=>exact .inr (jA c σ δ H x y _ e s Q k rx ry hp q)
end DV
namespace K65
open PySem.W (nsIn keepIn codeIn findIn mroIn kitOne mg_of)
open PySem PySem.Spec PyProof.Rows L2 DV
theorem ak{a b:Prop}(h:a\/b:=by first|exact Or.inl rfl|exact Or.inr rfl):a\/b:=h
def top(i:Nat):Stmt:=PySem.Challenge.pw_tilegrow_k65_tiles_that_are_one.main.body.getD i (.Pass ⟨0,0,0,0⟩)
abbrev wB:Stmt:=top 4
abbrev wC:Stmt:=top 5
abbrev wD:Stmt:=top 7
abbrev wF:Stmt:=top 9
abbrev wH:Stmt:=top 8
abbrev wI:Stmt:=top 10
abbrev wJ:Stmt:=top 11
abbrev wK:Stmt:=top 12
abbrev wL:Stmt:=top 13
abbrev wM:Stmt:=top 6
abbrev wN:Stmt:=top 14
abbrev wO:Stmt:=top 1
abbrev wQ:Stmt:=top 2
abbrev kL:Stmt:=top 15
structure Txt(K:W4)(mg:Str->Option Value):Prop where
 qc:mg "all" = none
 qd:mg "any" = none
 mJ:mg "dict" = none
 qe:mg "int" = none
 ox:mg "isinstance" = none
 jf:mg "len" = none
 oy:mg "list" = none
 qf:mg "max" = none
 j7:mg "range" = none
 oz:mg "sorted" = none
 iP:mg "tuple" = none
 qg:mg "zip" = none
 ty_list:my K "list"
 ty_tuple:my K "tuple"
def wR:DS:=(ar (dQ (aS (ah rQ 1 (aq (aK eJ (aj 0))))) (dD (ah aw 0 (aj 1))) d_) (dD (eD (.int 0))))
def lR:DF:=di [] 2 wR
theorem ND:eY lR:=hJ
theorem NF:eS ["script","k"] ["script","k"] (cW wB):=scc
theorem NG {K:W4} (F:dI K "_law_cell_at" "_law_cell_at" wB f fd) (hm:mg "_law_cell_at" = some (.ref f)) (hb:Binds K fd ["script","k"] []) (T:Txt K mg):bW P w K mg base 1 "_law_cell_at" 2 lR :=
 iF (np:=[]) (fb:=wR) F hm hb NF (λc bR A outer s H E hr ay=>by
  have hq:=hV hr;refine(@aW _ _ _ _ _ _ ?_ ?_)
  ·refine(@iB _ _ _ _ _ _ _ _ _ ?_ ?_ ?_)
   ·exact(@pA _ _ _ _ _ _ _ _ _ _ Il Im (pv 1) (@aR _ _ _ _ (@pE _ _ _ _ _ _ rfl T.jf (@bM _ _ _ _ (pv 0)) (by rfl))) (ip _))
   ·refine(@bY _ _ _ _ ?_);refine(@fF _ _ _ _ _ ?_);exact(@bQ _ _ _ _ _ _ _ _ _ ck cm (pv 0) (@bM _ _ _ _ (pv 1)) (λ_ _=>rfl))
   ·exact iA
  refine(@bY _ _ _ _ ?_);refine(@fF _ _ _ _ _ ?_);exact(@aV _ _ _ _ _)) λss y h=>gN h
def wU:DS:=(ar (au (bj gu (ah bH 0 (aq (eD (.int 7919)))) (aq (eD (.int 2147483647)))) (ae [] 0)) (dD (bj gu (bj bH (bj bH (ah jz 0 (aj 0)) (aq (bj jz (eD (.int 48271)) (aj 0)))) (aq (eD (.int 12345)))) (aq (eD (.int 2147483629))))))
def lS:DF:=di [] 1 wU
theorem CF:eY lS:=hJ
theorem CG:eS ["seed"] ["seed"] (cW wC):=scc
theorem NH {K:W4} (F:dI K "_law_next" "_law_next" wC f fd) (hm:mg "_law_next" = some (.ref f)) (hb:Binds K fd ["seed"] []) (T:Txt K mg):bW P w K mg base 1 "_law_next" 1 lS :=
 iF (np:=[]) (fb:=wU) F hm hb CG (λc bR A outer s H E hr ay=>by
  have hq:=hV hr;refine(@aW _ _ _ _ _ _ ?_ ?_)
  ·exact(@bZ _ _ _ _ _ _ ([]) (0) _ ay CG.nd rfl ak (@dZ _ _ _ _ _ _ _ _ _ _ l8 mx (@kr _ _ _ _ _ _ _ _ _ _ fB fD (pv 0) (@aR _ _ _ _ (@aV _ _ _ _ _))) (@aR _ _ _ _ (@aV _ _ _ _ _))) rfl ak)
  refine(@bY _ _ _ _ ?_);refine(@fF _ _ _ _ _ ?_);exact(@dZ _ _ _ _ _ _ _ _ _ _ l8 mx (@dZ _ _ _ _ _ _ _ _ _ _ fB fD (@dZ _ _ _ _ _ _ _ _ _ _ fB fD (@kr _ _ _ _ _ _ _ _ _ _ vi vj (pv 0) (@bM _ _ _ _ (pv 0))) (@aR _ _ _ _ (@dZ _ _ _ _ _ _ _ _ _ _ vi vj (@aV _ _ _ _ _) (@bM _ _ _ _ (pv 0))))) (@aR _ _ _ _ (@aV _ _ _ _ _))) (@aR _ _ _ _ (@aV _ _ _ _ _)))) λss y h=>gN h
def wV:DS:=(ar (dQ (aS (bj cP (ah aw 0 (aq (eD (.int 1)))) (aq (eD (.int 1))))) (ar (au (bj gu (ah aw 0 (aq (eD (.int 0)))) (aj 1)) (ae [0] 2)) (ar (nM 0 (eD (.int 0)) (bj pC (ah aw 0 (aq (eD (.int 0)))) (aj 1))) (dD (af 2)))) d_) (ar (nM 0 (eD (.int 2)) (aH lS [.val (bj bH (aH lS [.val (ah aw 0 (aq (eD (.int 2))))]) (aq (eD (.int 7))))])) (dD (bj gu (bj pC (ah aw 0 (aq (eD (.int 2)))) (aq (eD (.int 64)))) (aj 1)))))
def dS:DF:=di [0] 3 wV
theorem gF:eY dS:=hJ
theorem CH:eS ["pen","many","found"] ["pen","many"] (cW wD):=scc
theorem NI {K:W4} (F:dI K "_law_draw" "_law_draw" wD f fd) (hm:mg "_law_draw" = some (.ref f)) (hb:Binds K fd ["pen","many"] []) (T:Txt K mg) (tf:bW P w K mg base 1 "_law_next" 1 lS):bW P w K mg base 2 "_law_draw" 2 dS :=
 iF (np:=[0]) (fb:=wV) F hm hb CH (λc bR A outer s H E hr ay=>by
  have hq:=hV hr;refine(@aW _ _ _ _ _ _ ?_ ?_)
  ·refine(@iB _ _ _ _ _ _ _ _ _ ?_ ?_ ?_)
   ·exact(@lq _ _ _ _ _ _ _ _ _ _ (lp hq) lu (@bQ _ _ _ _ _ _ _ _ _ ck cm (pv 0) (@aR _ _ _ _ (@aV _ _ _ _ _)) (λ_ _=>rfl)) (@aR _ _ _ _ (@aV _ _ _ _ _)) (ip _))
   ·refine(@aW _ _ _ _ _ _ ?_ ?_)
    ·exact(@bZ _ _ _ _ _ _ ([0]) (2) _ ay CH.nd rfl ak (@dZ _ _ _ _ _ _ _ _ _ _ l8 mx (@bQ _ _ _ _ _ _ _ _ _ ck cm (pv 0) (@aR _ _ _ _ (@aV _ _ _ _ _)) (λ_ _=>rfl)) (@bM _ _ _ _ (pv 1))) rfl ak)
    refine(@aW _ _ _ _ _ _ ?_ ?_)
    ·exact(@Ay _ _ _ _ _ _ _ _ _ _ (pv 0) (@aV _ _ _ _ _) (@dZ _ _ _ _ _ _ _ _ _ _ yB Ad (@bQ _ _ _ _ _ _ _ _ _ ck cm (pv 0) (@aR _ _ _ _ (@aV _ _ _ _ _)) (λ_ _=>rfl)) (@bM _ _ _ _ (pv 1))) (by intro _; rfl) (by rfl) (by rfl) (by rfl))
    refine(@bY _ _ _ _ ?_);refine(@fF _ _ _ _ _ ?_);exact(@bh _ _ _ _ (pv 2))
   ·exact iA
  refine(@aW _ _ _ _ _ _ ?_ ?_)
  ·exact(@Ay _ _ _ _ _ _ _ _ _ _ (pv 0) (@aV _ _ _ _ _) (@dk _ _ _ _ _ (1) _ _ _ _ _ tf CF (hr.mono (by decide)) rfl (@cw _ _ _ _ _ _ (@dZ _ _ _ _ _ _ _ _ _ _ fB fD (@dk _ _ _ _ _ (1) _ _ _ _ _ tf CF (hr.mono (by decide)) rfl (@cw _ _ _ _ _ _ (@bQ _ _ _ _ _ _ _ _ _ ck cm (pv 0) (@aR _ _ _ _ (@aV _ _ _ _ _)) (λ_ _=>rfl)) (@dh _ _) (by rfl)) rfl (by decide) (by rfl) (by rfl)) (@aR _ _ _ _ (@aV _ _ _ _ _))) (@dh _ _) (by rfl)) rfl (by decide) (by rfl) (by rfl)) (by intro _; rfl) (by rfl) (by rfl) (by rfl))
  refine(@bY _ _ _ _ ?_);refine(@fF _ _ _ _ _ ?_);exact(@dZ _ _ _ _ _ _ _ _ _ _ l8 mx (@dZ _ _ _ _ _ _ _ _ _ _ yB Ad (@bQ _ _ _ _ _ _ _ _ _ ck cm (pv 0) (@aR _ _ _ _ (@aV _ _ _ _ _)) (λ_ _=>rfl)) (@aR _ _ _ _ (@aV _ _ _ _ _))) (@bM _ _ _ _ (pv 1)))) λss y h=>gN h
def wW:DS:=(ar (au (bj bH (eD (.int 1)) (aq (aH dS [.io 0,.val (eD (.int 3))]))) (ae [0] 1)) (ar (au (bj bH (eD (.int 1)) (aq (aH dS [.io 0,.val (eD (.int 3))]))) (ae [0] 2)) (ar (dQ (aS (bj cP (aH dS [.io 0,.val (eD (.int 8))]) (aq (eD (.int 0))))) (au (bj aw (ve [.tup [.int 4,.int 1],.tup [.int 1,.int 4],.tup [.int 4,.int 4],.tup [.int 4,.int 3],.tup [.int 1,.int 2],.tup [.int 2,.int 1]]) (aq (aH dS [.io 0,.val (eD (.int 6))]))) (cB 2 (bB (ae [0] 1) (bB (ae [0] 2) cH)))) d_) (ar (dQ (aS (bj cP (ah bH 1 (aj 2)) (aq (eD (.int 2))))) (au (eD (.int 2)) (ae [0] 2)) d_) (dD (bI (az (af 1) (az (af 2) aP))))))))
def mK:DF:=di [0] 3 wW
theorem NJ:eY mK:=hJ
theorem oA:eS ["pen","high","wide"] ["pen"] (cW wF):=scc
theorem NL {K:W4} (F:dI K "_law_sizes_by" "_law_sizes_by" wF f fd) (hm:mg "_law_sizes_by" = some (.ref f)) (hb:Binds K fd ["pen"] []) (T:Txt K mg) (dG:bW P w K mg base 2 "_law_draw" 2 dS):bW P w K mg base 3 "_law_sizes_by" 1 mK :=
 iF (np:=[0]) (fb:=wW) F hm hb oA (λc bR A outer s H E hr ay=>by
  have hq:=hV hr;refine(@aW _ _ _ _ _ _ ?_ ?_)
  ·exact(@bZ _ _ _ _ _ _ ([0]) (1) _ ay oA.nd rfl ak (@dZ _ _ _ _ _ _ _ _ _ _ fB fD (@aV _ _ _ _ _) (@aR _ _ _ _ (@dk _ _ _ _ _ (2) _ _ _ _ _ dG gF (hr.mono (by decide)) rfl (@eZ _ _ _ _ _ _ (pv 0) (@cw _ _ _ _ _ _ (@aV _ _ _ _ _) (@dh _ _) (by rfl)) (by rfl)) rfl (by decide) (by rfl) (by rfl)))) rfl ak)
  refine(@aW _ _ _ _ _ _ ?_ ?_)
  ·exact(@bZ _ _ _ _ _ _ ([0]) (2) _ ay oA.nd rfl ak (@dZ _ _ _ _ _ _ _ _ _ _ fB fD (@aV _ _ _ _ _) (@aR _ _ _ _ (@dk _ _ _ _ _ (2) _ _ _ _ _ dG gF (hr.mono (by decide)) rfl (@eZ _ _ _ _ _ _ (pv 0) (@cw _ _ _ _ _ _ (@aV _ _ _ _ _) (@dh _ _) (by rfl)) (by rfl)) rfl (by decide) (by rfl) (by rfl)))) rfl ak)
  refine(@aW _ _ _ _ _ _ ?_ ?_)
  ·refine(@iB _ _ _ _ _ _ _ _ _ ?_ ?_ ?_)
   ·exact(@lq _ _ _ _ _ _ _ _ _ _ (lp hq) lu (@dk _ _ _ _ _ (2) _ _ _ _ _ dG gF (hr.mono (by decide)) rfl (@eZ _ _ _ _ _ _ (pv 0) (@cw _ _ _ _ _ _ (@aV _ _ _ _ _) (@dh _ _) (by rfl)) (by rfl)) rfl (by decide) (by rfl) (by rfl)) (@aR _ _ _ _ (@aV _ _ _ _ _)) (ip _))
   ·refine(@bY _ _ _ _ ?_);refine(@nL _ _ _ _ _ _ _ ?_ ?_ (by rfl) (by rfl) (by rfl))
    ·exact(@rL _ _ _ _ _ _ _ _ _ ck cm (@KC _ _ _ _ _ (by rfl) (by decide)) (@aR _ _ _ _ (@dk _ _ _ _ _ (2) _ _ _ _ _ dG gF (hr.mono (by decide)) rfl (@eZ _ _ _ _ _ _ (pv 0) (@cw _ _ _ _ _ _ (@aV _ _ _ _ _) (@dh _ _) (by rfl)) (by rfl)) rfl (by decide) (by rfl) (by rfl))) (λ_ _=>rfl))
    ·exact(@kz _ _ _ _ _ _ _ rfl (@eW _ _ _ _ _ _ (@cR _ _ _ ([0]) (1) _ ay oA.nd rfl ak ak) (@eW _ _ _ _ _ _ (@cR _ _ _ ([0]) (2) _ ay oA.nd rfl ak ak) (@ku _ _) (by rfl)) (by rfl)) (by rfl) (by rfl))
   ·exact iA
  refine(@aW _ _ _ _ _ _ ?_ ?_)
  ·refine(@iB _ _ _ _ _ _ _ _ _ ?_ ?_ ?_)
   ·exact(@lq _ _ _ _ _ _ _ _ _ _ (lp hq) lu (@kr _ _ _ _ _ _ _ _ _ _ fB fD (pv 1) (@bM _ _ _ _ (pv 2))) (@aR _ _ _ _ (@aV _ _ _ _ _)) (ip _))
   ·refine(@bY _ _ _ _ ?_);exact(@bZ _ _ _ _ _ _ ([0]) (2) _ ay oA.nd rfl ak (@aV _ _ _ _ _) rfl ak)
   ·exact iA
  refine(@bY _ _ _ _ ?_);refine(@fF _ _ _ _ _ ?_);exact(@eU _ _ _ _ _ _ (@bS _ _ _ _ _ _ (@bh _ _ _ _ (pv 1)) (@bS _ _ _ _ _ _ (@bh _ _ _ _ (pv 2)) (@de _ _) (by rfl)) (by rfl)) (by decide))) λss y h=>gN h
def wX:DS:=(ar (dQ (aS (ah cP 3 (aq (eD (.int 1))))) (dD (ah aw 1 (aq (aH dS [.io 0,.val (ah bH 2 (aq (eD (.int 1))))])))) d_) (ar (dQ (aS (ah cP 3 (aq (eD (.int 2))))) (dD (ah aw 1 (aq (bj gu (ah bH 2 (aq (eD (.int 1)))) (aq (aK eJ (aj 1))))))) d_) (ar (dQ (rM (aS (ah cP 3 (aq (eD (.int 3))))) (aS (bj uU (aH dS [.io 0,.val (eD (.int 4))]) (aq (eD (.int 0)))))) (dD (ah aw 1 (aj 2))) d_) (dD (ah aw 1 (aq (aH dS [.io 0,.val (aK eJ (aj 1))])))))))
def iQ:DF:=di [0] 4 wX
theorem NM:eY iQ:=hJ
theorem NN:eS ["pen","tiles","place","way"] ["pen","tiles","place","way"] (cW wH):=scc
theorem NO {K:W4} (F:dI K "_law_pick" "_law_pick" wH f fd) (hm:mg "_law_pick" = some (.ref f)) (hb:Binds K fd ["pen","tiles","place","way"] []) (T:Txt K mg) (dG:bW P w K mg base 2 "_law_draw" 2 dS):bW P w K mg base 3 "_law_pick" 4 iQ :=
 iF (np:=[0]) (fb:=wX) F hm hb NN (λc bR A outer s H E hr ay=>by
  have hq:=hV hr;refine(@aW _ _ _ _ _ _ ?_ ?_)
  ·refine(@iB _ _ _ _ _ _ _ _ _ ?_ ?_ ?_)
   ·exact(@pA _ _ _ _ _ _ _ _ _ _ (lp hq) lu (pv 3) (@aR _ _ _ _ (@aV _ _ _ _ _)) (ip _))
   ·refine(@bY _ _ _ _ ?_);refine(@fF _ _ _ _ _ ?_);exact(@bQ _ _ _ _ _ _ _ _ _ ck cm (pv 1) (@aR _ _ _ _ (@dk _ _ _ _ _ (2) _ _ _ _ _ dG gF (hr.mono (by decide)) rfl (@eZ _ _ _ _ _ _ (pv 0) (@cw _ _ _ _ _ _ (@kr _ _ _ _ _ _ _ _ _ _ fB fD (pv 2) (@aR _ _ _ _ (@aV _ _ _ _ _))) (@dh _ _) (by rfl)) (by rfl)) rfl (by decide) (by rfl) (by rfl))) (λ_ _=>rfl))
   ·exact iA
  refine(@aW _ _ _ _ _ _ ?_ ?_)
  ·refine(@iB _ _ _ _ _ _ _ _ _ ?_ ?_ ?_)
   ·exact(@pA _ _ _ _ _ _ _ _ _ _ (lp hq) lu (pv 3) (@aR _ _ _ _ (@aV _ _ _ _ _)) (ip _))
   ·refine(@bY _ _ _ _ ?_);refine(@fF _ _ _ _ _ ?_);exact(@bQ _ _ _ _ _ _ _ _ _ ck cm (pv 1) (@aR _ _ _ _ (@dZ _ _ _ _ _ _ _ _ _ _ l8 mx (@kr _ _ _ _ _ _ _ _ _ _ fB fD (pv 2) (@aR _ _ _ _ (@aV _ _ _ _ _))) (@aR _ _ _ _ (@pE _ _ _ _ _ _ rfl T.jf (@bM _ _ _ _ (pv 1)) (by rfl))))) (λ_ _=>rfl))
   ·exact iA
  refine(@aW _ _ _ _ _ _ ?_ ?_)
  ·refine(@iB _ _ _ _ _ _ _ _ _ ?_ ?_ ?_)
   ·exact(@Aa _ _ _ _ (@Ic _ _ _ _ _ _ _ _ (@pA _ _ _ _ _ _ _ _ _ _ (lp hq) lu (pv 3) (@aR _ _ _ _ (@aV _ _ _ _ _)) (ip _)) (@Ia _ _ _ _ _ (@lq _ _ _ _ _ _ _ _ _ _ Io uT (@dk _ _ _ _ _ (2) _ _ _ _ _ dG gF (hr.mono (by decide)) rfl (@eZ _ _ _ _ _ _ (pv 0) (@cw _ _ _ _ _ _ (@aV _ _ _ _ _) (@dh _ _) (by rfl)) (by rfl)) rfl (by decide) (by rfl) (by rfl)) (@aR _ _ _ _ (@aV _ _ _ _ _)) (ip _)))))
   ·refine(@bY _ _ _ _ ?_);refine(@fF _ _ _ _ _ ?_);exact(@bQ _ _ _ _ _ _ _ _ _ ck cm (pv 1) (@bM _ _ _ _ (pv 2)) (λ_ _=>rfl))
   ·exact iA
  refine(@bY _ _ _ _ ?_);refine(@fF _ _ _ _ _ ?_);exact(@bQ _ _ _ _ _ _ _ _ _ ck cm (pv 1) (@aR _ _ _ _ (@dk _ _ _ _ _ (2) _ _ _ _ _ dG gF (hr.mono (by decide)) rfl (@eZ _ _ _ _ _ _ (pv 0) (@cw _ _ _ _ _ _ (@pE _ _ _ _ _ _ rfl T.jf (@bM _ _ _ _ (pv 1)) (by rfl)) (@dh _ _) (by rfl)) (by rfl)) rfl (by decide) (by rfl) (by rfl))) (λ_ _=>rfl))) λss y h=>gN h
def wY:DS:=(ar (au (aH mK [.io 0]) (cB 2 (bB (ae [0] 2) (bB (ae [0] 3) cH)))) (ar (au (bj bH (eD (.int 1)) (aq (aH dS [.io 0,.val (af 1)]))) (ae [0] 4)) (ar (au (aH dS [.io 0,.val (eD (.int 26))]) (ae [0] 5)) (ar (au (eD (.str [97,98,99,100,101,102,103,104,105,106,107,108,109,110,111,112,113,114,115,116,117,118,119,120,121,122])) (ae [0] 6)) (ar (au (aK nF (aq (bU [13] (fV (af 4)) (ae [0] 13) bq (ah aw 6 (aq (bj gu (ah bH 5 (aq (bj jz (eD (.int 5)) (aj 13)))) (aq (eD (.int 26))))))))) (ae [0] 7)) (ar (au (aH dS [.io 0,.val (eD (.int 5))]) (ae [0] 8)) (ar (au (cA aP) (ae [0] 9)) (ar (cf (fV (af 4)) (ae [0] 10) (ar (au (cA aP) (ae [0] 11)) (ar (cf (fV (af 2)) (ae [0] 12) (cS 11 (aK (dC []) (aq (bU [14] (fV (af 3)) (ae [0] 14) bq (aH iQ [.io 0,.val (af 7),.val (af 10),.val (af 8)])))))) (cS 9 (bI (az (ah aw 7 (aj 10)) (az (aK cp (aj 11)) aP))))))) (dD (bI (az (af 2) (az (af 3) (az (aK cp (aj 9)) aP)))))))))))))
def mL:DF:=di [0] 15 wY
theorem NP:eY mL:=hJ
theorem ie:eS ["pen","most","high","wide","size","first","letters","tiles","way","blocks","place","block","row","k","column"] ["pen","most"] (cW wI):=scc
theorem NQ {K:W4} (F:dI K "_law_rule_by" "_law_rule_by" wI f fd) (hm:mg "_law_rule_by" = some (.ref f)) (hb:Binds K fd ["pen","most"] []) (T:Txt K mg) (dG:bW P w K mg base 2 "_law_draw" 2 dS) (wZ:bW P w K mg base 3 "_law_sizes_by" 1 mK) (w4:bW P w K mg base 3 "_law_pick" 4 iQ):bW P w K mg base 4 "_law_rule_by" 2 mL :=
 iF (np:=[0]) (fb:=wY) F hm hb ie (λc bR A outer s H E hr ay=>by
  have hq:=hV hr;refine(@aW _ _ _ _ _ _ ?_ ?_)
  ·refine(@nL _ _ _ _ _ _ _ ?_ ?_ (by rfl) (by rfl) (by rfl))
   ·exact(@dk _ _ _ _ _ (3) _ _ _ _ _ wZ NJ (hr.mono (by decide)) rfl (@eZ _ _ _ _ _ _ (pv 0) (@dh _ _) (by rfl)) rfl (by decide) (by rfl) (by rfl))
   ·exact(@kz _ _ _ _ _ _ _ rfl (@eW _ _ _ _ _ _ (@cR _ _ _ ([0]) (2) _ ay ie.nd rfl ak ak) (@eW _ _ _ _ _ _ (@cR _ _ _ ([0]) (3) _ ay ie.nd rfl ak ak) (@ku _ _) (by rfl)) (by rfl)) (by rfl) (by rfl))
  refine(@aW _ _ _ _ _ _ ?_ ?_)
  ·exact(@bZ _ _ _ _ _ _ ([0]) (4) _ ay ie.nd rfl ak (@dZ _ _ _ _ _ _ _ _ _ _ fB fD (@aV _ _ _ _ _) (@aR _ _ _ _ (@dk _ _ _ _ _ (2) _ _ _ _ _ dG gF (hr.mono (by decide)) rfl (@eZ _ _ _ _ _ _ (pv 0) (@cw _ _ _ _ _ _ (@bh _ _ _ _ (pv 1)) (@dh _ _) (by rfl)) (by rfl)) rfl (by decide) (by rfl) (by rfl)))) rfl ak)
  refine(@aW _ _ _ _ _ _ ?_ ?_)
  ·exact(@bZ _ _ _ _ _ _ ([0]) (5) _ ay ie.nd rfl ak (@dk _ _ _ _ _ (2) _ _ _ _ _ dG gF (hr.mono (by decide)) rfl (@eZ _ _ _ _ _ _ (pv 0) (@cw _ _ _ _ _ _ (@aV _ _ _ _ _) (@dh _ _) (by rfl)) (by rfl)) rfl (by decide) (by rfl) (by rfl)) rfl ak)
  refine(@aW _ _ _ _ _ _ ?_ ?_)
  ·exact(@bZ _ _ _ _ _ _ ([0]) (6) _ ay ie.nd rfl ak (@rq _ _ _ _ _ [97,98,99,100,101,102,103,104,105,106,107,108,109,110,111,112,113,114,115,116,117,118,119,120,121,122] (by decide +kernel)) rfl ak)
  refine(@aW _ _ _ _ _ _ ?_ ?_)
  ·exact(@bZ _ _ _ _ _ _ ([0]) (7) _ ay ie.nd rfl ak (@ID _ _ _ _ _ _ rfl T.oz (@aR _ _ _ _ (@jy _ _ ([13]) _ _ _ _ _ _ _ _ _ _ rfl (@gy _ _ _ rfl rfl) (@nP _ _ _ _ _ _ _ rfl T.j7 (@bh _ _ _ _ (pv 4)) (by rfl)) (λl s0 H0 ex=>(@fW _ _ _ _ ([0]) (13) _ ay ie.nd rfl ak ak (by decide))) (λl s0 H0 ex=>(@g_ _ _)) (λl s0 H0 ex=>(@bQ _ _ _ _ _ _ _ _ _ ck cm (pv 6) (@aR _ _ _ _ (@dZ _ _ _ _ _ _ _ _ _ _ l8 mx (@kr _ _ _ _ _ _ _ _ _ _ fB fD (pv 5) (@aR _ _ _ _ (@dZ _ _ _ _ _ _ _ _ _ _ vi vj (@aV _ _ _ _ _) (@bM _ _ _ _ (pv 13))))) (@aR _ _ _ _ (@aV _ _ _ _ _)))) (λ_ _=>rfl))) (gw ay rfl) (by intro _; rfl))) (by rfl)) rfl ak)
  refine(@aW _ _ _ _ _ _ ?_ ?_)
  ·exact(@bZ _ _ _ _ _ _ ([0]) (8) _ ay ie.nd rfl ak (@dk _ _ _ _ _ (2) _ _ _ _ _ dG gF (hr.mono (by decide)) rfl (@eZ _ _ _ _ _ _ (pv 0) (@cw _ _ _ _ _ _ (@aV _ _ _ _ _) (@dh _ _) (by rfl)) (by rfl)) rfl (by decide) (by rfl) (by rfl)) rfl ak)
  refine(@aW _ _ _ _ _ _ ?_ ?_)
  ·exact(@bZ _ _ _ _ _ _ ([0]) (9) _ ay ie.nd rfl ak (@ju _ _ _ _ _ (@de _ _) (by decide)) rfl ak)
  refine(@aW _ _ _ _ _ _ ?_ ?_)
  ·refine(@gM _ _ _ _ _ _ _ _ _ PassesOwn.never rfl ?_ ?_ ?_ (by intro _; rfl))
   ·exact(@nP _ _ _ _ _ _ _ rfl T.j7 (@bh _ _ _ _ (pv 4)) (by rfl))
   ·exact(@cR _ _ _ ([0]) (10) _ ay ie.nd rfl ak ak)
   ·refine(@aW _ _ _ _ _ _ ?_ ?_)
    ·exact(@bZ _ _ _ _ _ _ ([0]) (11) _ ay ie.nd rfl ak (@ju _ _ _ _ _ (@de _ _) (by decide)) rfl ak)
    refine(@aW _ _ _ _ _ _ ?_ ?_)
    ·refine(@gM _ _ _ _ _ _ _ _ _ PassesOwn.never rfl ?_ ?_ ?_ (by intro _; rfl))
     ·exact(@nP _ _ _ _ _ _ _ rfl T.j7 (@bh _ _ _ _ (pv 2)) (by rfl))
     ·exact(@cR _ _ _ ([0]) (12) _ ay ie.nd rfl ak ak)
     ·refine(@bY _ _ _ _ ?_);exact(@nW _ _ _ _ _ _ _ _ _ (pv 11) (@rW _ _ _ _ _ _ _ _ _ [] (@aR _ _ _ _ (@jy _ _ ([14]) _ _ _ _ _ _ _ _ _ _ rfl (@gy _ _ _ rfl rfl) (@nP _ _ _ _ _ _ _ rfl T.j7 (@bh _ _ _ _ (pv 3)) (by rfl)) (λl s0 H0 ex=>(@fW _ _ _ _ ([0]) (14) _ ay ie.nd rfl ak ak (by decide))) (λl s0 H0 ex=>(@g_ _ _)) (λl s0 H0 ex=>(@dk _ _ _ _ _ (3) _ _ _ _ _ w4 NM (hr.mono (by decide)) rfl (@eZ _ _ _ _ _ _ (pv 0) (@cw _ _ _ _ _ _ (@bh _ _ _ _ (pv 7)) (@cw _ _ _ _ _ _ (@bh _ _ _ _ (pv 10)) (@cw _ _ _ _ _ _ (@bh _ _ _ _ (pv 8)) (@dh _ _) (by rfl)) (by rfl)) (by rfl)) (by rfl)) rfl (by decide) (by rfl) (by rfl))) (gw ay rfl) (by intro _; rfl))) (by decide +kernel) (by rfl) (by rfl) (by rfl) (by rfl)) (by rfl) (by rfl) (by rfl) (by rfl) (by rfl))
    refine(@bY _ _ _ _ ?_);exact(@nW _ _ _ _ _ _ _ _ _ (pv 9) (@eU _ _ _ _ _ _ (@bS _ _ _ _ _ _ (@bQ _ _ _ _ _ _ _ _ _ ck cm (pv 7) (@bM _ _ _ _ (pv 10)) (λ_ _=>rfl)) (@bS _ _ _ _ _ _ (@lx _ _ _ _ _ _ rfl T.iP (@bM _ _ _ _ (pv 11)) (by rfl)) (@de _ _) (by rfl)) (by rfl)) (by decide)) (by rfl) (by rfl) (by rfl) (by rfl) (by rfl))
  refine(@bY _ _ _ _ ?_);refine(@fF _ _ _ _ _ ?_);exact(@eU _ _ _ _ _ _ (@bS _ _ _ _ _ _ (@bh _ _ _ _ (pv 2)) (@bS _ _ _ _ _ _ (@bh _ _ _ _ (pv 3)) (@bS _ _ _ _ _ _ (@lx _ _ _ _ _ _ rfl T.iP (@bM _ _ _ _ (pv 9)) (by rfl)) (@de _ _) (by rfl)) (by rfl)) (by rfl)) (by decide))) λss y h=>gN h
def w6:DS:=(ar (au (af 0) (cB 3 (bB (ae [] 2) (bB (ae [] 3) (bB (ae [] 4) cH))))) (ar (au (ah aw 4 (aj 1)) (cB 2 (bB (ae [] 5) (bB (ae [] 6) cH)))) (ar (au (bj bH (bI (az (ah bH 5 (aq (rU (ah aw 6 (aq (eD (.int 0)))) (g8 (eD (.int 1))) nJ))) aP)) (aq (jW 6 (g8 (eD (.int 1))) nJ))) (ae [] 7)) (dD (bI (az (af 2) (az (af 3) (az (bj bH (bj bH (jW 4 nJ (g8 (af 1))) (aq (bI (az (bI (az (af 5) (az (af 7) aP))) aP)))) (aq (jW 4 (g8 (ah bH 1 (aq (eD (.int 1))))) nJ))) aP))))))))
def mM:DF:=di [] 8 w6
theorem CI:eY mM:=hJ
theorem mN:eS ["rule","spot","high","wide","blocks","tile","block","first"] ["rule","spot"] (cW wJ):=scc
theorem NR {K:W4} (F:dI K "_law_stilled" "_law_stilled" wJ f fd) (hm:mg "_law_stilled" = some (.ref f)) (hb:Binds K fd ["rule","spot"] []) (T:Txt K mg):bW P w K mg base 1 "_law_stilled" 2 mM :=
 iF (np:=[]) (fb:=w6) F hm hb mN (λc bR A outer s H E hr ay=>by
  have hq:=hV hr;refine(@aW _ _ _ _ _ _ ?_ ?_)
  ·refine(@nL _ _ _ _ _ _ _ ?_ ?_ (by rfl) (by rfl) (by rfl))
   ·exact(@bh _ _ _ _ (pv 0))
   ·exact(@kz _ _ _ _ _ _ _ rfl (@eW _ _ _ _ _ _ (@cR _ _ _ ([]) (2) _ ay mN.nd rfl ak ak) (@eW _ _ _ _ _ _ (@cR _ _ _ ([]) (3) _ ay mN.nd rfl ak ak) (@eW _ _ _ _ _ _ (@cR _ _ _ ([]) (4) _ ay mN.nd rfl ak ak) (@ku _ _) (by rfl)) (by rfl)) (by rfl)) (by rfl) (by rfl))
  refine(@aW _ _ _ _ _ _ ?_ ?_)
  ·refine(@nL _ _ _ _ _ _ _ ?_ ?_ (by rfl) (by rfl) (by rfl))
   ·exact(@bQ _ _ _ _ _ _ _ _ _ ck cm (pv 4) (@bM _ _ _ _ (pv 1)) (λ_ _=>rfl))
   ·exact(@kz _ _ _ _ _ _ _ rfl (@eW _ _ _ _ _ _ (@cR _ _ _ ([]) (5) _ ay mN.nd rfl ak ak) (@eW _ _ _ _ _ _ (@cR _ _ _ ([]) (6) _ ay mN.nd rfl ak ak) (@ku _ _) (by rfl)) (by rfl)) (by rfl) (by rfl))
  refine(@aW _ _ _ _ _ _ ?_ ?_)
  ·exact(@bZ _ _ _ _ _ _ ([]) (7) _ ay mN.nd rfl ak (@dZ _ _ _ _ _ _ _ _ _ _ fB fD (@eU _ _ _ _ _ _ (@bS _ _ _ _ _ _ (@kr _ _ _ _ _ _ _ _ _ _ fB fD (pv 5) (@aR _ _ _ _ (@IP _ _ _ _ _ _ _ _ _ _ (@bQ _ _ _ _ _ _ _ _ _ ck cm (pv 6) (@aR _ _ _ _ (@aV _ _ _ _ _)) (λ_ _=>rfl)) (@nK _ _ _ _ (@aV _ _ _ _ _)) (@rT _ _)))) (@de _ _) (by rfl)) (by decide)) (@aR _ _ _ _ (@rV _ _ _ _ _ _ _ _ _ _ (pv 6) (@nK _ _ _ _ (@aV _ _ _ _ _)) (@rT _ _)))) rfl ak)
  refine(@bY _ _ _ _ ?_);refine(@fF _ _ _ _ _ ?_);exact(@eU _ _ _ _ _ _ (@bS _ _ _ _ _ _ (@bh _ _ _ _ (pv 2)) (@bS _ _ _ _ _ _ (@bh _ _ _ _ (pv 3)) (@bS _ _ _ _ _ _ (@dZ _ _ _ _ _ _ _ _ _ _ fB fD (@dZ _ _ _ _ _ _ _ _ _ _ fB fD (@rV _ _ _ _ _ _ _ _ _ _ (pv 4) (@rT _ _) (@nK _ _ _ _ (@bh _ _ _ _ (pv 1)))) (@aR _ _ _ _ (@eU _ _ _ _ _ _ (@bS _ _ _ _ _ _ (@eU _ _ _ _ _ _ (@bS _ _ _ _ _ _ (@bh _ _ _ _ (pv 5)) (@bS _ _ _ _ _ _ (@bh _ _ _ _ (pv 7)) (@de _ _) (by rfl)) (by rfl)) (by decide)) (@de _ _) (by rfl)) (by decide)))) (@aR _ _ _ _ (@rV _ _ _ _ _ _ _ _ _ _ (pv 4) (@nK _ _ _ _ (@kr _ _ _ _ _ _ _ _ _ _ fB fD (pv 1) (@aR _ _ _ _ (@aV _ _ _ _ _)))) (@rT _ _)))) (@de _ _) (by rfl)) (by rfl)) (by rfl)) (by decide))) λss y h=>gN h
abbrev w8(G0:DF):DS:=(ar (au (eD (.str [97,98,99,100,101,102,103,104,105,106,107,108,109,110,111,112,113,114,115,116,117,118,119,120,121,122])) (ae [1] 2)) (ar (au (bU [13] (aY (ah aw 0 (aq (eD (.int 2))))) (ae [1] 13) bq (ah aw 13 (aq (eD (.int 0))))) (ae [1] 3)) (ar (au (bU [14] (aY (af 2)) (ae [1] 14) (aS (bj (iI true) (af 14) (aj 3))) (af 14)) (ae [1] 4)) (ar (au mD (ae [1] 5)) (ar (cf (fV (aK eJ (aj 3))) (ae [1] 6) (gc 5 (ah aw 3 (aj 6)) (ah aw 4 (aj 6)))) (ar (au (cA aP) (ae [1] 7)) (ar (cf (aY (ah aw 0 (aq (eD (.int 2))))) (cB 2 (bB (ae [1] 8) (bB (ae [1] 9) cH))) (cf (aY (cA (az (af 8) (az (ah bV 5 (aj 8)) aP)))) (ae [1] 10) (ar (au (cA aP) (ae [1] 11)) (ar (cf (aY (af 9)) (ae [1] 12) (cS 11 (aK (dC []) (aq (bU [14] (aY (af 12)) (ae [1] 14) bq (bj aw (cA (az (af 14) (az (ah bV 5 (aj 14)) aP))) (aq (aH G0 [.io 1,.val (eD (.int 2))])))))))) (cS 7 (bI (az (af 10) (az (aK cp (aj 11)) aP)))))))) (dD (bI (az (bI (az (ah aw 0 (aq (eD (.int 0)))) (az (ah aw 0 (aq (eD (.int 1)))) (az (aK cp (aq (aK lJ (aj 7)))) aP)))) (az (af 5) aP)))))))))))
def w_:DS:=w8 dS
def mO:DF:=di [1] 15 w_
theorem NS:eY mO:=hJ
theorem gQ:eS ["rule","pen","letters","tiles","left","twin","place","blocks","tile","block","other","rows","row","pair","sign"] ["rule","pen"] (cW wK):=scc
theorem NT {K:W4} (F:dI K "_law_doubled" "_law_doubled" wK f fd) (hm:mg "_law_doubled" = some (.ref f)) (hb:Binds K fd ["rule","pen"] []) (T:Txt K mg) (dG:bW P w K mg base 2 "_law_draw" 2 dS):bW P w K mg base 3 "_law_doubled" 2 mO :=
 iF (np:=[1]) (fb:=w_) F hm hb gQ (λc bR A outer s H E hr ay=>by
  have hq:=hV hr;refine(@aW _ _ _ _ _ _ ?_ ?_)
  ·exact(@bZ _ _ _ _ _ _ ([1]) (2) _ ay gQ.nd rfl ak (@rq _ _ _ _ _ [97,98,99,100,101,102,103,104,105,106,107,108,109,110,111,112,113,114,115,116,117,118,119,120,121,122] (by decide +kernel)) rfl ak)
  refine(@aW _ _ _ _ _ _ ?_ ?_)
  ·exact(@bZ _ _ _ _ _ _ ([1]) (3) _ ay gQ.nd rfl ak (@jy _ _ ([13]) _ _ _ _ _ _ _ _ _ _ rfl (@gy _ _ _ rfl rfl) (@eL _ _ _ _ _ (@bQ _ _ _ _ _ _ _ _ _ ck cm (pv 0) (@aR _ _ _ _ (@aV _ _ _ _ _)) (λ_ _=>rfl))) (λl s0 H0 ex=>(@fW _ _ _ _ ([1]) (13) _ ay gQ.nd rfl ak ak (by decide))) (λl s0 H0 ex=>(@g_ _ _)) (λl s0 H0 ex=>(@bQ _ _ _ _ _ _ _ _ _ ck cm (pv 13) (@aR _ _ _ _ (@aV _ _ _ _ _)) (λ_ _=>rfl))) (gw ay rfl) (by intro _; rfl)) rfl ak)
  refine(@aW _ _ _ _ _ _ ?_ ?_)
  ·exact(@r9 _ _ ([14]) _ _ _ _ _ _ _ _ _ _ ([1]) (4) _ _ _ ay rfl (@gy _ _ _ rfl rfl) gQ.nd rfl rfl (@eL _ _ _ _ _ (@bh _ _ _ _ (pv 2))) (λl s0 H0 ex=>(@fW _ _ _ _ ([1]) (14) _ ay gQ.nd rfl ak ak (by decide))) (λl s0 H0 ex=>(@AE _ _ _ _ (@lq _ _ _ _ _ _ _ _ _ _ (@K7 _ hq) (@K8 _ true) (@bh _ _ _ _ (pv 14)) (@bM _ _ _ _ (pv 3)) rfl))) (λl s0 H0 ex=>(@bh _ _ _ _ (pv 14))) (gw ay rfl) (by rfl) (by intro _; rfl))
  refine(@aW _ _ _ _ _ _ ?_ ?_)
  ·exact(@bZ _ _ _ _ _ _ ([1]) (5) _ ay gQ.nd rfl ak (@Bh _ _ _) rfl ak)
  refine(@aW _ _ _ _ _ _ ?_ ?_)
  ·refine(@gM _ _ _ _ _ _ _ _ _ PassesOwn.never rfl ?_ ?_ ?_ (by intro _; rfl))
   ·exact(@nP _ _ _ _ _ _ _ rfl T.j7 (@pE _ _ _ _ _ _ rfl T.jf (@bM _ _ _ _ (pv 3)) (by rfl)) (by rfl))
   ·exact(@cR _ _ _ ([1]) (6) _ ay gQ.nd rfl ak ak)
   ·refine(@bY _ _ _ _ ?_);exact(@vC _ _ _ _ _ _ _ _ _ _ hq (pv 5) (@bQ _ _ _ _ _ _ _ _ _ ck cm (pv 3) (@bM _ _ _ _ (pv 6)) (λ_ _=>rfl)) (@bQ _ _ _ _ _ _ _ _ _ ck cm (pv 4) (@bM _ _ _ _ (pv 6)) (λ_ _=>rfl)) (by rfl))
  refine(@aW _ _ _ _ _ _ ?_ ?_)
  ·exact(@bZ _ _ _ _ _ _ ([1]) (7) _ ay gQ.nd rfl ak (@ju _ _ _ _ _ (@de _ _) (by decide)) rfl ak)
  refine(@aW _ _ _ _ _ _ ?_ ?_)
  ·refine(@gM _ _ _ _ _ _ _ _ _ PassesOwn.never rfl ?_ ?_ ?_ (by intro _; rfl))
   ·exact(@eL _ _ _ _ _ (@bQ _ _ _ _ _ _ _ _ _ ck cm (pv 0) (@aR _ _ _ _ (@aV _ _ _ _ _)) (λ_ _=>rfl)))
   ·exact(@kz _ _ _ _ _ _ _ rfl (@eW _ _ _ _ _ _ (@cR _ _ _ ([1]) (8) _ ay gQ.nd rfl ak ak) (@eW _ _ _ _ _ _ (@cR _ _ _ ([1]) (9) _ ay gQ.nd rfl ak ak) (@ku _ _) (by rfl)) (by rfl)) (by rfl) (by rfl))
   ·refine(@bY _ _ _ _ ?_);refine(@gM _ _ _ _ _ _ _ _ _ PassesOwn.never rfl ?_ ?_ ?_ (by intro _; rfl))
    ·exact(@eL _ _ _ _ _ (@ju _ _ _ _ _ (@bS _ _ _ _ _ _ (@bh _ _ _ _ (pv 8)) (@bS _ _ _ _ _ _ (@bQ _ _ _ _ _ _ _ _ _ (jB hq) jA (pv 5) (@bM _ _ _ _ (pv 8)) (λ_ _=>rfl)) (@de _ _) (by rfl)) (by rfl)) (by decide)))
    ·exact(@cR _ _ _ ([1]) (10) _ ay gQ.nd rfl ak ak)
    ·refine(@aW _ _ _ _ _ _ ?_ ?_)
     ·exact(@bZ _ _ _ _ _ _ ([1]) (11) _ ay gQ.nd rfl ak (@ju _ _ _ _ _ (@de _ _) (by decide)) rfl ak)
     refine(@aW _ _ _ _ _ _ ?_ ?_)
     ·refine(@gM _ _ _ _ _ _ _ _ _ PassesOwn.never rfl ?_ ?_ ?_ (by intro _; rfl))
      ·exact(@eL _ _ _ _ _ (@bh _ _ _ _ (pv 9)))
      ·exact(@cR _ _ _ ([1]) (12) _ ay gQ.nd rfl ak ak)
      ·refine(@bY _ _ _ _ ?_);exact(@nW _ _ _ _ _ _ _ _ _ (pv 11) (@rW _ _ _ _ _ _ _ _ _ [] (@aR _ _ _ _ (@jy _ _ ([14]) _ _ _ _ _ _ _ _ _ _ rfl (@gy _ _ _ rfl rfl) (@eL _ _ _ _ _ (@bh _ _ _ _ (pv 12))) (λl s0 H0 ex=>(@fW _ _ _ _ ([1]) (14) _ ay gQ.nd rfl ak ak (by decide))) (λl s0 H0 ex=>(@g_ _ _)) (λl s0 H0 ex=>(@rL _ _ _ _ _ _ _ _ _ ck cm (@ju _ _ _ _ _ (@bS _ _ _ _ _ _ (@bh _ _ _ _ (pv 14)) (@bS _ _ _ _ _ _ (@bQ _ _ _ _ _ _ _ _ _ (jB hq) jA (pv 5) (@bM _ _ _ _ (pv 14)) (λ_ _=>rfl)) (@de _ _) (by rfl)) (by rfl)) (by decide)) (@aR _ _ _ _ (@dk _ _ _ _ _ (2) _ _ _ _ _ dG gF (hr.mono (by decide)) rfl (@eZ _ _ _ _ _ _ (pv 1) (@cw _ _ _ _ _ _ (@aV _ _ _ _ _) (@dh _ _) (by rfl)) (by rfl)) rfl (by decide) (by rfl) (by rfl))) (λ_ _=>rfl))) (gw ay rfl) (by intro _; rfl))) (by decide +kernel) (by rfl) (by rfl) (by rfl) (by rfl)) (by rfl) (by rfl) (by rfl) (by rfl) (by rfl))
     refine(@bY _ _ _ _ ?_);exact(@nW _ _ _ _ _ _ _ _ _ (pv 7) (@eU _ _ _ _ _ _ (@bS _ _ _ _ _ _ (@bh _ _ _ _ (pv 10)) (@bS _ _ _ _ _ _ (@lx _ _ _ _ _ _ rfl T.iP (@bM _ _ _ _ (pv 11)) (by rfl)) (@de _ _) (by rfl)) (by rfl)) (by decide)) (by rfl) (by rfl) (by rfl) (by rfl) (by rfl))
  refine(@bY _ _ _ _ ?_);refine(@fF _ _ _ _ _ ?_);exact(@eU _ _ _ _ _ _ (@bS _ _ _ _ _ _ (@eU _ _ _ _ _ _ (@bS _ _ _ _ _ _ (@bQ _ _ _ _ _ _ _ _ _ ck cm (pv 0) (@aR _ _ _ _ (@aV _ _ _ _ _)) (λ_ _=>rfl)) (@bS _ _ _ _ _ _ (@bQ _ _ _ _ _ _ _ _ _ ck cm (pv 0) (@aR _ _ _ _ (@aV _ _ _ _ _)) (λ_ _=>rfl)) (@bS _ _ _ _ _ _ (@lx _ _ _ _ _ _ rfl T.iP (@aR _ _ _ _ (@LC _ _ _ _ _ _ rfl T.oz (@bM _ _ _ _ (pv 7)) (by rfl))) (by rfl)) (@de _ _) (by rfl)) (by rfl)) (by rfl)) (by decide)) (@bS _ _ _ _ _ _ (@bh _ _ _ _ (pv 5)) (@de _ _) (by rfl)) (by rfl)) (by decide))) λss y h=>gN h
abbrev xa(G0:DF)(G1:DF)(G2:DF)(G3:DF):DS:=(ar (au (aH G0 [.io 0,.val (af 1)]) (ae [0] 2)) (ar (au (bU [10] (aY (ah aw 2 (aq (eD (.int 2))))) (ae [0] 10) bq (ah aw 10 (aq (eD (.int 0))))) (ae [0] 3)) (ar (au mD (ae [0] 4)) (ar (au (bj bH (eD (.int 1)) (aq (aH G1 [.io 0,.val (eD (.int 3))]))) (ae [0] 5)) (ar (cf (aY (af 3)) (ae [0] 6) (gc 4 (af 6) (bj aw (eD (.str [120,121,122])) (aq (aH G1 [.io 0,.val (af 5)]))))) (ar (au (aH G1 [.io 0,.val (aK eJ (aj 3))]) (ae [0] 7)) (ar (au (aH G2 [.val (af 2),.val (af 7)]) (ae [0] 2)) (ar (au (ah aw 3 (aj 7)) (ae [0] 8)) (ar (dQ (aS (bj cP (aH G1 [.io 0,.val (eD (.int 2))]) (aq (eD (.int 0))))) (ar (au (aH G3 [.val (af 2),.io 0]) (cB 2 (bB (ae [0] 2) (bB (ae [0] 9) cH)))) (ar (cf (aY (af 3)) (ae [0] 6) (gc 4 (ah bV 9 (aj 6)) (ah bV 4 (aj 6)))) (ar (au (bj aw (cA (az (af 8) (az (ah bV 9 (aj 8)) aP))) (aq (aH G1 [.io 0,.val (eD (.int 2))]))) (ae [0] 8)) (au (aH G2 [.val (af 2),.val (mI (bU [10] (aY (ah aw 2 (aq (eD (.int 2))))) (ae [0] 10) bq (ah aw 10 (aq (eD (.int 0))))) (af 8))]) (ae [0] 2))))) d_) (dD (bI (az (af 2) (az (af 8) (az (aK cp (aq (bU [10] (aY (ah aw 2 (aq (eD (.int 2))))) (ae [0] 10) bq (bI (az (ah aw 10 (aq (eD (.int 0)))) (az (ah bV 4 (aq (ah aw 10 (aq (eD (.int 0)))))) aP)))))) aP))))))))))))))
def xf:DS:=xa mL dS mM mO
def j8:DF:=di [0] 11 xf
theorem NU:eY j8:=hJ
theorem gj:eS ["pen","most","rule","tiles","signs","kinds","tile","spot","start","twin","pair"] ["pen","most"] (cW wL):=scc
theorem NV {K:W4} (F:dI K "_law_painted_by" "_law_painted_by" wL f fd) (hm:mg "_law_painted_by" = some (.ref f)) (hb:Binds K fd ["pen","most"] []) (T:Txt K mg) (dG:bW P w K mg base 2 "_law_draw" 2 dS) (xg:bW P w K mg base 4 "_law_rule_by" 2 mL) (tj:bW P w K mg base 1 "_law_stilled" 2 mM) (xh:bW P w K mg base 3 "_law_doubled" 2 mO):bW P w K mg base 5 "_law_painted_by" 2 j8 :=
 iF (np:=[0]) (fb:=xf) F hm hb gj (λc bR A outer s H E hr ay=>by
  have hq:=hV hr;refine(@aW _ _ _ _ _ _ ?_ ?_)
  ·exact(@bZ _ _ _ _ _ _ ([0]) (2) _ ay gj.nd rfl ak (@dk _ _ _ _ _ (4) _ _ _ _ _ xg NP (hr.mono (by decide)) rfl (@eZ _ _ _ _ _ _ (pv 0) (@cw _ _ _ _ _ _ (@bh _ _ _ _ (pv 1)) (@dh _ _) (by rfl)) (by rfl)) rfl (by decide) (by rfl) (by rfl)) rfl ak)
  refine(@aW _ _ _ _ _ _ ?_ ?_)
  ·exact(@r9 _ _ ([10]) _ _ _ _ _ _ _ _ _ _ ([0]) (3) _ _ _ ay rfl (@gy _ _ _ rfl rfl) gj.nd rfl rfl (@eL _ _ _ _ _ (@bQ _ _ _ _ _ _ _ _ _ ck cm (pv 2) (@aR _ _ _ _ (@aV _ _ _ _ _)) (λ_ _=>rfl))) (λl s0 H0 ex=>(@fW _ _ _ _ ([0]) (10) _ ay gj.nd rfl ak ak (by decide))) (λl s0 H0 ex=>(@g_ _ _)) (λl s0 H0 ex=>(@bQ _ _ _ _ _ _ _ _ _ ck cm (pv 10) (@aR _ _ _ _ (@aV _ _ _ _ _)) (λ_ _=>rfl))) (gw ay rfl) (by rfl) (by intro _; rfl))
  refine(@aW _ _ _ _ _ _ ?_ ?_)
  ·exact(@bZ _ _ _ _ _ _ ([0]) (4) _ ay gj.nd rfl ak (@Bh _ _ _) rfl ak)
  refine(@aW _ _ _ _ _ _ ?_ ?_)
  ·exact(@bZ _ _ _ _ _ _ ([0]) (5) _ ay gj.nd rfl ak (@dZ _ _ _ _ _ _ _ _ _ _ fB fD (@aV _ _ _ _ _) (@aR _ _ _ _ (@dk _ _ _ _ _ (2) _ _ _ _ _ dG gF (hr.mono (by decide)) rfl (@eZ _ _ _ _ _ _ (pv 0) (@cw _ _ _ _ _ _ (@aV _ _ _ _ _) (@dh _ _) (by rfl)) (by rfl)) rfl (by decide) (by rfl) (by rfl)))) rfl ak)
  refine(@aW _ _ _ _ _ _ ?_ ?_)
  ·refine(@gM _ _ _ _ _ _ _ _ _ PassesOwn.never rfl ?_ ?_ ?_ (by intro _; rfl))
   ·exact(@eL _ _ _ _ _ (@bh _ _ _ _ (pv 3)))
   ·exact(@cR _ _ _ ([0]) (6) _ ay gj.nd rfl ak ak)
   ·refine(@bY _ _ _ _ ?_);exact(@vC _ _ _ _ _ _ _ _ _ _ hq (pv 4) (@bh _ _ _ _ (pv 6)) (@rL _ _ _ _ _ _ _ _ _ ck cm (@rq _ _ _ _ _ [120,121,122] (by decide +kernel)) (@aR _ _ _ _ (@dk _ _ _ _ _ (2) _ _ _ _ _ dG gF (hr.mono (by decide)) rfl (@eZ _ _ _ _ _ _ (pv 0) (@cw _ _ _ _ _ _ (@bh _ _ _ _ (pv 5)) (@dh _ _) (by rfl)) (by rfl)) rfl (by decide) (by rfl) (by rfl))) (λ_ _=>rfl)) (by rfl))
  refine(@aW _ _ _ _ _ _ ?_ ?_)
  ·exact(@bZ _ _ _ _ _ _ ([0]) (7) _ ay gj.nd rfl ak (@dk _ _ _ _ _ (2) _ _ _ _ _ dG gF (hr.mono (by decide)) rfl (@eZ _ _ _ _ _ _ (pv 0) (@cw _ _ _ _ _ _ (@pE _ _ _ _ _ _ rfl T.jf (@bM _ _ _ _ (pv 3)) (by rfl)) (@dh _ _) (by rfl)) (by rfl)) rfl (by decide) (by rfl) (by rfl)) rfl ak)
  refine(@aW _ _ _ _ _ _ ?_ ?_)
  ·exact(@bZ _ _ _ _ _ _ ([0]) (2) _ ay gj.nd rfl ak (@dk _ _ _ _ _ (1) _ _ _ _ _ tj CI (hr.mono (by decide)) rfl (@cw _ _ _ _ _ _ (@bh _ _ _ _ (pv 2)) (@cw _ _ _ _ _ _ (@bh _ _ _ _ (pv 7)) (@dh _ _) (by rfl)) (by rfl)) rfl (by decide) (by rfl) (by rfl)) rfl ak)
  refine(@aW _ _ _ _ _ _ ?_ ?_)
  ·exact(@bZ _ _ _ _ _ _ ([0]) (8) _ ay gj.nd rfl ak (@bQ _ _ _ _ _ _ _ _ _ ck cm (pv 3) (@bM _ _ _ _ (pv 7)) (λ_ _=>rfl)) rfl ak)
  refine(@aW _ _ _ _ _ _ ?_ ?_)
  ·refine(@iB _ _ _ _ _ _ _ _ _ ?_ ?_ ?_)
   ·exact(@lq _ _ _ _ _ _ _ _ _ _ (lp hq) lu (@dk _ _ _ _ _ (2) _ _ _ _ _ dG gF (hr.mono (by decide)) rfl (@eZ _ _ _ _ _ _ (pv 0) (@cw _ _ _ _ _ _ (@aV _ _ _ _ _) (@dh _ _) (by rfl)) (by rfl)) rfl (by decide) (by rfl) (by rfl)) (@aR _ _ _ _ (@aV _ _ _ _ _)) (ip _))
   ·refine(@aW _ _ _ _ _ _ ?_ ?_)
    ·refine(@nL _ _ _ _ _ _ _ ?_ ?_ (by rfl) (by rfl) (by rfl))
     ·exact(@dk _ _ _ _ _ (3) _ _ _ _ _ xh NS (hr.mono (by decide)) rfl (@cw _ _ _ _ _ _ (@bh _ _ _ _ (pv 2)) (@eZ _ _ _ _ _ _ (pv 0) (@dh _ _) (by rfl)) (by rfl)) rfl (by decide) (by rfl) (by rfl))
     ·exact(@kz _ _ _ _ _ _ _ rfl (@eW _ _ _ _ _ _ (@cR _ _ _ ([0]) (2) _ ay gj.nd rfl ak ak) (@eW _ _ _ _ _ _ (@cR _ _ _ ([0]) (9) _ ay gj.nd rfl ak ak) (@ku _ _) (by rfl)) (by rfl)) (by rfl) (by rfl))
    refine(@aW _ _ _ _ _ _ ?_ ?_)
    ·refine(@gM _ _ _ _ _ _ _ _ _ PassesOwn.never rfl ?_ ?_ ?_ (by intro _; rfl))
     ·exact(@eL _ _ _ _ _ (@bh _ _ _ _ (pv 3)))
     ·exact(@cR _ _ _ ([0]) (6) _ ay gj.nd rfl ak ak)
     ·refine(@bY _ _ _ _ ?_);exact(@vC _ _ _ _ _ _ _ _ _ _ hq (pv 4) (@bQ _ _ _ _ _ _ _ _ _ (jB hq) jA (pv 9) (@bM _ _ _ _ (pv 6)) (λ_ _=>rfl)) (@bQ _ _ _ _ _ _ _ _ _ (jB hq) jA (pv 4) (@bM _ _ _ _ (pv 6)) (λ_ _=>rfl)) (by rfl))
    refine(@aW _ _ _ _ _ _ ?_ ?_)
    ·exact(@bZ _ _ _ _ _ _ ([0]) (8) _ ay gj.nd rfl ak (@rL _ _ _ _ _ _ _ _ _ ck cm (@ju _ _ _ _ _ (@bS _ _ _ _ _ _ (@bh _ _ _ _ (pv 8)) (@bS _ _ _ _ _ _ (@bQ _ _ _ _ _ _ _ _ _ (jB hq) jA (pv 9) (@bM _ _ _ _ (pv 8)) (λ_ _=>rfl)) (@de _ _) (by rfl)) (by rfl)) (by decide)) (@aR _ _ _ _ (@dk _ _ _ _ _ (2) _ _ _ _ _ dG gF (hr.mono (by decide)) rfl (@eZ _ _ _ _ _ _ (pv 0) (@cw _ _ _ _ _ _ (@aV _ _ _ _ _) (@dh _ _) (by rfl)) (by rfl)) rfl (by decide) (by rfl) (by rfl))) (λ_ _=>rfl)) rfl ak)
    refine(@bY _ _ _ _ ?_);exact(@bZ _ _ _ _ _ _ ([0]) (2) _ ay gj.nd rfl ak (@dk _ _ _ _ _ (1) _ _ _ _ _ tj CI (hr.mono (by decide)) rfl (@cw _ _ _ _ _ _ (@bh _ _ _ _ (pv 2)) (@cw _ _ _ _ _ _ (@Lr _ _ _ _ _ _ _ _ (@jy _ _ ([10]) _ _ _ _ _ _ _ _ _ _ rfl (@gy _ _ _ rfl rfl) (@eL _ _ _ _ _ (@bQ _ _ _ _ _ _ _ _ _ ck cm (pv 2) (@aR _ _ _ _ (@aV _ _ _ _ _)) (λ_ _=>rfl))) (λl s0 H0 ex=>(@fW _ _ _ _ ([0]) (10) _ ay gj.nd rfl ak ak (by decide))) (λl s0 H0 ex=>(@g_ _ _)) (λl s0 H0 ex=>(@bQ _ _ _ _ _ _ _ _ _ ck cm (pv 10) (@aR _ _ _ _ (@aV _ _ _ _ _)) (λ_ _=>rfl))) (gw ay rfl) (by intro _; rfl)) (@bh _ _ _ _ (pv 8)) (by rfl) (by rfl) (by rfl) (by rfl)) (@dh _ _) (by rfl)) (by rfl)) rfl (by decide) (by rfl) (by rfl)) rfl ak)
   ·exact iA
  refine(@bY _ _ _ _ ?_);refine(@fF _ _ _ _ _ ?_);exact(@eU _ _ _ _ _ _ (@bS _ _ _ _ _ _ (@bh _ _ _ _ (pv 2)) (@bS _ _ _ _ _ _ (@bh _ _ _ _ (pv 8)) (@bS _ _ _ _ _ _ (@lx _ _ _ _ _ _ rfl T.iP (@aR _ _ _ _ (@jy _ _ ([10]) _ _ _ _ _ _ _ _ _ _ rfl (@gy _ _ _ rfl rfl) (@eL _ _ _ _ _ (@bQ _ _ _ _ _ _ _ _ _ ck cm (pv 2) (@aR _ _ _ _ (@aV _ _ _ _ _)) (λ_ _=>rfl))) (λl s0 H0 ex=>(@fW _ _ _ _ ([0]) (10) _ ay gj.nd rfl ak ak (by decide))) (λl s0 H0 ex=>(@g_ _ _)) (λl s0 H0 ex=>(@eU _ _ _ _ _ _ (@bS _ _ _ _ _ _ (@bQ _ _ _ _ _ _ _ _ _ ck cm (pv 10) (@aR _ _ _ _ (@aV _ _ _ _ _)) (λ_ _=>rfl)) (@bS _ _ _ _ _ _ (@bQ _ _ _ _ _ _ _ _ _ (jB hq) jA (pv 4) (@aR _ _ _ _ (@bQ _ _ _ _ _ _ _ _ _ ck cm (pv 10) (@aR _ _ _ _ (@aV _ _ _ _ _)) (λ_ _=>rfl))) (λ_ _=>rfl)) (@de _ _) (by rfl)) (by rfl)) (by decide))) (gw ay rfl) (by intro _; rfl))) (by rfl)) (@de _ _) (by rfl)) (by rfl)) (by rfl)) (by decide))) λss y h=>gN h
def xi:DS:=(ar (au (rS (af 0) (bj uQ (eD (.int 0)) (aj 0))) (ae [] 1)) (dD (cA (az (af 1) (az (aK nC (aq (ah Ah 1 (aq (bj uS (eD (.int 10)) (aq (eD (.int 18)))))))) (az (ah gu 1 (aq (eD (.int 1000003)))) aP))))))
def j9:DF:=di [] 2 xi
theorem NW:eY j9:=hJ
theorem CJ:eS ["cell","left"] ["cell"] (cW wM):=scc
theorem NX {K:W4} (F:dI K "_law_pen_of" "_law_pen_of" wM f fd) (hm:mg "_law_pen_of" = some (.ref f)) (hb:Binds K fd ["cell"] []) (T:Txt K mg):bW P w K mg base 1 "_law_pen_of" 1 j9 :=
 iF (np:=[]) (fb:=xi) F hm hb CJ (λc bR A outer s H E hr ay=>by
  have hq:=hV hr;refine(@aW _ _ _ _ _ _ ?_ ?_)
  ·exact(@bZ _ _ _ _ _ _ ([]) (1) _ ay CJ.nd rfl ak (@IE _ _ _ _ _ _ _ _ rfl rfl T.qf (@bh _ _ _ _ (pv 0)) (@dZ _ _ _ _ _ _ _ _ _ _ Fd Ii (@aV _ _ _ _ _) (@bM _ _ _ _ (pv 0))) (by rfl) (by rfl) (by rfl)) rfl ak)
  refine(@bY _ _ _ _ ?_);refine(@fF _ _ _ _ _ ?_);exact(@ju _ _ _ _ _ (@bS _ _ _ _ _ _ (@bh _ _ _ _ (pv 1)) (@bS _ _ _ _ _ _ (@Iy _ _ _ _ _ _ rfl T.qe (@aR _ _ _ _ (@H_ _ _ _ _ _ _ _ _ _ _ Ip uT (pv 1) (@aR _ _ _ _ (@dZ _ _ _ _ _ _ _ _ _ _ zev Ik (@aV _ _ _ _ _) (@aR _ _ _ _ (@aV _ _ _ _ _)))) (ip _))) (by rfl)) (@bS _ _ _ _ _ _ (@kr _ _ _ _ _ _ _ _ _ _ l8 mx (pv 1) (@aR _ _ _ _ (@aV _ _ _ _ _))) (@de _ _) (by rfl)) (by rfl)) (by rfl)) (by decide))) λss y h=>gN h
def xj:DS:=(ar (au (aK f_ (aj 1)) (ae [] 2)) (ar (au (aK f_ (aq (bU [10,11] (aY (ah aw 0 (aq (eD (.int 2))))) (cB 2 (bB (ae [] 10) (bB (ae [] 11) cH))) bq (bI (az (af 10) (az (aK (dC []) (aj 11)) aP)))))) (ae [] 3)) (ar (au (bU [9] (aY (ah aw 0 (aq (eD (.int 2))))) (ae [] 9) bq (ah aw 9 (aq (eD (.int 0))))) (ae [] 4)) (ar (au gP (ae [] 5)) (ar (cf (aY (af 4)) (ae [] 6) (cf (aY (af 4)) (ae [] 7) (iM 5 (bI (az (af 6) (az (af 7) aP))) (bj jU (ah bV 2 (aj 6)) (aq (ah bV 2 (aj 7))))))) (ar (au (eD (.bl true)) (ae [] 8)) (ar (ef (aS (af 8)) (ar (au (eD (.bl false)) (ae [] 8)) (cf (aY (aK oj (aj 5))) (cB 2 (bB (ae [] 6) (bB (ae [] 7) cH))) (dQ (iZ (aS (ah gh 5 (aq (bI (az (af 6) (az (af 7) aP))))))) (dQ (aS (aK ly (aq (bU [9] (ou (ah bV 3 (aj 6)) (ah bV 3 (aj 7))) (ae [] 9) bq (ah gh 5 (aj 9)))))) (ar (iM 5 (bI (az (af 6) (az (af 7) aP))) (eD (.bl true))) (au (eD (.bl true)) (ae [] 8))) d_) d_))) 1000000) (kF [] 5))))))))
def j_:DF:=di [] 12 xj
theorem NY:eY j_:=hJ
theorem gG:eS ["rule","paint","signs","blocks","tiles","apart","one","other","more","pair","tile","block"] ["rule","paint"] (cW wN):=scc
theorem NZ {K:W4} (F:dI K "_law_apart" "_law_apart" wN f fd) (hm:mg "_law_apart" = some (.ref f)) (hb:Binds K fd ["rule","paint"] []) (T:Txt K mg):bW P w K mg base 1 "_law_apart" 2 j_ :=
 iF (np:=[]) (fb:=xj) F hm hb gG (λc bR A outer s H E hr ay=>by
  have hq:=hV hr;refine(@aW _ _ _ _ _ _ ?_ ?_)
  ·exact(@bZ _ _ _ _ _ _ ([]) (2) _ ay gG.nd rfl ak (@vq _ _ _ _ _ _ rfl rfl T.mJ (@bM _ _ _ _ (pv 1)) (by rfl)) rfl ak)
  refine(@aW _ _ _ _ _ _ ?_ ?_)
  ·exact(@bZ _ _ _ _ _ _ ([]) (3) _ ay gG.nd rfl ak (@vq _ _ _ _ _ _ rfl rfl T.mJ (@aR _ _ _ _ (@jy _ _ ([10,11]) _ _ _ _ _ _ _ _ _ _ rfl (@gy _ _ _ rfl rfl) (@eL _ _ _ _ _ (@bQ _ _ _ _ _ _ _ _ _ ck cm (pv 0) (@aR _ _ _ _ (@aV _ _ _ _ _)) (λ_ _=>rfl))) (λl s0 H0 ex=>(@Kf _ _ _ _ _ _ _ _ rfl (@AF _ _ _ _ _ _ _ (@fW _ _ _ _ ([]) (10) _ ay gG.nd rfl ak ak (by decide)) (@AF _ _ _ _ _ _ _ (@fW _ _ _ _ ([]) (11) _ ay gG.nd rfl ak ak (by decide)) (@Ke _ _ _) (by rfl)) (by rfl)) (by rfl) (by rfl))) (λl s0 H0 ex=>(@g_ _ _)) (λl s0 H0 ex=>(@eU _ _ _ _ _ _ (@bS _ _ _ _ _ _ (@bh _ _ _ _ (pv 10)) (@bS _ _ _ _ _ _ (@rW _ _ _ _ _ _ _ _ _ [] (@bM _ _ _ _ (pv 11)) (by decide +kernel) (by rfl) (by rfl) (by rfl) (by rfl)) (@de _ _) (by rfl)) (by rfl)) (by decide))) (gw ay rfl) (by intro _; rfl))) (by rfl)) rfl ak)
  refine(@aW _ _ _ _ _ _ ?_ ?_)
  ·exact(@r9 _ _ ([9]) _ _ _ _ _ _ _ _ _ _ ([]) (4) _ _ _ ay rfl (@gy _ _ _ rfl rfl) gG.nd rfl rfl (@eL _ _ _ _ _ (@bQ _ _ _ _ _ _ _ _ _ ck cm (pv 0) (@aR _ _ _ _ (@aV _ _ _ _ _)) (λ_ _=>rfl))) (λl s0 H0 ex=>(@fW _ _ _ _ ([]) (9) _ ay gG.nd rfl ak ak (by decide))) (λl s0 H0 ex=>(@g_ _ _)) (λl s0 H0 ex=>(@bQ _ _ _ _ _ _ _ _ _ ck cm (pv 9) (@aR _ _ _ _ (@aV _ _ _ _ _)) (λ_ _=>rfl))) (gw ay rfl) (by rfl) (by intro _; rfl))
  refine(@aW _ _ _ _ _ _ ?_ ?_)
  ·exact(@bZ _ _ _ _ _ _ ([]) (5) _ ay gG.nd rfl ak sP rfl ak)
  refine(@aW _ _ _ _ _ _ ?_ ?_)
  ·refine(@gM _ _ _ _ _ _ _ _ _ PassesOwn.never rfl ?_ ?_ ?_ (by intro _; rfl))
   ·exact(@eL _ _ _ _ _ (@bh _ _ _ _ (pv 4)))
   ·exact(@cR _ _ _ ([]) (6) _ ay gG.nd rfl ak ak)
   ·refine(@bY _ _ _ _ ?_);refine(@gM _ _ _ _ _ _ _ _ _ PassesOwn.never rfl ?_ ?_ ?_ (by intro _; rfl))
    ·exact(@eL _ _ _ _ _ (@bh _ _ _ _ (pv 4)))
    ·exact(@cR _ _ _ ([]) (7) _ ay gG.nd rfl ak ak)
    ·refine(@bY _ _ _ _ ?_);exact(v9 hq (pv 5) (@eU _ _ _ _ _ _ (@bS _ _ _ _ _ _ (@bh _ _ _ _ (pv 6)) (@bS _ _ _ _ _ _ (@bh _ _ _ _ (pv 7)) (@de _ _) (by rfl)) (by rfl)) (by decide)) (@HZ _ _ _ _ _ _ _ _ _ _ (zS hq) Ae (@bQ _ _ _ _ _ _ _ _ _ (jB hq) jA (pv 2) (@bM _ _ _ _ (pv 6)) (λ_ _=>rfl)) (@aR _ _ _ _ (@bQ _ _ _ _ _ _ _ _ _ (jB hq) jA (pv 2) (@bM _ _ _ _ (pv 7)) (λ_ _=>rfl))) (ip _)))
  refine(@aW _ _ _ _ _ _ ?_ ?_)
  ·exact(@bZ _ _ _ _ _ _ ([]) (8) _ ay gG.nd rfl ak (@ll _ _ _ _ _) rfl ak)
  refine(@aW _ _ _ _ _ _ ?_ ?_)
  ·refine(@AB _ _ _ _ _ _ _ 1000000 (λh1 h2=>yu PassesOwn.never h1 h2) ?_ ?_)
   ·exact(@mv _ _ _ _ (@bh _ _ _ _ (pv 8)) (by intro _; rfl))
   ·refine(@aW _ _ _ _ _ _ ?_ ?_)
    ·exact(@bZ _ _ _ _ _ _ ([]) (8) _ ay gG.nd rfl ak (@ll _ _ _ _ _) rfl ak)
    refine(@bY _ _ _ _ ?_);refine(@gM _ _ _ _ _ _ _ _ _ PassesOwn.never rfl ?_ ?_ ?_ (by intro _; rfl))
    ·exact(@eL _ _ _ _ _ (MO rfl rfl T.oy (@bM _ _ _ _ (pv 5))))
    ·exact(@kz _ _ _ _ _ _ _ rfl (@eW _ _ _ _ _ _ (@cR _ _ _ ([]) (6) _ ay gG.nd rfl ak ak) (@eW _ _ _ _ _ _ (@cR _ _ _ ([]) (7) _ ay gG.nd rfl ak ak) (@ku _ _) (by rfl)) (by rfl)) (by rfl) (by rfl))
    ·refine(@bY _ _ _ _ ?_);refine(@iB _ _ _ _ _ _ _ _ _ ?_ ?_ ?_)
     ·exact(@rN _ _ _ _ _ (@mv _ _ _ _ (@bQ _ _ _ _ _ _ _ _ _ (sN hq) sO (pv 5) (@aR _ _ _ _ (@eU _ _ _ _ _ _ (@bS _ _ _ _ _ _ (@bh _ _ _ _ (pv 6)) (@bS _ _ _ _ _ _ (@bh _ _ _ _ (pv 7)) (@de _ _) (by rfl)) (by rfl)) (by decide))) (λ_ _=>rfl)) (by intro _; rfl)))
     ·refine(@bY _ _ _ _ ?_);refine(@iB _ _ _ _ _ _ _ _ _ ?_ ?_ ?_)
      ·exact(@mv _ _ _ _ (@IC _ _ _ _ _ _ rfl rfl T.qd (@aR _ _ _ _ (@jy _ _ ([9]) _ _ _ _ _ _ _ _ _ _ rfl (@gy _ _ _ rfl rfl) (Ni rfl T.qg (@bQ _ _ _ _ _ _ _ _ _ (jB hq) jA (pv 3) (@bM _ _ _ _ (pv 6)) (λ_ _=>rfl)) (@bQ _ _ _ _ _ _ _ _ _ (jB hq) jA (pv 3) (@bM _ _ _ _ (pv 7)) (λ_ _=>rfl))) (λl s0 H0 ex=>(@fW _ _ _ _ ([]) (9) _ ay gG.nd rfl ak ak (by decide))) (λl s0 H0 ex=>(@g_ _ _)) (λl s0 H0 ex=>(@bQ _ _ _ _ _ _ _ _ _ (sN hq) sO (pv 5) (@bM _ _ _ _ (pv 9)) (λ_ _=>rfl))) (gw ay rfl) (by intro _; rfl))) (by rfl)) (by intro _; rfl))
      ·refine(@aW _ _ _ _ _ _ ?_ ?_)
       ·exact(v9 hq (pv 5) (@eU _ _ _ _ _ _ (@bS _ _ _ _ _ _ (@bh _ _ _ _ (pv 6)) (@bS _ _ _ _ _ _ (@bh _ _ _ _ (pv 7)) (@de _ _) (by rfl)) (by rfl)) (by decide)) (@ll _ _ _ _ _))
       refine(@bY _ _ _ _ ?_);exact(@bZ _ _ _ _ _ _ ([]) (8) _ ay gG.nd rfl ak (@ll _ _ _ _ _) rfl ak)
      ·exact iA
     ·exact iA
  refine(@bY _ _ _ _ ?_);exact(@Bt _ _ _ _ _ _ ay (pv 5))) λss y h=>gN h
def xk:DS:=(ar (au (aK f_ (aj 1)) (ae [] 2)) (ar (au (eD (.int 0)) (ae [] 3)) (ef (aS (eD (.bl true))) (ar (au gP (ae [] 4)) (ar (au gP (ae [] 5)) (ar (cf (aY (ah aw 0 (aq (eD (.int 2))))) (cB 2 (bB (ae [] 6) (bB (ae [] 7) cH))) (ar (au (bI (az (ah iO 2 (aj 6)) (az (aK cp (aq (bU [9] (aY (aK (dC []) (aj 7))) (ae [] 9) bq (ah iO 2 (aj 9))))) aP))) (ae [] 8)) (iM 5 (af 6) (oi 4 (af 8) (aK ic (aj 4)))))) (ar (dQ (aS (bj cP (aK ic (aj 4)) (aj 3))) (kF [] 5) d_) (ar (au (aK ic (aj 4)) (ae [] 3)) (og [] 2 5)))))) 1000000)))
def lT:DF:=di [] 10 xk
theorem N0:eY lT:=hJ
theorem jH:eS ["rule","paint","number_of","many","looks","finer","tile","block","look","part"] ["rule","paint"] (cW wO):=scc
theorem N1 {K:W4} (F:dI K "group_numbers" "group_numbers" wO f fd) (hm:mg "group_numbers" = some (.ref f)) (hb:Binds K fd ["rule","paint"] []) (T:Txt K mg):bW P w K mg base 1 "group_numbers" 2 lT :=
 iF (np:=[]) (fb:=xk) F hm hb jH (λc bR A outer s H E hr ay=>by
  have hq:=hV hr;refine(@aW _ _ _ _ _ _ ?_ ?_)
  ·exact(@bZ _ _ _ _ _ _ ([]) (2) _ ay jH.nd rfl ak (@vq _ _ _ _ _ _ rfl rfl T.mJ (@bM _ _ _ _ (pv 1)) (by rfl)) rfl ak)
  refine(@aW _ _ _ _ _ _ ?_ ?_)
  ·exact(@bZ _ _ _ _ _ _ ([]) (3) _ ay jH.nd rfl ak (@aV _ _ _ _ _) rfl ak)
  refine(@bY _ _ _ _ ?_);refine(@AB _ _ _ _ _ _ _ 1000000 (λh1 h2=>yu PassesOwn.never h1 h2) ?_ ?_)
  ·exact(@mv _ _ _ _ (@ll _ _ _ _ _) (by intro _; rfl))
  ·refine(@aW _ _ _ _ _ _ ?_ ?_)
   ·exact(@bZ _ _ _ _ _ _ ([]) (4) _ ay jH.nd rfl ak sP rfl ak)
   refine(@aW _ _ _ _ _ _ ?_ ?_)
   ·exact(@bZ _ _ _ _ _ _ ([]) (5) _ ay jH.nd rfl ak sP rfl ak)
   refine(@aW _ _ _ _ _ _ ?_ ?_)
   ·refine(@gM _ _ _ _ _ _ _ _ _ PassesOwn.never rfl ?_ ?_ ?_ (by intro _; rfl))
    ·exact(@eL _ _ _ _ _ (@bQ _ _ _ _ _ _ _ _ _ ck cm (pv 0) (@aR _ _ _ _ (@aV _ _ _ _ _)) (λ_ _=>rfl)))
    ·exact(@kz _ _ _ _ _ _ _ rfl (@eW _ _ _ _ _ _ (@cR _ _ _ ([]) (6) _ ay jH.nd rfl ak ak) (@eW _ _ _ _ _ _ (@cR _ _ _ ([]) (7) _ ay jH.nd rfl ak ak) (@ku _ _) (by rfl)) (by rfl)) (by rfl) (by rfl))
    ·refine(@aW _ _ _ _ _ _ ?_ ?_)
     ·exact(@bZ _ _ _ _ _ _ ([]) (8) _ ay jH.nd rfl ak (@eU _ _ _ _ _ _ (@bS _ _ _ _ _ _ (@bQ _ _ _ _ _ _ _ _ _ (CC hq) CD (pv 2) (@bM _ _ _ _ (pv 6)) (λ_ _=>rfl)) (@bS _ _ _ _ _ _ (@lx _ _ _ _ _ _ rfl T.iP (@aR _ _ _ _ (@jy _ _ ([9]) _ _ _ _ _ _ _ _ _ _ rfl (@gy _ _ _ rfl rfl) (@eL _ _ _ _ _ (@rW _ _ _ _ _ _ _ _ _ [] (@bM _ _ _ _ (pv 7)) (by decide +kernel) (by rfl) (by rfl) (by rfl) (by rfl))) (λl s0 H0 ex=>(@fW _ _ _ _ ([]) (9) _ ay jH.nd rfl ak ak (by decide))) (λl s0 H0 ex=>(@g_ _ _)) (λl s0 H0 ex=>(@bQ _ _ _ _ _ _ _ _ _ (CC hq) CD (pv 2) (@bM _ _ _ _ (pv 9)) (λ_ _=>rfl))) (gw ay rfl) (by intro _; rfl))) (by rfl)) (@de _ _) (by rfl)) (by rfl)) (by decide)) rfl ak)
     refine(@bY _ _ _ _ ?_);exact(v9 hq (pv 5) (@bh _ _ _ _ (pv 6)) (MJ hq (pv 4) (@bh _ _ _ _ (pv 8)) (we rfl T.jf (@bM _ _ _ _ (pv 4))) ⟨rfl,rfl,rfl,rfl⟩))
   refine(@aW _ _ _ _ _ _ ?_ ?_)
   ·refine(@iB _ _ _ _ _ _ _ _ _ ?_ ?_ ?_)
    ·exact(@lq _ _ _ _ _ _ _ _ _ _ (lp hq) lu (we rfl T.jf (@bM _ _ _ _ (pv 4))) (@bM _ _ _ _ (pv 3)) (ip _))
    ·refine(@bY _ _ _ _ ?_);exact(@Bt _ _ _ _ _ _ ay (pv 5))
    ·exact iA
   refine(@aW _ _ _ _ _ _ ?_ ?_)
   ·exact(@bZ _ _ _ _ _ _ ([]) (3) _ ay jH.nd rfl ak (we rfl T.jf (@bM _ _ _ _ (pv 4))) rfl ak)
   refine(@bY _ _ _ _ ?_);exact(LY (np:=[]) (x:=2) ay jH.nd rfl ak (pv 5) rfl ak)) λss y h=>gN h
def xl:DS:=(ar (au gP (ae [] 2)) (ar (qb [] 2 3 4 (aH lT [.val (af 0),.val (af 1)])) (dD (bU [5] (pX (af 2)) (ae [] 5) bq (aK cp (aj 5))))))
def jg:DF:=di [] 6 xl
theorem N2:eY jg:=hJ
theorem qh:eS ["rule","paint","groups","tile","number","group"] ["rule","paint"] (cW wQ):=scc
theorem N3 {K:W4} (F:dI K "alike_tiles" "alike_tiles" wQ f fd) (hm:mg "alike_tiles" = some (.ref f)) (hb:Binds K fd ["rule","paint"] []) (T:Txt K mg) (xm:bW P w K mg base 1 "group_numbers" 2 lT):bW P w K mg base 2 "alike_tiles" 2 jg :=
 iF (np:=[]) (fb:=xl) F hm hb qh (λc bR A outer s H E hr ay=>by
  have hq:=hV hr;refine(@aW _ _ _ _ _ _ ?_ ?_)
  ·exact(@bZ _ _ _ _ _ _ ([]) (2) _ ay qh.nd rfl ak sP rfl ak)
  refine(@aW _ _ _ _ _ _ ?_ ?_)
  ·exact(Nu (np:=[]) (i:=2) (ia:=3) (ib:=4) ay PassesOwn.never rfl (dk (k:=1) xm N0 (hr.mono (by decide)) rfl (cw (bh (pv 0)) (cw (bh (pv 1)) dh)) rfl) (tQ rfl (qB (qA (i:=3) qh.nd rfl ak ak) (qB (qA (i:=4) qh.nd rfl ak ak) tP))) (yj (yk (qQ PySem.F.plainAttrs_list PySem.F.slot_list_append PySem.F.type_list_append ug (Ci (NC hq) (pv 2) (pv 4) (yH iq) ⟨rfl,rfl,rfl,rfl⟩) (fO (pv 3) iq)))))
  refine(@bY _ _ _ _ ?_);refine(@fF _ _ _ _ _ ?_);exact(@jy _ _ ([5]) _ _ _ _ _ _ _ _ _ _ rfl (@gy _ _ _ rfl rfl) (MX (@bh _ _ _ _ (pv 2))) (λl s0 H0 ex=>(@fW _ _ _ _ ([]) (5) _ ay qh.nd rfl ak ak (by decide))) (λl s0 H0 ex=>(@g_ _ _)) (λl s0 H0 ex=>(@lx _ _ _ _ _ _ rfl T.iP (@bM _ _ _ _ (pv 5)) (by rfl))) (gw ay rfl) (by intro _; rfl))) λss y h=>gN h
def xn:DS:=(ar (cf (aY (bj bH (cA (az (aH lR [.val (af 0),.val (eD (.int 0))]) aP)) (aq (jW 0 (g8 (eD (.int 1))) (g8 (eD (.int 5))))))) (ae [] 1) (ar (au (n4 j8 (aH j9 [.val (af 1)]) [.val (eD (.int 5))]) (cB 3 (bB (ae [] 2) (bB (ae [] 3) (bB (ae [] 4) cH))))) (ar (au (aH j_ [.val (af 2),.val (af 4)]) (ae [] 5)) (ar (au (bU [12] (aY (ah aw 2 (aq (eD (.int 2))))) (ae [] 12) bq (ah aw 12 (aq (eD (.int 0))))) (ae [] 6)) (ar (au (cA aP) (ae [] 7)) (ar (cf (aY (af 6)) (ae [] 8) (ar (au (aK cp (aq (bU [13] (aY (af 6)) (ae [] 13) (iZ (aS (ah gh 5 (aq (bI (az (af 8) (az (af 13) aP))))))) (af 13)))) (ae [] 9)) (dQ (aS (bj (oh true) (af 9) (aj 7))) (cS 7 (af 9)) d_))) (cf (fV (eD (.int 2))) (ae [] 10) (ar (au (aH jg [.val (af 2),.val (af 4)]) (ae [] 11)) (ar (dQ (mw (iZ (aS (i7 "list" (aj 11)))) (mw (aS (ah jU 11 (aj 7))) (iZ (aS (aK nE (aq (nZ [14] 11 (ae [11] 14) bq (i7 "tuple" (aj 14))))))))) (dD (eD (.bl false))) d_) (cS 11 (bI aP))))))))))) (dD (eD (.bl true))))
def oB:DF:=di [] 15 xn
theorem RU:eY oB:=hJ
theorem gR:eS ["script","cell","rule","start","paint","apart","tiles","due","tile","group","turn","found","pair","other","one"] ["script"] (cW kL):=scc
theorem N4 {K:W4} (F:dI K "law" "law" kL f fd) (T:Txt K mg) (xo:bW P w K mg base 1 "_law_cell_at" 2 lR) (xp:bW P w K mg base 5 "_law_painted_by" 2 j8) (xq:bW P w K mg base 1 "_law_pen_of" 1 j9) (xr:bW P w K mg base 1 "_law_apart" 2 j_) (xt:bW P w K mg base 2 "alike_tiles" 2 jg):jn P w K mg base jq 6 f fd ["script"] (kC 1 oB) :=
 AS (np:=[]) (fb:=xn) F gR (λc bR A outer s H E hr ay=>by
  have hq:=hV hr;refine(@aW _ _ _ _ _ _ ?_ ?_)
  ·refine(@gM _ _ _ _ _ _ _ _ _ PassesOwn.never rfl ?_ ?_ ?_ (by intro _; rfl))
   ·exact(@eL _ _ _ _ _ (@dZ _ _ _ _ _ _ _ _ _ _ fB fD (@ju _ _ _ _ _ (@bS _ _ _ _ _ _ (@dk _ _ _ _ _ (1) _ _ _ _ _ xo ND (hr.mono (by decide)) rfl (@cw _ _ _ _ _ _ (@bh _ _ _ _ (pv 0)) (@cw _ _ _ _ _ _ (@aV _ _ _ _ _) (@dh _ _) (by rfl)) (by rfl)) rfl (by decide) (by rfl) (by rfl)) (@de _ _) (by rfl)) (by decide)) (@aR _ _ _ _ (@rV _ _ _ _ _ _ _ _ _ _ (pv 0) (@nK _ _ _ _ (@aV _ _ _ _ _)) (@nK _ _ _ _ (@aV _ _ _ _ _))))))
   ·exact(@cR _ _ _ ([]) (1) _ ay gR.nd rfl ak ak)
   ·refine(@aW _ _ _ _ _ _ ?_ ?_)
    ·refine(@nL _ _ _ _ _ _ _ ?_ ?_ (by rfl) (by rfl) (by rfl))
     ·exact(@Lk _ _ _ _ _ _ (5) _ _ _ _ _ xp NU (hr.mono (by decide)) rfl (@dk _ _ _ _ _ (1) _ _ _ _ _ xq NW (hr.mono (by decide)) rfl (@cw _ _ _ _ _ _ (@bh _ _ _ _ (pv 1)) (@dh _ _) (by rfl)) rfl (by decide) (by rfl) (by rfl)) (λ_=>(@cw _ _ _ _ _ _ (@aV _ _ _ _ _) (@dh _ _) (by rfl))) rfl (by decide) (by rfl) (by rfl))
     ·exact(@kz _ _ _ _ _ _ _ rfl (@eW _ _ _ _ _ _ (@cR _ _ _ ([]) (2) _ ay gR.nd rfl ak ak) (@eW _ _ _ _ _ _ (@cR _ _ _ ([]) (3) _ ay gR.nd rfl ak ak) (@eW _ _ _ _ _ _ (@cR _ _ _ ([]) (4) _ ay gR.nd rfl ak ak) (@ku _ _) (by rfl)) (by rfl)) (by rfl)) (by rfl) (by rfl))
    refine(@aW _ _ _ _ _ _ ?_ ?_)
    ·exact(@bZ _ _ _ _ _ _ ([]) (5) _ ay gR.nd rfl ak (@dk _ _ _ _ _ (1) _ _ _ _ _ xr NY (hr.mono (by decide)) rfl (@cw _ _ _ _ _ _ (@bh _ _ _ _ (pv 2)) (@cw _ _ _ _ _ _ (@bh _ _ _ _ (pv 4)) (@dh _ _) (by rfl)) (by rfl)) rfl (by decide) (by rfl) (by rfl)) rfl ak)
    refine(@aW _ _ _ _ _ _ ?_ ?_)
    ·exact(@r9 _ _ ([12]) _ _ _ _ _ _ _ _ _ _ ([]) (6) _ _ _ ay rfl (@gy _ _ _ rfl rfl) gR.nd rfl rfl (@eL _ _ _ _ _ (@bQ _ _ _ _ _ _ _ _ _ ck cm (pv 2) (@aR _ _ _ _ (@aV _ _ _ _ _)) (λ_ _=>rfl))) (λl s0 H0 ex=>(@fW _ _ _ _ ([]) (12) _ ay gR.nd rfl ak ak (by decide))) (λl s0 H0 ex=>(@g_ _ _)) (λl s0 H0 ex=>(@bQ _ _ _ _ _ _ _ _ _ ck cm (pv 12) (@aR _ _ _ _ (@aV _ _ _ _ _)) (λ_ _=>rfl))) (gw ay rfl) (by rfl) (by intro _; rfl))
    refine(@aW _ _ _ _ _ _ ?_ ?_)
    ·exact(@bZ _ _ _ _ _ _ ([]) (7) _ ay gR.nd rfl ak (@ju _ _ _ _ _ (@de _ _) (by decide)) rfl ak)
    refine(@aW _ _ _ _ _ _ ?_ ?_)
    ·refine(@gM _ _ _ _ _ _ _ _ _ PassesOwn.never rfl ?_ ?_ ?_ (by intro _; rfl))
     ·exact(@eL _ _ _ _ _ (@bh _ _ _ _ (pv 6)))
     ·exact(@cR _ _ _ ([]) (8) _ ay gR.nd rfl ak ak)
     ·refine(@aW _ _ _ _ _ _ ?_ ?_)
      ·exact(@bZ _ _ _ _ _ _ ([]) (9) _ ay gR.nd rfl ak (@lx _ _ _ _ _ _ rfl T.iP (@aR _ _ _ _ (@jy _ _ ([13]) _ _ _ _ _ _ _ _ _ _ rfl (@gy _ _ _ rfl rfl) (@eL _ _ _ _ _ (@bh _ _ _ _ (pv 6))) (λl s0 H0 ex=>(@fW _ _ _ _ ([]) (13) _ ay gR.nd rfl ak ak (by decide))) (λl s0 H0 ex=>(@AE _ _ _ _ (@rN _ _ _ _ _ (@mv _ _ _ _ (@bQ _ _ _ _ _ _ _ _ _ (sN hq) sO (pv 5) (@aR _ _ _ _ (@eU _ _ _ _ _ _ (@bS _ _ _ _ _ _ (@bh _ _ _ _ (pv 8)) (@bS _ _ _ _ _ _ (@bh _ _ _ _ (pv 13)) (@de _ _) (by rfl)) (by rfl)) (by decide))) (λ_ _=>rfl)) (by intro _; rfl))))) (λl s0 H0 ex=>(@bh _ _ _ _ (pv 13))) (gw ay rfl) (by intro _; rfl))) (by rfl)) rfl ak)
      refine(@bY _ _ _ _ ?_);refine(@iB _ _ _ _ _ _ _ _ _ ?_ ?_ ?_)
      ·exact(@lq _ _ _ _ _ _ _ _ _ _ (L0 hq) (L1 true) (@bh _ _ _ _ (pv 9)) (@bM _ _ _ _ (pv 7)) rfl)
      ·refine(@bY _ _ _ _ ?_);exact(@nW _ _ _ _ _ _ _ _ _ (pv 7) (@bh _ _ _ _ (pv 9)) (by rfl) (by rfl) (by rfl) (by rfl) (by rfl))
      ·exact iA
    refine(@bY _ _ _ _ ?_);refine(@gM _ _ _ _ _ _ _ _ _ PassesOwn.never rfl ?_ ?_ ?_ (by intro _; rfl))
    ·exact(@nP _ _ _ _ _ _ _ rfl T.j7 (@aV _ _ _ _ _) (by rfl))
    ·exact(@cR _ _ _ ([]) (10) _ ay gR.nd rfl ak ak)
    ·refine(@aW _ _ _ _ _ _ ?_ ?_)
     ·exact(@bZ _ _ _ _ _ _ ([]) (11) _ ay gR.nd rfl ak (@dk _ _ _ _ _ (2) _ _ _ _ _ xt N2 (hr.mono (by decide)) rfl (@cw _ _ _ _ _ _ (@bh _ _ _ _ (pv 2)) (@cw _ _ _ _ _ _ (@bh _ _ _ _ (pv 4)) (@dh _ _) (by rfl)) (by rfl)) rfl (by decide) (by rfl) (by rfl)) rfl ak)
     refine(@aW _ _ _ _ _ _ ?_ ?_)
     ·refine(@iB _ _ _ _ _ _ _ _ _ ?_ ?_ ?_)
      ·exact(@Aa _ _ _ _ (@z_ _ _ _ _ _ _ _ _ (@rN _ _ _ _ _ (@mv _ _ _ _ (@An _ _ _ _ _ _ _ _ _ T.ty_list rfl T.ox rfl T.oy boot_list (@bM _ _ _ _ (pv 11)) (by decide) (by decide) (by rfl) (by rfl)) (by intro _; rfl))) (@z_ _ _ _ _ _ _ _ _ (@pA _ _ _ _ _ _ _ _ _ _ (zS hq) Ae (pv 11) (@bM _ _ _ _ (pv 7)) (ip _)) (@Ib _ _ _ _ _ (@rN _ _ _ _ _ (@mv _ _ _ _ (@IB _ _ _ _ _ _ rfl rfl T.qc (@aR _ _ _ _ (@Lc _ _ ([14]) _ _ _ _ _ _ _ _ _ _ rfl (@gy _ _ _ rfl rfl) (pv 11) (λa l s0 H0 ex=>(@fW _ _ _ _ ([11]) (14) _ (Np.cC ay) gR.nd rfl ak ak (by decide))) (λa l s0 H0 ex=>(@g_ _ _)) (λa l s0 H0 ex=>(@An _ _ _ _ _ _ _ _ _ T.ty_tuple rfl T.ox rfl T.iP boot_tuple (@bM _ _ _ _ (pv 14)) (by decide) (by decide) (by rfl) (by rfl))) (gw ay rfl) (by decide) (by intro _; rfl))) (by rfl)) (by intro _; rfl)))))))
      ·refine(@bY _ _ _ _ ?_);refine(@fF _ _ _ _ _ ?_);exact(@ll _ _ _ _ _)
      ·exact iA
     refine(@bY _ _ _ _ ?_);exact(@nW _ _ _ _ _ _ _ _ _ (pv 11) (@eU _ _ _ _ _ _ (@de _ _) (by decide)) (by rfl) (by rfl) (by rfl) (by rfl) (by rfl))
  refine(@bY _ _ _ _ ?_);refine(@fF _ _ _ _ _ ?_);exact(@ll _ _ _ _ _)) λss y h=>gN h
theorem all_mk {l:PySem.W.OpenLaw} {w:Wr} {K:W4} {h:Heap} {mg:Str->Option Value} {fa:Addr} (X:K.In h) (G:h.Ns WH mg) (N5:mg "law" = some (.ref fa))
  (d0:h_ K "_law_cell_at" wB)
  (d1:h_ K "_law_next" wC)
  (d2:h_ K "_law_draw" wD)
  (d3:h_ K "_law_sizes_by" wF)
  (d4:h_ K "_law_pick" wH)
  (d5:h_ K "_law_rule_by" wI)
  (d6:h_ K "_law_stilled" wJ)
  (d7:h_ K "_law_doubled" wK)
  (d8:h_ K "_law_painted_by" wL)
  (d9:h_ K "_law_pen_of" wM)
  (xu:h_ K "_law_apart" wN)
  (xw:h_ K "group_numbers" wO)
  (xx:h_ K "alike_tiles" wQ)
  (xy:nsIn K WH "law" = some (some (.ref f13)))
  (xA:K.lookup f13=some ⟨oc13,od13,.func (QR "law" "law" (lg kL) (jo kL) (cW kL) .none kV13 dc13 pm13 an13 cd13 ct13),sl13⟩)
  (xB:codeIn K cd13 "law" = true)
  (xC:keepIn K (.ref f13)=true)
  (qc:nsIn K WH "all" = some none)
  (qd:nsIn K WH "any" = some none)
  (mJ:nsIn K WH "dict" = some none)
  (qe:nsIn K WH "int" = some none)
  (ox:nsIn K WH "isinstance" = some none)
  (jf:nsIn K WH "len" = some none)
  (oy:nsIn K WH "list" = some none)
  (qf:nsIn K WH "max" = some none)
  (j7:nsIn K WH "range" = some none)
  (oz:nsIn K WH "sorted" = some none)
  (iP:nsIn K WH "tuple" = some none)
  (qg:nsIn K WH "zip" = some none)
  : ∃ fd:Ql,(∀ (s:W2) (v:Value),BindsTo s fd ⟨[v],[]⟩ [("script",v)])/\∀ base:Heap,K.In base->base.Ns WH mg->jn l.prog w K mg base jq 6 fa fd ["script"] (kC 1 oB):=by
 have e:=N5.symm.trans (mg_of X G xy)
 cases e;have T:Txt K mg:=⟨WZ X G qc,WZ X G qd,WZ X G mJ,WZ X G qe,WZ X G ox,WZ X G jf,WZ X G oy,WZ X G qf,WZ X G j7,WZ X G oz,WZ X G iP,WZ X G qg,Ky,Kx⟩
 obtain⟨f0,fd0,F0,m0⟩:=iJ X G d0;obtain⟨f1,fd1,F1,m1⟩:=iJ X G d1;obtain⟨f2,fd2,F2,m2⟩:=iJ X G d2;obtain⟨f3,fd3,F3,m3⟩:=iJ X G d3;obtain⟨f4,fd4,F4,m4⟩:=iJ X G d4;obtain⟨f5,fd5,F5,m5⟩:=iJ X G d5;obtain⟨f6,fd6,F6,m6⟩:=iJ X G d6;obtain⟨f7,fd7,F7,m7⟩:=iJ X G d7;obtain⟨f8,fd8,F8,m8⟩:=iJ X G d8;obtain⟨f9,fd9,F9,m9⟩:=iJ X G d9;obtain⟨f10,fd10,F10,m10⟩:=iJ X G xu;obtain⟨f11,fd11,F11,m11⟩:=iJ X G xw;obtain⟨f12,fd12,F12,m12⟩:=iJ X G xx;have N6:=zq (st:=kL) xA xB xC;refine⟨QR "law" "law" (lg kL) (jo kL) (cW kL) .none kV13 dc13 pm13 an13 cd13 ct13,λs v=>.of_eq rfl,λbase _ _=>?_⟩;have xo:bW l.prog w K mg base 1 "_law_cell_at" 2 lR:=NG F0 m0 (kH F0 λ_ _ _ _ _ _ _ _=>rfl) T;have tf:bW l.prog w K mg base 1 "_law_next" 1 lS:=NH F1 m1 (vD F1 λ_ _ _ _ _ _ _=>rfl) T;have dG:bW l.prog w K mg base 2 "_law_draw" 2 dS:=NI F2 m2 (kH F2 λ_ _ _ _ _ _ _ _=>rfl) T tf;have wZ:bW l.prog w K mg base 3 "_law_sizes_by" 1 mK:=NL F3 m3 (vD F3 λ_ _ _ _ _ _ _=>rfl) T dG;have w4:bW l.prog w K mg base 3 "_law_pick" 4 iQ:=NO F4 m4 (Ln F4 λ_ _ _ _ _ _ _ _ _ _=>rfl) T dG;have xg:bW l.prog w K mg base 4 "_law_rule_by" 2 mL:=NQ F5 m5 (kH F5 λ_ _ _ _ _ _ _ _=>rfl) T dG wZ w4;have tj:bW l.prog w K mg base 1 "_law_stilled" 2 mM:=NR F6 m6 (kH F6 λ_ _ _ _ _ _ _ _=>rfl) T;have xh:bW l.prog w K mg base 3 "_law_doubled" 2 mO:=NT F7 m7 (kH F7 λ_ _ _ _ _ _ _ _=>rfl) T dG;have xp:bW l.prog w K mg base 5 "_law_painted_by" 2 j8:=NV F8 m8 (kH F8 λ_ _ _ _ _ _ _ _=>rfl) T dG xg tj xh;have xq:bW l.prog w K mg base 1 "_law_pen_of" 1 j9:=NX F9 m9 (vD F9 λ_ _ _ _ _ _ _=>rfl) T;have xr:bW l.prog w K mg base 1 "_law_apart" 2 j_:=NZ F10 m10 (kH F10 λ_ _ _ _ _ _ _ _=>rfl) T;have xm:bW l.prog w K mg base 1 "group_numbers" 2 lT:=N1 F11 m11 (kH F11 λ_ _ _ _ _ _ _ _=>rfl) T;have xt:bW l.prog w K mg base 2 "alike_tiles" 2 jg:=N3 F12 m12 (kH F12 λ_ _ _ _ _ _ _ _=>rfl) T xm;exact N4 N6 T xo xp xq xr xt
section
variable {α:Type} [DecidableEq α]
def bO:List α->List α->List α
 | L,[]=>L
 | L,k :: r=>bO (if k ∈ L then L else L ++ [k]) r
theorem xD:∀ (l L:List α),∃ s,bO L l=L ++ s
 | [],L=>⟨[],by simp[bO]⟩
 | k :: r,L=>by
  unfold bO;by_cases h:k ∈ L
  ·rw[if_pos h]; exact xD r L
  ·rw[if_neg h];obtain⟨s,e⟩:=xD r (L ++ [k]);exact⟨k :: s,by rw[e]; simp⟩
theorem qj{x:α}:∀ (l L:List α),x ∈ bO L l ↔ x ∈ L\/x ∈ l
 | [],L=>by simp[bO]
 | k :: r,L=>by
  unfold bO;rw[qj r];by_cases h:k ∈ L
  ·rw[if_pos h];simp only[Wo];constructor
   ·rintro (a | a)
    ·exact .inl a
    ·exact .inr (.inr a)
   ·rintro (a | a | a)
    ·exact .inl a
    ·subst a; exact .inl h
    ·exact .inr a
  ·rw[if_neg h];simp only[List.mem_append,Wo,List.not_mem_nil,or_false];constructor
   ·rintro ((a | a) | a)
    ·exact .inl a
    ·exact .inr (.inl a)
    ·exact .inr (.inr a)
   ·rintro (a | a | a)
    ·exact .inl (.inl a)
    ·exact .inl (.inr a)
    ·exact .inr a
theorem CK:∀ (l L:List α),L.Nodup->(bO L l).Nodup
 | [],L,h=>h
 | k :: r,L,h=>by
  unfold bO;refine CK r _ ?_;split
  ·exact h
  ·rename_i q;exact JU.mpr ⟨h,by simp,λa ha b hb e=>q (by rw[<- show b=k by simpa using hb,<- e]; exact ha)⟩
theorem tm:∀ (l L:List α),(bO L l).length<=L.length + l.length
 | [],L=>by simp[bO]
 | k :: r,L=>by
  unfold bO;have:=tm r (if k ∈ L then L else L ++ [k]);refine Qo this ?_;split <;> simp <;> omega
theorem xE:∀ {l ts:List α},l.Nodup->(∀ x ∈ l,x ∈ ts)->l.length<=ts.length
 | [],_,_,_=>Qc _
 | a :: r,ts,nd,h=>by
  obtain⟨n1,n2⟩:=WL.mp nd;have ha:=h a We;have:=xE (l:=r) (ts:=ts.erase a) n2 λx hx=>by
   have:x≠a:=λe=>n1 (by rw[<- e]; exact hx)
   exact(List.mem_erase_of_ne this).mpr (h x (Wc _ hx))
  rw[List.length_erase_of_mem ha] at this;have:=List.length_pos_of_mem ha;simp;omega
theorem CL:∀ {S l:List α},S.Nodup->(∀ x ∈ S,x ∈ l)->l.length<=S.length->l.Nodup
 | [],l,_,_,h=>by
  have:l=[]:=List.length_eq_zero_iff.mp (by simpa using h);subst this;exact List.nodup_nil
 | a :: S,l,nd,hs,hl=>by
  obtain⟨n1,n2⟩:=WL.mp nd;have ha:=hs a We;have hle:(l.erase a).length<=S.length:=by
   rw[List.length_erase_of_mem ha];simp at hl;omega
  have ot:∀ x ∈ S,x ∈ l.erase a:=λx hx=>(List.mem_erase_of_ne λe=>n1 (by rw[<- e]; exact hx)).mpr (hs x (Wc _ hx))
  have ih:=CL n2 ot hle;have N7:a ∉ l.erase a:=λh=>by
   have:=xE (l:=a :: S) (ts:=l.erase a) nd λx hx=>by
    rcases Wo.mp hx with e | hx
    ·rw[e]; exact h
    ·exact ot x hx
   simp at this;omega
  exact((List.perm_cons_erase ha).nodup_iff).mpr (WL.mpr ⟨N7,ih⟩)
end
section
variable {β:Type} [BEq β] [LawfulBEq β]
theorem N8{L s:List β}{k:β}(h:k ∈ L):(L ++ s).idxOf k=L.idxOf k:=by rw[List.idxOf_append,if_pos h]
theorem N9{L:List β}{a b:β}(ha:a ∈ L)(hb:b ∈ L)(e:L.idxOf a=L.idxOf b):a=b:=by
 have h1:=List.getElem_idxOf (List.idxOf_lt_length_of_mem ha);have h2:=List.getElem_idxOf (List.idxOf_lt_length_of_mem hb);rw[<- h1,<- h2];congr 1
end
section
variable (ts:List Nat) (tx:Nat->List Nat)
def lk(v:Nat->Nat)(t:Nat):Nat×List Nat:=(v t,(tx t).map v)
def fq(v:Nat->Nat):List (Nat×List Nat):=bO [] (ts.map (lk tx v))
def fK(v:Nat->Nat)(t:Nat):Nat:=(fq ts tx v).idxOf (lk tx v t)
def nums(sg:Nat->Nat):Nat->Nat->Nat
 | 0=>sg
 | k + 1=>fK ts tx (nums sg k)
def many(sg:Nat->Nat):Nat->Nat
 | 0=>0
 | k + 1=>(fq ts tx (nums ts tx sg k)).length
variable {ts tx}
theorem oC{v:Nat->Nat}{t:Nat}(h:t ∈ ts):lk tx v t ∈ fq ts tx v:=(qj _ _).mpr (.inr (Wy h))
theorem qk{v:Nat->Nat}{t u:Nat}(ht:t ∈ ts)(hu:u ∈ ts):fK ts tx v t=fK ts tx v u ↔ lk tx v t=lk tx v u :=
 ⟨λe=>N9 (oC ht) (oC hu) e,λe=>by unfold fK; rw[e]⟩
theorem N_(sg:Nat->Nat):∀ k,many ts tx sg k<=ts.length
 | 0=>Qc _
 | k + 1=>by
  have:=tm (ts.map (lk tx (nums ts tx sg k))) [];simpa[many,fq] using this
theorem CM{v:Nat->Nat}:∀ j ∈ Q9 (fq ts tx v).length,j ∈ (fq ts tx (fK ts tx v)).map (·.1):=λj hj=>by
 have hj:=List.mem_range.mp hj;have hm:(fq ts tx v)[j] ∈ fq ts tx v:=J4 hj;have pT:=hm;unfold fq at pT;rw[qj] at pT;rcases pT with h | h
 ·simp at h
 ·obtain⟨t,ht,e⟩:=Wz.mp h;have hs:fK ts tx v t=j:=by
   unfold fK;rw[e];exact(CK _ _ List.nodup_nil).idxOf_getElem j hj
  exact Wz.mpr ⟨lk tx (fK ts tx v) t,oC ht,hs⟩
theorem Oa(sg:Nat->Nat):∀ k,many ts tx sg k<=many ts tx sg (k + 1)
 | 0=>Qc _
 | k + 1=>by
  have h:=xE List.nodup_range (CM (ts:=ts) (tx:=tx) (v:=nums ts tx sg k));rw[Js,Wi] at h;exact h
structure Res(ts:List Nat)(tx:Nat->List Nat)(sg c:Nat->Nat):Prop where
 same:∀ t ∈ ts,∀ u ∈ ts,c t=c u->sg t=sg u
 Ob:∀ t ∈ ts,∀ u ∈ ts,c t=c u->(tx t).map c=(tx u).map c
 max:∀ N:Nat->Nat->Prop,(∀ t ∈ ts,∀ u ∈ ts,N t u->sg t=sg u/\(tx t).length=(tx u).length/\∀ (k:Nat) p q,(tx t)[k]? = some p->(tx u)[k]? = some q->N p q)->∀ t ∈ ts,∀ u ∈ ts,N t u->c t=c u
theorem CN{v:Nat->Nat}{a b:List Nat}(hl:a.length=b.length)(h:∀ (k:Nat) p q,a[k]? = some p->b[k]? = some q->v p=v q):a.map v=b.map v:=by
 refine List.ext_getElem? λk=>?_
 rw[Wl,Wl];by_cases hk:k < a.length
 ·rw[W6 hk,W6 (by omega)];simp only[WI,Wb];exact h k _ _ (W6 hk) (W6 (by omega))
 ·rw[Q1 (by omega),Q1 (by omega)]
theorem CO(sg:Nat->Nat):∀ k,∀ t ∈ ts,∀ u ∈ ts,nums ts tx sg k t=nums ts tx sg k u->sg t=sg u
 | 0,t,_,u,_,e=>e
 | k + 1,t,ht,u,hu,e=>CO sg k t ht u hu (congrArg Prod.fst ((qk ht hu).mp e))
theorem xF(eQ:∀ t ∈ ts,∀ p ∈ tx t,p ∈ ts)(sg:Nat->Nat)(N:Nat->Nat->Prop)(hN:∀ t ∈ ts,∀ u ∈ ts,N t u->sg t=sg u/\(tx t).length=(tx u).length/\∀ (k:Nat) p q,(tx t)[k]? = some p->(tx u)[k]? = some q->N p q):∀ k,∀ t ∈ ts,∀ u ∈ ts,N t u->nums ts tx sg k t=nums ts tx sg k u
 | 0,t,ht,u,hu,h=>(hN t ht u hu h).1
 | k + 1,t,ht,u,hu,h=>by
  refine(qk ht hu).mpr ?_;unfold lk;rw[xF eQ sg N hN k t ht u hu h];congr 1
  refine CN (hN t ht u hu h).2.1 λj p q h1 h2=>?_
  exact xF eQ sg N hN k p (eQ t ht p (Wh h1)) q (eQ u hu q (Wh h2)) ((hN t ht u hu h).2.2 j p q h1 h2)
theorem Oc(eQ:∀ t ∈ ts,∀ p ∈ tx t,p ∈ ts)(h0:0 < ts.length)(sg:Nat->Nat)(k:Nat)(e:(fq ts tx (nums ts tx sg k)).length=many ts tx sg k):Res ts tx sg (fK ts tx (nums ts tx sg k)):=by
 cases k with
 | zero =>
  exfalso
  have:(fq ts tx sg).length=0:=e;obtain⟨t,ht⟩:=List.exists_mem_of_length_pos h0;have:=List.length_pos_of_mem (oC (tx:=tx) (v:=sg) ht);omega
 | succ k =>
  have nd:((fq ts tx (nums ts tx sg (k + 1))).map (·.1)).Nodup:=CL List.nodup_range (CM (ts:=ts) (tx:=tx) (v:=nums ts tx sg k)) (by
   rw[Wi,Js];exact Nat.le_of_eq e)
  have st:∀ t ∈ ts,∀ u ∈ ts,nums ts tx sg (k + 1) t=nums ts tx sg (k + 1) u->lk tx (nums ts tx sg (k + 1)) t=lk tx (nums ts tx sg (k + 1)) u:=λt ht u hu h=>by
   obtain⟨i,hi⟩:=WO.mp (oC (tx:=tx) (v:=nums ts tx sg (k + 1)) ht);obtain⟨j,hj⟩:=WO.mp (oC (tx:=tx) (v:=nums ts tx sg (k + 1)) hu);have:i=j:=(JT (by simpa using (W3.mp hi).1) nd).mp (by
    rw[Wl,Wl,hi,hj];simp only[WI,Wb];exact h)
   subst this;rw[hi] at hj;exact Wx hj
  refine⟨λt ht u hu h=>CO sg (k + 1) t ht u hu (congrArg Prod.fst ((qk ht hu).mp h)),λt ht u hu h=>?_,λN hN t ht u hu h=>?_⟩
  ·have e2:(tx t).map (nums ts tx sg (k + 1))=(tx u).map (nums ts tx sg (k + 1)):=congrArg Prod.snd ((qk ht hu).mp h);have hl:(tx t).length=(tx u).length:=by simpa using congrArg QH e2
   refine CN hl λj p q h1 h2=>?_
   refine(qk (eQ t ht p (Wh h1)) (eQ u hu q (Wh h2))).mpr (st p (eQ t ht p (Wh h1)) q (eQ u hu q (Wh h2)) ?_);have:=congrArg (·[j]?) e2;simp only[Wl,h1,h2,WI,Wb] at this;exact this
  ·exact xF eQ sg N hN (k + 1 + 1) t ht u hu h
end
abbrev RR:=Nat×Nat->Bool
section
variable (tx:Nat->List Nat)
def iR(R:RR)(p:Nat×Nat):Bool:=((tx p.1).zip (tx p.2)).any R
def jI(R:RR)(p:Nat×Nat):RR:=λq=>if q=p then true else R q
def cX(s:RR×Bool)(p:Nat×Nat):RR×Bool:=if s.1 p=true then s else if iR tx s.1 p=true then(jI s.1 p,true) else s
def e7(P:List (Nat×Nat))(s:RR×Bool):RR×Bool:=P.foldl (cX tx) s
variable {tx}
theorem Od{R:RR}{p q:Nat×Nat}(h:R q=true):jI R p q=true:=by
 unfold jI;split
 ·rfl
 ·exact h
theorem Oe{s:RR×Bool}{p q:Nat×Nat}(h:s.1 q=true):(cX tx s p).1 q=true:=by
 unfold cX;split
 ·exact h
 ·split
  ·exact Od h
  ·exact h
theorem xG:∀ (P:List (Nat×Nat)) (s:RR×Bool) {q:Nat×Nat},s.1 q=true->(e7 tx P s).1 q=true
 | [],_,_,h=>h
 | p :: P,s,q,h=>xG P (cX tx s p) (Oe h)
theorem CP:∀ (P:List (Nat×Nat)) (s:RR×Bool),s.2=true->(e7 tx P s).2=true
 | [],_,h=>h
 | p :: P,s,h=>CP P (cX tx s p) (by
   unfold cX;split
   ·exact h
   ·split
    ·rfl
    ·exact h)
theorem CQ:∀ (P:List (Nat×Nat)) (s:RR×Bool),(e7 tx P s).2=false->(e7 tx P s).1=s.1/\s.2=false/\∀ p ∈ P,s.1 p=false->iR tx s.1 p=false
 | [],s,h=>⟨rfl,h,λp hp=>by simp at hp⟩
 | p :: P,s,h=>by
  have ih:=CQ P (cX tx s p) h;have hs:cX tx s p=s/\(s.1 p=false->iR tx s.1 p=false):=by
   unfold cX;by_cases h1:s.1 p=true
   ·rw[if_pos h1]; exact⟨rfl,λz=>by rw[h1] at z; cases z⟩
   ·rw[if_neg h1];by_cases h2:iR tx s.1 p=true
    ·exfalso
     have:=CP (tx:=tx) P (cX tx s p) (by unfold cX; rw[if_neg h1,if_pos h2]);have h':(e7 tx P (cX tx s p)).2=false:=h;rw[this] at h'
     cases h'
    ·rw[if_neg h2]; exact⟨rfl,λ_=>JV.mpr h2⟩
  rw[hs.1] at ih;have e:e7 tx (p :: P) s=e7 tx P s:=by
   show e7 tx P (cX tx s p)=_;rw[hs.1]
  rw[e];refine⟨ih.1,ih.2.1,λq hq=>?_⟩;rcases Wo.mp hq with rfl | hq
  ·exact hs.2
  ·exact ih.2.2 q hq
theorem xH:∀ (P:List (Nat×Nat)) (s:RR×Bool),s.2=false->(e7 tx P s).2=true->∃ p ∈ P,s.1 p=false/\(e7 tx P s).1 p=true
 | [],s,h,h2=>by
  have:s.2=true:=h2;rw[h] at this
  cases this
 | p :: P,s,h,h2=>by
  by_cases h1:s.1 p=true
  ·have e:cX tx s p=s:=by unfold cX; rw[if_pos h1]
   have mj:(e7 tx P (cX tx s p)).2=true:=h2;obtain⟨q,hq,a,b⟩:=xH P (cX tx s p) (by rw[e]; exact h) mj;rw[e] at a;exact⟨q,Wc _ hq,a,b⟩
  ·by_cases h3:iR tx s.1 p=true
   ·have e:cX tx s p=(jI s.1 p,true):=by unfold cX; rw[if_neg h1,if_pos h3]
    refine⟨p,We,JV.mpr h1,xG P (cX tx s p) ?_⟩;rw[e];unfold jI;simp
   ·have e:cX tx s p=s:=by unfold cX; rw[if_neg h1,if_neg h3]
    have mj:(e7 tx P (cX tx s p)).2=true:=h2;obtain⟨q,hq,a,b⟩:=xH P (cX tx s p) (by rw[e]; exact h) mj;rw[e] at a;exact⟨q,Wc _ hq,a,b⟩
def nf(P:List (Nat×Nat))(R:RR):Nat:=(P.filter λp=>!R p).length
theorem CS{R R':RR}(h:∀ q,R q=true->R' q=true):∀ P:List (Nat×Nat),nf P R'<=nf P R
 | []=>Wk _
 | p :: P=>by
  have ih:=CS h P;unfold nf at ih ⊢;rw[QI,QI]
  cases e:R p with
  | true=>rw[h p e]; simpa using ih
  | false =>
   cases R' p
   ·simpa using ih
   ·simp; omega
theorem CT{R R':RR}(h:∀ q,R q=true->R' q=true):∀ P:List (Nat×Nat),(∃ p ∈ P,R p=false/\R' p=true)->nf P R' < nf P R
 | [],⟨p,hp,_⟩=>by simp at hp
 | p :: P,⟨q,hq,a,b⟩=>by
  have le:=CS h P;rcases Wo.mp hq with rfl | hq
  ·unfold nf at le ⊢;rw[QI,QI,a,b];simp;omega
  ·have ih:=CT h P ⟨q,hq,a,b⟩;unfold nf at ih ⊢;rw[QI,QI]
   cases e:R p with
   | true=>rw[h p e]; simpa using ih
   | false =>
    cases R' p
    ·simpa using ih
    ·simp; omega
def mP(ts:List Nat)(tx:Nat->List Nat)(sg:Nat->Nat)(R:RR):Prop:=∀ N:Nat->Nat->Prop,(∀ t ∈ ts,∀ u ∈ ts,N t u->sg t=sg u/\(tx t).length=(tx u).length/\∀ (k:Nat) p q,(tx t)[k]? = some p->(tx u)[k]? = some q->N p q)->∀ t ∈ ts,∀ u ∈ ts,N t u->R (t,u)=false
theorem CU{a b:List Nat}{p:Nat×Nat}(h:p ∈ a.zip b):∃ k:Nat,a[k]? = some p.1/\b[k]? = some p.2:=by
 obtain⟨k,hk⟩:=WO.mp h;rw[List.getElem?_zip_eq_some] at hk;exact⟨k,hk.1,hk.2⟩
theorem Of{ts:List Nat}{sg:Nat->Nat}(eQ:∀ t ∈ ts,∀ p ∈ tx t,p ∈ ts){s:RR×Bool}(h:mP ts tx sg s.1){p:Nat×Nat}(h1:p.1 ∈ ts)(h2:p.2 ∈ ts):mP ts tx sg (cX tx s p).1:=by
 unfold cX;split
 ·exact h
 ·split
  ·rename_i hz;intro N hN t ht u hu hn;show jI s.1 p (t,u)=false;unfold jI;split
   ·rename_i e;exfalso
    obtain⟨q,hq,hr⟩:=List.any_eq_true.mp hz;obtain⟨k,k1,k2⟩:=CU hq;have e1:p.1=t:=by rw[<- e]
    have e2:p.2=u:=by rw[<- e]
    rw[e1] at k1;rw[e2] at k2;have:=h N hN q.1 (eQ t ht _ (Wh k1)) q.2 (eQ u hu _ (Wh k2)) ((hN t ht u hu hn).2.2 k _ _ k1 k2);have jJ:s.1 q=true:=hr;rw[show(q.1,q.2)=q from rfl,jJ] at this
    cases this
   ·exact h N hN t ht u hu hn
  ·exact h
theorem CV{ts:List Nat}{sg:Nat->Nat}(eQ:∀ t ∈ ts,∀ p ∈ tx t,p ∈ ts):∀ (P:List (Nat×Nat)) (s:RR×Bool),(∀ p ∈ P,p.1 ∈ ts/\p.2 ∈ ts)->mP ts tx sg s.1->mP ts tx sg (e7 tx P s).1
 | [],_,_,h=>h
 | p :: P,s,hp,h=>CV eQ P (cX tx s p) (λq hq=>hp q (Wc _ hq)) (Of eQ h (hp p We).1 (hp p We).2)
theorem Og{ts:List Nat}{sg c:Nat->Nat}(eQ:∀ t ∈ ts,∀ p ∈ tx t,p ∈ ts)(hlen:∀ t ∈ ts,∀ u ∈ ts,(tx t).length=(tx u).length)(rs:Res ts tx sg c){R:RR}(base:∀ t ∈ ts,∀ u ∈ ts,sg t≠sg u->R (t,u)=true)(closed:∀ t ∈ ts,∀ u ∈ ts,R (t,u)=false->iR tx R (t,u)=false)(snd:mP ts tx sg R) :
  ∀ t ∈ ts,∀ u ∈ ts,R (t,u) = !decide (c t=c u):=λt ht u hu=>by
 by_cases h:c t=c u
 ·rw[decide_eq_true h];refine snd (λa b=>a ∈ ts/\b ∈ ts/\c a=c b) (λa ha b hb ⟨_,_,e⟩=>⟨rs.same a ha b hb e,hlen a ha b hb,λk p q h1 h2=>⟨eQ a ha p (Wh h1),eQ b hb q (Wh h2),?_⟩⟩) t ht u hu ⟨ht,hu,h⟩;have:=congrArg (·[k]?) (rs.Ob a ha b hb e);simpa[Wl,h1,h2] using this
 ·rw[decide_eq_false h]
  cases e:R (t,u) with
  | true=>rfl
  | false =>
   exfalso
   refine h (rs.max (λa b=>a ∈ ts/\b ∈ ts/\R (a,b)=false) (λa ha b hb ⟨_,_,e⟩=>⟨?_,hlen a ha b hb,λk p q h1 h2=>⟨eQ a ha p (Wh h1),eQ b hb q (Wh h2),?_⟩⟩) t ht u hu ⟨ht,hu,e⟩)
   ·apply Classical.byContradiction;intro z;rw[base a ha b hb z] at e
    cases e
   ·have hz:=closed a ha b hb e;unfold iR at hz;rw[Jc] at hz;have:=hz (p,q) (List.mem_iff_getElem?.mpr ⟨k,by rw[List.getElem?_zip_eq_some]; exact⟨h1,h2⟩⟩);simpa using this
end
theorem xI{α:Type}[DecidableEq α](k:α):∀ (l L:List α),bO L (l ++ [k])=if k ∈ bO L l then bO L l else bO L l ++ [k]
 | [],L=>rfl
 | a :: l,L=>by
  show bO _ (l ++ [k])=_;rw[xI k l];rfl
theorem xJ{α β:Type}[DecidableEq α][DecidableEq β](F:α->β):∀ (l L:List α),(∀ a,a ∈ L\/a ∈ l->∀ b,b ∈ L\/b ∈ l->F a=F b->a=b)->bO (L.map F) (l.map F)=(bO L l).map F
 | [],_,_=>rfl
 | k :: r,L,h=>by
  have e:(F k ∈ L.map F) ↔ k ∈ L:=⟨λz=>by
   obtain⟨a,ha,e⟩:=Wz.mp z;have:=h a (.inl ha) k (.inr We) e;rw[<- this]; exact ha,λz=>Wy z⟩
  rw[Wd];unfold bO;by_cases hk:k ∈ L
  ·rw[if_pos hk,if_pos (e.mpr hk)];refine xJ F r L λa ha b hb=>h a (ha.imp id (Wc _)) b (hb.imp id (Wc _))
  ·rw[if_neg hk,if_neg (λz=>hk (e.mp z))];have:=xJ F r (L ++ [k]) λa ha b hb=>h a (by
    rcases ha with ha | ha
    ·rcases Qa.mp ha with ha | ha
     ·exact .inl ha
     ·exact .inr (by rw[show a=k by simpa using ha]; exact We)
    ·exact .inr (Wc _ ha)) b (by
    rcases hb with hb | hb
    ·rcases Qa.mp hb with hb | hb
     ·exact .inl hb
     ·exact .inr (by rw[show b=k by simpa using hb]; exact We)
    ·exact .inr (Wc _ hb))
   rw[<- this];simp
def fit(c:Nat->Nat)(l:List Nat)(z:Nat):List Nat:=l.filter λu=>decide (c u=z)
def ka(c:Nat->Nat)(l:List Nat):List (Int×List Tx):=(bO [] (l.map c)).map λz:Nat=>(((z:Nat):Int),(fit c l z).map λt=>[t])
theorem Oh(c:Nat->Nat)(l:List Nat)(t:Nat):j6 (ka c l) [t] (c t:Nat)=ka c (l ++ [t]):=by
 have ow:((ka c l).any λe=>decide (e.1=((c t:Nat):Int)))=decide (c t ∈ bO [] (l.map c)):=by
  rw[Jp];simp only[Qz,decide_eq_true_eq,ka,List.mem_map];constructor
  ·rintro ⟨e,⟨z,hz,rfl⟩,h⟩;have h':((z:Nat):Int)=((c t:Nat):Int):=h;have:z=c t:=by omega
   rw[<- this]; exact hz
  ·intro h;exact⟨_,⟨c t,h,rfl⟩,rfl⟩
 have hf:∀ z,fit c (l ++ [t]) z=fit c l z ++ (if c t=z then[t] else[]):=λz=>by
  unfold fit;rw[List.filter_append];congr 1
  by_cases h:c t=z <;> simp[h]
 unfold j6;rw[ow];unfold ka;rw[Q2,Wd,U1,xI];by_cases h:c t ∈ bO [] (l.map c)
 ·rw[decide_eq_true h,if_pos rfl,if_pos h,Wu];refine WS λz _=>?_
  simp only[Function.comp,hf];by_cases e:z=c t
  ·subst e; simp
  ·have e2:¬ ((z:Nat):Int)=((c t:Nat):Int):=λq=>e (by omega)
   rw[if_neg e2,if_neg (Ne.symm e)];simp
 ·rw[decide_eq_false h,if_neg (by simp),if_neg h,Q2];congr 1
  ·refine WS λz hz=>?_
   have e:c t≠z:=λe=>h (by rw[e]; exact hz)
   rw[hf,if_neg e,Qv]
  ·have hn:fit c l (c t)=[]:=by
    unfold fit;rw[List.filter_eq_nil_iff];intro u hu z;have:c u=c t:=by simpa using z
    exact h ((qj _ _).mpr (.inr (by rw[<- this]; exact Wy hu)))
   rw[Wd,U1,hf,hn,if_pos rfl];rfl
theorem CW(c:Nat->Nat):∀ (r l:List Nat),(r.map λt=>(([t]:Tx),((c t:Nat):Int))).foldl (λgs p=>j6 gs p.1 p.2) (ka c l)=ka c (l ++ r)
 | [],l=>by simp
 | t :: r,l=>by
  rw[Wd,J9,Oh,CW c r];simp
theorem Oi(c:Nat->Nat)(ts:List Nat):(eO (ts.map λt=>(([t]:Tx),((c t:Nat):Int)))).map (·.2)=(bO [] (ts.map λt=>fit c ts (c t))).map λg=>g.map λt=>[t]:=by
 have e:eO (ts.map λt=>(([t]:Tx),((c t:Nat):Int)))=ka c ts:=by
  have:=CW c ts [];simpa[eO,ka,bO] using this
 rw[e];have em:(ts.map λt=>fit c ts (c t))=(ts.map c).map (fit c ts):=by rw[Wu]; rfl
 have:=xJ (fit c ts) (ts.map c) [] λa ha b hb h=>by
  have ha:a ∈ ts.map c:=by simpa using ha
  obtain⟨t,ht,rfl⟩:=Wz.mp ha;have m:t ∈ fit c ts (c t):=List.mem_filter.mpr ⟨ht,by simp⟩;rw[h] at m;have:=(List.mem_filter.mp m).2;simpa using this
 rw[em,show([]:List (List Nat))=([]:List Nat).map (fit c ts) from rfl,this];unfold ka;rw[Wu,Wu];rfl
open PySem (sizeLine)
theorem e8(f:DE)(δ:Dl):aY f δ=(f δ).bind λr δ1=>match r.d with
 | .lst ds=>.ok ds δ1
 | .tup ds=>.ok ds δ1
 | .str x=>.ok (x.map λn=>.str [n]) δ1
 | _=>.stuck:=id rfl
theorem RV(neg:Bool)(fa f g:DE)(δ:Dl):KS neg fa f g δ=(fa δ).bind λv δ1=>(f δ1).bind λlo δ2=>(g δ2).bind λhi δ3=>match v.d,lo.d,hi.d with
 | .int i,.int l,.int h=>.ok (.pure (.bl (if neg then !(decide (l<=i) && decide (i < h)) else(decide (l<=i) && decide (i < h))))) δ3
 | _,_,_=>.stuck:=id rfl
theorem tu(f F:A->D)(p:A->Bool)(δ:Dl):∀ (as:List A) (acc:List D),acc.length + as.length<=W9 ->
  (∀ a ∈ as,∃ δ1 δ2 x δ3,g (.pure (f a)) δ=some δ1/\t δ1 = .ok (p a) δ2/\bD cs δ2=δ/\el δ2 = .ok x δ3/\bD cs δ3=δ/\x.d=F a)->cg cs g t el (as.map f) δ acc = .ok (acc ++ (as.filter p).map F) δ
 | [],acc,_,_=>by simp[cg]
 | a :: r,acc,hl,hs=>by
  obtain⟨δ1,δ2,x,δ3,e1,e2,e2',e3,e4,e5⟩:=hs a We;have gI:acc.length < W9:=by simp at hl; omega
  rw[Wd];unfold cg;rw[e1]
  cases hp:p a with
  | true =>
   have ih:=tu (cs:=cs) (g:=g) (t:=t) (el:=el) f F p δ r (acc ++ [x.d]) (by simp at hl ⊢; omega) (λa ha=>hs a (Wc _ ha));rw[e5] at ih;rw[hp] at e2;simp only[e2,eh,if_true,e3,if_pos gI,e4,e5,ih,QI,hp];simp
  | false =>
   have ih:=tu (cs:=cs) (g:=g) (t:=t) (el:=el) f F p δ r acc (by simp at hl ⊢; omega) (λa ha=>hs a (Wc _ ha));rw[hp] at e2;simp only[e2,eh,e2',ih,QI,hp];simp
def nx(s:Int):Int:=(((s + 7919) % 2147483647) * ((s + 7919) % 2147483647) + 48271 * ((s + 7919) % 2147483647) + 12345) % 2147483629
theorem Oj(s:Int):lS [.pure (.int s)]=some (.pure (.int (nx s)),[.pure (.int s)]):=by
 unfold lS di wU hE;have h1:=Int.emod_nonneg (s + 7919) (b:=2147483647) (by decide);have h2:=Int.emod_lt_of_pos (s + 7919) (b:=2147483647) (by decide);have c1:lr ((s + 7919) % 2147483647) ((s + 7919) % 2147483647)=true:=by unfold lr; simp; omega
 have c2:lr 48271 ((s + 7919) % 2147483647)=true:=by unfold lr; simp
 simp[cJ,cT,au,ah,bG,aj,bH,gu,fT,jz,rP,c1,c2,dw,cq];rfl
def bt(d:D):Prop:=∃ l f s:Int,d = .lst [.int l,.int f,.int s]/\0<=l
theorem oD(hp:bt d)(m:Nat)(h0:0 < m)(h1:m < 1073741824):∃ (r:Nat) (d':D),dS [.own d,.pure (.int m)]=some (.pure (.int r),[.own d',.pure (.int m)])/\r < m/\bt d':=by
 obtain⟨l,f,s,rfl,hl⟩:=hp;have hm:(0:Int) < (m:Int):=by omega
 have hd:pB l m=true:=by unfold pB; simp; omega
 unfold dS di wV hE;by_cases hf:f=1
 ·subst hf;have e1:=Int.emod_nonneg l (b:=(m:Int)) (by omega);have e2:=Int.emod_lt_of_pos l hm;refine⟨(l % (m:Int)).toNat,.lst [.int (l / m),.int 1,.int s],?_,by omega,⟨_,_,_,rfl,Int.ediv_nonneg hl (by omega)⟩⟩;simp[cJ,cT,au,ah,bG,aj,af,aw,cP,ax,flat,kI,sE,vL,aS,gu,pC,fT,h0,hd,nM,iC,putL,dw,cq,fg];omega
 ·have e1:=Int.emod_nonneg (nx (nx s + 7) / 64) (b:=(m:Int)) (by omega);have e2:=Int.emod_lt_of_pos (nx (nx s + 7) / 64) hm;refine⟨(nx (nx s + 7) / 64 % (m:Int)).toNat,.lst [.int l,.int f,.int (nx (nx s + 7))],?_,by omega,⟨_,_,_,rfl,hl⟩⟩;simp[cJ,cT,au,ah,bG,aj,af,aw,cP,ax,flat,kI,sE,vL,aS,gu,pC,fT,h0,hd,nM,iC,putL,dw,cq,fg,hf,aH,bz,bJ,cu,b_,bK,Oj,bH,bf,pB];omega
theorem Ol(c:Int):∃ d,j9 [.pure (.int c)]=some (.own d,[.pure (.int c)])/\bt d:=by
 unfold j9 di xi hE;refine⟨.lst [.int (if 0 - c > c then 0 - c else c),.int (if decide (1000000000000000000<=(if 0 - c > c then 0 - c else c)) then 1 else 0),.int ((if 0 - c > c then 0 - c else c) % 1000003)],?_,⟨_,_,_,rfl,by split <;> omega⟩⟩;simp[cJ,cT,au,ah,bG,aj,af,uY,uQ,fT,nC,Ah,i4,uS,uR,gu,dw,cq]
theorem Om(ns:List Int):∃ c:Int,lR [.pure (.lst (ns.map .int)),.pure (.int 0)]=some (.pure (.int c),[.pure (.lst (ns.map .int)),.pure (.int 0)]):=by
 unfold lR di wR hE
 cases ns with
 | nil=>exact⟨0,by simp[cJ,cT,ah,bG,aj,rQ,i4,aS,eJ,dw,cq]⟩
 | cons n r=>exact⟨n,by
   have:(0:Int) < (r.length:Int) + 1:=by omega
   simp[cJ,cT,ah,bG,aj,rQ,i4,aS,eJ,dw,cq,aw,kI,this]⟩
theorem lU(hp:bt d)(m:Nat)(i:Int)(hi:i=m)(h0:0 < m)(h1:m < 1073741824):∃ (r:Nat) (d':D),dS [.own d,.pure (.int i)]=some (.pure (.int r),[.own d',.pure (.int i)])/\r < m/\bt d':=by
 subst hi;exact oD hp m h0 h1
def bo:Tx:=[97,98,99,100,101,102,103,104,105,106,107,108,109,110,111,112,113,114,115,116,117,118,119,120,121,122]
theorem Oo(hp:bt d):∃ (h w:Nat) (d':D),mK [.own d]=some (.pure (.tup [.int h,.int w]),[.own d'])/\0 < h/\h<=4/\0 < w/\w<=4/\2 < h + w/\bt d':=by
 obtain⟨r1,d1,e1,l1,p1⟩:=lU hp 3 3 rfl (by decide) (by decide);obtain⟨r2,d2,e2,l2,p2⟩:=lU p1 3 3 rfl (by decide) (by decide);obtain⟨r3,d3,e3,l3,p3⟩:=lU p2 8 8 rfl (by decide) (by decide);obtain⟨r4,d4,e4,l4,p4⟩:=lU p3 6 6 rfl (by decide) (by decide);unfold mK di wW hE;by_cases h3:r3=0
 ·subst h3;have:r4=0\/r4=1\/r4=2\/r4=3\/r4=4\/r4=5:=by omega
  rcases this with rfl | rfl | rfl | rfl | rfl | rfl
  ·exact⟨4,1,d4,by simp[cJ,cT,au,aH,bz,cu,bJ,b_,bK,e1,e2,e3,e4,bf,bH,cP,ax,flat,aS,aw,dB,fg,cB,bB,cH,ah,bG,aj,af,dw,cq],by decide,by decide,by decide,by decide,by decide,p4⟩
  ·exact⟨1,4,d4,by simp[cJ,cT,au,aH,bz,cu,bJ,b_,bK,e1,e2,e3,e4,bf,bH,cP,ax,flat,aS,aw,dB,fg,cB,bB,cH,ah,bG,aj,af,dw,cq],by decide,by decide,by decide,by decide,by decide,p4⟩
  ·exact⟨4,4,d4,by simp[cJ,cT,au,aH,bz,cu,bJ,b_,bK,e1,e2,e3,e4,bf,bH,cP,ax,flat,aS,aw,dB,fg,cB,bB,cH,ah,bG,aj,af,dw,cq],by decide,by decide,by decide,by decide,by decide,p4⟩
  ·exact⟨4,3,d4,by simp[cJ,cT,au,aH,bz,cu,bJ,b_,bK,e1,e2,e3,e4,bf,bH,cP,ax,flat,aS,aw,dB,fg,cB,bB,cH,ah,bG,aj,af,dw,cq],by decide,by decide,by decide,by decide,by decide,p4⟩
  ·exact⟨1,2,d4,by simp[cJ,cT,au,aH,bz,cu,bJ,b_,bK,e1,e2,e3,e4,bf,bH,cP,ax,flat,aS,aw,dB,fg,cB,bB,cH,ah,bG,aj,af,dw,cq],by decide,by decide,by decide,by decide,by decide,p4⟩
  ·exact⟨2,1,d4,by simp[cJ,cT,au,aH,bz,cu,bJ,b_,bK,e1,e2,e3,e4,bf,bH,cP,ax,flat,aS,aw,dB,fg,cB,bB,cH,ah,bG,aj,af,dw,cq],by decide,by decide,by decide,by decide,by decide,p4⟩
 ·by_cases hs:r1=0/\r2=0
  ·obtain⟨rfl,rfl⟩:=hs;refine⟨1,2,d3,?_,by decide,by decide,by decide,by decide,by decide,p3⟩;simp[cJ,cT,au,aH,bz,cu,bJ,b_,bK,e1,e2,e3,bf,bH,cP,ax,flat,aS,h3,ah,bG,aj,af,dw,cq]
  ·have hn:¬ (1 + (r1:Int) + (1 + (r2:Int))=2):=by omega
   refine⟨1 + r1,1 + r2,d3,?_,by omega,by omega,by omega,by omega,by omega,p3⟩;simp[cJ,cT,au,aH,bz,cu,bJ,b_,bK,e1,e2,e3,bf,bH,cP,ax,flat,aS,h3,hn,ah,bG,aj,af,dw,cq]
theorem xK(ts:List Nat)(r:Nat)(h:r < ts.length):aw (.lst (ts.map λn=>.str [n])) (.int r)=some (.pure (.str [ts.getD r 0])):=by
 simp[aw,j0,h]
theorem Oq(hp:bt d)(ts:List Nat)(place way:Nat)(h1:place < ts.length)(h2:ts.length<=64):∃ (n:Nat) (d':D),
  iQ [.own d,.pure (.lst (ts.map λn=>.str [n])),.pure (.int place),.pure (.int way)]=some (.pure (.str [n]),[.own d',.pure (.lst (ts.map λn=>.str [n])),.pure (.int place),.pure (.int way)])/\n ∈ ts/\bt d':=by
 have mem:∀ r,r < ts.length->ts.getD r 0 ∈ ts:=λr h=>by simp[h]
 unfold iQ di wX hE;by_cases w1:way=1
 ·subst w1;obtain⟨r,d1,e1,l1,p1⟩:=lU hp (place + 1) ((place:Int) + 1) (by omega) (by omega) (by omega);refine⟨ts.getD r 0,d1,?_,mem r (by omega),p1⟩;simp[cJ,cT,ah,bG,aj,cP,ax,flat,aS,aH,bz,cu,bJ,b_,bH,bK,e1,bf,aw,j0,dw,cq,show r < ts.length by omega]
 ·by_cases w2:way=2
  ·subst w2;have hr:(place + 1) % ts.length < ts.length:=Nat.mod_lt _ (by omega);refine⟨ts.getD ((place + 1) % ts.length) 0,d,?_,mem _ hr,hp⟩;have hm:gu (.int ((place:Int) + 1)) (.int ts.length)=some (.pure (.int (((place + 1) % ts.length:Nat):Int))):=by
    simp only[gu,fT];rw[if_pos (by simp; omega)];simp
   simp[cJ,cT,ah,bG,aj,cP,ax,flat,aS,bH,eJ,hm,dw,cq];have hx:=xK ts ((place + 1) % ts.length) hr;simp at hx;simp[hx]
  ·by_cases w3:way=3
   ·subst w3;obtain⟨r,d1,e1,l1,p1⟩:=lU hp 4 4 rfl (by decide) (by decide);by_cases hr:0 < r
    ·refine⟨ts.getD place 0,d1,?_,mem place h1,p1⟩;simp[cJ,cT,ah,bG,aj,cP,ax,flat,aS,aH,bz,cu,bJ,b_,bK,e1,bf,uU,i4,hr,aw,j0,h1,dw,cq]
    ·obtain⟨r',d2,e2,l2,p2⟩:=oD p1 ts.length (by omega) (by omega);refine⟨ts.getD r' 0,d2,?_,mem r' l2,p2⟩;simp[cJ,cT,ah,bG,aj,cP,ax,flat,aS,aH,bz,cu,bJ,b_,bK,e1,bf,uU,i4,hr,eJ,e2,aw,j0,l2,dw,cq]
   ·obtain⟨r',d2,e2,l2,p2⟩:=oD hp ts.length (by omega) (by omega);refine⟨ts.getD r' 0,d2,?_,mem r' l2,p2⟩;have c1:¬ (way:Int)=1:=by omega
    have c2:¬ (way:Int)=2:=by omega
    have c3:¬ (way:Int)=3:=by omega
    simp[cJ,cT,ah,bG,aj,cP,ax,flat,aS,aH,bz,cu,bJ,b_,bK,bf,c1,c2,c3,eJ,e2,aw,j0,l2,dw,cq]
theorem Ot:∀ k,k < 26->bo.getD k 0=97 + k:=by decide
theorem Ou(xs:List Nat)(h:xs.length < 64):nF (.lst (xs.map λn=>.str [n]))=some (.own (.lst ((iK xs).map λn=>.str [n]))):=by
 have e:(xs.map λn=>D.str [n])=(xs.map λn=>[n]).map D.str:=by simp
 unfold nF;simp only[e,pU];rw[if_pos (by simpa using h),BP];simp
def jK(f n:Nat):List Nat:=(Q9 n).map λk=>97 + (f + 5 * k) % 26
theorem Ov(f n:Nat)(hn:n<=26):(jK f n).Nodup:=by
 unfold jK;rw[Qq,Ju];refine(List.pairwise_lt_range (n:=n)).imp_of_mem ?_;intro a b ha hb jt e;simp at ha hb;omega
def rb(pd:D)(m h w n f:Nat)(s7:S)(wy:Nat)(blocks:List D)(a b c:Option S):Dl :=
 [some (.own pd),some (.pure (.int m)),some (.pure (.int h)),some (.pure (.int w)),some (.pure (.int (1 + (n:Int)))),some (.pure (.int f)),some (.pure (.str bo)),some s7,some (.pure (.int wy)),some (.own (.lst blocks)),a,b,c,none,none]
def tD(ts:List Nat):D:=.lst (ts.map λn=>.str [n])
def sT(ts:List Nat)(s:S):Prop:=s = .own (tD ts)\/s = .pure (tD ts)
theorem Ow(cL:ts.length<=64)(hw:w<=4)(gU:bt pd)(h7:sT ts s7)(blocks:List D)(place:Nat)(c_:place < ts.length)(block:List D)(row:Nat) :
  ∃ (x:Tx) (bc:D) (gW:S),cg [14] (ae [0] 14) bq (aH iQ [.io 0,.val (af 7),.val (af 10),.val (af 8)]) (dE 0 w) (rb pd m h w n f s7 wy blocks (some (.pure (.int place))) (some (.own (.lst block))) (some (.pure (.int row)))) []
   = .ok (x.map λn=>.str [n]) (rb bc m h w n f gW wy blocks (some (.pure (.int place))) (some (.own (.lst block))) (some (.pure (.int row))))/\x.length=w/\(∀ n ∈ x,n ∈ ts)/\bt bc/\sT ts gW:=by
 obtain⟨xs,δ',e,⟨bc,gW,hpd',h7',rfl⟩,hn,hf⟩:=sF (cs:=[14]) (g:=ae [0] 14) (t:=bq) (el:=aH iQ [.io 0,.val (af 7),.val (af 10),.val (af 8)]) (λδ=>∃ pd s7,bt pd/\sT ts s7/\δ=rb pd m h w n f s7 wy blocks (some (.pure (.int place))) (some (.own (.lst block))) (some (.pure (.int row))))
  (λ_ x=>∃ n,n ∈ ts/\x = .str [n]) (dE 0 w) _ [] ⟨pd,s7,gU,h7,rfl⟩ (by rw[dj]; simp; omega) (λd hd δ ⟨pd,s7,gU,h7,e⟩=>by
   subst e;obtain⟨i,hi,rfl⟩:=BM hd;obtain⟨k,d',e,hk,p⟩:=Oq gU ts place wy c_ cL;have e':iQ [.own pd,.pure (tD ts),.pure (.int place),.pure (.int wy)]=some (.pure (.str [k]),[.own d',.pure (tD ts),.pure (.int place),.pure (.int wy)]):=e;refine⟨_,_,.pure (.str [k]),(rb d' m h w n f (.pure (tD ts)) wy blocks (some (.pure (.int place))) (some (.own (.lst block))) (some (.pure (.int row)))).set 14 (some (.pure (.int i))),rfl,rfl,?_,⟨d',_,p,.inr rfl,rfl⟩,⟨_,hk,rfl⟩⟩;rcases h7 with rfl | rfl
   ·simp[rb,aH,bz,cu,bJ,b_,af,bK,e',bf]
   ·simp[rb,aH,bz,cu,bJ,b_,af,bK,e',bf])
 obtain⟨x,rfl,hx⟩:=vP (P:=λn=>n ∈ ts) (BV hn hf λd x _ h=>h);exact⟨x,bc,gW,by simpa using e,by simpa using hn,hx,hpd',h7'⟩
theorem Ox(cL:ts.length<=64)(hw:w<=4)(hh:h<=4)(gU:bt pd)(h7:sT ts s7)(blocks:List D)(place:Nat)(c_:place < ts.length)(rs:Option S) :
  ∃ (fl:List Tx) (bc:D) (gW:S) (qm:Option S),forL (ae [0] 12) (cS 11 (aK (dC []) (aq (bU [14] (fV (af 3)) (ae [0] 14) bq (aH iQ [.io 0,.val (af 7),.val (af 10),.val (af 8)]))))) (dE 0 h) (rb pd m h w n f s7 wy blocks (some (.pure (.int place))) (some (.own (.lst []))) rs)
   = .ok .next (rb bc m h w n f gW wy blocks (some (.pure (.int place))) (some (.own (.lst (fl.map .str)))) qm)/\fl.length=h/\(∀ r ∈ fl,r.length=w/\∀ n ∈ r,n ∈ ts)/\bt bc/\sT ts gW:=by
 obtain⟨δ',e3,bc,gW,fl,qm,hpd',h7',jS,hall,rfl⟩:=kJ (g:=ae [0] 12) (b:=cS 11 (aK (dC []) (aq (bU [14] (fV (af 3)) (ae [0] 14) bq (aH iQ [.io 0,.val (af 7),.val (af 10),.val (af 8)]))))) (λk δ=>∃ (pd:D) (s7:S) (fl:List Tx) (rs:Option S),bt pd/\sT ts s7/\fl.length=k/\(∀ r ∈ fl,r.length=w/\∀ n ∈ r,n ∈ ts)/\δ=rb pd m h w n f s7 wy blocks (some (.pure (.int place))) (some (.own (.lst (fl.map .str)))) rs)
  (dE 0 h) 0 _ ⟨pd,s7,[],rs,gU,h7,rfl,by simp,rfl⟩ (λi d δ hd ⟨pd,s7,fl,rs,gU,h7,jS,hall,e⟩=>by
   subst e;obtain⟨hi,rfl⟩:=sG hd;obtain⟨x,bc,gW,e,hx,hxt,hpd',h7'⟩:=Ow (m:=m) (h:=h) (n:=n) (f:=f) (wy:=wy) cL hw gU h7 blocks place c_ (fl.map .str) i;have hz:fl.length < W9:=by rw[dj]; omega
   have ej:=BL x (by omega);refine⟨_,rb bc m h w n f gW wy blocks (some (.pure (.int place))) (some (.own (.lst ((fl ++ [x]).map .str)))) (some (.pure (.int i))),rfl,?_,⟨bc,gW,fl ++ [x],_,hpd',h7',by simp[jS],?_,rfl⟩⟩
   ·unfold rb at e ⊢;simp[cS,iC,af,pV w (by omega),bJ,bD];rw[e];simp[ej,cI,putL,hz]
   ·intro r hr;rcases Qa.mp hr with hr | hr
    ·exact hall r hr
    ·simp at hr; subst hr; exact⟨hx,hxt⟩)
 exact⟨fl,bc,gW,qm,e3,by simpa using jS,hall,hpd',h7'⟩
theorem Oy(hp:bt d)(m:Nat)(Oz:0 < m)(BA:m<=26):∃ (h w:Nat) (bs:List (Nat×List Tx)) (d':D),
  mL [.own d,.pure (.int m)]=some (.pure (aB h w bs),[.own d',.pure (.int m)])/\BX h w bs/\bs.length<=m/\bt d':=by
 obtain⟨h,w,d1,e1,h0,h1,w0,w1,hw,p1⟩:=Oo hp;obtain⟨r,d2,e2,l2,p2⟩:=oD p1 m Oz (by omega);obtain⟨f,d3,e3,l3,p3⟩:=lU p2 26 26 rfl (by decide) (by decide);obtain⟨wy,d4,e4,l4,p4⟩:=lU p3 5 5 rfl (by decide) (by decide);-- the tiles
 have ec:=LJ (cs:=[13]) (g:=ae [0] 13) (t:=bq) (el:=ah aw 6 (aq (bj gu (ah bH 5 (aq (bj jz (eD (.int 5)) (aj 13)))) (aq (eD (.int 26)))))) (λd=>match d with | .int k=>.str [97 + (f + 5 * k.toNat) % 26] | _=>.a7)
  [some (.own d3),some (.pure (.int m)),some (.pure (.int h)),some (.pure (.int w)),some (.pure (.int (1 + (r:Int)))),some (.pure (.int f)),some (.pure (.str bo)),none,none,none,none,none,none,none,none] (dE 0 (1 + r)) [] (by rw[dj]; simp; omega) (λd hd=>by
   obtain⟨i,hi,rfl⟩:=BM hd;refine⟨_,_,.pure (.str [97 + (f + 5 * i) % 26]),[some (.own d3),some (.pure (.int m)),some (.pure (.int h)),some (.pure (.int w)),some (.pure (.int (1 + (r:Int)))),some (.pure (.int f)),some (.pure (.str bo)),none,none,none,none,none,none,some (.pure (.int i)),none],rfl,rfl,?_,rfl,rfl⟩;have hk:(f + 5 * i) % 26 < 26:=Nat.mod_lt _ (by decide);have hx:=LP bo ((f + 5 * i) % 26) hk (by decide);rw[Ot _ hk] at hx;have hc:((f:Int) + 5 * (i:Int)) % 26=(((f + 5 * i) % 26:Nat):Int):=by omega
   have hmul:jz (.int 5) (.int i)=some (.pure (.int (5 * (i:Int)))):=by
    unfold jz rP fT;have:lr 5 i=true:=by unfold lr; simp
    simp only[this,if_true]
   have OA:gu (.int ((f:Int) + 5 * (i:Int))) (.int 26)=some (.pure (.int (((f + 5 * i) % 26:Nat):Int))):=by
    rw[<- hc]; rfl
   generalize bo=lt at hx ⊢;simp only[ah,bG,aj,vJ,LF,LD,eh,sD,List.set_cons_succ,List.set_cons_zero,J2,Qj,n9,hmul,bH,OA,hx])
 have OB:List.map (λ(d:D)=>match d with | .int k=>D.str [97 + (f + 5 * k.toNat) % 26] | _=>.a7) (dE 0 (1 + r))=(jK f (1 + r)).map λn=>.str [n]:=by
  simp[dE,jK]
 rw[OB] at ec;simp only[Qb] at ec;have CY:(jK f (1 + r)).length=1 + r:=by simp[jK]
 have es:=Ou (jK f (1 + r)) (by rw[CY]; omega);have cL:(iK (jK f (1 + r))).length=1 + r:=by rw[BR,CY]
 have bu:=BU (Ov f (1 + r) (by omega));have hle:∀ t ∈ iK (jK f (1 + r)),97<=t/\t<=122:=λt ht=>by
  rw[vO] at ht;simp[jK] at ht;obtain⟨k,_,rfl⟩:=ht;omega
 generalize iK (jK f (1 + r))=ts at es cL bu hle;-- the blocks
 obtain⟨δ',e5,pd,s7,bs,a,b,c,gU,h7,kb,hbt,hall,rfl⟩:=kJ (g:=ae [0] 10) (b:=(ar (au (cA aP) (ae [0] 11)) (ar (cf (fV (af 2)) (ae [0] 12) (cS 11 (aK (dC []) (aq (bU [14] (fV (af 3)) (ae [0] 14) bq (aH iQ [.io 0,.val (af 7),.val (af 10),.val (af 8)])))))) (cS 9 (bI (az (ah aw 7 (aj 10)) (az (aK cp (aj 11)) aP)))))))
  (λk δ=>∃ (pd:D) (s7:S) (bs:List (Nat×List Tx)) (a b c:Option S),bt pd/\sT ts s7/\bs.length=k/\bs.map (·.1)=ts.take k/\(∀ b ∈ bs,b.2.length=h/\∀ r ∈ b.2,r.length=w/\∀ n ∈ r,n ∈ ts)/\δ=rb pd m h w r f s7 wy (bs.map aZ) a b c)
  (dE 0 (1 + r)) 0 (rb d4 m h w r f (.own (tD ts)) wy [] none none none) ⟨d4,_,[],none,none,none,p4,.inl rfl,rfl,rfl,by simp,rfl⟩ (λi d δ hd ⟨pd,s7,bs,a,b,c,gU,h7,kb,hbt,hall,e⟩=>by
   subst e;obtain⟨hi,rfl⟩:=sG hd;rw[Qh] at kb hbt;obtain⟨fl,bc,gW,qm,e,jS,hflt,hpd',h7'⟩:=Ox (m:=m) (n:=r) (f:=f) (wy:=wy) (ts:=ts) (by omega) w1 h1 gU h7 (bs.map aZ) i (by omega) c;have hz:bs.length < W9:=by rw[dj]; omega
   have hx:=xK ts i (by omega);refine⟨_,rb bc m h w r f gW wy ((bs ++ [(ts.getD i 0,fl)]).map aZ) (some (.pure (.int i))) (some (.own (.lst (fl.map .str)))) qm,rfl,?_,⟨bc,gW,bs ++ [(ts.getD i 0,fl)],_,_,_,hpd',h7',by simp[kb],?_,?_,rfl⟩⟩
   ·unfold rb at e ⊢;simp[au,af,pV h (by omega)];rw[e];rcases h7' with rfl | rfl
    ·simp[cS,iC,ah,bG,aj,tD,hx,cp,putL,hz,aZ]
    ·simp[cS,iC,ah,bG,aj,tD,hx,cp,putL,hz,aZ]
   ·rw[Qh,Q2,hbt,QX];simp[show i < ts.length by omega]
   ·intro b hb;rcases Qa.mp hb with hb | hb
    ·exact hall b hb
    ·simp at hb; subst hb; exact⟨jS,hflt⟩)
 have RW:bs.length=1 + r:=by simpa using kb
 have xM:bs.map (·.1)=ts:=by
  rw[hbt,List.take_of_length_le];simp[cL]
 refine⟨h,w,bs,pd,?_,⟨h0,h1,w0,w1,hw,by omega,by omega,by rw[xM]; exact bu,λb hb=>hle _ (by rw[<- xM]; exact Wy hb),λb hb=>by rw[xM]; exact hall b hb⟩,by omega,gU⟩;unfold mL di wY hE;unfold bo at ec;simp[cJ,cT,au,aH,bz,cu,bJ,b_,bK,e1,bf,cB,bB,cH,af,e2,bH,e3,BW r (by omega),bD];rw[ec];simp[cI,es,e4,bf,af,BW r (by omega)];unfold rb bo tD at e5;rw[e5];simp[aj,cp,dw,cq,af]
theorem add_int(i j:Int):bH (.int i) (.int j)=some (.pure (.int (i + j))):=rfl
theorem oE(np:List Nat)(n:Nat)(b:DS)(ss:List S):di np n b ss=if cJ np 0 ss then(match b (cT n ss) with
 | .ok fl δ=>(dw fl).bind λr=>(cq 0 ss δ).map λaX=>(r,aX)
 | _=>none) else none:=rfl
theorem oF(h w:Nat)(bs:List (Nat×List Tx)):aw (aB h w bs) (.int 0)=some (.pure (.int h))/\aw (aB h w bs) (.int 1)=some (.pure (.int w))/\aw (aB h w bs) (.int 2)=some (.pure (.tup (bs.map aZ))):=by
 refine⟨?_,?_,?_⟩
 ·simp[aw,kI]
 ·simp[aw,sE]
 ·simp[aw,vL]
theorem xN:∀ (kps acc:List (cb×D)),((acc ++ kps).map (·.1)).Nodup->mE kps acc=acc ++ kps
 | [],acc,_=>by simp[mE]
 | p :: r,acc,h=>by
  have hn:(acc.any λkv=>decide (kv.1=p.1))=false:=by
   rw[Jc];intro kv hkv;simp only[decide_eq_true_eq];intro e;rw[Q2,List.nodup_append] at h;exact h.2.2 kv.1 (Wy hkv) p.1 (Wy We) e
  have hp:putD acc p.1 p.2=acc ++ [p]:=by
   unfold putD;rw[hn];simp
  show mE r (putD acc p.1 p.2)=_;rw[hp,xN r (acc ++ [p]) (by simpa using h)];simp
theorem OC(x:Tx)(h:x.length<=1000):fE (some 1) none (.str x)=some (.pure (.str x.tail)):=by
 unfold fE;have hz:W9=16777216:=rfl;simp only;rw[if_pos (by omega)];have:cE x (some 1) none=x.tail:=by
  unfold cE HT.aT;simp
  cases x with
  | nil=>simp
  | cons a r=>simp
 rw[this]
theorem OD(ds:List D):fE (some 1) none (.tup ds)=some (.pure (.tup ds.tail)):=by
 have:cE ds (some 1) none=ds.tail:=by
  unfold cE HT.aT;simp
  cases ds with
  | nil=>simp
  | cons a r=>simp
 show some (S.pure (.tup (cE ds (some 1) none)))=_;rw[this]
theorem add_str(x y:Tx)(h:x.length + y.length<=1000):bH (.str x) (.str y)=some (.pure (.str (x ++ y))):=by
 have hz:W9=16777216:=rfl;simp only[bH];rw[if_pos (by omega)]
theorem xO(x y:List D)(h:x.length + y.length<=1000):bH (.tup x) (.tup y)=some (.pure (.tup (x ++ y))):=by
 have hz:W9=16777216:=rfl;simp only[bH];rw[if_pos (by omega)]
@[simp] theorem RX {α β:Type} (x:Xc) (δ:Dl) (f:α->Dl->Rs β):(Rs.exc x δ:Rs α).bind f = .exc x δ:=id rfl
theorem eR(h:a δ = .ok .next δ1)(h2:b δ1=x):ar a b δ=x:=by
 rw[LI,h];simpa using h2
theorem OE(xs:List α)(k:Nat)(h:k<=xs.length):cE xs none (some (k:Int))=xs.take k:=by
 have:¬ (k:Int) < 0:=by omega
 unfold cE HT.aT;simp[this]
theorem OF{α:Type}(xs:List α)(k:Nat)(h:k<=xs.length):cE xs (some ((k:Int))) none=xs.drop k:=by
 have:¬ (k:Int) < 0:=by omega
 unfold cE HT.aT;simp[this,Nat.min_eq_left h];exact List.take_of_length_le (by simp)
theorem qM(ds:List D)(lo hi:Option Int):fE lo hi (.tup ds)=some (.pure (.tup (cE ds lo hi))):=rfl
theorem CZ(ts:List Nat):eJ (tD ts)=some (.pure (.int ts.length)):=by simp[tD,eJ]
theorem xP(ts:List Nat)(r:Nat)(h:r < ts.length):aw (tD ts) (.int r)=some (.pure (.str [ts.getD r 0])):=xK ts r h
theorem OG(ts:List Nat)(n:Nat):iI true (.str [n]) (.lst (ts.map λn=>.str [n]))=some (.pure (.bl (!ts.contains n))):=by
 have e:(ts.map λn=>D.str [n])=(ts.map λn=>[n]).map D.str:=by simp
 have c:(ts.map λn=>([n]:Tx)).contains [n]=ts.contains n:=by
  induction ts with
  | nil=>rfl
  | cons a r ih=>simp only[Wd,List.contains_cons,ih (by simp)]; congr 1; simp
 unfold iI;simp only[e,pU,c];rfl
structure cU(h w:Nat)(bs:List (Nat×List Tx)):Prop where
 h0:0 < h
 h1:h<=4
 w0:0 < w
 w1:w<=4
 n0:0 < bs.length
 n1:bs.length<=52
 nd:(bs.map (·.1)).Nodup
 iL:∀ b ∈ bs,b.2.length=h/\∀ r ∈ b.2,r.length=w/\∀ n ∈ r,n ∈ bs.map (·.1)
theorem OH{h w:Nat}{bs:List (Nat×List Tx)}(R:BX h w bs):cU h w bs:=⟨R.h0,R.h1,R.w0,R.w1,R.n0,by have:=R.n1; omega,R.up.imp (λh=>WW h),R.iL⟩
def lV(b:Nat×List Tx):Nat×List Tx:=(b.1,(b.1 :: (b.2.headD []).tail) :: b.2.tail)
def gm(bs:List (Nat×List Tx))(k:Nat):List (Nat×List Tx):=match bs[k]? with
 | some b=>bs.take k ++ lV b :: bs.drop (k + 1)
 | none=>bs
theorem oG(bs:List (Nat×List Tx))(k:Nat):(gm bs k).map (·.1)=bs.map (·.1):=by
 unfold gm
 cases e:bs[k]? with
 | none=>rfl
 | some b =>
  obtain⟨hk,eb⟩:=W3.mp e;have:bs=bs.take k ++ b :: bs.drop (k + 1):=by rw[<- eb,<- QP hk,List.take_append_drop]
  conv=>rhs; rw[this]
  simp[lV]
theorem OI{bs:List (Nat×List Tx)}{k:Nat}{b:Nat×List Tx}(h:b ∈ gm bs k):b ∈ bs\/∃ c ∈ bs,b=lV c:=by
 unfold gm at h
 cases e:bs[k]? with
 | none=>rw[e] at h; exact .inl h
 | some c =>
  rw[e] at h;rcases Qa.mp h with h | h
  ·exact .inl (List.mem_of_mem_take h)
  ·rcases Wo.mp h with h | h
   ·exact .inr ⟨c,Wh e,h⟩
   ·exact .inl (List.mem_of_mem_drop h)
theorem C0{h w:Nat}{bs:List (Nat×List Tx)}(R:cU h w bs)(k:Nat):cU h w (gm bs k):=by
 have e:=oG bs k;have el:(gm bs k).length=bs.length:=by have:=congrArg QH e; simpa using this
 refine⟨R.h0,R.h1,R.w0,R.w1,by rw[el]; exact R.n0,by rw[el]; exact R.n1,by rw[e]; exact R.nd,λb hb=>?_⟩;rw[e];rcases OI hb with hb | ⟨c,hc,rfl⟩
 ·exact R.iL b hb
 ·obtain⟨h1,h2⟩:=R.iL c hc;have su:c.1 ∈ bs.map (·.1):=Wy hc;have w0:=R.w0;have h0:=R.h0
  cases hq:c.2 with
  | nil=>rw[hq] at h1; simp at h1; omega
  | cons r q =>
   rw[hq] at h1 h2;have hr:=h2 r We;unfold lV;rw[hq];refine⟨by simpa using h1,λx hx=>?_⟩;rcases Wo.mp hx with rfl | hx
   ·refine⟨by simp[List.headD]; omega,λn hn=>?_⟩;rcases Wo.mp hn with rfl | hn
    ·exact su
    ·exact hr.2 n (List.mem_of_mem_tail (by simpa[List.headD] using hn))
   ·exact h2 x (Wc _ (by simpa using hx))
theorem OJ{h w:Nat}{bs:List (Nat×List Tx)}(R:cU h w bs){k:Nat}(hk:k < bs.length):mM [.pure (aB h w bs),.pure (.int k)]=some (.pure (aB h w (gm bs k)),[.pure (aB h w bs),.pure (.int k)]):=by
 have hb:bs[k]? = some bs[k]:=by simp[hk]
 obtain⟨b1,b2⟩:=R.iL bs[k] (J4 hk);have es:gm bs k=bs.take k ++ lV bs[k] :: bs.drop (k + 1):=by unfold gm; rw[hb]
 rw[es];have n1:=R.n1;have h0:=R.h0;have w0:=R.w0;have w1:=R.w1;have h1:=R.h1;generalize bs[k]=b at *;obtain⟨tl,bl⟩:=b;simp only at b1 b2
 cases bl with
 | nil=>simp at b1; omega
 | cons r q =>
  have hr:=b2 r We;have x1:aw (.tup (bs.map aZ)) (.int (k:Int))=some (.pure (.tup [.str [tl],cG (r :: q)])):=by
   simp[aw,j0,hb]
  have x2:aw (cG (r :: q)) (.int 0)=some (.pure (.str r)):=by simp[aw,kI]
  have s1:=OC r (by omega);have a1:bH (.str [tl]) (.str r.tail)=some (.pure (.str (tl :: r.tail))):=by rw[add_str _ _ (by simp; omega)]; rfl
  have s2:fE (some 1) none (cG (r :: q))=some (.pure (cG q)):=by rw[OD]; rfl
  have a2:bH (.tup [.str (tl :: r.tail)]) (cG q)=some (.pure (cG ((tl :: r.tail) :: q))):=by rw[xO _ _ (by simp at b1 ⊢; omega)]; rfl
  have s3:fE none (some (k:Int)) (.tup (bs.map aZ))=some (.pure (.tup ((bs.take k).map aZ))):=by rw[qM,OE _ _ (by simp; omega),<- List.map_take]
  have s4:fE (some ((k:Int) + 1)) none (.tup (bs.map aZ))=some (.pure (.tup ((bs.drop (k + 1)).map aZ))):=by rw[qM,show((k:Int) + 1)=((k + 1:Nat):Int) by omega,OF _ _ (by simp; omega),<- List.map_drop]
  have a3:bH (.tup ((bs.take k).map aZ)) (.tup [.tup [.str [tl],cG ((tl :: r.tail) :: q)]])=some (.pure (.tup ((bs.take k).map aZ ++ [.tup [.str [tl],cG ((tl :: r.tail) :: q)]]))):=xO _ _ (by simp; omega);have a4:bH (.tup ((bs.take k).map aZ ++ [.tup [.str [tl],cG ((tl :: r.tail) :: q)]])) (.tup ((bs.drop (k + 1)).map aZ))=some (.pure (.tup ((bs.take k ++ lV (tl,r :: q) :: bs.drop (k + 1)).map aZ))):=by
   rw[xO _ _ (by simp; omega)];simp[lV]
  rw[mM,oE,w6];generalize kb:D.tup (bs.map aZ)=bl at *;generalize hnb:D.tup ((bs.take k ++ lV (tl,r :: q) :: bs.drop (k + 1)).map aZ)=nb at *;generalize D.tup ((bs.take k).map aZ ++ [.tup [.str [tl],cG ((tl :: r.tail) :: q)]])=nc at *;generalize D.tup ((bs.take k).map aZ)=nd at *;generalize D.tup ((bs.drop (k + 1)).map aZ)=ne at *;generalize cG ((tl :: r.tail) :: q)=f1 at *;generalize cG (r :: q)=f2 at *;generalize cG q=f3 at *;simp[cJ,cT,au,af,cB,bB,cH,ah,bG,aj,kb,hnb,x1,x2,g8,jW,s1,s2,s3,s4,a1,a2,a3,a4,add_int,dw,cq];rw[<- hnb];simp[List.map_take,List.map_drop]
abbrev jL(ps:List (Nat×Nat)):List (cb×D):=ps.map λp=>((Sum.inr [p.1]:cb),D.str [p.2])
abbrev aA(ps:List (Nat×Nat)):D:=.bA (jL ps)
def cY(ps:List (Nat×Nat))(a:Nat):Option Nat:=(ps.find? λp=>decide (p.1=a)).map (·.2)
def gX(ps:List (Nat×Nat))(a b:Nat):List (Nat×Nat):=if (ps.any λp=>decide (p.1=a))=true then ps.map (λp=>if p.1=a then(p.1,b) else p) else ps ++ [(a,b)]
theorem OK(ps:List (Nat×Nat))(a b:Nat):putD (jL ps) (.inr [a]) (.str [b])=jL (gX ps a b):=by
 have hk:∀ p:Nat×Nat,((Sum.inr [p.1]:cb) = .inr [a]) ↔ p.1=a:=λp=>by simp
 have ha:((jL ps).any λkv=>decide (kv.1 = .inr [a]))=(ps.any λp=>decide (p.1=a)):=by
  simp only[jL,Jj];congr 1
  funext p
  simp
 unfold putD gX;rw[ha];split
 ·simp only[jL,Wu];congr 1
  funext p
  simp only[Function.comp,hk p];split <;> rfl
 ·simp[jL]
theorem OL(ps:List (Nat×Nat))(a:Nat):fk (jL ps) (.inr [a])=(cY ps a).map λv=>D.str [v]:=by
 unfold fk cY jL;induction ps with
 | nil=>rfl
 | cons p r ih =>
  simp only[Wd,WM];by_cases h:p.1=a
  ·simp[h]
  ·have:decide ((Sum.inr [p.1]:cb) = .inr [a])=false:=by simp[h]
   simp only[this,decide_eq_false h];exact ih
theorem oH{ps:List (Nat×Nat)}{a v:Nat}(h:cY ps a=some v):bV (aA ps) (.str [a])=some (.pure (.str [v])):=by
 show((fm (.str [a])).bind λk=>(fk (jL ps) k).map S.pure)=_;simp only[fm,Qd,OL,h,WI]
theorem tE(ps:List (Nat×Nat))(a b c:Nat):cY (gX ps a b) c=if c=a then some b else cY ps c:=by
 unfold gX;by_cases h:(ps.any λp=>decide (p.1=a))=true
 ·rw[if_pos h];unfold cY;induction ps with
  | nil=>simp at h
  | cons p r ih =>
   simp only[Wd,WM];by_cases hp:p.1=a
   ·simp only[hp,if_true];by_cases hc:c=a
    ·simp[hc]
    ·have fN:decide (a=c)=false:=by simp; omega
     simp only[fN,if_neg hc];by_cases hr:(r.any λp=>decide (p.1=a))=true
     ·have:=ih hr;rw[if_neg hc] at this;exact this
     ·have hm:(r.map λp=>if p.1=a then(p.1,b) else p)=r:=by
       conv=>rhs; rw[<- List.map_id r]
       refine WS λq hq=>?_
       have:¬ q.1=a:=λz=>hr (Qz.mpr ⟨q,hq,by simp[z]⟩)
       simp[this]
      rw[hm]
   ·simp only[if_neg hp];have hr:(r.any λp=>decide (p.1=a))=true:=by
     rw[WV] at h;simpa[hp] using h
    by_cases hc:p.1=c
    ·have:¬ c=a:=λz=>hp (hc.trans z)
     simp[hc,this]
    ·simp only[decide_eq_false hc];exact ih hr
 ·rw[if_neg h];unfold cY;rw[List.find?_append];by_cases hc:c=a
  ·subst hc;have:ps.find? (λp=>decide (p.1=c))=none:=by
    rw[List.find?_eq_none];intro p hp z;exact h (Qz.mpr ⟨p,hp,z⟩)
   simp[this]
  ·have fN:¬ a=c:=λz=>hc z.symm
   simp[hc,fN]
theorem xQ(ps:List (Nat×Nat))(a b:Nat):(gX ps a b).length<=ps.length + 1:=by
 unfold gX;split <;> simp
theorem xR{fi fe:DE}{i:Nat}{δ δ1 δ2:Dl}{ps:List (Nat×Nat)}{a b:Nat}(h0:∃ qs,δ[i]? = some (some (.own (aA qs))))(e1:fe δ = .ok (.pure (.str [b])) δ1)(h1:∃ qs,δ1[i]? = some (some (.own (aA qs))))(e2:fi δ1 = .ok (.pure (.str [a])) δ2)(h2:δ2[i]? = some (some (.own (aA ps))))(hl:ps.length<=1000) :
  gc i fi fe δ = .ok .next (δ2.set i (some (.own (aA (gX ps a b))))):=by
 obtain⟨q0,h0⟩:=h0;obtain⟨q1,h1⟩:=h1;have hz:(jL ps).length < W9:=by rw[dj]; simp; omega
 unfold gc;simp only[pS,h0,if_true,e1,eh,h1,e2,h2,fm,n9,hz,OK]
theorem xS{GD:DF}(hD:∀ (d:D) (m:Nat),bt d->0 < m->m < 1073741824->∃ (r:Nat) (d':D),GD [.own d,.pure (.int m)]=some (.pure (.int r),[.own d',.pure (.int m)])/\r < m/\bt d'){d:D}(hp:bt d):∃ (r:Nat) (d':D),GD [.own d,.pure (.int 2)]=some (.pure (.int r),[.own d',.pure (.int 2)])/\(r=0\/r=1)/\bt d':=by
 obtain⟨r,d',e,l,p⟩:∃ (r:Nat) (d':D),GD [.own d,.pure (.int 2)]=some (.pure (.int r),[.own d',.pure (.int 2)])/\r < 2/\bt d':=hD d 2 hp (by decide) (by decide);exact⟨r,d',e,by omega,p⟩
section
variable {GD:DF} (hD:∀ (d:D) (m:Nat),bt d->0 < m->m < 1073741824->∃ (r:Nat) (d':D),GD [.own d,.pure (.int m)]=some (.pure (.int r),[.own d',.pure (.int m)])/\r < m/\bt d') {ru:D} {ts lf:List Nat} {ps:List (Nat×Nat)} {al:Nat->Prop}
include hD
theorem OM(fX:∀ n ∈ ts,al n/\∃ v,cY ps n=some v/\al v){pd:D}(hp:bt pd)(row:Tx)(hr:∀ n ∈ row,n ∈ ts)(hl:row.length<=64)(o6:Option S)(bl:List D)(o8 o9 aF aN c7:Option S) :
  ∃ (x:Tx) (bc:D),cg [14] (ae [1] 14) bq (bj aw (cA (az (af 14) (az (ah bV 5 (aj 14)) aP))) (aq (aH GD [.io 1,.val (eD (.int 2))]))) (row.map λn=>.str [n]) [some (.pure ru),some (.own pd),some (.pure (.str bo)),some (.own (tD ts)),some (.own (tD lf)),some (.own (aA ps)),o6,some (.own (.lst bl)),o8,o9,aF,aN,c7,none,none] [] = .ok (x.map λn=>.str [n]) [some (.pure ru),some (.own bc),some (.pure (.str bo)),some (.own (tD ts)),some (.own (tD lf)),some (.own (aA ps)),o6,some (.own (.lst bl)),o8,o9,aF,aN,c7,none,none]/\x.length=row.length/\(∀ n ∈ x,al n)/\bt bc:=by
 obtain⟨xs,δ',e,⟨bc,hpd',rfl⟩,hn,hf⟩:=sF (cs:=[14]) (g:=ae [1] 14) (t:=bq) (el:=(bj aw (cA (az (af 14) (az (ah bV 5 (aj 14)) aP))) (aq (aH GD [.io 1,.val (eD (.int 2))])))) (λδ=>∃ pd,bt pd/\δ=[some (.pure ru),some (.own pd),some (.pure (.str bo)),some (.own (tD ts)),some (.own (tD lf)),some (.own (aA ps)),o6,some (.own (.lst bl)),o8,o9,aF,aN,c7,none,none])
  (λ_ x=>∃ n,al n/\x = .str [n]) (row.map λn=>.str [n]) _ [] ⟨pd,hp,rfl⟩ (by rw[dj]; simp; omega) (λd hd δ ⟨pd,gU,e⟩=>by
   subst e;obtain⟨n,hn,rfl⟩:=Wz.mp hd;obtain⟨a1,v,a2,a3⟩:=fX n (hr n hn);have x5:=oH a2;obtain⟨r,d',e,jJ,p⟩:=xS hD gU;refine⟨_,_,.pure (.str [if r=0 then n else v]),[some (.pure ru),some (.own d'),some (.pure (.str bo)),some (.own (tD ts)),some (.own (tD lf)),some (.own (aA ps)),o6,some (.own (.lst bl)),o8,o9,aF,aN,c7,none,some (.pure (.str [n]))],rfl,rfl,?_,⟨d',p,rfl⟩,⟨_,?_,rfl⟩⟩
   ·generalize aA ps=dd at *;generalize tD ts=td at *;generalize tD lf=tl at *;rcases jJ with rfl | rfl
    ·simp[af,ah,bG,aj,x5,aH,bz,cu,bJ,b_,bK,e,bf,aw,kI]
    ·simp[af,ah,bG,aj,x5,aH,bz,cu,bJ,b_,bK,e,bf,aw,sE]
   ·rcases jJ with rfl | rfl
    ·exact a1
    ·exact a3)
 obtain⟨x,rfl,hx⟩:=vP (P:=al) (BV hn hf λd x _ h=>h);exact⟨x,bc,by simpa using e,by simpa using hn,hx,hpd'⟩
theorem ON(fX:∀ n ∈ ts,al n/\∃ v,cY ps n=some v/\al v){pd:D}(hp:bt pd)(fl:List Tx)(w:Nat)(hw:w<=64)(jS:fl.length<=64)(hf:∀ r ∈ fl,r.length=w/\∀ n ∈ r,n ∈ ts)(o6:Option S)(bl:List D)(o8 o9 aF c7:Option S) :
  ∃ (gl:List Tx) (bc:D) (lW:Option S),forL (ae [1] 12) (cS 11 (aK (dC []) (aq (bU [14] (aY (af 12)) (ae [1] 14) bq (bj aw (cA (az (af 14) (az (ah bV 5 (aj 14)) aP))) (aq (aH GD [.io 1,.val (eD (.int 2))]))))))) (fl.map .str) [some (.pure ru),some (.own pd),some (.pure (.str bo)),some (.own (tD ts)),some (.own (tD lf)),some (.own (aA ps)),o6,some (.own (.lst bl)),o8,o9,aF,some (.own (.lst [])),c7,none,none] = .ok .next [some (.pure ru),some (.own bc),some (.pure (.str bo)),some (.own (tD ts)),some (.own (tD lf)),some (.own (aA ps)),o6,some (.own (.lst bl)),o8,o9,aF,some (.own (.lst (gl.map .str))),lW,none,none]/\gl.length=fl.length/\(∀ r ∈ gl,r.length=w/\∀ n ∈ r,al n)/\bt bc:=by
 obtain⟨δ',e,gl,bc,lW,hg,hall,hpd',rfl⟩:=kJ (g:=ae [1] 12) (b:=(cS 11 (aK (dC []) (aq (bU [14] (aY (af 12)) (ae [1] 14) bq (bj aw (cA (az (af 14) (az (ah bV 5 (aj 14)) aP))) (aq (aH GD [.io 1,.val (eD (.int 2))])))))))) (λk δ=>∃ (gl:List Tx) (pd:D) (c7:Option S),gl.length=k/\(∀ r ∈ gl,r.length=w/\∀ n ∈ r,al n)/\bt pd/\δ=[some (.pure ru),some (.own pd),some (.pure (.str bo)),some (.own (tD ts)),some (.own (tD lf)),some (.own (aA ps)),o6,some (.own (.lst bl)),o8,o9,aF,some (.own (.lst (gl.map .str))),c7,none,none]) (fl.map .str) 0 [some (.pure ru),some (.own pd),some (.pure (.str bo)),some (.own (tD ts)),some (.own (tD lf)),some (.own (aA ps)),o6,some (.own (.lst bl)),o8,o9,aF,some (.own (.lst [])),c7,none,none] ⟨[],pd,c7,rfl,by simp,hp,rfl⟩ (λi d δ hd ⟨gl,pd,c7,hg,hall,gU,e⟩=>by
  subst e;rw[Wl,WA] at hd;obtain⟨row,hrow,rfl⟩:=hd;have hi:=(W3.mp hrow).1;have hr:=hf row (Wh hrow);obtain⟨x,bc,e,hx,hxa,hpd'⟩:=OM (ru:=ru) (lf:=lf) hD fX gU row hr.2 (by omega) o6 bl o8 o9 aF (some (.own (.lst (gl.map .str)))) (some (.pure (.str row)));have hz:(gl.map D.str).length < W9:=by rw[dj]; simp; omega
  have ej:=BL x (by omega);refine⟨_,[some (.pure ru),some (.own bc),some (.pure (.str bo)),some (.own (tD ts)),some (.own (tD lf)),some (.own (aA ps)),o6,some (.own (.lst bl)),o8,o9,aF,some (.own (.lst ((gl ++ [x]).map .str))),some (.pure (.str row)),none,none],rfl,?_,⟨gl ++ [x],bc,_,by simp[hg],?_,hpd',rfl⟩⟩
  ·rw[Q2,List.map_singleton];generalize gl.map D.str=gd at e hz ⊢;generalize aA ps=dd at e ⊢;generalize tD ts=td at e ⊢;generalize tD lf=tl at e ⊢;simp[cS,iC,e8,af,bJ,bD];rw[e];simp[ej,cI,putL,hz]
  ·intro r jJ;rcases Qa.mp jJ with jJ | jJ
   ·exact hall r jJ
   ·simp at jJ; subst jJ; exact⟨by omega,hxa⟩)
 exact⟨gl,bc,lW,e,by simpa using hg,hall,hpd'⟩
theorem C1(fX:∀ n ∈ ts,al n/\∃ v,cY ps n=some v/\al v){pd:D}(hp:bt pd)(fl:List Tx)(w:Nat)(hw:w<=64)(jS:fl.length<=64)(hf:∀ r ∈ fl,r.length=w/\∀ n ∈ r,n ∈ ts)(t:Nat)(o6:Option S)(bl:List D)(kb:bl.length<=1000)(o8:Option S)(aF c7:Option S)(aN:Option S) :
  ∃ (gl:List Tx) (bc:D) (lW OO:Option S),(ar (au (cA aP) (ae [1] 11)) (ar (cf (aY (af 9)) (ae [1] 12) (cS 11 (aK (dC []) (aq (bU [14] (aY (af 12)) (ae [1] 14) bq (bj aw (cA (az (af 14) (az (ah bV 5 (aj 14)) aP))) (aq (aH GD [.io 1,.val (eD (.int 2))])))))))) (cS 7 (bI (az (af 10) (az (aK cp (aj 11)) aP)))))) [some (.pure ru),some (.own pd),some (.pure (.str bo)),some (.own (tD ts)),some (.own (tD lf)),some (.own (aA ps)),o6,some (.own (.lst bl)),o8,some (.pure (cG fl)),some (.pure (.str [t])),aN,c7,none,none] = .ok .next [some (.pure ru),some (.own bc),some (.pure (.str bo)),some (.own (tD ts)),some (.own (tD lf)),some (.own (aA ps)),o6,some (.own (.lst (bl ++ [aZ (t,gl)]))),o8,some (.pure (cG fl)),some (.pure (.str [t])),OO,lW,none,none]/\gl.length=fl.length/\(∀ r ∈ gl,r.length=w/\∀ n ∈ r,al n)/\bt bc:=by
 obtain⟨gl,bc,lW,e,h1,h2,h3⟩:=ON (ru:=ru) (lf:=lf) hD fX hp fl w hw jS hf o6 bl o8 (some (.pure (cG fl))) (some (.pure (.str [t]))) c7;have hz:bl.length < W9:=by rw[dj]; omega
 refine⟨gl,bc,lW,some (.own (.lst (gl.map .str))),?_,h1,h2,h3⟩;refine eR (δ1:=[some (.pure ru),some (.own pd),some (.pure (.str bo)),some (.own (tD ts)),some (.own (tD lf)),some (.own (aA ps)),o6,some (.own (.lst bl)),o8,some (.pure (cG fl)),some (.pure (.str [t])),some (.own (.lst [])),c7,none,none]) (by simp[au]) ?_;refine eR (δ1:=[some (.pure ru),some (.own bc),some (.pure (.str bo)),some (.own (tD ts)),some (.own (tD lf)),some (.own (aA ps)),o6,some (.own (.lst bl)),o8,some (.pure (cG fl)),some (.pure (.str [t])),some (.own (.lst (gl.map .str))),lW,none,none]) (by
  rw[n_];simp only[e8,af,J2,Qj,eh,n9];exact e) ?_
 generalize hg:gl.map D.str=gd at *;generalize aA ps=dd at *;generalize tD ts=td at *;generalize tD lf=tl at *;simp[cS,iC,af,aj,cp,putL,hz,hg]
end
theorem C2:∀ bl:List (Nat×List Tx),lI (bl.map aZ)=some (bl.map λb=>[b.1])
 | []=>rfl
 | b :: r=>by simp[lI,C2 r]
theorem C3:∀ {ks:List Tx},ks.Nodup->n8 ks=true
 | [],_=>rfl
 | x :: r,h=>by
  rw[WL] at h;simp[n8,h.1,C3 h.2]
theorem OP(bl:List (Nat×List Tx))(nd:(bl.map (·.1)).Nodup)(h2:2<=bl.length)(n5:bl.length < 64):∃ bl':List (Nat×List Tx),bl'.Perm bl/\lJ (.lst (bl.map aZ))=some (.own (.lst (bl'.map aZ))):=by
 have nk:(bl.map λb=>([b.1]:Tx)).Nodup:=by
  have e:(bl.map λb=>([b.1]:Tx))=(bl.map (·.1)).map λn=>[n]:=by simp
  rw[e];exact List.Pairwise.map _ (λa b h z=>h (by simpa using z)) nd
 have hp:=sC (ks:=bl.map λb=>([b.1]:Tx)) (by simpa using h2);rw[Wi] at hp;refine⟨(fH (bl.map λb=>([b.1]:Tx))).map λi=>bl.getD i (0,[]),?_,?_⟩
 ·refine(hp.map _).trans (List.Perm.of_eq ?_);apply List.ext_getElem
  ·simp
  ·intro i h1 h2;simp at h1;simp[h1]
 ·unfold lJ;simp only[C2];rw[if_pos ⟨by simpa using h2,by simpa using n5,C3 nk⟩];congr 3
  rw[Wu];refine WS λi hi=>?_
  have:=hp.mem_iff.mp hi;simp at this;simp[this]
def gH(ps:List (Nat×Nat))(t:Nat):Nat:=(cY ps t).getD 0
section
variable {GD:DF} (hD:∀ (d:D) (m:Nat),bt d->0 < m->m < 1073741824->∃ (r:Nat) (d':D),GD [.own d,.pure (.int m)]=some (.pure (.int r),[.own d',.pure (.int m)])/\r < m/\bt d') {ru:D} {ts lf:List Nat} {ps:List (Nat×Nat)} {al:Nat->Prop}
include hD
theorem OQ{h w:Nat}(h1:h<=64)(w1:w<=64)(bs:List (Nat×List Tx))(cL:∀ b ∈ bs,b.1 ∈ ts)(hn:bs.length<=100)(hb:∀ b ∈ bs,b.2.length=h/\∀ r ∈ b.2,r.length=w/\∀ n ∈ r,n ∈ ts)
  (fX:∀ n ∈ ts,al n/\∃ v,cY ps n=some v/\al v) {pd:D} (hp:bt pd) (o6:Option S) :
  ∃ (bl:List (Nat×List Tx)) (bc:D) (o8 o9 aF aN c7:Option S),forL (cB 2 (bB (ae [1] 8) (bB (ae [1] 9) cH))) (cf (aY (cA (az (af 8) (az (ah bV 5 (aj 8)) aP)))) (ae [1] 10) (ar (au (cA aP) (ae [1] 11)) (ar (cf (aY (af 9)) (ae [1] 12) (cS 11 (aK (dC []) (aq (bU [14] (aY (af 12)) (ae [1] 14) bq (bj aw (cA (az (af 14) (az (ah bV 5 (aj 14)) aP))) (aq (aH GD [.io 1,.val (eD (.int 2))])))))))) (cS 7 (bI (az (af 10) (az (aK cp (aj 11)) aP))))))) (bs.map aZ) [some (.pure ru),some (.own pd),some (.pure (.str bo)),some (.own (tD ts)),some (.own (tD lf)),some (.own (aA ps)),o6,some (.own (.lst [])),none,none,none,none,none,none,none] = .ok .next [some (.pure ru),some (.own bc),some (.pure (.str bo)),some (.own (tD ts)),some (.own (tD lf)),some (.own (aA ps)),o6,some (.own (.lst (bl.map aZ))),o8,o9,aF,aN,c7,none,none] /\
   bl.map (·.1)=(bs.map (·.1)).flatMap (λt=>[t,gH ps t])/\(∀ b ∈ bl,b.2.length=h/\∀ r ∈ b.2,r.length=w/\∀ n ∈ r,al n)/\bt bc:=by
 obtain⟨δ',e,bl,bc,o8,o9,aF,aN,c7,q1,q2,q3,q4,rfl⟩:=kJ (g:=(cB 2 (bB (ae [1] 8) (bB (ae [1] 9) cH)))) (b:=(cf (aY (cA (az (af 8) (az (ah bV 5 (aj 8)) aP)))) (ae [1] 10) (ar (au (cA aP) (ae [1] 11)) (ar (cf (aY (af 9)) (ae [1] 12) (cS 11 (aK (dC []) (aq (bU [14] (aY (af 12)) (ae [1] 14) bq (bj aw (cA (az (af 14) (az (ah bV 5 (aj 14)) aP))) (aq (aH GD [.io 1,.val (eD (.int 2))])))))))) (cS 7 (bI (az (af 10) (az (aK cp (aj 11)) aP))))))))
  (λk δ=>∃ (bl:List (Nat×List Tx)) (pd:D) (o8 o9 aF aN c7:Option S),bl.map (·.1)=((bs.take k).map (·.1)).flatMap (λt=>[t,gH ps t])/\(∀ b ∈ bl,b.2.length=h/\∀ r ∈ b.2,r.length=w/\∀ n ∈ r,al n)/\bt pd/\bl.length=2 * k/\δ=[some (.pure ru),some (.own pd),some (.pure (.str bo)),some (.own (tD ts)),some (.own (tD lf)),some (.own (aA ps)),o6,some (.own (.lst (bl.map aZ))),o8,o9,aF,aN,c7,none,none])
  (bs.map aZ) 0 [some (.pure ru),some (.own pd),some (.pure (.str bo)),some (.own (tD ts)),some (.own (tD lf)),some (.own (aA ps)),o6,some (.own (.lst [])),none,none,none,none,none,none,none] ⟨[],pd,none,none,none,none,none,rfl,by simp,hp,rfl,rfl⟩ (λi d δ hd ⟨bl,pd,o8,o9,aF,aN,c7,q1,q2,q3,q4,e⟩=>by
   subst e;rw[Wl,WA] at hd;obtain⟨b,hbi,rfl⟩:=hd;rw[Qh] at q1 q4 ⊢;have hi:=(W3.mp hbi).1;have hm:=Wh hbi;obtain⟨hb1,hb2⟩:=hb b hm;obtain⟨_,v,hv,_⟩:=fX b.1 (cL b hm);have x5:=oH hv;have kb:bl.length<=200:=by omega
   obtain⟨g1,pd1,bF,p11,e1,a1,a2,a3⟩:=C1 (ru:=ru) (lf:=lf) hD fX q3 b.2 w w1 (by omega) hb2 b.1 o6 (bl.map aZ) (by simp; omega) (some (.pure (.str [b.1]))) aF c7 aN;obtain⟨g2,pd2,r12,r11,e2,c1,c2,c3⟩:=C1 (ru:=ru) (lf:=lf) hD fX a3 b.2 w w1 (by omega) hb2 v o6 (bl.map aZ ++ [aZ (b.1,g1)]) (by simp; omega) (some (.pure (.str [b.1]))) (some (.pure (.str [b.1]))) bF p11;refine⟨[some (.pure ru),some (.own pd),some (.pure (.str bo)),some (.own (tD ts)),some (.own (tD lf)),some (.own (aA ps)),o6,some (.own (.lst (bl.map aZ))),some (.pure (.str [b.1])),some (.pure (cG b.2)),aF,aN,c7,none,none],[some (.pure ru),some (.own pd2),some (.pure (.str bo)),some (.own (tD ts)),some (.own (tD lf)),some (.own (aA ps)),o6,some (.own (.lst ((bl ++ [(b.1,g1),(v,g2)]).map aZ))),some (.pure (.str [b.1])),some (.pure (cG b.2)),some (.pure (.str [v])),r11,r12,none,none],rfl,?_,⟨bl ++ [(b.1,g1),(v,g2)],pd2,_,_,_,_,_,?_,?_,c3,by simp; omega,rfl⟩⟩
   ·have eE:(bl ++ [(b.1,g1),(v,g2)]).map aZ=bl.map aZ ++ [aZ (b.1,g1)] ++ [aZ (v,g2)]:=by simp
    rw[eE];rw[n_];have hit:aY (cA (az (af 8) (az (ah bV 5 (aj 8)) aP))) [some (.pure ru),some (.own pd),some (.pure (.str bo)),some (.own (tD ts)),some (.own (tD lf)),some (.own (aA ps)),o6,some (.own (.lst (bl.map aZ))),some (.pure (.str [b.1])),some (.pure (cG b.2)),aF,aN,c7,none,none] = .ok [.str [b.1],.str [v]] [some (.pure ru),some (.own pd),some (.pure (.str bo)),some (.own (tD ts)),some (.own (tD lf)),some (.own (aA ps)),o6,some (.own (.lst (bl.map aZ))),some (.pure (.str [b.1])),some (.pure (cG b.2)),aF,aN,c7,none,none]:=by
     generalize aA ps=dd at x5 ⊢;generalize tD ts=td;generalize tD lf=tl;simp[e8,af,ah,bG,aj,x5]
    rw[hit];simp only[eh];conv=>lhs; unfold forL
    have OR:ae [1] 10 (.pure (.str [b.1])) [some (.pure ru),some (.own pd),some (.pure (.str bo)),some (.own (tD ts)),some (.own (tD lf)),some (.own (aA ps)),o6,some (.own (.lst (bl.map aZ))),some (.pure (.str [b.1])),some (.pure (cG b.2)),aF,aN,c7,none,none]=some [some (.pure ru),some (.own pd),some (.pure (.str bo)),some (.own (tD ts)),some (.own (tD lf)),some (.own (aA ps)),o6,some (.own (.lst (bl.map aZ))),some (.pure (.str [b.1])),some (.pure (cG b.2)),some (.pure (.str [b.1])),aN,c7,none,none]:=rfl;rw[OR];simp only[e1,eh];conv=>lhs; unfold forL
    have OS:ae [1] 10 (.pure (.str [v])) [some (.pure ru),some (.own pd1),some (.pure (.str bo)),some (.own (tD ts)),some (.own (tD lf)),some (.own (aA ps)),o6,some (.own (.lst (bl.map aZ ++ [aZ (b.1,g1)]))),some (.pure (.str [b.1])),some (.pure (cG b.2)),some (.pure (.str [b.1])),p11,bF,none,none]=some [some (.pure ru),some (.own pd1),some (.pure (.str bo)),some (.own (tD ts)),some (.own (tD lf)),some (.own (aA ps)),o6,some (.own (.lst (bl.map aZ ++ [aZ (b.1,g1)]))),some (.pure (.str [b.1])),some (.pure (cG b.2)),some (.pure (.str [v])),p11,bF,none,none]:=rfl;rw[OS];simp only[e2,eh];rfl
   ·rw[QX,hbi];simp[q1,gH,hv]
   ·intro c hc;rcases Qa.mp hc with hc | hc
    ·exact q2 c hc
    ·simp at hc;rcases hc with rfl | rfl
     ·exact⟨by simp[a1,hb1],a2⟩
     ·exact⟨by simp[c1,hb1],c2⟩)
 rw[Qh,Wi,Jk] at q1;exact⟨bl,bc,o8,o9,aF,aN,c7,e,q1,q2,q3⟩
end
theorem OT(ru pd:D)(ts lf:List Nat)(nd:ts.Nodup)(hn:ts.length<=100)(hl:ts.length<=lf.length):∃ (ps:List (Nat×Nat)) (o6:Option S),forL (ae [1] 6) (gc 5 (ah aw 3 (aj 6)) (ah aw 4 (aj 6))) (dE 0 ts.length) [some (.pure ru),some (.own pd),some (.pure (.str bo)),some (.own (tD ts)),some (.own (tD lf)),some (.own (aA [])),none,none,none,none,none,none,none,none,none] = .ok .next [some (.pure ru),some (.own pd),some (.pure (.str bo)),some (.own (tD ts)),some (.own (tD lf)),some (.own (aA ps)),o6,none,none,none,none,none,none,none,none]/\∀ j,j < ts.length->cY ps (ts.getD j 0)=some (lf.getD j 0):=by
 obtain⟨δ',e,ps,o6,q1,q2,rfl⟩:=kJ (g:=ae [1] 6) (b:=(gc 5 (ah aw 3 (aj 6)) (ah aw 4 (aj 6)))) (λk δ=>∃ (ps:List (Nat×Nat)) (o6:Option S),ps.length<=k/\(∀ j,j < k->cY ps (ts.getD j 0)=some (lf.getD j 0))/\δ=[some (.pure ru),some (.own pd),some (.pure (.str bo)),some (.own (tD ts)),some (.own (tD lf)),some (.own (aA ps)),o6,none,none,none,none,none,none,none,none]) (dE 0 ts.length) 0 [some (.pure ru),some (.own pd),some (.pure (.str bo)),some (.own (tD ts)),some (.own (tD lf)),some (.own (aA [])),none,none,none,none,none,none,none,none,none] ⟨[],none,by simp,λj hj=>absurd hj (Nat.not_lt_zero _),rfl⟩ (λi d δ hd ⟨ps,o6,q1,q2,e⟩=>by
  subst e;obtain⟨hi,rfl⟩:=sG hd;rw[Qh] at q1 q2 ⊢;have x3:=xP ts i hi;have x4:=xP lf i (by omega);refine⟨_,[some (.pure ru),some (.own pd),some (.pure (.str bo)),some (.own (tD ts)),some (.own (tD lf)),some (.own (aA (gX ps (ts.getD i 0) (lf.getD i 0)))),some (.pure (.int i)),none,none,none,none,none,none,none,none],rfl,?_,⟨gX ps (ts.getD i 0) (lf.getD i 0),_,by have:=xQ ps (ts.getD i 0) (lf.getD i 0); omega,λj hj=>?_,rfl⟩⟩
  ·refine(xR (ps:=ps) (a:=ts.getD i 0) (b:=lf.getD i 0) (δ1:=[some (.pure ru),some (.own pd),some (.pure (.str bo)),some (.own (tD ts)),some (.own (tD lf)),some (.own (aA ps)),some (.pure (.int i)),none,none,none,none,none,none,none,none]) (δ2:=[some (.pure ru),some (.own pd),some (.pure (.str bo)),some (.own (tD ts)),some (.own (tD lf)),some (.own (aA ps)),some (.pure (.int i)),none,none,none,none,none,none,none,none]) ⟨ps,rfl⟩ ?_ ⟨ps,rfl⟩ ?_ rfl (by omega)).trans rfl
   ·generalize aA ps=dd;generalize tD ts=td at *;generalize tD lf=tl at *;simp only[LH,ah,bG,aj,vJ,List.set_cons_succ,List.set_cons_zero,J2,Qj,eh,n9,vI,sD,x4]
   ·generalize aA ps=dd;generalize tD ts=td at *;generalize tD lf=tl at *;simp only[ah,bG,aj,vJ,List.set_cons_succ,List.set_cons_zero,J2,Qj,eh,n9,vI,sD,x3]
  ·rw[tE];by_cases hji:j=i
   ·rw[hji,if_pos rfl]
   ·rw[if_neg ?_]
    ·exact q2 j (by omega)
    ·intro z;have h1:ts.getD j 0=ts[j]'(by omega):=by simp[show j < ts.length by omega]
     have h2:ts.getD i 0=ts[i]'hi:=by simp[hi]
     rw[h1,h2] at z;exact hji ((JX nd).mp z))
 rw[Qh,LS] at q2;exact⟨ps,o6,e,q2⟩
def cM(ts:List Nat):List Nat:=bo.filter λn=>!ts.contains n
theorem C4:∀ (ts:List Nat) (l:List Nat),l.Nodup->l.length<=(l.filter λn=>!ts.contains n).length + ts.length
 | [],l,_=>by rw[List.filter_eq_self.mpr (λa _=>by simp)]; simp
 | t :: r,l,h=>by
  have ih:=C4 r l h;have e:(l.filter λn=>!(t :: r).contains n)=(l.filter λn=>!r.contains n).filter λn=>n != t:=by
   rw[List.filter_filter];congr 1
   funext n
   rw[List.contains_cons]
   cases h1:n == t <;> cases h2:r.contains n <;> simp_all
  have nd:(l.filter λn=>!r.contains n).Nodup:=h.filter _;rw[e,<- nd.erase_eq_filter,List.length_erase,WG];split <;> omega
theorem C5:bo.Nodup:=by decide
theorem OU(ts:List Nat):(cM ts).Nodup:=C5.filter _
theorem xT{ts:List Nat}{n:Nat}(h:n ∈ cM ts):n ∉ ts:=by
 unfold cM at h;rw[List.mem_filter] at h;simpa using h.2
theorem C6(f:Nat->Nat):∀ ts:List Nat,(ts.flatMap λt=>[t,f t]).length=2 * ts.length
 | []=>rfl
 | t :: r=>by rw[Jv,WX,C6 f r]; simp; omega
theorem OV(GD:DF)(hD:∀ (d:D) (m:Nat),bt d->0 < m->m < 1073741824->∃ (r:Nat) (d':D),GD [.own d,.pure (.int m)]=some (.pure (.int r),[.own d',.pure (.int m)])/\r < m/\bt d'){h w:Nat}{bs:List (Nat×List Tx)}(R:cU h w bs)(hn:bs.length<=5){pd:D}(hp:bt pd):∃ (bw:List (Nat×List Tx)) (ps:List (Nat×Nat)) (bc:D),
  di [1] 15 (w8 GD) [.pure (aB h w bs),.own pd]=some (.pure (.tup [aB h w bw,aA ps]),[.pure (aB h w bs),.own bc])/\cU h w bw/\bt bc /\
  (∀ t ∈ bs.map (·.1),t ∈ bw.map (·.1)/\∃ v,cY ps t=some v/\v ∈ bw.map (·.1))/\(∀ t ∈ bw.map (·.1),t ∈ bs.map (·.1)\/∃ u ∈ bs.map (·.1),cY ps u=some t):=by
 unfold w8;obtain⟨x0,x1,x2⟩:=oF h w bs;have h1:=R.h1;have w1:=R.w1;have n0:=R.n0;generalize cL:bs.map (·.1)=ts;have C7:ts.length=bs.length:=by rw[<- cL]; simp
 have nd:ts.Nodup:=by rw[<- cL]; exact R.nd
 have OW:ts.length<=(cM ts).length:=by
  have:=C4 ts bo C5;have e:bo.length=26:=by decide
  unfold cM;omega
 obtain⟨ps,o6,et,xU⟩:=OT (aB h w bs) pd ts (cM ts) nd (by omega) OW;have hv:∀ t ∈ ts,∃ j,j < ts.length/\t=ts.getD j 0/\cY ps t=some ((cM ts).getD j 0)/\(cM ts).getD j 0 ∈ cM ts:=λt ht=>by
  obtain⟨j,hj,e⟩:=List.getElem_of_mem ht;have e':t=ts.getD j 0:=by simp[hj,e]
  refine⟨j,hj,e',by rw[e']; exact xU j hj,?_⟩;have:j < (cM ts).length:=by omega
  simp[this]
 have fX:∀ n ∈ ts,(n ∈ ts\/n ∈ ts.map (gH ps))/\∃ v,cY ps n=some v/\(v ∈ ts\/v ∈ ts.map (gH ps)):=λn hn=>by
  obtain⟨j,hj,e,l,m⟩:=hv n hn;refine⟨.inl hn,_,l,.inr (Wz.mpr ⟨n,hn,?_⟩)⟩;unfold gH;rw[l];rfl
 obtain⟨bl,bc,o8,o9,aF,aN,c7,eb,q1,q2,q3⟩:=OQ (ru:=aB h w bs) (lf:=cM ts) (al:=λn=>n ∈ ts\/n ∈ ts.map (gH ps)) hD (h:=h) (w:=w) (by omega) (by omega) bs (λb hb=>by rw[<- cL]; exact Wy hb) (by omega) (λb hb=>by rw[<- cL]; exact R.iL b hb) fX hp o6;rw[cL] at q1;have hlen:bl.length=2 * ts.length:=by
  have:=congrArg QH q1;rw[Wi,C6] at this;exact this
 have C8:(bl.map (·.1)).Nodup:=by
  rw[q1];refine List.pairwise_flatMap.mpr ⟨λt ht=>?_,?_⟩
  ·obtain⟨j,hj,e,l,m⟩:=hv t ht;have:t≠gH ps t:=λz=>by
    have et:gH ps t=(cM ts).getD j 0:=by unfold gH; rw[l]; rfl
    rw[et] at z;exact xT m (by rw[<- z]; exact ht)
   simp[this]
  ·refine nd.imp_of_mem λ{t u} ht hu cn=>?_
   obtain⟨j,hj,e,l,m⟩:=hv t ht;obtain⟨k,hk,e',l',m'⟩:=hv u hu;have et:gH ps t=(cM ts).getD j 0:=by unfold gH; rw[l]; rfl
   have eu:gH ps u=(cM ts).getD k 0:=by unfold gH; rw[l']; rfl
   intro x hx y hy;simp at hx hy;rcases hx with rfl | rfl <;> rcases hy with rfl | rfl
   ·exact cn
   ·rw[eu]; exactλz=>xT m' (by rw[<- z]; exact ht)
   ·rw[et]; exactλz=>xT m (by rw[z]; exact hu)
   ·rw[et,eu];intro z;have OX:j≠k:=λw=>cn (by rw[e,e',w])
    have z1:(cM ts).getD j 0=(cM ts)[j]'(by omega):=by simp[show j < (cM ts).length by omega]
    have z2:(cM ts).getD k 0=(cM ts)[k]'(by omega):=by simp[show k < (cM ts).length by omega]
    rw[z1,z2] at z;exact OX ((JX (OU ts)).mp z)
 obtain⟨bw,hperm,es⟩:=OP bl C8 (by omega) (by omega);have oI:∀ n,n ∈ bw.map (·.1) ↔ n ∈ ts\/n ∈ ts.map (gH ps):=λn=>by
  rw[(hperm.map (·.1)).mem_iff,q1,List.mem_flatMap];constructor
  ·rintro ⟨t,ht,hx⟩;simp at hx;rcases hx with rfl | rfl
   ·exact .inl ht
   ·exact .inr (Wy ht)
  ·rintro (hh | hh)
   ·exact⟨n,hh,by simp⟩
   ·obtain⟨t,ht,rfl⟩:=Wz.mp hh;exact⟨t,ht,by simp⟩
 have kb:=hperm.length_eq;refine⟨bw,ps,bc,?_,⟨R.h0,R.h1,R.w0,R.w1,by omega,by omega,(hperm.map (·.1)).nodup_iff.mpr C8,λb hb=>?_⟩,q3,λt ht=>?_,λt ht=>?_⟩
 ·have e3:=jC (cs:=[13]) (g:=ae [1] 13) (t:=bq) (el:=(ah aw 13 (aq (eD (.int 0))))) aZ (λb:Nat×List Tx=>D.str [b.1]) [some (.pure (aB h w bs)),some (.own pd),some (.pure (.str bo)),none,none,none,none,none,none,none,none,none,none,none,none] bs [] (by rw[dj]; simp; omega) (λb hb=>⟨_,_,.pure (.str [b.1]),[some (.pure (aB h w bs)),some (.own pd),some (.pure (.str bo)),none,none,none,none,none,none,none,none,none,none,some (.pure (aZ b)),none],rfl,rfl,by
   generalize aB h w bs=ru at *;simp[ah,bG,aj,aw,kI],rfl,rfl⟩)
  have eT:(bs.map λb:Nat×List Tx=>D.str [b.1])=ts.map λn=>D.str [n]:=by rw[<- cL]; simp
  rw[Qb,eT] at e3;have e4:=tu (cs:=[14]) (g:=ae [1] 14) (t:=(aS (bj (iI true) (af 14) (aj 3)))) (el:=af 14) (λn:Nat=>D.str [n]) (λn:Nat=>D.str [n]) (λn=>!ts.contains n) [some (.pure (aB h w bs)),some (.own pd),some (.pure (.str bo)),some (.own (tD ts)),none,none,none,none,none,none,none,none,none,none,none] bo [] (by rw[dj]; decide) (λn _=>⟨_,[some (.pure (aB h w bs)),some (.own pd),some (.pure (.str bo)),some (.own (tD ts)),none,none,none,none,none,none,none,none,none,none,some (.pure (.str [n]))],.pure (.str [n]),[some (.pure (aB h w bs)),some (.own pd),some (.pure (.str bo)),some (.own (tD ts)),none,none,none,none,none,none,none,none,none,none,some (.pure (.str [n]))],rfl,by
   have hi:iI true (.str [n]) (tD ts)=some (.pure (.bl (!ts.contains n))):=OG ts n;generalize aB h w bs=ru at *;generalize tD ts=tl at *;generalize bo=lt at *;simp[aS,af,aj,hi],rfl,by simp[af],rfl,rfl⟩)
  rw[Qb] at e4;have e4:cg [14] (ae [1] 14) (aS (bj (iI true) (af 14) (aj 3))) (af 14) (bo.map λn=>D.str [n]) [some (.pure (aB h w bs)),some (.own pd),some (.pure (.str bo)),some (.own (tD ts)),none,none,none,none,none,none,none,none,none,none,none] [] = .ok ((cM ts).map λn=>D.str [n]) [some (.pure (aB h w bs)),some (.own pd),some (.pure (.str bo)),some (.own (tD ts)),none,none,none,none,none,none,none,none,none,none,none]:=e4;have bu:=CZ ts;rw[oE];have OY:cT 15 [S.pure (aB h w bs),.own pd]=[some (.pure (aB h w bs)),some (.own pd),none,none,none,none,none,none,none,none,none,none,none,none,none]:=rfl;have run:(ar (au (eD (.str [97,98,99,100,101,102,103,104,105,106,107,108,109,110,111,112,113,114,115,116,117,118,119,120,121,122])) (ae [1] 2)) (ar (au (bU [13] (aY (ah aw 0 (aq (eD (.int 2))))) (ae [1] 13) bq (ah aw 13 (aq (eD (.int 0))))) (ae [1] 3)) (ar (au (bU [14] (aY (af 2)) (ae [1] 14) (aS (bj (iI true) (af 14) (aj 3))) (af 14)) (ae [1] 4)) (ar (au mD (ae [1] 5)) (ar (cf (fV (aK eJ (aj 3))) (ae [1] 6) (gc 5 (ah aw 3 (aj 6)) (ah aw 4 (aj 6)))) (ar (au (cA aP) (ae [1] 7)) (ar (cf (aY (ah aw 0 (aq (eD (.int 2))))) (cB 2 (bB (ae [1] 8) (bB (ae [1] 9) cH))) (cf (aY (cA (az (af 8) (az (ah bV 5 (aj 8)) aP)))) (ae [1] 10) (ar (au (cA aP) (ae [1] 11)) (ar (cf (aY (af 9)) (ae [1] 12) (cS 11 (aK (dC []) (aq (bU [14] (aY (af 12)) (ae [1] 14) bq (bj aw (cA (az (af 14) (az (ah bV 5 (aj 14)) aP))) (aq (aH GD [.io 1,.val (eD (.int 2))])))))))) (cS 7 (bI (az (af 10) (az (aK cp (aj 11)) aP)))))))) (dD (bI (az (bI (az (ah aw 0 (aq (eD (.int 0)))) (az (ah aw 0 (aq (eD (.int 1)))) (az (aK cp (aq (aK lJ (aj 7)))) aP)))) (az (af 5) aP))))))))))) [some (.pure (aB h w bs)),some (.own pd),none,none,none,none,none,none,none,none,none,none,none,none,none] = .ok (.ret (.pure (.tup [aB h w bw,aA ps]))) [some (.pure (aB h w bs)),some (.own bc),some (.pure (.str bo)),some (.own (tD ts)),some (.own (tD (cM ts))),some (.pure (aA ps)),o6,some (.own (.lst (bl.map aZ))),o8,o9,aF,aN,c7,none,none]:=by
   refine eR (δ1:=[some (.pure (aB h w bs)),some (.own pd),some (.pure (.str bo)),none,none,none,none,none,none,none,none,none,none,none,none]) rfl ?_;refine eR (δ1:=[some (.pure (aB h w bs)),some (.own pd),some (.pure (.str bo)),some (.own (tD ts)),none,none,none,none,none,none,none,none,none,none,none]) (by
    generalize hru:aB h w bs=ru at *;generalize bo=lt at *;simp[au,e8,ah,bG,aj,x2,bJ,bD];rw[e3];simp[cI,tD]) ?_
   refine eR (δ1:=[some (.pure (aB h w bs)),some (.own pd),some (.pure (.str bo)),some (.own (tD ts)),some (.own (tD (cM ts))),none,none,none,none,none,none,none,none,none,none]) (by
    generalize hru:aB h w bs=ru at *;generalize htd:tD ts=td at *;generalize bo=lt at *;simp[au,e8,af,bJ,bD];rw[e4];simp[cI,tD]) ?_
   refine eR (δ1:=[some (.pure (aB h w bs)),some (.own pd),some (.pure (.str bo)),some (.own (tD ts)),some (.own (tD (cM ts))),some (.own (aA [])),none,none,none,none,none,none,none,none,none]) (by simp[au,mD]) ?_;refine eR (δ1:=[some (.pure (aB h w bs)),some (.own pd),some (.pure (.str bo)),some (.own (tD ts)),some (.own (tD (cM ts))),some (.own (aA ps)),o6,none,none,none,none,none,none,none,none]) (by
    have hit:fV (aK eJ (aj 3)) [some (.pure (aB h w bs)),some (.own pd),some (.pure (.str bo)),some (.own (tD ts)),some (.own (tD (cM ts))),some (.own (aA [])),none,none,none,none,none,none,none,none,none] = .ok (dE 0 ts.length) [some (.pure (aB h w bs)),some (.own pd),some (.pure (.str bo)),some (.own (tD ts)),some (.own (tD (cM ts))),some (.own (aA [])),none,none,none,none,none,none,none,none,none]:=by
     generalize hru:aB h w bs=ru at *;generalize tD ts=td at *;generalize tD (cM ts)=tl at *;generalize bo=lt at *;simp[aj,bu,pV ts.length (by omega:ts.length<=1000000)]
    rw[n_,hit];exact et) ?_
   refine eR (δ1:=[some (.pure (aB h w bs)),some (.own pd),some (.pure (.str bo)),some (.own (tD ts)),some (.own (tD (cM ts))),some (.own (aA ps)),o6,some (.own (.lst [])),none,none,none,none,none,none,none]) (by simp[au]) ?_;refine eR (δ1:=[some (.pure (aB h w bs)),some (.own bc),some (.pure (.str bo)),some (.own (tD ts)),some (.own (tD (cM ts))),some (.own (aA ps)),o6,some (.own (.lst (bl.map aZ))),o8,o9,aF,aN,c7,none,none]) (by
    have hit:aY (ah aw 0 (aq (eD (.int 2)))) [some (.pure (aB h w bs)),some (.own pd),some (.pure (.str bo)),some (.own (tD ts)),some (.own (tD (cM ts))),some (.own (aA ps)),o6,some (.own (.lst [])),none,none,none,none,none,none,none] = .ok (bs.map aZ) [some (.pure (aB h w bs)),some (.own pd),some (.pure (.str bo)),some (.own (tD ts)),some (.own (tD (cM ts))),some (.own (aA ps)),o6,some (.own (.lst [])),none,none,none,none,none,none,none]:=by
     generalize hru:aB h w bs=ru at *;generalize tD ts=td at *;generalize tD (cM ts)=tl at *;generalize bo=lt at *;generalize aA ps=dd at *;simp[e8,ah,bG,aj,x2]
    rw[n_,hit];exact eb) ?_
   generalize hb2:bw.map aZ=bx at *;generalize bl.map aZ=by' at *;generalize hru:aB h w bs=ru at *;generalize tD ts=td at *;generalize tD (cM ts)=tl at *;generalize bo=lt at *;generalize k7:aA ps=dd at *;simp[ah,bG,aj,x0,x1,es,cp,af,hb2]
  rw[OY,run];simp[cJ,dw,cq]
 ·have:=q2 b (hperm.mem_iff.mp hb);exact⟨this.1,λr hr=>⟨(this.2 r hr).1,λn hn=>(oI n).mpr ((this.2 r hr).2 n hn)⟩⟩
 ·obtain⟨_,v,l,m⟩:=fX t ht;exact⟨(oI t).mpr (.inl ht),v,l,(oI v).mpr m⟩
 ·rcases (oI t).mp ht with hh | hh
  ·exact .inl hh
  ·obtain⟨u,hu,rfl⟩:=Wz.mp hh;obtain⟨j,hj,e,l,m⟩:=hv u hu;exact .inr ⟨u,hu,by unfold gH; rw[l]; rfl⟩
theorem OZ{h w:Nat}{bs:List (Nat×List Tx)}(R:cU h w bs)(hn:bs.length<=5){pd:D}(hp:bt pd):∃ (bw:List (Nat×List Tx)) (ps:List (Nat×Nat)) (bc:D),
  mO [.pure (aB h w bs),.own pd]=some (.pure (.tup [aB h w bw,aA ps]),[.pure (aB h w bs),.own bc])/\cU h w bw/\bt bc /\
  (∀ t ∈ bs.map (·.1),t ∈ bw.map (·.1)/\∃ v,cY ps t=some v/\v ∈ bw.map (·.1))/\(∀ t ∈ bw.map (·.1),t ∈ bs.map (·.1)\/∃ u ∈ bs.map (·.1),cY ps u=some t):=by
 rw[mO,w_];exact OV dS (λd m hp a b=>oD hp m a b) R hn hp
abbrev eM(ps:List (Nat×Nat)):D:=.tup (ps.map λp=>.tup [.str [p.1],.str [p.2]])
def iS(ps:List (Nat×Nat))(ts:List Nat):Prop:=∀ t ∈ ts,∃ v,cY ps t=some v
theorem C9{ps:List (Nat×Nat)}{ts:List Nat}(h:iS ps ts)(a b:Nat):iS (gX ps a b) ts:=λt ht=>by
 rw[tE];split
 ·exact⟨_,rfl⟩
 ·exact h t ht
theorem O0(ps:List (Nat×Nat))(a b:Nat):∃ v,cY (gX ps a b) a=some v:=⟨b,by rw[tE,if_pos rfl]⟩
theorem O1:∀ r:Nat,r < 3->∃ v:Nat,aw (.str [120,121,122]) (.int r)=some (.pure (.str [v])):=by
 intro r hr;have:r=0\/r=1\/r=2:=by omega
 rcases this with rfl | rfl | rfl
 ·exact⟨120,rfl⟩
 ·exact⟨121,rfl⟩
 ·exact⟨122,rfl⟩
section
variable {GD:DF} (hD:∀ (d:D) (m:Nat),bt d->0 < m->m < 1073741824->∃ (r:Nat) (d':D),GD [.own d,.pure (.int m)]=some (.pure (.int r),[.own d',.pure (.int m)])/\r < m/\bt d')
include hD
theorem signs(ru:D)(ts:List Nat)(hn:ts.length<=100)(k:Nat)(hk:k < 3){pd:D}(hp:bt pd):∃ (ps:List (Nat×Nat)) (bc:D) (o6:Option S),forL (ae [0] 6) (gc 4 (af 6) (bj aw (eD (.str [120,121,122])) (aq (aH GD [.io 0,.val (af 5)])))) (ts.map λn=>D.str [n]) [some (.own pd),some (.pure (.int 5)),some (.pure ru),some (.pure (tD ts)),some (.own (aA [])),some (.pure (.int (1 + (k:Int)))),none,none,none,none,none] = .ok .next [some (.own bc),some (.pure (.int 5)),some (.pure ru),some (.pure (tD ts)),some (.own (aA ps)),some (.pure (.int (1 + (k:Int)))),o6,none,none,none,none]/\iS ps ts/\ps.length<=ts.length/\bt bc:=by
 obtain⟨δ',e,ps,bc,o6,q1,q2,q3,rfl⟩:=kJ (g:=ae [0] 6) (b:=(gc 4 (af 6) (bj aw (eD (.str [120,121,122])) (aq (aH GD [.io 0,.val (af 5)]))))) (λk' δ=>∃ (ps:List (Nat×Nat)) (pd:D) (o6:Option S),ps.length<=k'/\iS ps (ts.take k')/\bt pd/\δ=[some (.own pd),some (.pure (.int 5)),some (.pure ru),some (.pure (tD ts)),some (.own (aA ps)),some (.pure (.int (1 + (k:Int)))),o6,none,none,none,none]) (ts.map λn=>D.str [n]) 0 [some (.own pd),some (.pure (.int 5)),some (.pure ru),some (.pure (tD ts)),some (.own (aA [])),some (.pure (.int (1 + (k:Int)))),none,none,none,none,none] ⟨[],pd,none,by simp,λt ht=>by simp at ht,hp,rfl⟩ (λi d δ hd ⟨ps,pd,o6,q1,q2,q3,e⟩=>by
  subst e;rw[Wl,WA] at hd;obtain⟨n,jN,rfl⟩:=hd;rw[Qh] at q1 q2 ⊢;have hi:=(W3.mp jN).1;obtain⟨r,d',e,l,p⟩:∃ (r:Nat) (d':D),GD [.own pd,.pure (.int (1 + (k:Int)))]=some (.pure (.int r),[.own d',.pure (.int (1 + (k:Int)))])/\r < 1 + k/\bt d':=by
   have:=hD pd (1 + k) q3 (by omega) (by omega);rwa [show(((1 + k:Nat):Int))=1 + (k:Int) by omega] at this
  obtain⟨v,hv⟩:=O1 r (by omega);refine⟨_,[some (.own d'),some (.pure (.int 5)),some (.pure ru),some (.pure (tD ts)),some (.own (aA (gX ps n v))),some (.pure (.int (1 + (k:Int)))),some (.pure (.str [n])),none,none,none,none],rfl,?_,⟨gX ps n v,d',_,by have:=xQ ps n v; omega,λt ht=>?_,p,rfl⟩⟩
  ·refine(xR (ps:=ps) (a:=n) (b:=v) (δ1:=[some (.own d'),some (.pure (.int 5)),some (.pure ru),some (.pure (tD ts)),some (.own (aA ps)),some (.pure (.int (1 + (k:Int)))),some (.pure (.str [n])),none,none,none,none]) (δ2:=[some (.own d'),some (.pure (.int 5)),some (.pure ru),some (.pure (tD ts)),some (.own (aA ps)),some (.pure (.int (1 + (k:Int)))),some (.pure (.str [n])),none,none,none,none]) ⟨ps,rfl⟩ ?_ ⟨ps,rfl⟩ ?_ rfl (by omega)).trans rfl
   ·generalize aA ps=dd;generalize tD ts=td;simp[aH,bz,cu,bJ,b_,af,bK,e,bf,hv]
   ·rfl
  ·rw[QX,jN] at ht;simp at ht;rcases ht with ht | rfl
   ·exact C9 q2 n v t ht
   ·exact O0 ps t v)
 rw[Qh,Wi] at q1 q2;rw[Jk] at q2;exact⟨ps,bc,o6,e,q2,q1,q3⟩
end
theorem O2(ru pd:D)(ts:List Nat)(hn:ts.length<=100)(tw:List (Nat×Nat))(xU:iS tw ts)(ps:List (Nat×Nat))(hZ:iS ps ts)(c_:ps.length<=100)(o5 o6 o7 o8:Option S):∃ (qs:List (Nat×Nat)) (c8:Option S),forL (ae [0] 6) (gc 4 (ah bV 9 (aj 6)) (ah bV 4 (aj 6))) (ts.map λn=>D.str [n]) [some (.own pd),some (.pure (.int 5)),some (.pure ru),some (.pure (tD ts)),some (.own (aA ps)),o5,o6,o7,o8,some (.pure (aA tw)),none] = .ok .next [some (.own pd),some (.pure (.int 5)),some (.pure ru),some (.pure (tD ts)),some (.own (aA qs)),o5,c8,o7,o8,some (.pure (aA tw)),none]/\iS qs ts/\(∀ t ∈ ts,∀ u,cY tw t=some u->∃ v,cY qs u=some v)/\qs.length<=200:=by
 obtain⟨δ',e,qs,c8,q1,q2,q3,rfl⟩:=kJ (g:=ae [0] 6) (b:=(gc 4 (ah bV 9 (aj 6)) (ah bV 4 (aj 6)))) (λk' δ=>∃ (qs:List (Nat×Nat)) (o6:Option S),qs.length<=100 + k'/\iS qs ts/\(∀ t ∈ ts.take k',∀ u,cY tw t=some u->∃ v,cY qs u=some v)/\δ=[some (.own pd),some (.pure (.int 5)),some (.pure ru),some (.pure (tD ts)),some (.own (aA qs)),o5,o6,o7,o8,some (.pure (aA tw)),none]) (ts.map λn=>D.str [n]) 0 [some (.own pd),some (.pure (.int 5)),some (.pure ru),some (.pure (tD ts)),some (.own (aA ps)),o5,o6,o7,o8,some (.pure (aA tw)),none] ⟨ps,o6,by omega,hZ,λt ht=>by simp at ht,rfl⟩ (λi d δ hd ⟨qs,o6,q1,q2,q3,e⟩=>by
  subst e;rw[Wl,WA] at hd;obtain⟨n,jN,rfl⟩:=hd;rw[Qh] at q1 q3 ⊢;have hi:=(W3.mp jN).1;have hm:=Wh jN;obtain⟨u,hu⟩:=xU n hm;obtain⟨v,hv⟩:=q2 n hm;have g1:=oH hu;have g2:=oH hv;refine⟨_,[some (.own pd),some (.pure (.int 5)),some (.pure ru),some (.pure (tD ts)),some (.own (aA (gX qs u v))),o5,some (.pure (.str [n])),o7,o8,some (.pure (aA tw)),none],rfl,?_,⟨gX qs u v,_,by have:=xQ qs u v; omega,C9 q2 u v,λt ht x hx=>?_,rfl⟩⟩
  ·refine(xR (ps:=qs) (a:=u) (b:=v) (δ1:=[some (.own pd),some (.pure (.int 5)),some (.pure ru),some (.pure (tD ts)),some (.own (aA qs)),o5,some (.pure (.str [n])),o7,o8,some (.pure (aA tw)),none]) (δ2:=[some (.own pd),some (.pure (.int 5)),some (.pure ru),some (.pure (tD ts)),some (.own (aA qs)),o5,some (.pure (.str [n])),o7,o8,some (.pure (aA tw)),none]) ⟨qs,rfl⟩ ?_ ⟨qs,rfl⟩ ?_ rfl (by omega)).trans rfl
   ·generalize aA qs=dd at g2 ⊢;generalize aA tw=dt at g1 ⊢;generalize tD ts=td;simp[ah,bG,aj,g2]
   ·generalize aA qs=dd at g2 ⊢;generalize aA tw=dt at g1 ⊢;generalize tD ts=td;simp[ah,bG,aj,g1]
  ·rw[QX,jN] at ht;simp at ht;rw[tE];rcases ht with ht | rfl
   ·split
    ·exact⟨_,rfl⟩
    ·exact q3 t ht x hx
   ·rw[hu] at hx; cases hx; exact⟨v,by rw[if_pos rfl]⟩)
 rw[Qh,Wi] at q1 q3;rw[Jk] at q3;exact⟨qs,c8,e,q2,q3,by omega⟩
theorem C_{h w:Nat}{bs:List (Nat×List Tx)}(hn:bs.length<=52)(pd:D)(o3:Option S)(s4:Option S)(o5 o6 o7 o8 o9:Option S):(bU [10] (aY (ah aw 2 (aq (eD (.int 2))))) (ae [0] 10) bq (ah aw 10 (aq (eD (.int 0))))) [some (.own pd),some (.pure (.int 5)),some (.pure (aB h w bs)),o3,s4,o5,o6,o7,o8,o9,none] = .ok (.own (tD (bs.map (·.1)))) [some (.own pd),some (.pure (.int 5)),some (.pure (aB h w bs)),o3,s4,o5,o6,o7,o8,o9,none]:=by
 have x2:=(oF h w bs).2.2;have e:=jC (cs:=[10]) (g:=ae [0] 10) (t:=bq) (el:=(ah aw 10 (aq (eD (.int 0))))) aZ (λb:Nat×List Tx=>D.str [b.1]) [some (.own pd),some (.pure (.int 5)),some (.pure (aB h w bs)),o3,s4,o5,o6,o7,o8,o9,none] bs [] (by rw[dj]; simp; omega) (λb hb=>⟨_,_,.pure (.str [b.1]),[some (.own pd),some (.pure (.int 5)),some (.pure (aB h w bs)),o3,s4,o5,o6,o7,o8,o9,some (.pure (aZ b))],rfl,rfl,by
  generalize aB h w bs=ru at *;simp[ah,bG,aj,aw,kI],rfl,rfl⟩)
 have eT:(bs.map λb:Nat×List Tx=>D.str [b.1])=(bs.map (·.1)).map λn=>D.str [n]:=by simp
 rw[Qb,eT] at e;generalize hru:aB h w bs=ru at *;simp[e8,ah,bG,aj,x2,bJ,bD];rw[e];simp[cI,tD]
theorem O3(ts:List Nat)(n:Nat)(h:n ∈ ts)(hl:ts.length<=1000):mH (tD ts) (.str [n])=some (.pure (.int ((ts.map λn=>([n]:Tx)).idxOf [n]:Nat))):=by
 have e:(ts.map λn=>D.str [n])=(ts.map λn=>[n]).map D.str:=by simp
 unfold mH tD;simp only[e,pU];rw[if_pos ⟨Wy (f:=λn=>([n]:Tx)) h,by simpa using hl⟩]
theorem mid{GD GS GU:DF}(hD:∀ (d:D) (m:Nat),bt d->0 < m->m < 1073741824->∃ (r:Nat) (d':D),GD [.own d,.pure (.int m)]=some (.pure (.int r),[.own d',.pure (.int m)])/\r < m/\bt d')
  (hS:∀ {h w:Nat} {bs:List (Nat×List Tx)},cU h w bs->∀ {k:Nat},k < bs.length->GS [.pure (aB h w bs),.pure (.int k)]=some (.pure (aB h w (gm bs k)),[.pure (aB h w bs),.pure (.int k)]))
  (hU:∀ {h w:Nat} {bs:List (Nat×List Tx)},cU h w bs->bs.length<=5->∀ {pd:D},bt pd->∃ (bw:List (Nat×List Tx)) (ps:List (Nat×Nat)) (bc:D),GU [.pure (aB h w bs),.own pd]=some (.pure (.tup [aB h w bw,aA ps]),[.pure (aB h w bs),.own bc])/\cU h w bw/\bt bc /\
   (∀ t ∈ bs.map (·.1),t ∈ bw.map (·.1)/\∃ v,cY ps t=some v/\v ∈ bw.map (·.1))/\(∀ t ∈ bw.map (·.1),t ∈ bs.map (·.1)\/∃ u ∈ bs.map (·.1),cY ps u=some t))
  {h w:Nat} {bs:List (Nat×List Tx)} (R:cU h w bs) (hn:bs.length<=5) {pd:D} (hp:bt pd) (ps:List (Nat×Nat)) (hc:iS ps (bs.map (·.1))) (c_:ps.length<=100) (st:Nat) (iU:st ∈ bs.map (·.1)) (o5 o6 o7:Option S) :
  ∃ (bw:List (Nat×List Tx)) (qs:List (Nat×Nat)) (bc:D) (cy:Nat) (c8 lX:Option S),(dQ (aS (bj cP (aH GD [.io 0,.val (eD (.int 2))]) (aq (eD (.int 0))))) (ar (au (aH GU [.val (af 2),.io 0]) (cB 2 (bB (ae [0] 2) (bB (ae [0] 9) cH)))) (ar (cf (aY (af 3)) (ae [0] 6) (gc 4 (ah bV 9 (aj 6)) (ah bV 4 (aj 6)))) (ar (au (bj aw (cA (az (af 8) (az (ah bV 9 (aj 8)) aP))) (aq (aH GD [.io 0,.val (eD (.int 2))]))) (ae [0] 8)) (au (aH GS [.val (af 2),.val (mI (bU [10] (aY (ah aw 2 (aq (eD (.int 2))))) (ae [0] 10) bq (ah aw 10 (aq (eD (.int 0))))) (af 8))]) (ae [0] 2))))) d_) [some (.own pd),some (.pure (.int 5)),some (.pure (aB h w bs)),some (.pure (tD (bs.map (·.1)))),some (.own (aA ps)),o5,o6,o7,some (.pure (.str [st])),none,none] = .ok .next [some (.own bc),some (.pure (.int 5)),some (.pure (aB h w bw)),some (.pure (tD (bs.map (·.1)))),some (.own (aA qs)),o5,c8,o7,some (.pure (.str [cy])),lX,none]/\cU h w bw/\iS qs (bw.map (·.1))/\bt bc:=by
 obtain⟨r,d1,e1,hr,p1⟩:=xS hD hp;generalize cL:bs.map (·.1)=ts at *;have C7:ts.length=bs.length:=by rw[<- cL]; simp
 rcases hr with rfl | rfl
 ·obtain⟨bw,tw,d2,e2,R',p2,h1,h2⟩:=hU R hn p1;rw[cL] at h1 h2;have O4:iS tw ts:=λt ht=>let ⟨_,v,hv,_⟩:=h1 t ht; ⟨v,hv⟩
  obtain⟨qs,c8,e3,c1,c2,ql⟩:=O2 (aB h w bw) d2 ts (by omega) tw O4 ps hc c_ o5 o6 o7 (some (.pure (.str [st])));obtain⟨r2,d3,e4,hr2,p3⟩:=xS hD p2;obtain⟨hs1,v,hv,nG⟩:=h1 st iU;have O5:iS qs (bw.map (·.1)):=λt ht=>by
   rcases h2 t ht with h3 | ⟨u,hu,hx⟩
   ·exact c1 t h3
   ·exact c2 u hu t hx
  have g1:=oH hv;have Dc:(if r2=0 then st else v) ∈ bw.map (·.1):=by split <;> assumption
  have O6:=R'.n1;have ei:=O3 (bw.map (·.1)) (if r2=0 then st else v) Dc (by simp; omega);have hi:((bw.map (·.1)).map λn=>([n]:Tx)).idxOf [if r2=0 then st else v] < bw.length:=by
   have:=List.idxOf_lt_length_iff.mpr (Wy (f:=λn=>([n]:Tx)) Dc);simpa using this
  have e5:=hS R' hi;have x4:aw (.lst [.str [st],.str [v]]) (.int r2)=some (.pure (.str [if r2=0 then st else v])):=by
   rcases hr2 with rfl | rfl
   ·rfl
   ·rfl
  generalize (if r2=0 then st else v)=cy at *;generalize hix:((bw.map (·.1)).map λn=>([n]:Tx)).idxOf [cy]=ix at *;refine⟨gm bw ix,qs,d3,cy,c8,some (.pure (aA tw)),?_,C0 R' ix,by rw[oG]; exact O5,p3⟩;have q1:cP (.int 0) (.int 0)=some (.pure (.bl true)):=by rfl
  have et:aS (bj cP (aH GD [.io 0,.val (eD (.int 2))]) (aq (eD (.int 0)))) [some (.own pd),some (.pure (.int 5)),some (.pure (aB h w bs)),some (.pure (tD ts)),some (.own (aA ps)),o5,o6,o7,some (.pure (.str [st])),none,none] = .ok true [some (.own d1),some (.pure (.int 5)),some (.pure (aB h w bs)),some (.pure (tD ts)),some (.own (aA ps)),o5,o6,o7,some (.pure (.str [st])),none,none]:=by
   generalize aB h w bs=ru;generalize tD ts=td;generalize aA ps=dd;simp[aS,aH,bz,cu,bJ,b_,bK,e1,bf,q1]
  rw[vK,et];simp only[eh,if_true];refine eR (δ1:=[some (.own d2),some (.pure (.int 5)),some (.pure (aB h w bw)),some (.pure (tD ts)),some (.own (aA ps)),o5,o6,o7,some (.pure (.str [st])),some (.pure (aA tw)),none]) (by
   generalize aB h w bs=ru at e2 ⊢;generalize aB h w bw=ru' at e2 ⊢;generalize aA tw=dt at e2 ⊢;generalize tD ts=td;generalize aA ps=dd;simp[au,aH,bz,cu,bJ,b_,af,bK,bf,e2,cB,bB,cH]) ?_
  refine eR (δ1:=[some (.own d2),some (.pure (.int 5)),some (.pure (aB h w bw)),some (.pure (tD ts)),some (.own (aA qs)),o5,c8,o7,some (.pure (.str [st])),some (.pure (aA tw)),none]) (by
   rw[n_];have hit:aY (af 3) [some (.own d2),some (.pure (.int 5)),some (.pure (aB h w bw)),some (.pure (tD ts)),some (.own (aA ps)),o5,o6,o7,some (.pure (.str [st])),some (.pure (aA tw)),none] = .ok (ts.map λn=>D.str [n]) [some (.own d2),some (.pure (.int 5)),some (.pure (aB h w bw)),some (.pure (tD ts)),some (.own (aA ps)),o5,o6,o7,some (.pure (.str [st])),some (.pure (aA tw)),none]:=by
    unfold tD;generalize aB h w bw=ru';generalize aA tw=dt;generalize aA ps=dd;simp[e8,af]
   rw[hit];exact e3) ?_
  refine eR (δ1:=[some (.own d3),some (.pure (.int 5)),some (.pure (aB h w bw)),some (.pure (tD ts)),some (.own (aA qs)),o5,c8,o7,some (.pure (.str [cy])),some (.pure (aA tw)),none]) (by
   generalize aB h w bw=ru';generalize aA tw=dt at g1 ⊢;generalize aA qs=dd;generalize tD ts=td;simp[au,aH,bz,cu,bJ,b_,af,bK,bf,ah,bG,aj,g1,e4,x4]) ?_
  have qo:=C_ (h:=h) (w:=w) O6 d3 (some (.pure (tD ts))) (some (.own (aA qs))) o5 c8 o7 (some (.pure (.str [cy]))) (some (.pure (aA tw)));have Dd:mI (bU [10] (aY (ah aw 2 (aq (eD (.int 2))))) (ae [0] 10) bq (ah aw 10 (aq (eD (.int 0))))) (af 8) [some (.own d3),some (.pure (.int 5)),some (.pure (aB h w bw)),some (.pure (tD ts)),some (.own (aA qs)),o5,c8,o7,some (.pure (.str [cy])),some (.pure (aA tw)),none] = .ok (.pure (.int ix)) [some (.own d3),some (.pure (.int 5)),some (.pure (aB h w bw)),some (.pure (tD ts)),some (.own (aA qs)),o5,c8,o7,some (.pure (.str [cy])),some (.pure (aA tw)),none]:=by
   unfold mI;rw[qo];have hL:BB (S.own (tD (bw.map (·.1)))).d=true:=rfl;simp only[eh,hL,if_true];generalize aB h w bw=ru';generalize aA tw=dt;generalize aA qs=dd;generalize tD ts=td;simp only[af,J2,Qj,eh,n9,vI,sD,ei]
  clear qo;generalize aB h w (gm bw ix)=rn at *;generalize aB h w bw=ru' at *;generalize aA tw=dt at *;generalize aA qs=dd at *;generalize tD ts=td at *;simp[au,aH,bz,cu,bJ,b_,Dd,bK,bf];simp[af,Dd,bK,e5,bf]
 ·have q1:cP (.int 1) (.int 0)=some (.pure (.bl false)):=by rfl
  refine⟨bs,ps,d1,st,o6,none,?_,R,by rw[cL]; exact hc,p1⟩;generalize aB h w bs=ru;generalize tD ts=td;generalize aA ps=dd;simp[aS,aH,bz,cu,bJ,b_,bK,e1,bf,q1]
def lY(ps:List (Nat×Nat))(t:Nat):Nat:=(cY ps t).getD 0
theorem O7{h w:Nat}{bs:List (Nat×List Tx)}(R:cU h w bs)(pd:D)(ps:List (Nat×Nat))(hc:iS ps (bs.map (·.1)))(o3:Option S)(o5 o6 o7 o9:Option S)(st:Nat):(dD (bI (az (af 2) (az (af 8) (az (aK cp (aq (bU [10] (aY (ah aw 2 (aq (eD (.int 2))))) (ae [0] 10) bq (bI (az (ah aw 10 (aq (eD (.int 0)))) (az (ah bV 4 (aq (ah aw 10 (aq (eD (.int 0)))))) aP)))))) aP))))) [some (.own pd),some (.pure (.int 5)),some (.pure (aB h w bs)),o3,some (.own (aA ps)),o5,o6,o7,some (.pure (.str [st])),o9,none] = .ok (.ret (.pure (.tup [aB h w bs,.str [st],eM (bs.map λb=>(b.1,lY ps b.1))]))) [some (.own pd),some (.pure (.int 5)),some (.pure (aB h w bs)),o3,some (.own (aA ps)),o5,o6,o7,some (.pure (.str [st])),o9,none]:=by
 have x2:=(oF h w bs).2.2;have n1:=R.n1;have e:=jC (cs:=[10]) (g:=ae [0] 10) (t:=bq) (el:=(bI (az (ah aw 10 (aq (eD (.int 0)))) (az (ah bV 4 (aq (ah aw 10 (aq (eD (.int 0)))))) aP)))) aZ (λb:Nat×List Tx=>D.tup [.str [b.1],.str [lY ps b.1]]) [some (.own pd),some (.pure (.int 5)),some (.pure (aB h w bs)),o3,some (.own (aA ps)),o5,o6,o7,some (.pure (.str [st])),o9,none] bs [] (by rw[dj]; simp; omega) (λb hb=>by
  obtain⟨v,hv⟩:=hc b.1 (Wy hb);have g:=oH hv;refine⟨_,_,.pure (.tup [.str [b.1],.str [v]]),[some (.own pd),some (.pure (.int 5)),some (.pure (aB h w bs)),o3,some (.own (aA ps)),o5,o6,o7,some (.pure (.str [st])),o9,some (.pure (aZ b))],rfl,rfl,?_,rfl,by simp[lY,hv]⟩;have xb:aw (aZ b) (.int 0)=some (.pure (.str [b.1])):=by simp[aw,kI]
  generalize aB h w bs=ru at *;generalize aA ps=dd at *;generalize aZ b=db at *;simp[ah,bG,aj,xb,g])
 have eT:(bs.map λb:Nat×List Tx=>D.tup [.str [b.1],.str [lY ps b.1]])=(bs.map λb=>(b.1,lY ps b.1)).map λp=>D.tup [.str [p.1],.str [p.2]]:=by simp
 rw[Qb,eT] at e;generalize pz:(bs.map λb=>(b.1,lY ps b.1)).map (λp=>D.tup [.str [p.1],.str [p.2]])=pp at *;generalize hru:aB h w bs=ru at *;generalize aA ps=dd at *;simp[af,e8,ah,bG,aj,x2,bJ,bD];rw[e];simp[cI,cp];rw[<- pz,Wu]
theorem O8{GR GD GS GU:DF}(hD:∀ (d:D) (m:Nat),bt d->0 < m->m < 1073741824->∃ (r:Nat) (d':D),GD [.own d,.pure (.int m)]=some (.pure (.int r),[.own d',.pure (.int m)])/\r < m/\bt d')
  (hS:∀ {h w:Nat} {bs:List (Nat×List Tx)},cU h w bs->∀ {k:Nat},k < bs.length->GS [.pure (aB h w bs),.pure (.int k)]=some (.pure (aB h w (gm bs k)),[.pure (aB h w bs),.pure (.int k)]))
  (hU:∀ {h w:Nat} {bs:List (Nat×List Tx)},cU h w bs->bs.length<=5->∀ {pd:D},bt pd->∃ (bw:List (Nat×List Tx)) (ps:List (Nat×Nat)) (bc:D),GU [.pure (aB h w bs),.own pd]=some (.pure (.tup [aB h w bw,aA ps]),[.pure (aB h w bs),.own bc])/\cU h w bw/\bt bc /\
   (∀ t ∈ bs.map (·.1),t ∈ bw.map (·.1)/\∃ v,cY ps t=some v/\v ∈ bw.map (·.1))/\(∀ t ∈ bw.map (·.1),t ∈ bs.map (·.1)\/∃ u ∈ bs.map (·.1),cY ps u=some t))
  (hR:∀ d,bt d->∃ (h w:Nat) (bs:List (Nat×List Tx)) (d':D),GR [.own d,.pure (.int 5)]=some (.pure (aB h w bs),[.own d',.pure (.int 5)])/\cU h w bs/\bs.length<=5/\bt d') {pd:D} (hp:bt pd) :
  ∃ (h w:Nat) (bs:List (Nat×List Tx)) (st:Nat) (ps:List (Nat×Nat)) (bc:D),di [0] 11 (xa GR GD GS GU) [.own pd,.pure (.int 5)]=some (.pure (.tup [aB h w bs,.str [st],eM ps]),[.own bc,.pure (.int 5)])/\cU h w bs/\ps.map (·.1)=bs.map (·.1)/\bt bc:=by
 unfold xa;obtain⟨h,w,bs,d1,e1,R,hn,p1⟩:=hR pd hp;obtain⟨k,d2,e2,l2,p2⟩:∃ (r:Nat) (d':D),GD [.own d1,.pure (.int 3)]=some (.pure (.int r),[.own d',.pure (.int 3)])/\r < 3/\bt d':=hD d1 3 p1 (by decide) (by decide);generalize cL:bs.map (·.1)=ts;have C7:ts.length=bs.length:=by rw[<- cL]; simp
 have n0:=R.n0;obtain⟨ps,d3,o6,e3,hc,c_,p3⟩:=signs hD (aB h w bs) ts (by omega) k l2 p2;obtain⟨sp,d4,e4,l4,p4⟩:=hD d3 ts.length p3 (by omega) (by omega);have e5:=hS R (k:=sp) (by omega);have R2:=C0 R sp;have iU:ts.getD sp 0 ∈ ts:=by simp[l4]
 obtain⟨bw,qs,d5,cy,c8,lX,e6,R',fN,p5⟩:=mid hD hS hU R2 (by have:=congrArg QH (oG bs sp); simp at this; omega) p4 ps (by rw[oG,cL]; exact hc) (by omega) (ts.getD sp 0) (by rw[oG,cL]; exact iU) (some (.pure (.int (1 + (k:Int))))) o6 (some (.pure (.int sp)));rw[oG,cL] at e6;have bu:=CZ ts;have x3:=xP ts sp l4;have qo:=C_ (h:=h) (w:=w) (bs:=bs) R.n1 d1 none none none none none none none;rw[cL] at qo;refine⟨h,w,bw,cy,bw.map λb=>(b.1,lY qs b.1),d5,?_,R',by simp,p5⟩;have er:=O7 R' d5 qs fN (some (.pure (tD ts))) (some (.pure (.int (1 + (k:Int))))) c8 (some (.pure (.int sp))) lX cy;have run:(ar (au (aH GR [.io 0,.val (af 1)]) (ae [0] 2)) (ar (au (bU [10] (aY (ah aw 2 (aq (eD (.int 2))))) (ae [0] 10) bq (ah aw 10 (aq (eD (.int 0))))) (ae [0] 3)) (ar (au mD (ae [0] 4)) (ar (au (bj bH (eD (.int 1)) (aq (aH GD [.io 0,.val (eD (.int 3))]))) (ae [0] 5)) (ar (cf (aY (af 3)) (ae [0] 6) (gc 4 (af 6) (bj aw (eD (.str [120,121,122])) (aq (aH GD [.io 0,.val (af 5)]))))) (ar (au (aH GD [.io 0,.val (aK eJ (aj 3))]) (ae [0] 7)) (ar (au (aH GS [.val (af 2),.val (af 7)]) (ae [0] 2)) (ar (au (ah aw 3 (aj 7)) (ae [0] 8)) (ar (dQ (aS (bj cP (aH GD [.io 0,.val (eD (.int 2))]) (aq (eD (.int 0))))) (ar (au (aH GU [.val (af 2),.io 0]) (cB 2 (bB (ae [0] 2) (bB (ae [0] 9) cH)))) (ar (cf (aY (af 3)) (ae [0] 6) (gc 4 (ah bV 9 (aj 6)) (ah bV 4 (aj 6)))) (ar (au (bj aw (cA (az (af 8) (az (ah bV 9 (aj 8)) aP))) (aq (aH GD [.io 0,.val (eD (.int 2))]))) (ae [0] 8)) (au (aH GS [.val (af 2),.val (mI (bU [10] (aY (ah aw 2 (aq (eD (.int 2))))) (ae [0] 10) bq (ah aw 10 (aq (eD (.int 0))))) (af 8))]) (ae [0] 2))))) d_) (dD (bI (az (af 2) (az (af 8) (az (aK cp (aq (bU [10] (aY (ah aw 2 (aq (eD (.int 2))))) (ae [0] 10) bq (bI (az (ah aw 10 (aq (eD (.int 0)))) (az (ah bV 4 (aq (ah aw 10 (aq (eD (.int 0)))))) aP)))))) aP)))))))))))))) [some (.own pd),some (.pure (.int 5)),none,none,none,none,none,none,none,none,none] = .ok (.ret (.pure (.tup [aB h w bw,.str [cy],eM (bw.map λb=>(b.1,lY qs b.1))]))) [some (.own d5),some (.pure (.int 5)),some (.pure (aB h w bw)),some (.pure (tD ts)),some (.own (aA qs)),some (.pure (.int (1 + (k:Int)))),c8,some (.pure (.int sp)),some (.pure (.str [cy])),lX,none]:=by
  refine eR (δ1:=[some (.own d1),some (.pure (.int 5)),some (.pure (aB h w bs)),none,none,none,none,none,none,none,none]) (by
   generalize aB h w bs=ru at *;simp[au,aH,bz,cu,bJ,b_,af,bK,bf,e1]) ?_
  refine eR (δ1:=[some (.own d1),some (.pure (.int 5)),some (.pure (aB h w bs)),some (.own (tD ts)),none,none,none,none,none,none,none]) (by
   unfold au;rw[qo];rfl) ?_
  refine eR (δ1:=[some (.own d1),some (.pure (.int 5)),some (.pure (aB h w bs)),some (.own (tD ts)),some (.own (aA [])),none,none,none,none,none,none]) (by simp[au,mD]) ?_;refine eR (δ1:=[some (.own d2),some (.pure (.int 5)),some (.pure (aB h w bs)),some (.own (tD ts)),some (.own (aA [])),some (.pure (.int (1 + (k:Int)))),none,none,none,none,none]) (by
   generalize aB h w bs=ru at *;generalize tD ts=td at *;generalize aA []=dd at *;simp[au,aH,bz,cu,bJ,b_,af,bK,bf,e2,add_int]) ?_
  refine eR (δ1:=[some (.own d3),some (.pure (.int 5)),some (.pure (aB h w bs)),some (.pure (tD ts)),some (.own (aA ps)),some (.pure (.int (1 + (k:Int)))),o6,none,none,none,none]) (by
   rw[n_];have hit:aY (af 3) [some (.own d2),some (.pure (.int 5)),some (.pure (aB h w bs)),some (.own (tD ts)),some (.own (aA [])),some (.pure (.int (1 + (k:Int)))),none,none,none,none,none] = .ok (ts.map λn=>D.str [n]) [some (.own d2),some (.pure (.int 5)),some (.pure (aB h w bs)),some (.pure (tD ts)),some (.own (aA [])),some (.pure (.int (1 + (k:Int)))),none,none,none,none,none]:=by
    unfold tD;generalize aB h w bs=ru at *;simp[e8,af]
   rw[hit];exact e3) ?_
  refine eR (δ1:=[some (.own d4),some (.pure (.int 5)),some (.pure (aB h w bs)),some (.pure (tD ts)),some (.own (aA ps)),some (.pure (.int (1 + (k:Int)))),o6,some (.pure (.int sp)),none,none,none]) (by
   generalize aB h w bs=ru at *;generalize tD ts=td at *;generalize aA ps=dd at *;simp[au,aH,bz,cu,bJ,b_,af,bK,bf,aj,bu,e4]) ?_
  refine eR (δ1:=[some (.own d4),some (.pure (.int 5)),some (.pure (aB h w (gm bs sp))),some (.pure (tD ts)),some (.own (aA ps)),some (.pure (.int (1 + (k:Int)))),o6,some (.pure (.int sp)),none,none,none]) (by
   generalize aB h w (gm bs sp)=rn at *;generalize aB h w bs=ru at *;generalize tD ts=td at *;generalize aA ps=dd at *;simp[au,aH,bz,cu,bJ,b_,af,bK,bf,e5]) ?_
  refine eR (δ1:=[some (.own d4),some (.pure (.int 5)),some (.pure (aB h w (gm bs sp))),some (.pure (tD ts)),some (.own (aA ps)),some (.pure (.int (1 + (k:Int)))),o6,some (.pure (.int sp)),some (.pure (.str [ts.getD sp 0])),none,none]) (by
   generalize aB h w (gm bs sp)=rn at *;generalize tD ts=td at *;generalize aA ps=dd at *;simp[au,ah,bG,aj,x3]) ?_
  exact eR e6 er
 rw[oE,show cT 11 [S.own pd,.pure (.int 5)]=[some (.own pd),some (.pure (.int 5)),none,none,none,none,none,none,none,none,none] from rfl,run];simp[cJ,dw,cq]
theorem O9{pd:D}(hp:bt pd):∃ (h w:Nat) (bs:List (Nat×List Tx)) (st:Nat) (ps:List (Nat×Nat)) (bc:D),j8 [.own pd,.pure (.int 5)]=some (.pure (.tup [aB h w bs,.str [st],eM ps]),[.own bc,.pure (.int 5)])/\cU h w bs/\ps.map (·.1)=bs.map (·.1)/\bt bc:=by
 rw[j8,xf];exact O8 (λd m hp a b=>oD hp m a b) (λR _ hk=>OJ R hk) (λR hn _ hp=>OZ R hn hp) (λd hp=>by
  obtain⟨h,w,bs,d',e,R,hn,p⟩:=Oy hp 5 (by decide) (by decide);exact⟨h,w,bs,d',e,OH R,hn,p⟩) hp
def iL(bs:List (Nat×List Tx))(n:Nat):List Tx:=((bs.find? λb=>decide (b.1=n)).map (·.2)).getD []
theorem De(h:n ∈ bs.map (·.1)):∃ b ∈ bs,b.1=n/\(bs.find? λb=>decide (b.1=n))=some b/\iL bs n=b.2:=by
 cases e:bs.find? λb=>decide (b.1=n) with
 | none =>
  obtain⟨b,hb,rfl⟩:=Wz.mp h;have:=List.find?_eq_none.mp e b hb;simp at this
 | some b =>
  have h1:=List.mem_of_find?_eq_some e;have h2:=List.find?_some e;refine⟨b,h1,by simpa using h2,rfl,?_⟩;unfold iL;rw[e];rfl
theorem O_(xs:List Tx)(m:Nat)(h:∀ x ∈ xs,x.length<=m):jw xs<=xs.length * m:=by
 induction xs with
 | nil=>simp[jw]
 | cons x r ih =>
  have h1:=h x We;have h2:=ih λy hy=>h y (Wc _ hy)
  have e:jw (x :: r)=x.length + jw r:=by simp[jw]
  rw[e,WG,U0];omega
theorem dH(h:a δ = .ok .next δ1):ar a b δ=b δ1:=by unfold ar; rw[h]; rfl
theorem Pa(h:a δ = .ok (.ret v) δ1):ar a b δ = .ok (.ret v) δ1:=by unfold ar; rw[h]; rfl
theorem mQ(h:it δ = .ok ds δ1):cf it g b δ=forL g b ds δ1:=by unfold cf; rw[h]; rfl
theorem Pb(e:b (cT n [.pure x]) = .ok (.ret v) δ1):di [] n b [.pure x]=some (v,[.pure x]):=by
 rw[oE,e]; rfl
theorem Pc(e:b (cT n [.pure x,.pure y]) = .ok (.ret v) δ1):di [] n b [.pure x,.pure y]=some (v,[.pure x,.pure y]):=by
 rw[oE,e]; rfl
theorem Pd(xs:List Tx)(h:jw xs<=16777216):dC [] (cG xs)=some (.pure (.str xs.flatten)):=by
 unfold dC;simp only[pU,vM];rw[if_pos (by simpa using h)]
theorem mR(h1:g (.pure d) δ=some δ1)(h2:b δ1 = .ok .next δ2):forL g b (d :: r) δ=forL g b r δ2:=by
 conv=>lhs; unfold forL
 rw[h1];simp only[h2,eh]
theorem xV(h1:t δ = .ok true δ1)(h2:b δ1 = .ok .next δ2):ef t b (n + 1) δ=ef t b n δ2:=by
 simp only[ef,h1,eh,if_true,h2]
theorem Pe(h1:t δ = .ok false δ1):ef t b (n + 1) δ = .ok .next δ1:=by
 simp[ef,h1]
def fS(s:Nat):D:=.str [s]
def fI(k:Nat):D:=.int (k:Nat)
abbrev LK:=Nat×List Nat
def e9(f:Nat->D)(k:LK):D:=.tup [f k.1,.tup (k.2.map f)]
def cV(f:Nat->D):Nat->List LK->List (D×D)
 | _,[]=>[]
 | n,k :: r=>(e9 f k,.int (n:Nat)) :: cV f (n + 1) r
section
variable {f:Nat->D}
theorem Df(hf:f=fS\/f=fI)(a b:Nat):ax (f a) (f b)=decide (a=b):=by
 rcases hf with rfl | rfl
 ·unfold fS;simp only[ax];by_cases h:a=b <;> simp[h]
 ·unfold fI;simp only[ax];by_cases h:a=b
  ·simp[h]
  ·have:¬ (a:Int)=(b:Int):=by omega
   simp[h,this]
theorem Dg(hf:f=fS\/f=fI):∀ a b:List Nat,dP (a.map f) (b.map f)=decide (a=b)
 | [],[]=>rfl
 | [],_ :: _=>rfl
 | _ :: _,[]=>rfl
 | x :: a,y :: b=>by
  rw[Wd,Wd];simp only[dP,Df hf x y,Dg hf a b];by_cases h1:x=y <;> by_cases h2:a=b <;> simp[h1,h2]
theorem Dh(hf:f=fS\/f=fI)(a b:LK):ax (e9 f a) (e9 f b)=decide (a=b):=by
 obtain⟨a1,a2⟩:=a;obtain⟨b1,b2⟩:=b;unfold e9;simp only[ax,dP,Df hf,Dg hf];by_cases h1:a1=b1 <;> by_cases h2:a2=b2 <;> simp[h1,h2]
theorem Di(hf:f=fS\/f=fI)(n:Nat)(a:Nat):(cz (n + 1) (f a)).isSome=true:=by
 rcases hf with rfl | rfl <;> rfl
theorem Dj(hf:f=fS\/f=fI)(n:Nat):∀ l:List Nat,(fR (n + 1) (l.map f)).isSome=true
 | []=>rfl
 | a :: l=>by
  have h1:=Di hf n a;have h2:=Dj hf n l;rw[Wd];obtain⟨x,hx⟩:=Qf.mp h1;obtain⟨y,hy⟩:=Qf.mp h2;simp[fR,hx,hy]
theorem Pf(hf:f=fS\/f=fI)(k:LK):(cz 6 (e9 f k)).isSome=true:=by
 obtain⟨x,hx⟩:=Qf.mp (Di hf 4 k.1);obtain⟨y,hy⟩:=Qf.mp (Dj hf 3 k.2);unfold e9;simp[cz,fR,hx,hy]
theorem Pg(k:LK):gO true (e9 f k)=true:=rfl
theorem Dk:∀ (L:List LK) (n:Nat),((cV f n L).all λq=>gO true q.1)=true
 | [],_=>rfl
 | k :: r,n=>by
  unfold cV;rw[JB,Dk r];rfl
theorem Ph(hf:f=fS\/f=fI)(k:LK)(L:List LK)(n:Nat):gf (gA (e9 f k)) (cV f n L) (e9 f k)=true:=by
 have h1:gA (e9 f k)=true:=rfl;unfold gf;rw[h1,Pg k,Pf hf k,Dk L n];rfl
theorem Dm(hf:f=fS\/f=fI)(k:LK):∀ (L:List LK) (n:Nat),fo (cV f n L) (e9 f k)=if k ∈ L then some (.int ((n + L.idxOf k:Nat):Int)) else none
 | [],_=>rfl
 | a :: r,n=>by
  have ih:=Dm hf k r (n + 1);unfold fo at ih ⊢;unfold cV;rw[WM];simp only[Dh hf];by_cases h:a=k
  ·subst h;simp
  ·rw[decide_eq_false h];rw[ih,List.idxOf_cons];have hb:(a == k)=false:=by simpa using h
   rw[hb];by_cases h2:k ∈ r
   ·rw[if_pos h2,if_pos (Wc _ h2)];simp;omega
   ·rw[if_neg h2,if_neg (λz=>(Wo.mp z).elim (λe=>h e.symm) h2)]
theorem xW:∀ (L:List LK) (n:Nat),(cV f n L).length=L.length
 | [],_=>rfl
 | _ :: r,n=>by unfold cV; rw[WG,xW r,WG]
theorem Dp(k:LK):∀ (L:List LK) (n:Nat),cV f n (L ++ [k])=cV f n L ++ [(e9 f k,.int ((n + L.length:Nat):Int))]
 | [],n=>by simp[cV]
 | a :: r,n=>by
  rw[List.cons_append];unfold cV;rw[Dp k r (n + 1),List.cons_append,WG,show n + 1 + r.length=n + (r.length + 1) by omega]
theorem Dq(hf:f=fS\/f=fI)(k:LK):∀ (L:List LK) (n:Nat),((cV f n L).any λq=>ax q.1 (e9 f k))=decide (k ∈ L)
 | [],_=>rfl
 | a :: r,n=>by
  unfold cV;rw[WV,Dq hf k r];simp only[Dh hf];by_cases h:a=k
  ·subst h; simp
  ·have:¬ k=a:=λe=>h e.symm
   by_cases h2:k ∈ r <;> simp[h,h2,this]
theorem Pj(hf:f=fS\/f=fI)(k:LK)(L:List LK)(h:k ∉ L):je (cV f 0 L) (e9 f k) (.int (L.length:Nat))=cV f 0 (L ++ [k]):=by
 unfold je;rw[Dq hf k L 0,decide_eq_false h,if_neg (by simp),Dp];simp
end
def FD(n:Nat->Nat)(l:List Nat):List (D×D):=l.map λt=>(.str [t],.int ((n t:Nat):Int))
theorem Dr(n:Nat->Nat)(l:List Nat)(t:Nat):gf (gA (.str [t])) (FD n l) (.str [t])=true:=by
 unfold gf gA FD;simp[gO,cz]
theorem Ds(n:Nat->Nat)(t:Nat):∀ l:List Nat,fo (FD n l) (.str [t])=if t ∈ l then some (.int ((n t:Nat):Int)) else none
 | []=>rfl
 | a :: r=>by
  have ih:=Ds n t r;unfold fo FD at ih ⊢;rw[Wd,WM];have e:ax (D.str [a]) (D.str [t])=decide (a=t):=by
   simp only[ax];by_cases h:a=t <;> simp[h]
  simp only[e];by_cases h:a=t
  ·subst h; simp
  ·have:¬ t=a:=λz=>h z.symm
   rw[decide_eq_false h,ih];by_cases h2:t ∈ r <;> simp[h2,this]
theorem Dt(n:Nat->Nat)(l:List Nat)(t:Nat)(h:t ∉ l):je (FD n l) (.str [t]) (.int ((n t:Nat):Int))=FD n (l ++ [t]):=by
 unfold je;have:((FD n l).any λq=>ax q.1 (D.str [t]))=false:=by
  rw[Jc];intro q hq;unfold FD at hq;obtain⟨a,ha,rfl⟩:=Wz.mp hq;simp only[ax];have:a≠t:=λe=>h (by rw[<- e]; exact ha)
  simp[this]
 rw[this,if_neg (by simp)];unfold FD;simp
abbrev dU(ru pa nd mn:D)(lo fi:List (D×D))(o6 o7 o8:Option S):Dl:=[some (.pure ru),some (.pure pa),some (.own nd),some (.pure mn),some (.own (.dic lo)),some (.own (.dic fi)),o6,o7,o8,none]
abbrev gC:DE:=(bU [9] (aY (aK (dC []) (aj 7))) (ae [] 9) bq (ah iO 2 (aj 9)))
abbrev gK:DE:=(bI (az (ah iO 2 (aj 6)) (az (aK cp (aq gC)) aP)))
abbrev gS:DS:=(iM 5 (af 6) (oi 4 (af 8) (aK ic (aj 4))))
theorem Pk(ru pa nd mn B:D)(lo fi:List (D×D))(t:Nat)(o8:Option S)(f:Nat->D)(v:Nat->Nat)(x:List Nat)(hx:x.length<=1000)(hn:∀ p ∈ x,iO nd (.str [p])=some (.pure (f (v p)))) :
  cg [9] (ae [] 9) bq (ah iO 2 (aj 9)) (x.map λp=>D.str [p]) (dU ru pa nd mn lo fi (some (.pure (.str [t]))) (some (.pure B)) o8) [] = .ok (x.map λp=>f (v p)) (dU ru pa nd mn lo fi (some (.pure (.str [t]))) (some (.pure B)) o8):=by
 have:=jC (cs:=[9]) (g:=ae [] 9) (t:=bq) (el:=ah iO 2 (aj 9)) (λp:Nat=>D.str [p]) (λp=>f (v p)) (dU ru pa nd mn lo fi (some (.pure (.str [t]))) (some (.pure B)) o8) x [] (by rw[dj]; simp; omega) (λp hp=>by
  have q:=hn p hp;refine⟨_,_,.pure (f (v p)),[some (.pure ru),some (.pure pa),some (.own nd),some (.pure mn),some (.own (.dic lo)),some (.own (.dic fi)),some (.pure (.str [t])),some (.pure B),o8,some (.pure (.str [p]))],rfl,rfl,?_,rfl,rfl⟩;simp[ah,bG,aj,q,S.d])
 rw[this];rfl
theorem Pl(ru pa nd mn B:D)(x:List Nat)(t:Nat)(f:Nat->D)(hf:f=fS\/f=fI)(v n:Nat->Nat)(L:List LK)(l:List Nat)(o8:Option S)(hj:dC [] B=some (.pure (.str x)))(hx:x.length<=1000)(hL:L.length<=1000)(hl:l.length<=1000)(hn:∀ p ∈ x,iO nd (.str [p])=some (.pure (f (v p))))(ht:iO nd (.str [t])=some (.pure (f (v t))))(tF:t ∉ l)
  (mS:n t=(if (v t,x.map v) ∈ L then L else L ++ [(v t,x.map v)]).idxOf (v t,x.map v)) :
  (ar (au gK (ae [] 8)) gS) (dU ru pa nd mn (cV f 0 L) (FD n l) (some (.pure (.str [t]))) (some (.pure B)) o8) = .ok .next (dU ru pa nd mn (cV f 0 (if (v t,x.map v) ∈ L then L else L ++ [(v t,x.map v)])) (FD n (l ++ [t])) (some (.pure (.str [t]))) (some (.pure B)) (some (.pure (e9 f (v t,x.map v))))):=by
 have c:=Pk ru pa nd mn B (cV f 0 L) (FD n l) t o8 f v x hx hn;have em:(x.map λp=>f (v p))=(x.map v).map f:=by rw[Wu]; rfl
 rw[em] at c;have eK:e9 f (v t,x.map v) = .tup [f (v t),.tup ((x.map v).map f)]:=rfl;have k1:au gK (ae [] 8) (dU ru pa nd mn (cV f 0 L) (FD n l) (some (.pure (.str [t]))) (some (.pure B)) o8) = .ok .next (dU ru pa nd mn (cV f 0 L) (FD n l) (some (.pure (.str [t]))) (some (.pure B)) (some (.pure (e9 f (v t,x.map v))))):=by
  rw[eK];generalize (x.map v).map f=Y at *;generalize cV f 0 L=LL at *;generalize FD n l=FF at *;generalize f (v t)=ft at *;unfold dU at c ⊢;simp[au,bI,az,aP,ah,bG,aj,ht,S.d,e8,hj,bJ,bD];rw[c];simp[cI,cp]
 rw[dH k1];have g1:=Ph hf (v t,x.map v) L 0;have v1:=Dm hf (v t,x.map v) L 0;have xX:(cV f 0 L).length=L.length:=xW L 0;have g2:=Dr n l t;have z1:(cV f 0 L).length < W9:=by rw[xX,dj]; omega
 have z2:(FD n l).length < W9:=by unfold FD; rw[Wi,dj]; omega
 by_cases h:(v t,x.map v) ∈ L
 ·rw[if_pos h] at v1 mS ⊢;rw[Qh,<- mS] at v1;have p2:=Dt n l t tF;rw[<- p2];generalize e9 f (v t,x.map v)=key at *;generalize cV f 0 L=LL at *;generalize FD n l=FF at *;simp[gS,iM,oi,lM,af,aj,ic,S.d,g1,z1,v1,g2,z2]
 ·rw[if_neg h] at v1 mS ⊢;have mf:n t=L.length:=by
   rw[mS,List.idxOf_append,if_neg h];simp
  have p1:=Pj hf (v t,x.map v) L h;have p2:=Dt n l t tF;have kG:ic (.dic (cV f 0 L))=some (.pure (.int (L.length:Nat))):=by
   show some (S.pure (.int ((cV f 0 L).length:Nat)))=_;rw[xX]
  rw[<- p2,<- p1,mf];clear p1 p2 mf mS xX hn ht c;generalize e9 f (v t,x.map v)=key at *;generalize cV f 0 L=LL at *;generalize FD n l=FF at *;generalize D.int (L.length:Nat)=LN at *;simp[gS,iM,oi,lM,af,aj,kG,S.d,g1,z1,v1,g2,z2]
def aG(bs:List (Nat×List Tx))(t:Nat):List Nat:=(iL bs t).flatten
theorem Du{bs:List (Nat×List Tx)}(nd:(bs.map (·.1)).Nodup){b:Nat×List Tx}(hb:b ∈ bs):iL bs b.1=b.2:=by
 obtain⟨b',p_,e1,_,e2⟩:=De (Wy (f:=(·.1)) hb);obtain⟨i,hi⟩:=WO.mp hb;obtain⟨j,hj⟩:=WO.mp p_;have:i=j:=(JT (l:=bs.map (·.1)) (by simpa using (W3.mp hi).1) nd).mp (by rw[Wl,Wl,hi,hj]; simp[e1]);subst this;rw[hi] at hj
 cases hj;exact e2
theorem Dv(C:Nat):∀ l:List Tx,(∀ r ∈ l,r.length=C)->l.flatten.length=l.length * C
 | [],_=>by simp
 | r :: l,h=>by
  rw[QW,WX,Dv C l λx hx=>h x (Wc _ hx),h r We,WG,U0];omega
theorem lZ{h w:Nat}{bs:List (Nat×List Tx)}(R:cU h w bs){t:Nat}(ht:t ∈ bs.map (·.1)):(aG bs t).length=h * w/\h * w<=16/\∀ p ∈ aG bs t,p ∈ bs.map (·.1):=by
 obtain⟨b,hb,rfl⟩:=Wz.mp ht;unfold aG;rw[Du R.nd hb];have hB:=R.iL b hb;refine⟨by rw[Dv w b.2 λr hr=>(hB.2 r hr).1,hB.1],Nat.mul_le_mul R.h1 R.w1,λp hp=>?_⟩;obtain⟨r,hr,hpr⟩:=List.mem_flatten.mp hp;exact(hB.2 r hr).2 p hpr
theorem Dw{h w:Nat}{bs:List (Nat×List Tx)}(R:cU h w bs){b:Nat×List Tx}(hb:b ∈ bs):dC [] (cG b.2)=some (.pure (.str (aG bs b.1))):=by
 have hB:=R.iL b hb;unfold aG;rw[Du R.nd hb];refine Pd _ ?_;have:=O_ b.2 w λx hx=>Nat.le_of_eq (hB.2 x hx).1
 rw[hB.1] at this;have h2:h * w<=4 * 4:=Nat.mul_le_mul R.h1 R.w1;omega
abbrev gB:DS:=(ar (au gK (ae [] 8)) gS)
abbrev gT:DG:=(cB 2 (bB (ae [] 6) (bB (ae [] 7) cH)))
theorem Dx{h w:Nat}{bs:List (Nat×List Tx)}(R:cU h w bs)(ru pa nd mn:D)(f:Nat->D)(hf:f=fS\/f=fI)(v:Nat->Nat)(hn:∀ p ∈ bs.map (·.1),iO nd (.str [p])=some (.pure (f (v p)))):∀ (br bl:List (Nat×List Tx)) (o6 o7 o8:Option S),bl ++ br=bs ->
  ∃ c8 o7' o8',forL gT gB (br.map aZ) (dU ru pa nd mn (cV f 0 (bO [] ((bl.map (·.1)).map (lk (aG bs) v)))) (FD (fK (bs.map (·.1)) (aG bs) v) (bl.map (·.1))) o6 o7 o8) = .ok .next (dU ru pa nd mn (cV f 0 (fq (bs.map (·.1)) (aG bs) v)) (FD (fK (bs.map (·.1)) (aG bs) v) (bs.map (·.1))) c8 o7' o8')
 | [],bl,o6,o7,o8,e=>by
  rw[Qv] at e;subst e;exact⟨o6,o7,o8,rfl⟩
 | b :: br,bl,o6,o7,o8,e=>by
  have hb:b ∈ bs:=by rw[<- e]; simp
  have ht:b.1 ∈ bs.map (·.1):=Wy hb;obtain⟨l1,l2,l3⟩:=lZ R ht;have n1:=R.n1;have kb:bl.length<=52:=by
   have:=congrArg QH e;simp at this;omega
  have hL:(bO [] ((bl.map (·.1)).map (lk (aG bs) v))).length<=1000:=by
   have:=tm ((bl.map (·.1)).map (lk (aG bs) v)) [];rw[Wi,Wi,QS] at this;omega
  have tF:b.1 ∉ bl.map (·.1):=λz=>by
   have nd:=R.nd;rw[<- e,Q2,Wd] at nd;exact(List.nodup_append.mp nd).2.2 b.1 z b.1 We rfl
  have ek:lk (aG bs) v b.1=(v b.1,(aG bs b.1).map v):=rfl;have es:bO [] (((bl ++ [b]).map (·.1)).map (lk (aG bs) v))=if (v b.1,(aG bs b.1).map v) ∈ bO [] ((bl.map (·.1)).map (lk (aG bs) v)) then bO [] ((bl.map (·.1)).map (lk (aG bs) v)) else bO [] ((bl.map (·.1)).map (lk (aG bs) v)) ++ [(v b.1,(aG bs b.1).map v)]:=by
   rw[Q2,Q2];refine(xI (lk (aG bs) v b.1) ((bl.map (·.1)).map (lk (aG bs) v)) []).trans ?_;rw[<- ek];by_cases hh:lk (aG bs) v b.1 ∈ bO [] ((bl.map (·.1)).map (lk (aG bs) v))
   ·rw[if_pos hh,if_pos hh]
   ·rw[if_neg hh,if_neg hh]
  have oI:lk (aG bs) v b.1 ∈ bO [] (((bl ++ [b]).map (·.1)).map (lk (aG bs) v)):=(qj _ _).mpr (.inr (Wy (by simp)));have ng:∃ s,fq (bs.map (·.1)) (aG bs) v=bO [] (((bl ++ [b]).map (·.1)).map (lk (aG bs) v)) ++ s:=by
   have app:∀ (x y L:List LK),bO L (x ++ y)=bO (bO L x) y:=λx=>by
    induction x with
    | nil=>intro y L; rfl
    | cons a x ih=>intro y L; exact ih y _
   have e2:∀ F:Nat->LK,(bs.map (·.1)).map F=((bl ++ [b]).map (·.1)).map F ++ (br.map (·.1)).map F:=λF=>by rw[<- e]; simp
   unfold fq;rw[e2,app];exact xD _ _
  have mS:fK (bs.map (·.1)) (aG bs) v b.1=(if (v b.1,(aG bs b.1).map v) ∈ bO [] ((bl.map (·.1)).map (lk (aG bs) v)) then bO [] ((bl.map (·.1)).map (lk (aG bs) v)) else bO [] ((bl.map (·.1)).map (lk (aG bs) v)) ++ [(v b.1,(aG bs b.1).map v)]).idxOf (v b.1,(aG bs b.1).map v):=by
   rw[<- es,<- ek];obtain⟨s,hs⟩:=ng;unfold fK;rw[hs];exact N8 oI
  have st:=Pl ru pa nd mn (cG b.2) (aG bs b.1) b.1 f hf v (fK (bs.map (·.1)) (aG bs) v) _ (bl.map (·.1)) o8 (Dw R hb) (by omega) hL (by simp; omega) (λp hp=>hn p (l3 p hp)) (hn b.1 ht) tF mS;rw[<- es] at st;obtain⟨c8,o7',o8',ih⟩:=Dx R ru pa nd mn f hf v hn br (bl ++ [b]) (some (.pure (.str [b.1]))) (some (.pure (cG b.2))) (some (.pure (e9 f (v b.1,(aG bs b.1).map v)))) (by rw[<- e]; simp);refine⟨c8,o7',o8',?_⟩;rw[Wd,mR (δ1:=dU ru pa nd mn (cV f 0 (bO [] ((bl.map (·.1)).map (lk (aG bs) v)))) (FD (fK (bs.map (·.1)) (aG bs) v) (bl.map (·.1))) (some (.pure (.str [b.1]))) (some (.pure (cG b.2))) o8) rfl st];have em:(bl ++ [b]).map (·.1)=bl.map (·.1) ++ [b.1]:=by simp
  rw[em] at ih ⊢;exact ih
abbrev iW(ru pa:D)(s2 s3 o4 o5 o6 o7 o8:Option S):Dl:=[some (.pure ru),some (.pure pa),s2,s3,o4,o5,o6,o7,o8,none]
abbrev wG:DS:=(ar (au gP (ae [] 4)) (ar (au gP (ae [] 5)) (ar (cf (aY (ah aw 0 (aq (eD (.int 2))))) gT gB) (ar (dQ (aS (bj cP (aK ic (aj 4)) (aj 3))) (kF [] 5) d_) (ar (au (aK ic (aj 4)) (ae [] 3)) (og [] 2 5))))))
theorem Pm{t:DT}{b:DS}{n:Nat}{δ δ1 δ2:Dl}{v:S}(h1:t δ = .ok true δ1)(h2:b δ1 = .ok (.ret v) δ2):ef t b (n + 1) δ = .ok (.ret v) δ2:=by
 simp only[ef,h1,eh,if_true,h2]
theorem Pn(ru pa nd:D)(mn ln:Nat)(B:List D)(LL FF:List (D×D))(gb:DS)(o4 o5 o6 o7 o8 p6 p7 p8:Option S)(x2:aw ru (.int 2)=some (.pure (.tup B)))(hl:LL.length=ln)
  (e:forL gT gb B (dU ru pa nd (.int (mn:Nat)) [] [] o6 o7 o8) = .ok .next (dU ru pa nd (.int (mn:Nat)) LL FF p6 p7 p8)) :
  (ar (au gP (ae [] 4)) (ar (au gP (ae [] 5)) (ar (cf (aY (ah aw 0 (aq (eD (.int 2))))) gT gb) (ar (dQ (aS (bj cP (aK ic (aj 4)) (aj 3))) (kF [] 5) d_) (ar (au (aK ic (aj 4)) (ae [] 3)) (og [] 2 5)))))) (iW ru pa (some (.own nd)) (some (.pure (.int (mn:Nat)))) o4 o5 o6 o7 o8) =
   if ln=mn then .ok (.ret (.own (.dic FF))) (iW ru pa (some (.own nd)) (some (.pure (.int (mn:Nat)))) (some (.own (.dic LL))) none p6 p7 p8) else .ok .next (iW ru pa (some (.own (.dic FF))) (some (.pure (.int (ln:Nat)))) (some (.own (.dic LL))) none p6 p7 p8):=by
 rw[dH (δ1:=iW ru pa (some (.own nd)) (some (.pure (.int (mn:Nat)))) (some (.own (.dic []))) o5 o6 o7 o8) (by simp[au,gP])];rw[dH (δ1:=dU ru pa nd (.int (mn:Nat)) [] [] o6 o7 o8) (by simp[au,gP])];have i:aY (ah aw 0 (aq (eD (.int 2)))) (dU ru pa nd (.int (mn:Nat)) [] [] o6 o7 o8) = .ok B (dU ru pa nd (.int (mn:Nat)) [] [] o6 o7 o8):=by
  simp[e8,ah,bG,aj,x2]
 rw[dH ((mQ i).trans e)];have l2:ic (.dic LL)=some (.pure (.int (ln:Nat))):=by
  show some (S.pure (.int (LL.length:Nat)))=_;rw[hl]
 have eq:cP (.int (ln:Nat)) (.int (mn:Nat))=some (.pure (.bl (decide (ln=mn)))):=by
  show some (S.pure (.bl ((ln:Int) == (mn:Int))))=_;have:((ln:Int) == (mn:Int))=decide (ln=mn):=by
   rw[Jp];simp only[beq_iff_eq,decide_eq_true_eq];omega
  rw[this]
 generalize hA:D.int (ln:Nat)=A at *;generalize hM:D.int (mn:Nat)=M at *;by_cases h:ln=mn
 ·rw[decide_eq_true h] at eq;rw[if_pos h,Pa (δ1:=iW ru pa (some (.own nd)) (some (.pure M)) (some (.own (.dic LL))) none p6 p7 p8) (v:=.own (.dic FF)) (by simp[aS,aj,l2,eq,S.d,kF])]
 ·rw[decide_eq_false h] at eq;rw[if_neg h,dH (δ1:=dU ru pa nd M LL FF p6 p7 p8) (by simp[aS,aj,l2,eq,S.d])];simp[au,aj,l2,S.d,og]
theorem Dy{h w:Nat}{bs:List (Nat×List Tx)}(R:cU h w bs)(pa:D)(sg:Nat->Nat):∀ (fu k:Nat) (nd:D) (f:Nat->D) (o4 o5 o6 o7 o8:Option S),(f=fS\/f=fI)->(∀ p ∈ bs.map (·.1),iO nd (.str [p])=some (.pure (f (nums (bs.map (·.1)) (aG bs) sg k p))))->bs.length + 1<=many (bs.map (·.1)) (aG bs) sg k + fu ->
  ∃ c δ',Res (bs.map (·.1)) (aG bs) sg c/\ef (aS (eD (.bl true))) wG (fu + 999000) (iW (aB h w bs) pa (some (.own nd)) (some (.pure (.int (many (bs.map (·.1)) (aG bs) sg k:Nat)))) o4 o5 o6 o7 o8) = .ok (.ret (.own (.dic (FD c (bs.map (·.1)))))) ([some (.pure (aB h w bs)),some (.pure pa)] ++ δ')
 | 0,k,nd,f,o4,o5,o6,o7,o8,hf,hn,hm=>by
  exfalso
  have:=N_ (ts:=bs.map (·.1)) (tx:=aG bs) sg k;simp at this;omega
 | fu + 1,k,nd,f,o4,o5,o6,o7,o8,hf,hn,hm=>by
  obtain⟨p6,p7,p8,e⟩:=Dx R (aB h w bs) pa nd (.int (many (bs.map (·.1)) (aG bs) sg k:Nat)) f hf (nums (bs.map (·.1)) (aG bs) sg k) hn bs [] o6 o7 o8 rfl;have st:=Pn (aB h w bs) pa nd (many (bs.map (·.1)) (aG bs) sg k) (fq (bs.map (·.1)) (aG bs) (nums (bs.map (·.1)) (aG bs) sg k)).length (bs.map aZ) _ _ gB o4 o5 o6 o7 o8 p6 p7 p8 (oF h w bs).2.2 (xW _ 0) e;have t1:∀ δ:Dl,aS (eD (.bl true)) δ = .ok true δ:=λδ=>by simp[aS]
  rw[show fu + 1 + 999000=fu + 999000 + 1 by omega];by_cases hq:(fq (bs.map (·.1)) (aG bs) (nums (bs.map (·.1)) (aG bs) sg k)).length=many (bs.map (·.1)) (aG bs) sg k
  ·rw[if_pos hq] at st;exact⟨_,_,Oc (λt ht=>(lZ R ht).2.2) (by simpa using R.n0) sg k hq,Pm (t1 _) st⟩
  ·rw[if_neg hq] at st;have up:=Oa (ts:=bs.map (·.1)) (tx:=aG bs) sg k;have hu:many (bs.map (·.1)) (aG bs) sg k < many (bs.map (·.1)) (aG bs) sg (k + 1):=by
    have:many (bs.map (·.1)) (aG bs) sg (k + 1)=(fq (bs.map (·.1)) (aG bs) (nums (bs.map (·.1)) (aG bs) sg k)).length:=rfl;omega
   obtain⟨c,δ',rs,ih⟩:=Dy R pa sg fu (k + 1) (.dic (FD (fK (bs.map (·.1)) (aG bs) (nums (bs.map (·.1)) (aG bs) sg k)) (bs.map (·.1)))) fI (some (.own (.dic (cV f 0 (fq (bs.map (·.1)) (aG bs) (nums (bs.map (·.1)) (aG bs) sg k)))))) none p6 p7 p8 (.inr rfl) (λp hp=>by
    have ea:∀ X Y,iO (.dic X) Y=if gf (gA Y) X Y then(fo X Y).map S.pure else none:=λX Y=>rfl
    rw[ea,Dr,if_pos rfl,Ds,if_pos hp];rfl) (by omega)
   exact⟨c,δ',rs,(xV (t1 _) st).trans ih⟩
def fw(ps:List (Nat×Nat))(t:Nat):Nat:=((ps.find? λp=>decide (p.1=t)).map (·.2)).getD 0
def gn(ps:List (Nat×Nat)):D:=.bA (ps.map λp=>((Sum.inr [p.1]:cb),D.str [p.2]))
theorem Dz:∀ ps:List (Nat×Nat),ja (ps.map λp=>D.tup [.str [p.1],.str [p.2]])=some (ps.map λp=>((Sum.inr [p.1]:cb),D.str [p.2]))
 | []=>rfl
 | p :: r=>by
  have:=Dz r;simp only[Wd];simp[ja,fm,this]
theorem DB{ps:List (Nat×Nat)}(nd:(ps.map (·.1)).Nodup)(hl:ps.length<=1000):f_ (eM ps)=some (.own (gn ps)):=by
 unfold f_;simp only[Dz,Qd,Wi];rw[if_pos (by rw[dj]; omega),xN]
 ·rfl
 ·simp only[Qb,Wu];rw[Qq,Ju];rw[Qq,Ju] at nd;exact nd.imp λ{a b} jt=>by simpa using jt
theorem xY{ps:List (Nat×Nat)}{t:Nat}(h:t ∈ ps.map (·.1)):bV (gn ps) (.str [t])=some (.pure (.str [fw ps t])):=by
 have hv:fk (ps.map λp=>((Sum.inr [p.1]:cb),D.str [p.2])) (.inr [t])=(ps.find? λp=>decide (p.1=t)).map λp=>D.str [p.2]:=by
  unfold fk;rw[List.find?_map];simp[Function.comp_def]
 show((fm (.str [t])).bind λk=>(fk (ps.map λp=>((Sum.inr [p.1]:cb),D.str [p.2])) k).map S.pure)=_;simp only[fm,Qd,hv];unfold fw
 cases e:ps.find? λp=>decide (p.1=t) with
 | none =>
  exfalso
  obtain⟨p,hp,rfl⟩:=Wz.mp h;have:=List.find?_eq_none.mp e p hp;simp at this
 | some p=>rfl
theorem Po(pa ru DP:D)(FF:List (D×D))(wg:DS)(δ':Dl)(hd:f_ pa=some (.own DP))(e:ef (aS (eD (.bl true))) wg 1000000 (iW ru pa (some (.own DP)) (some (.pure (.int 0))) none none none none none) = .ok (.ret (.own (.dic FF))) ([some (.pure ru),some (.pure pa)] ++ δ')) :
  (ar (au (aK f_ (aj 1)) (ae [] 2)) (ar (au (eD (.int 0)) (ae [] 3)) (ef (aS (eD (.bl true))) wg 1000000))) (iW ru pa none none none none none none none) = .ok (.ret (.own (.dic FF))) ([some (.pure ru),some (.pure pa)] ++ δ'):=by
 rw[dH (δ1:=iW ru pa (some (.own DP)) none none none none none none) (by simp[au,aj,hd,S.d])];rw[dH (δ1:=iW ru pa (some (.own DP)) (some (.pure (.int 0))) none none none none none) (by simp[au])];exact e
theorem DC{b:DS}{n:Nat}{x y:D}{v:S}{δ':Dl}(e:b (cT n [.pure x,.pure y]) = .ok (.ret v) ([some (.pure x),some (.pure y)] ++ δ')):di [] n b [.pure x,.pure y]=some (v,[.pure x,.pure y]):=by
 rw[oE,e]; rfl
theorem Pp{h w:Nat}{bs:List (Nat×List Tx)}{ps:List (Nat×Nat)}(R:cU h w bs)(hp:ps.map (·.1)=bs.map (·.1)):∃ c,Res (bs.map (·.1)) (aG bs) (fw ps) c/\lT [.pure (aB h w bs),.pure (eM ps)]=some (.own (.dic (FD c (bs.map (·.1)))),[.pure (aB h w bs),.pure (eM ps)]):=by
 have n1:=R.n1;have hl:ps.length=bs.length:=by simpa using congrArg QH hp
 obtain⟨c,δ',rs,e⟩:=Dy R (eM ps) (fw ps) 1000 0 (gn ps) fS none none none none none (.inl rfl) (λp pz=>xY (by rw[hp]; exact pz)) (by omega);refine⟨c,rs,?_⟩;rw[lT,xk];exact DC (Po (eM ps) (aB h w bs) (gn ps) _ wG δ' (DB (by rw[hp]; exact R.nd) (by omega)) e)
theorem DH(c:Nat->Nat):∀ ts:List Nat,lO (FD c ts)=some (ts.map λt=>(([t]:Tx),((c t:Nat):Int)))
 | []=>rfl
 | t :: r=>by
  have:=DH c r;unfold FD at this ⊢;rw[Wd];simp[lO,this]
def bP(gs:List (List Nat)):List D:=gs.map λg=>D.tup (g.map λt=>.str [t])
theorem Pq(GN:DF)(ru pa:D)(FF:List (D×D))(ps:List (Tx×Int))(hg:GN [.pure ru,.pure pa]=some (.own (.dic FF),[.pure ru,.pure pa]))(hp:lO FF=some ps)(hz:ps.length < W9)(p:Tx×Int)(xZ:ps.getLast? = some p)(GG:List (D×D))(hG:lP (eO ps)=GG)(YY:List D)
  (hc:cg [5] (ae [] 5) bq (aK cp (aj 5)) (GG.map (·.2)) [some (.pure ru),some (.pure pa),some (.pure (.dic GG)),some (.pure (.str p.1)),some (.pure (.int p.2)),none] [] = .ok YY [some (.pure ru),some (.pure pa),some (.pure (.dic GG)),some (.pure (.str p.1)),some (.pure (.int p.2)),none]) :
  (ar (au gP (ae [] 2)) (ar (qb [] 2 3 4 (aH GN [.val (af 0),.val (af 1)])) (dD (bU [5] (pX (af 2)) (ae [] 5) bq (aK cp (aj 5)))))) [some (.pure ru),some (.pure pa),none,none,none,none] = .ok (.ret (.own (.lst YY))) [some (.pure ru),some (.pure pa),some (.pure (.dic GG)),some (.pure (.str p.1)),some (.pure (.int p.2)),none]:=by
 rw[dH (δ1:=[some (.pure ru),some (.pure pa),some (.own (.dic [])),none,none,none]) (by simp[au,gP])];rw[dH (δ1:=[some (.pure ru),some (.pure pa),some (.own (.dic GG)),some (.pure (.str p.1)),some (.pure (.int p.2)),none]) (by
  simp[qb,aH,bz,cu,b_,af,bK,hg,bf,S.d,hp,hz,hG,s_,xZ])]
 simp[pX,af,S.d,bJ,bD];rw[hc];simp[cI]
theorem Pr{h w:Nat}{bs:List (Nat×List Tx)}{ps:List (Nat×Nat)}(R:cU h w bs)(hp:ps.map (·.1)=bs.map (·.1)):∃ c,Res (bs.map (·.1)) (aG bs) (fw ps) c/\jg [.pure (aB h w bs),.pure (eM ps)]=some (.own (.lst (bP (bO [] ((bs.map (·.1)).map λt=>fit c (bs.map (·.1)) (c t))))),[.pure (aB h w bs),.pure (eM ps)]):=by
 have n1:=R.n1;obtain⟨c,rs,e⟩:=Pp R hp;refine⟨c,rs,?_⟩;have n0:0 < ((bs.map (·.1)).map λt=>(([t]:Tx),((c t:Nat):Int))).length:=by simpa using R.n0
 obtain⟨p,xZ⟩:∃ p,((bs.map (·.1)).map λt=>(([t]:Tx),((c t:Nat):Int))).getLast? = some p:=by
  rw[List.getLast?_eq_getElem?];exact⟨_,W6 (by omega)⟩
 have gd:=Oi c (bs.map (·.1));have hlen:(eO ((bs.map (·.1)).map λt=>(([t]:Tx),((c t:Nat):Int)))).length<=52:=by
  have:=(wx ((bs.map (·.1)).map λt=>(([t]:Tx),((c t:Nat):Int))) _ (Wk _)).1;rw[Jk] at this;simp only[Wi] at this;omega
 rw[jg,xl];refine Pc (Pq lT (aB h w bs) (eM ps) _ _ e (DH c (bs.map (·.1))) (by simp only[Wi]; rw[dj]; omega) p xZ _ rfl _ ?_);have ev:(lP (eO ((bs.map (·.1)).map λt=>(([t]:Tx),((c t:Nat):Int))))).map (·.2)=((eO ((bs.map (·.1)).map λt=>(([t]:Tx),((c t:Nat):Int)))).map (·.2)).map λxs=>D.lst (xs.map .str):=by
  generalize eO ((bs.map (·.1)).map λt=>(([t]:Tx),((c t:Nat):Int)))=GR;unfold lP;rw[Wu,Wu];rfl
 rw[ev];generalize hGG:lP (eO ((bs.map (·.1)).map λt=>(([t]:Tx),((c t:Nat):Int))))=GG at *;rw[gd,Wu];have lG:(bO [] ((bs.map (·.1)).map λt=>fit c (bs.map (·.1)) (c t))).length<=52:=by
  have:=congrArg QH gd;rw[Wi,Wi] at this;omega
 generalize aB h w bs=ru at *;generalize eM ps=pa at *;have:=jC (cs:=[5]) (g:=ae [] 5) (t:=bq) (el:=aK cp (aj 5)) (λg:List Nat=>D.lst ((g.map λt=>([t]:Tx)).map .str)) (λg=>D.tup (g.map λt=>.str [t])) [some (.pure ru),some (.pure pa),some (.pure (.dic GG)),some (.pure (.str p.1)),some (.pure (.int p.2)),none] (bO [] ((bs.map (·.1)).map λt=>fit c (bs.map (·.1)) (c t))) [] (by rw[dj,QS]; omega) (λg hg=>by
  refine⟨_,_,.pure (.tup (g.map λt=>.str [t])),[some (.pure ru),some (.pure pa),some (.pure (.dic GG)),some (.pure (.str p.1)),some (.pure (.int p.2)),some (.pure (.lst ((g.map λt=>([t]:Tx)).map .str)))],rfl,rfl,?_,rfl,rfl⟩;have et:(g.map λt=>([t]:Tx)).map D.str=g.map λt=>D.str [t]:=by rw[Wu]; rfl
  rw[et];simp[aj,S.d,cp])
 exact this
abbrev PP:=List (Nat×Nat)
def kD(p:Nat×Nat):D:=.tup [.str [p.1],.str [p.2]]
def aE(P:PP)(R:RR):List (D×D):=P.map λp=>(kD p,.bl (R p))
theorem x6(a b:Nat×Nat):ax (kD a) (kD b)=decide (a=b):=by
 obtain⟨a1,a2⟩:=a;obtain⟨b1,b2⟩:=b;unfold kD;simp only[ax,dP];by_cases h1:a1=b1 <;> by_cases h2:a2=b2 <;> simp[h1,h2]
theorem tG(P:PP)(R:RR)(p:Nat×Nat):gf (gA (kD p)) (aE P R) (kD p)=true:=by
 unfold gf gA aE kD;simp[gO,cz,fR]
theorem tH(R:RR)(p:Nat×Nat):∀ P:PP,fo (aE P R) (kD p)=if p ∈ P then some (.bl (R p)) else none
 | []=>rfl
 | a :: r=>by
  have ih:=tH R p r;unfold fo aE at ih ⊢;rw[Wd,WM];simp only[x6];by_cases h:a=p
  ·subst h; simp
  ·have:¬ p=a:=λz=>h z.symm
   rw[decide_eq_false h,ih];by_cases h2:p ∈ r <;> simp[h2,this]
theorem DJ(R:RR)(p:Nat×Nat)(P:PP):((aE P R).any λq=>ax q.1 (kD p))=decide (p ∈ P):=by
 unfold aE;rw[Jj,Jp];simp only[Qz,Function.comp,x6,decide_eq_true_eq];constructor
 ·rintro ⟨x,hx,rfl⟩; exact hx
 ·intro h; exact⟨p,h,rfl⟩
theorem Pt(R:RR)(p:Nat×Nat)(P:PP)(h:p ∉ P):je (aE P R) (kD p) (.bl (R p))=aE (P ++ [p]) R:=by
 unfold je;rw[DJ,decide_eq_false h,if_neg (by simp)];unfold aE;simp
theorem Pu(R:RR)(p:Nat×Nat)(P:PP)(h:p ∈ P):je (aE P R) (kD p) (.bl true)=aE P (jI R p):=by
 unfold je;rw[DJ,decide_eq_true h,if_pos rfl];unfold aE;rw[Wu];refine WS λq _=>?_
 simp only[Function.comp,x6];unfold jI;by_cases e:q=p
 ·subst e; simp
 ·simp[e]
theorem Pw(a b:Nat):jU (.str [a]) (.str [b])=some (.pure (.bl (!decide (a=b)))):=by
 show some (S.pure (.bl (!(ax (.str [a]) (.str [b])))))=_;have:ax (.str [a]) (.str [b])=decide (a=b):=by
  simp only[ax];by_cases h:a=b <;> simp[h]
 rw[this]
abbrev bF(ru pa DP DX:D)(s4:S)(ap:List (D×D))(o6 o7 o8:Option S):Dl:=[some (.pure ru),some (.pure pa),some (.own DP),some (.own DX),some s4,some (.own (.dic ap)),o6,o7,o8,none,none,none]
abbrev aI:DS:=(iM 5 (bI (az (af 6) (az (af 7) aP))) (bj jU (ah bV 2 (aj 6)) (aq (ah bV 2 (aj 7)))))
def fz(ps:List (Nat×Nat)):RR:=λp=>!decide (fw ps p.1=fw ps p.2)
theorem Px(ru pa DX:D)(ps:List (Nat×Nat))(s4:S)(P:PP)(t u:Nat)(ht:t ∈ ps.map (·.1))(hu:u ∈ ps.map (·.1))(hn:(t,u) ∉ P)(hz:P.length<=10000)(o8:Option S) :
  aI (bF ru pa (gn ps) DX s4 (aE P (fz ps)) (some (.pure (.str [t]))) (some (.pure (.str [u]))) o8) = .ok .next (bF ru pa (gn ps) DX s4 (aE (P ++ [(t,u)]) (fz ps)) (some (.pure (.str [t]))) (some (.pure (.str [u]))) o8):=by
 have x1:=xY ht;have x2:=xY hu;have ne:=Pw (fw ps t) (fw ps u);have g:=tG P (fz ps) (t,u);have pu:=Pt (fz ps) (t,u) P hn;have eb:fz ps (t,u) = !decide (fw ps t=fw ps u):=rfl;have z:(aE P (fz ps)).length < W9:=by unfold aE; rw[Wi,dj]; omega
 rw[eb] at pu;rw[<- pu];have ek:kD (t,u) = .tup [.str [t],.str [u]]:=rfl;rw[ek] at g ⊢;generalize gn ps=DP at *;generalize aE P (fz ps)=AA at *;generalize (!decide (fw ps t=fw ps u))=bb at *;simp[aI,iM,lM,bI,az,aP,af,ah,bG,aj,x1,x2,ne,S.d,g,z]
theorem DK(ru pa DX:D)(ps:List (Nat×Nat))(s4:S)(t:Nat)(ht:t ∈ ps.map (·.1))(o8:Option S):∀ (r:List Nat) (P:PP) (o7:Option S),(∀ u ∈ r,u ∈ ps.map (·.1))->(P ++ r.map λu=>(t,u)).Nodup->P.length + r.length<=10000 ->
  ∃ o7',forL (ae [] 7) aI (r.map λu=>D.str [u]) (bF ru pa (gn ps) DX s4 (aE P (fz ps)) (some (.pure (.str [t]))) o7 o8) = .ok .next (bF ru pa (gn ps) DX s4 (aE (P ++ r.map λu=>(t,u)) (fz ps)) (some (.pure (.str [t]))) o7' o8)
 | [],P,o7,_,_,_=>⟨o7,by simp⟩
 | u :: r,P,o7,hr,nd,hz=>by
  have hn:(t,u) ∉ P:=λz=>(List.nodup_append.mp nd).2.2 (t,u) z (t,u) We rfl
  have st:=Px ru pa DX ps s4 P t u ht (hr u We) hn (by simp at hz; omega) o8;obtain⟨o7',ih⟩:=DK ru pa DX ps s4 t ht o8 r (P ++ [(t,u)]) (some (.pure (.str [u]))) (λx hx=>hr x (Wc _ hx)) (by simpa using nd) (by simp at hz ⊢; omega);refine⟨o7',?_⟩;rw[Wd,mR (δ1:=bF ru pa (gn ps) DX s4 (aE P (fz ps)) (some (.pure (.str [t]))) (some (.pure (.str [u]))) o8) rfl st,ih];simp
abbrev aO:DS:=(cf (aY (af 4)) (ae [] 7) aI)
theorem outer(ru pa DX:D)(ps:List (Nat×Nat))(us:List Nat)(DL:∀ u ∈ us,u ∈ ps.map (·.1))(o8:Option S):∀ (r:List Nat) (P:PP) (o6 o7:Option S),(∀ u ∈ r,u ∈ ps.map (·.1))->(P ++ r.flatMap λt=>us.map λu=>(t,u)).Nodup->P.length + r.length * us.length<=10000 ->
  ∃ c8 o7',forL (ae [] 6) aO (r.map λu=>D.str [u]) (bF ru pa (gn ps) DX (.pure (.lst (us.map λu=>.str [u]))) (aE P (fz ps)) o6 o7 o8) = .ok .next (bF ru pa (gn ps) DX (.pure (.lst (us.map λu=>.str [u]))) (aE (P ++ r.flatMap λt=>us.map λu=>(t,u)) (fz ps)) c8 o7' o8)
 | [],P,o6,o7,_,_,_=>⟨o6,o7,by simp⟩
 | t :: r,P,o6,o7,hr,nd,hz=>by
  rw[Jv,<- List.append_assoc] at nd;rw[WG,U0] at hz;obtain⟨o7a,e1⟩:=DK ru pa DX ps (.pure (.lst (us.map λu=>.str [u]))) t (hr t We) o8 us P o7 DL (List.nodup_append.mp nd).1 (by omega);obtain⟨c8,o7',ih⟩:=outer ru pa DX ps us DL o8 r (P ++ us.map λu=>(t,u)) (some (.pure (.str [t]))) o7a (λx hx=>hr x (Wc _ hx)) nd (by rw[WX,Wi]; omega);refine⟨c8,o7',?_⟩;have i:aY (af 4) (bF ru pa (gn ps) DX (.pure (.lst (us.map λu=>.str [u]))) (aE P (fz ps)) (some (.pure (.str [t]))) o7 o8) = .ok (us.map λu=>D.str [u]) (bF ru pa (gn ps) DX (.pure (.lst (us.map λu=>.str [u]))) (aE P (fz ps)) (some (.pure (.str [t]))) o7 o8):=by
   generalize (us.map λu=>D.str [u])=UU;generalize aE P (fz ps)=AA;simp[e8,af]
  rw[Wd,mR (δ1:=bF ru pa (gn ps) DX (.pure (.lst (us.map λu=>.str [u]))) (aE P (fz ps)) (some (.pure (.str [t]))) o7 o8) rfl ((mQ i).trans e1),ih,Jv,List.append_assoc]
theorem DM:∀ l:List Bool,gv (l.map D.bl)=some l
 | []=>rfl
 | b :: r=>by
  rw[Wd];simp[gv,DM r]
def bX(bs:List (Nat×List Tx)):D:=.bA (bs.map λb=>((Sum.inr [b.1]:cb),D.str (aG bs b.1)))
theorem DO{bs:List (Nat×List Tx)}{t:Nat}(h:t ∈ bs.map (·.1)):bV (bX bs) (.str [t])=some (.pure (.str (aG bs t))):=by
 have hv:fk (bs.map λb=>((Sum.inr [b.1]:cb),D.str (aG bs b.1))) (.inr [t])=(bs.find? λp=>decide (p.1=t)).map λp=>D.str (aG bs p.1):=by
  unfold fk;rw[List.find?_map];simp[Function.comp_def]
 show((fm (.str [t])).bind λk=>(fk (bs.map λb=>((Sum.inr [b.1]:cb),D.str (aG bs b.1))) k).map S.pure)=_;simp only[fm,Qd,hv];obtain⟨b,hb,rfl,e,_⟩:=De h;rw[e];rfl
abbrev cZ:DE:=(bU [9] (ou (ah bV 3 (aj 6)) (ah bV 3 (aj 7))) (ae [] 9) bq (ah gh 5 (aj 9)))
abbrev zB:DS:=(dQ (iZ (aS (ah gh 5 (aq (bI (az (af 6) (az (af 7) aP))))))) (dQ (aS (aK ly (aq cZ))) (ar (iM 5 (bI (az (af 6) (az (af 7) aP))) (eD (.bl true))) (au (eD (.bl true)) (ae [] 8))) d_) d_)
theorem Py(ru pa DP DX:D)(s4:S)(P:PP)(R:RR)(t u:Nat)(m:Bool)(x y:List Nat)(hx:x.length<=1000)(iG:∀ p ∈ x.zip y,p ∈ P) :
  cg [9] (ae [] 9) bq (ah gh 5 (aj 9)) (jG x y) (bF ru pa DP DX s4 (aE P R) (some (.pure (.str [t]))) (some (.pure (.str [u]))) (some (.pure (.bl m)))) [] = .ok (((x.zip y).map R).map .bl) (bF ru pa DP DX s4 (aE P R) (some (.pure (.str [t]))) (some (.pure (.str [u]))) (some (.pure (.bl m)))):=by
 have ez:jG x y=(x.zip y).map kD:=by
  unfold jG;rw[List.zip_eq_zipWith,List.map_zipWith];rfl
 rw[ez];have:=jC (cs:=[9]) (g:=ae [] 9) (t:=bq) (el:=ah gh 5 (aj 9)) kD (λp=>D.bl (R p)) (bF ru pa DP DX s4 (aE P R) (some (.pure (.str [t]))) (some (.pure (.str [u]))) (some (.pure (.bl m)))) (x.zip y) [] (by rw[dj,List.length_zip]; simp; omega) (λp hp=>by
  have g:=tG P R p;have v:=tH R p P;rw[if_pos (iG p hp)] at v;have q:gh (.dic (aE P R)) (kD p)=some (.pure (.bl (R p))):=by
   show(if gf (gA (kD p)) (aE P R) (kD p) then(fo (aE P R) (kD p)).map S.pure else none)=_;rw[g,if_pos rfl,v];rfl
  refine⟨_,_,.pure (.bl (R p)),[some (.pure ru),some (.pure pa),some (.own DP),some (.own DX),some s4,some (.own (.dic (aE P R))),some (.pure (.str [t])),some (.pure (.str [u])),some (.pure (.bl m)),some (.pure (kD p)),none,none],rfl,rfl,?_,rfl,rfl⟩;generalize aE P R=AA at *;generalize kD p=kk at *;simp[ah,bG,aj,q,S.d])
 rw[this,Wu];rfl
theorem Pz{h w:Nat}{bs:List (Nat×List Tx)}(Ru:cU h w bs)(ru pa DP:D)(s4:S)(P:PP)(hP:∀ t ∈ bs.map (·.1),∀ u ∈ bs.map (·.1),(t,u) ∈ P)(hz:P.length<=10000)(R:RR)(t u:Nat)(ht:t ∈ bs.map (·.1))(hu:u ∈ bs.map (·.1))(m:Bool) :
  zB (bF ru pa DP (bX bs) s4 (aE P R) (some (.pure (.str [t]))) (some (.pure (.str [u]))) (some (.pure (.bl m)))) = .ok .next (bF ru pa DP (bX bs) s4 (aE P (cX (aG bs) (R,m) (t,u)).1) (some (.pure (.str [t]))) (some (.pure (.str [u]))) (some (.pure (.bl (cX (aG bs) (R,m) (t,u)).2)))):=by
 obtain⟨l1,l2,l3⟩:=lZ Ru ht;obtain⟨_,_,l4⟩:=lZ Ru hu;have x1:=DO ht;have x2:=DO hu;have iG:∀ p ∈ (aG bs t).zip (aG bs u),p ∈ P:=λp hp=>by
  obtain⟨k,h1,h2⟩:=CU hp;exact hP p.1 (l3 _ (Wh h1)) p.2 (l4 _ (Wh h2))
 have hc:=Py ru pa DP (bX bs) s4 P R t u m (aG bs t) (aG bs u) (by omega) iG;have ow:ly (.lst ((((aG bs t).zip (aG bs u)).map R).map .bl))=some (.pure (.bl (iR (aG bs) R (t,u)))):=by
  show(gv _).map _=_;rw[DM];show some (S.pure (.bl ((((aG bs t).zip (aG bs u)).map R).any id)))=_;unfold iR;rw[Jj];rfl
 have g:=tG P R (t,u);have v:=tH R (t,u) P;rw[if_pos (hP t ht u hu)] at v;have q:gh (.dic (aE P R)) (.tup [.str [t],.str [u]])=some (.pure (.bl (R (t,u)))):=by
  show(if gf (gA (kD (t,u))) (aE P R) (kD (t,u)) then(fo (aE P R) (kD (t,u))).map S.pure else none)=_;rw[g,if_pos rfl,v];rfl
 have pu:=Pu R (t,u) P (hP t ht u hu);have z:(aE P R).length < W9:=by unfold aE; rw[Wi,dj]; omega
 have ek:kD (t,u) = .tup [.str [t],.str [u]]:=rfl;rw[ek] at g pu;have e1:(aS (ah gh 5 (aq (bI (az (af 6) (az (af 7) aP)))))) (bF ru pa DP (bX bs) s4 (aE P R) (some (.pure (.str [t]))) (some (.pure (.str [u]))) (some (.pure (.bl m)))) = .ok (R (t,u)) (bF ru pa DP (bX bs) s4 (aE P R) (some (.pure (.str [t]))) (some (.pure (.str [u]))) (some (.pure (.bl m)))):=by
  generalize aE P R=AA at *;generalize bX bs=DX at *;generalize R (t,u)=bb at *;simp[aS,ah,bG,aj,bI,az,aP,af,q,S.d]
 have e2:(aS (aK ly (aq cZ))) (bF ru pa DP (bX bs) s4 (aE P R) (some (.pure (.str [t]))) (some (.pure (.str [u]))) (some (.pure (.bl m)))) = .ok (iR (aG bs) R (t,u)) (bF ru pa DP (bX bs) s4 (aE P R) (some (.pure (.str [t]))) (some (.pure (.str [u]))) (some (.pure (.bl m)))):=by
  have ci:ou (ah bV 3 (aj 6)) (ah bV 3 (aj 7)) (bF ru pa DP (bX bs) s4 (aE P R) (some (.pure (.str [t]))) (some (.pure (.str [u]))) (some (.pure (.bl m)))) = .ok (jG (aG bs t) (aG bs u)) (bF ru pa DP (bX bs) s4 (aE P R) (some (.pure (.str [t]))) (some (.pure (.str [u]))) (some (.pure (.bl m)))):=by
   generalize aE P R=AA at *;generalize bX bs=DX at *;simp[ou,ah,bG,aj,x1,x2,S.d]
  have cc:cZ (bF ru pa DP (bX bs) s4 (aE P R) (some (.pure (.str [t]))) (some (.pure (.str [u]))) (some (.pure (.bl m)))) = .ok (.own (.lst ((((aG bs t).zip (aG bs u)).map R).map .bl))) (bF ru pa DP (bX bs) s4 (aE P R) (some (.pure (.str [t]))) (some (.pure (.str [u]))) (some (.pure (.bl m)))):=by
   unfold cZ;rw[BK,ci];simp only[eh];have dX:([9]:List Nat).any (bJ (bF ru pa DP (bX bs) s4 (aE P R) (some (.pure (.str [t]))) (some (.pure (.str [u]))) (some (.pure (.bl m)))))=false:=rfl;have x8:bD [9] (bF ru pa DP (bX bs) s4 (aE P R) (some (.pure (.str [t]))) (some (.pure (.str [u]))) (some (.pure (.bl m))))=bF ru pa DP (bX bs) s4 (aE P R) (some (.pure (.str [t]))) (some (.pure (.str [u]))) (some (.pure (.bl m))):=rfl;rw[dX,x8,hc];rfl
  have c':aK ly (aq cZ) (bF ru pa DP (bX bs) s4 (aE P R) (some (.pure (.str [t]))) (some (.pure (.str [u]))) (some (.pure (.bl m)))) = .ok (.pure (.bl (iR (aG bs) R (t,u)))) (bF ru pa DP (bX bs) s4 (aE P R) (some (.pure (.str [t]))) (some (.pure (.str [u]))) (some (.pure (.bl m)))):=by
   generalize ((((aG bs t).zip (aG bs u)).map R).map D.bl)=YY at *;unfold aK aq;rw[cc];simp[S.d,ow]
  unfold aS;rw[c'];simp
 unfold cX;by_cases h1:R (t,u)=true
 ·rw[if_pos h1];rw[h1] at e1;show zB _ = .ok .next (bF ru pa DP (bX bs) s4 (aE P R) (some (.pure (.str [t]))) (some (.pure (.str [u]))) (some (.pure (.bl m))));unfold zB;generalize hp:bF ru pa DP (bX bs) s4 (aE P R) (some (.pure (.str [t]))) (some (.pure (.str [u]))) (some (.pure (.bl m)))=st at *;simp[e1]
 ·rw[if_neg h1];rw[JV.mpr h1] at e1;by_cases h2:iR (aG bs) R (t,u)=true
  ·rw[if_pos h2];rw[h2] at e2;have e3:(ar (iM 5 (bI (az (af 6) (az (af 7) aP))) (eD (.bl true))) (au (eD (.bl true)) (ae [] 8))) (bF ru pa DP (bX bs) s4 (aE P R) (some (.pure (.str [t]))) (some (.pure (.str [u]))) (some (.pure (.bl m)))) = .ok .next (bF ru pa DP (bX bs) s4 (aE P (jI R (t,u))) (some (.pure (.str [t]))) (some (.pure (.str [u]))) (some (.pure (.bl true)))):=by
    rw[<- pu];generalize aE P R=AA at *;generalize bX bs=DX at *;simp[ar,iM,lM,bI,az,aP,af,S.d,g,z,au]
   show zB _ = .ok .next (bF ru pa DP (bX bs) s4 (aE P (jI R (t,u))) (some (.pure (.str [t]))) (some (.pure (.str [u]))) (some (.pure (.bl true))));unfold zB;rw[vK,LG,e1];simp only[eh,Bool.not_false,if_true];rw[vK,e2];simp only[eh,if_true];exact e3
  ·rw[if_neg h2];rw[JV.mpr h2] at e2;show zB _ = .ok .next (bF ru pa DP (bX bs) s4 (aE P R) (some (.pure (.str [t]))) (some (.pure (.str [u]))) (some (.pure (.bl m))));unfold zB;generalize hp:bF ru pa DP (bX bs) s4 (aE P R) (some (.pure (.str [t]))) (some (.pure (.str [u]))) (some (.pure (.bl m)))=st at *;simp[e1,e2]
abbrev DQ:DG:=(cB 2 (bB (ae [] 6) (bB (ae [] 7) cH)))
theorem DU{h w:Nat}{bs:List (Nat×List Tx)}(Ru:cU h w bs)(ru pa DP:D)(s4:S)(P:PP)(hP:∀ t ∈ bs.map (·.1),∀ u ∈ bs.map (·.1),(t,u) ∈ P)(hz:P.length<=10000):∀ (Q:PP) (s:RR×Bool) (o6 o7:Option S),(∀ p ∈ Q,p.1 ∈ bs.map (·.1)/\p.2 ∈ bs.map (·.1)) ->
  ∃ c8 o7',forL DQ zB (Q.map kD) (bF ru pa DP (bX bs) s4 (aE P s.1) o6 o7 (some (.pure (.bl s.2)))) = .ok .next (bF ru pa DP (bX bs) s4 (aE P (e7 (aG bs) Q s).1) c8 o7' (some (.pure (.bl (e7 (aG bs) Q s).2))))
 | [],s,o6,o7,_=>⟨o6,o7,rfl⟩
 | p :: Q,s,o6,o7,hQ=>by
  have st:=Pz Ru ru pa DP s4 P hP hz s.1 p.1 p.2 (hQ p We).1 (hQ p We).2 s.2;obtain⟨c8,o7',ih⟩:=DU Ru ru pa DP s4 P hP hz Q (cX (aG bs) s p) (some (.pure (.str [p.1]))) (some (.pure (.str [p.2]))) λq hq=>hQ q (Wc _ hq)
  refine⟨c8,o7',?_⟩;rw[Wd,mR (δ1:=bF ru pa DP (bX bs) s4 (aE P s.1) (some (.pure (.str [p.1]))) (some (.pure (.str [p.2]))) (some (.pure (.bl s.2)))) rfl st];exact ih
abbrev wA:DS:=(ar (au (eD (.bl false)) (ae [] 8)) (cf (aY (aK oj (aj 5))) DQ zB))
theorem DW{h w:Nat}{bs:List (Nat×List Tx)}(Ru:cU h w bs)(ru pa DP:D)(s4:S)(sg:Nat->Nat)(P:PP)(hP:∀ t ∈ bs.map (·.1),∀ u ∈ bs.map (·.1),(t,u) ∈ P)(hQ:∀ p ∈ P,p.1 ∈ bs.map (·.1)/\p.2 ∈ bs.map (·.1))(hz:P.length<=10000):∀ (fu:Nat) (R:RR) (o6 o7:Option S),nf P R < fu->mP (bs.map (·.1)) (aG bs) sg R->(∀ t ∈ bs.map (·.1),∀ u ∈ bs.map (·.1),sg t≠sg u->R (t,u)=true) ->
  ∃ R' c8 o7',mP (bs.map (·.1)) (aG bs) sg R'/\(∀ t ∈ bs.map (·.1),∀ u ∈ bs.map (·.1),sg t≠sg u->R' (t,u)=true)/\(∀ t ∈ bs.map (·.1),∀ u ∈ bs.map (·.1),R' (t,u)=false->iR (aG bs) R' (t,u)=false) /\
   ef (aS (af 8)) wA (fu + 980000) (bF ru pa DP (bX bs) s4 (aE P R) o6 o7 (some (.pure (.bl true)))) = .ok .next (bF ru pa DP (bX bs) s4 (aE P R') c8 o7' (some (.pure (.bl false))))
 | 0,R,o6,o7,hn,_,_=>by omega
 | fu + 1,R,o6,o7,hn,snd,base=>by
  obtain⟨p6,p7,e⟩:=DU Ru ru pa DP s4 P hP hz P (R,false) o6 o7 hQ;have t1:∀ (b:Bool) (A:List (D×D)) (o6 o7:Option S),aS (af 8) (bF ru pa DP (bX bs) s4 A o6 o7 (some (.pure (.bl b)))) = .ok b (bF ru pa DP (bX bs) s4 A o6 o7 (some (.pure (.bl b)))):=λb A o6 o7=>by
   generalize bX bs=DX;simp[aS,af]
  have bd:wA (bF ru pa DP (bX bs) s4 (aE P R) o6 o7 (some (.pure (.bl true)))) = .ok .next (bF ru pa DP (bX bs) s4 (aE P (e7 (aG bs) P (R,false)).1) p6 p7 (some (.pure (.bl (e7 (aG bs) P (R,false)).2)))):=by
   rw[wA,dH (δ1:=bF ru pa DP (bX bs) s4 (aE P R) o6 o7 (some (.pure (.bl false)))) (by
    generalize bX bs=DX;generalize aE P R=AA;simp[au])]
   refine(mQ (ds:=P.map kD) ?_).trans e;have hl:oj (.dic (aE P R))=some (.own (.lst (P.map kD))):=by
    show some (S.own (.lst ((aE P R).map (·.1))))=_;unfold aE;rw[Wu];rfl
   show aY (aK oj (aj 5)) (bF ru pa DP (bX bs) s4 (aE P R) o6 o7 (some (.pure (.bl false)))) = .ok (P.map kD) (bF ru pa DP (bX bs) s4 (aE P R) o6 o7 (some (.pure (.bl false))));generalize P.map kD=KK at *;generalize aE P R=AA at *;generalize bX bs=DX at *;simp[e8,aj,hl,S.d]
  have mono:∀ q,R q=true->(e7 (aG bs) P (R,false)).1 q=true:=λq hq=>xG P (R,false) hq
  rw[show fu + 1 + 980000=fu + 980000 + 1 by omega]
  cases hm:(e7 (aG bs) P (R,false)).2 with
  | true =>
   rw[hm] at bd;have lt:=CT mono P (xH P (R,false) rfl hm);obtain⟨R',c8,o7',a,b,c,ih⟩:=DW Ru ru pa DP s4 sg P hP hQ hz fu (e7 (aG bs) P (R,false)).1 p6 p7 (by omega) (CV (λt ht=>(lZ Ru ht).2.2) P (R,false) hQ snd) λt ht u hu cn=>mono _ (base t ht u hu cn)
   exact⟨R',c8,o7',a,b,c,(xV (t1 true _ _ _) bd).trans ih⟩
  | false =>
   rw[hm] at bd;have DY:=CQ P (R,false) hm;rw[DY.1] at bd;refine⟨R,p6,p7,snd,base,λt ht u hu hr=>DY.2.2 (t,u) (hP t ht u hu) hr,(xV (t1 true _ _ _) bd).trans ?_⟩;rw[show fu + 980000=fu + 979999 + 1 by omega];exact Pe (t1 false _ _ _)
def cj(ts:List Nat):PP:=ts.flatMap λt=>ts.map λu=>(t,u)
theorem x9{ts:List Nat}{p:Nat×Nat}:p ∈ cj ts ↔ p.1 ∈ ts/\p.2 ∈ ts:=by
 unfold cj;rw[List.mem_flatMap];constructor
 ·rintro ⟨t,ht,h⟩;obtain⟨u,hu,rfl⟩:=Wz.mp h;exact⟨ht,hu⟩
 ·rintro ⟨h1,h2⟩;exact⟨p.1,h1,Wz.mpr ⟨p.2,h2,rfl⟩⟩
theorem DZ(us:List Nat)(hu:us.Nodup):∀ ts:List Nat,ts.Nodup->(ts.flatMap λt=>us.map λu=>(t,u)).Nodup
 | [],_=>List.nodup_nil
 | t :: r,h=>by
  obtain⟨n1,n2⟩:=WL.mp h;rw[Jv];refine JU.mpr ⟨?_,DZ us hu r n2,λa ha b hb e=>?_⟩
  ·rw[Qq,Ju];rw[Qq] at hu;exact hu.imp λ{a b} jt z=>jt (congrArg Prod.snd z)
  ·obtain⟨u,_,rfl⟩:=Wz.mp ha;obtain⟨t',rd,h'⟩:=List.mem_flatMap.mp hb;obtain⟨u',_,rfl⟩:=Wz.mp h';have:t=t':=congrArg Prod.fst e;exact n1 (by rw[this]; exact rd)
theorem D0(us:List Nat):∀ ts:List Nat,(ts.flatMap λt=>us.map λu=>(t,u)).length=ts.length * us.length
 | []=>by simp
 | t :: r=>by
  rw[Jv,WX,D0 us r,Wi,WG,U0];omega
theorem D3(F:Nat->Tx):∀ bs:List (Nat×List Tx),ja (bs.map λb=>D.tup [.str [b.1],.str (F b.1)])=some (bs.map λb=>((Sum.inr [b.1]:cb),D.str (F b.1)))
 | []=>rfl
 | b :: r=>by
  have:=D3 F r;simp only[Wd];simp[ja,fm,this]
theorem PB{h w:Nat}{bs:List (Nat×List Tx)}(R:cU h w bs):f_ (.lst (bs.map λb=>D.tup [.str [b.1],.str (aG bs b.1)]))=some (.own (bX bs)):=by
 have n1:=R.n1;unfold f_;simp only[D3 (aG bs),Qd,Wi];rw[if_pos (by rw[dj]; omega),xN]
 ·rfl
 ·simp only[Qb,Wu];have nd:=R.nd;rw[Qq,Ju] at nd ⊢;exact nd.imp λ{a b} jt=>by simpa using jt
theorem PD{h w:Nat}{bs:List (Nat×List Tx)}(R:cU h w bs)(ru pa DP:D):cg [10,11] (cB 2 (bB (ae [] 10) (bB (ae [] 11) cH))) bq (bI (az (af 10) (az (aK (dC []) (aj 11)) aP))) (bs.map aZ) [some (.pure ru),some (.pure pa),some (.own DP),none,none,none,none,none,none,none,none,none] [] = .ok (bs.map λb=>D.tup [.str [b.1],.str (aG bs b.1)]) [some (.pure ru),some (.pure pa),some (.own DP),none,none,none,none,none,none,none,none,none]:=by
 have n1:=R.n1;have:=jC (cs:=[10,11]) (g:=cB 2 (bB (ae [] 10) (bB (ae [] 11) cH))) (t:=bq) (el:=bI (az (af 10) (az (aK (dC []) (aj 11)) aP))) aZ (λb=>D.tup [.str [b.1],.str (aG bs b.1)]) [some (.pure ru),some (.pure pa),some (.own DP),none,none,none,none,none,none,none,none,none] bs [] (by rw[dj]; simp; omega) (λb hb=>by
  have j:=Dw R hb;refine⟨[some (.pure ru),some (.pure pa),some (.own DP),none,none,none,none,none,none,none,some (.pure (.str [b.1])),some (.pure (cG b.2))],_,.pure (.tup [.str [b.1],.str (aG bs b.1)]),[some (.pure ru),some (.pure pa),some (.own DP),none,none,none,none,none,none,none,some (.pure (.str [b.1])),some (.pure (cG b.2))],rfl,rfl,?_,rfl,rfl⟩;generalize cG b.2=FB at *;simp[bI,az,aP,af,aj,j,S.d])
 rw[this];rfl
theorem PF{bs:List (Nat×List Tx)}(hn:bs.length<=52)(ru pa DP DX:D):cg [9] (ae [] 9) bq (ah aw 9 (aq (eD (.int 0)))) (bs.map aZ) [some (.pure ru),some (.pure pa),some (.own DP),some (.own DX),none,none,none,none,none,none,none,none] [] = .ok ((bs.map (·.1)).map λt=>D.str [t]) [some (.pure ru),some (.pure pa),some (.own DP),some (.own DX),none,none,none,none,none,none,none,none]:=by
 have:=jC (cs:=[9]) (g:=ae [] 9) (t:=bq) (el:=ah aw 9 (aq (eD (.int 0)))) aZ (λb=>D.str [b.1]) [some (.pure ru),some (.pure pa),some (.own DP),some (.own DX),none,none,none,none,none,none,none,none] bs [] (by rw[dj]; simp; omega) (λb hb=>by
  have q:aw (aZ b) (.int 0)=some (.pure (.str [b.1])):=by simp[aw,dB,fg]
  refine⟨_,_,.pure (.str [b.1]),[some (.pure ru),some (.pure pa),some (.own DP),some (.own DX),none,none,none,none,none,some (.pure (aZ b)),none,none],rfl,rfl,?_,rfl,rfl⟩;generalize aZ b=B at *;simp[ah,bG,aj,q])
 rw[this,Wu];rfl
abbrev ig(ru pa:D)(s2 s3 s4 s5 s6 s7 s8:Option S):Dl:=[some (.pure ru),some (.pure pa),s2,s3,s4,s5,s6,s7,s8,none,none,none]
theorem PH(ru pa DP DX:D)(B XX TT:List D)(A1 A2:List (D×D))(ao zb:DS)(o6 o7 p6 p7:Option S)(x2:aw ru (.int 2)=some (.pure (.tup B)))(hd:f_ pa=some (.own DP))(hx:f_ (.lst XX)=some (.own DX))
  (c1:cg [10,11] (cB 2 (bB (ae [] 10) (bB (ae [] 11) cH))) bq (bI (az (af 10) (az (aK (dC []) (aj 11)) aP))) B (ig ru pa (some (.own DP)) none none none none none none) [] = .ok XX (ig ru pa (some (.own DP)) none none none none none none))
  (c2:cg [9] (ae [] 9) bq (ah aw 9 (aq (eD (.int 0)))) B (ig ru pa (some (.own DP)) (some (.own DX)) none none none none none) [] = .ok TT (ig ru pa (some (.own DP)) (some (.own DX)) none none none none none))
  (e1:forL (ae [] 6) ao TT (bF ru pa DP DX (.pure (.lst TT)) [] none none none) = .ok .next (bF ru pa DP DX (.pure (.lst TT)) A1 o6 o7 none))
  (e2:ef (aS (af 8)) zb 1000000 (bF ru pa DP DX (.pure (.lst TT)) A1 o6 o7 (some (.pure (.bl true)))) = .ok .next (bF ru pa DP DX (.pure (.lst TT)) A2 p6 p7 (some (.pure (.bl false))))) :
  (ar (au (aK f_ (aj 1)) (ae [] 2)) (ar (au (aK f_ (aq (bU [10,11] (aY (ah aw 0 (aq (eD (.int 2))))) (cB 2 (bB (ae [] 10) (bB (ae [] 11) cH))) bq (bI (az (af 10) (az (aK (dC []) (aj 11)) aP)))))) (ae [] 3)) (ar (au (bU [9] (aY (ah aw 0 (aq (eD (.int 2))))) (ae [] 9) bq (ah aw 9 (aq (eD (.int 0))))) (ae [] 4)) (ar (au gP (ae [] 5)) (ar (cf (aY (af 4)) (ae [] 6) ao) (ar (au (eD (.bl true)) (ae [] 8)) (ar (ef (aS (af 8)) zb 1000000) (kF [] 5)))))))) (ig ru pa none none none none none none none) = .ok (.ret (.own (.dic A2))) ([some (.pure ru),some (.pure pa)] ++ [some (.own DP),some (.own DX),some (.pure (.lst TT)),none,p6,p7,some (.pure (.bl false)),none,none,none]):=by
 have i2:∀ a b c d e f g,aY (ah aw 0 (aq (eD (.int 2)))) (ig ru pa a b c d e f g) = .ok B (ig ru pa a b c d e f g):=λa b c d e f g=>by simp[e8,ah,bG,aj,x2]
 rw[dH (δ1:=ig ru pa (some (.own DP)) none none none none none none) (by simp[au,aj,hd,S.d])];rw[dH (δ1:=ig ru pa (some (.own DP)) (some (.own DX)) none none none none none) (by
  have j:=i2 (some (.own DP)) none none none none none none;unfold ig at j c1 ⊢;simp[au,j,bJ,bD];rw[c1];simp[cI,hx,S.d])]
 rw[dH (δ1:=ig ru pa (some (.own DP)) (some (.own DX)) (some (.own (.lst TT))) none none none none) (by
  have j:=i2 (some (.own DP)) (some (.own DX)) none none none none none;unfold ig at j c2 ⊢;simp[au,j,bJ,bD];rw[c2];simp[cI])]
 rw[dH (δ1:=ig ru pa (some (.own DP)) (some (.own DX)) (some (.own (.lst TT))) (some (.own (.dic []))) none none none) (by simp[au,gP])];have i:aY (af 4) (ig ru pa (some (.own DP)) (some (.own DX)) (some (.own (.lst TT))) (some (.own (.dic []))) none none none) = .ok TT (bF ru pa DP DX (.pure (.lst TT)) [] none none none):=by simp[e8,af]
 rw[dH ((mQ i).trans e1)];rw[dH (δ1:=bF ru pa DP DX (.pure (.lst TT)) A1 o6 o7 (some (.pure (.bl true)))) (by simp[au])];rw[dH e2];simp[kF]
theorem PJ{h w:Nat}{bs:List (Nat×List Tx)}{ps:List (Nat×Nat)}(R:cU h w bs)(hp:ps.map (·.1)=bs.map (·.1)):∃ A,(∀ c,Res (bs.map (·.1)) (aG bs) (fw ps) c->∀ t ∈ bs.map (·.1),∀ u ∈ bs.map (·.1),A (t,u) = !decide (c t=c u)) /\
  j_ [.pure (aB h w bs),.pure (eM ps)]=some (.own (.dic (aE (cj (bs.map (·.1))) A)),[.pure (aB h w bs),.pure (eM ps)]):=by
 have n1:=R.n1;have hl:ps.length=bs.length:=by simpa using congrArg QH hp
 have cL:(bs.map (·.1)).length=bs.length:=by simp
 have RY:bs.length * bs.length<=52 * 52:=Nat.mul_le_mul n1 n1;have hlen:(cj (bs.map (·.1))).length<=2704:=by
  unfold cj;rw[D0,cL];omega
 have ot:∀ u ∈ bs.map (·.1),u ∈ ps.map (·.1):=λu hu=>by rw[hp]; exact hu
 obtain⟨o6,o7,e1⟩:=outer (aB h w bs) (eM ps) (bX bs) ps (bs.map (·.1)) ot none (bs.map (·.1)) [] none none ot (by rw[Qb]; exact DZ _ R.nd _ R.nd) (by rw[cL,QS]; omega);rw[Qb] at e1;have hP:∀ t ∈ bs.map (·.1),∀ u ∈ bs.map (·.1),(t,u) ∈ cj (bs.map (·.1)):=λt ht u hu=>x9.mpr ⟨ht,hu⟩
 have PK:nf (cj (bs.map (·.1))) (fz ps) < 20000:=by
  have:=List.length_filter_le (λp=>!fz ps p) (cj (bs.map (·.1)));unfold nf;omega
 obtain⟨A,p6,p7,snd,base,closed,e2⟩:=DW R (aB h w bs) (eM ps) (gn ps) (.pure (.lst ((bs.map (·.1)).map λu=>.str [u]))) (fw ps) (cj (bs.map (·.1))) hP (λp hp=>x9.mp hp) (by omega) 20000 (fz ps) o6 o7 PK (λN hN t ht u hu hn=>by
   show(!decide (fw ps t=fw ps u))=false;rw[decide_eq_true (hN t ht u hu hn).1];rfl) (λt ht u hu cn=>by
   show(!decide (fw ps t=fw ps u))=true;rw[decide_eq_false cn];rfl)
 refine⟨A,λc rs t ht u hu=>Og (λt ht=>(lZ R ht).2.2) (λt ht u hu=>by rw[(lZ R ht).1,(lZ R hu).1]) rs base closed snd t ht u hu,?_⟩;rw[j_,xj];exact DC (PH (aB h w bs) (eM ps) (gn ps) (bX bs) (bs.map aZ) _ _ _ _ aO wA o6 o7 p6 p7 (oF h w bs).2.2 (DB (by rw[hp]; exact R.nd) (by omega)) (PB R) (PD R _ _ _) (PF n1 _ _ _ _) e1 e2)
abbrev cN(aM c ru st pa AP TT:D)(du:List D)(o8 o9 aF aN:Option S):Dl:=[some (.pure aM),some (.pure c),some (.pure ru),some (.pure st),some (.pure pa),some (.own AP),some (.pure TT),some (.own (.lst du)),o8,o9,aF,aN,none,none,none]
def gD(g:List Nat):D:=.tup (g.map λt=>.str [t])
theorem D4:∀ a b:List Nat,dP (a.map λt=>D.str [t]) (b.map λt=>D.str [t])=decide (a=b)
 | [],[]=>rfl
 | [],_ :: _=>rfl
 | _ :: _,[]=>rfl
 | x :: a,y :: b=>by
  rw[Wd,Wd];simp only[dP,D4 a b,ax];by_cases h1:x=y <;> by_cases h2:a=b <;> simp[h1,h2]
theorem D5(a b:List Nat):ax (gD a) (gD b)=decide (a=b):=by
 unfold gD;simp only[ax,D4]
theorem D6(n:Nat):∀ g:List Nat,iw (n + 1) (g.map λt=>D.str [t])=true
 | []=>rfl
 | t :: r=>by
  rw[Wd];show(flat (n + 1) (.str [t]) && iw (n + 1) (r.map λt=>D.str [t]))=true;rw[D6 n r];rfl
theorem x_(g:List Nat):flat 49 (gD g)=true:=D6 47 g
theorem PL(g:List Nat)(L:List (List Nat)):oh true (gD g) (.lst (bP L))=some (.pure (.bl (!decide (g ∈ L)))):=by
 have h1:((bP L).all (flat 49))=true:=by
  rw[Qe];intro d hd;unfold bP at hd;obtain⟨x,_,rfl⟩:=Wz.mp hd;exact x_ x
 have h2:((bP L).any λe=>ax e (gD g))=decide (g ∈ L):=by
  unfold bP;rw[Jj,Jp];simp only[Qz,Function.comp,decide_eq_true_eq];constructor
  ·rintro ⟨x,hx,e⟩;have:ax (gD x) (gD g)=true:=e;rw[D5] at this;have e:x=g:=by simpa using this
   rw[<- e]; exact hx
  ·intro h;exact⟨g,h,by rw[show(D.tup (g.map λt=>.str [t]))=gD g from rfl,D5]; simp⟩
 show(if flat 49 (gD g) && (bP L).all (flat 49) then some (S.pure (.bl (!(bP L).any λe=>ax e (gD g)))) else none)=_;rw[x_,h1,h2];rfl
abbrev uC:DE:=(bU [13] (aY (af 6)) (ae [] 13) (iZ (aS (ah gh 5 (aq (bI (az (af 8) (az (af 13) aP))))))) (af 13))
abbrev uB:DS:=(ar (au (aK cp (aq uC)) (ae [] 9)) (dQ (aS (bj (oh true) (af 9) (aj 7))) (cS 7 (af 9)) d_))
theorem PM(aM c ru st pa:D)(ts:List Nat)(cL:ts.length<=52)(A:RR)(L:List (List Nat))(hL:L.length<=1000)(t:Nat)(ht:t ∈ ts)(o9 aF aN:Option S) :
  uB (cN aM c ru st pa (.dic (aE (cj ts) A)) (.lst (ts.map λt=>.str [t])) (bP L) (some (.pure (.str [t]))) o9 aF aN) = .ok .next (cN aM c ru st pa (.dic (aE (cj ts) A)) (.lst (ts.map λt=>.str [t])) (bP (if ts.filter (λu=>!A (t,u)) ∈ L then L else L ++ [ts.filter λu=>!A (t,u)])) (some (.pure (.str [t]))) (some (.pure (gD (ts.filter λu=>!A (t,u))))) aF aN):=by
 have hc:=tu (cs:=[13]) (g:=ae [] 13) (t:=iZ (aS (ah gh 5 (aq (bI (az (af 8) (az (af 13) aP))))))) (el:=af 13) (λu:Nat=>D.str [u]) (λu=>D.str [u]) (λu=>!A (t,u)) (cN aM c ru st pa (.dic (aE (cj ts) A)) (.lst (ts.map λt=>.str [t])) (bP L) (some (.pure (.str [t]))) o9 aF aN) ts [] (by rw[dj]; simp; omega) (λu hu=>by
  have g:=tG (cj ts) A (t,u);have v:=tH A (t,u) (cj ts);rw[if_pos (x9.mpr ⟨ht,hu⟩)] at v;have q:gh (.dic (aE (cj ts) A)) (.tup [.str [t],.str [u]])=some (.pure (.bl (A (t,u)))):=by
   show(if gf (gA (kD (t,u))) (aE (cj ts) A) (kD (t,u)) then(fo (aE (cj ts) A) (kD (t,u))).map S.pure else none)=_;rw[g,if_pos rfl,v];rfl
  refine⟨[some (.pure aM),some (.pure c),some (.pure ru),some (.pure st),some (.pure pa),some (.own (.dic (aE (cj ts) A))),some (.pure (.lst (ts.map λt=>.str [t]))),some (.own (.lst (bP L))),some (.pure (.str [t])),o9,aF,aN,none,some (.pure (.str [u])),none],[some (.pure aM),some (.pure c),some (.pure ru),some (.pure st),some (.pure pa),some (.own (.dic (aE (cj ts) A))),some (.pure (.lst (ts.map λt=>.str [t]))),some (.own (.lst (bP L))),some (.pure (.str [t])),o9,aF,aN,none,some (.pure (.str [u])),none],.pure (.str [u]),[some (.pure aM),some (.pure c),some (.pure ru),some (.pure st),some (.pure pa),some (.own (.dic (aE (cj ts) A))),some (.pure (.lst (ts.map λt=>.str [t]))),some (.own (.lst (bP L))),some (.pure (.str [t])),o9,aF,aN,none,some (.pure (.str [u])),none],rfl,?_,rfl,?_,rfl,rfl⟩
  ·generalize aE (cj ts) A=AA at *;generalize (ts.map λt=>D.str [t])=TL at *;generalize bP L=DD at *;generalize A (t,u)=bb at *;simp[aS,ah,bG,aj,bI,az,aP,af,q,S.d]
  ·generalize aE (cj ts) A=AA at *;generalize (ts.map λt=>D.str [t])=TL at *;generalize bP L=DD at *;simp[af])
 have tJ:=PL (ts.filter λu=>!A (t,u)) L;have hd:(bP L).length < W9:=by unfold bP; rw[Wi,dj]; omega
 have PN:∀ g,bP (L ++ [g])=bP L ++ [gD g]:=λg=>by unfold bP gD; simp
 have ci:aY (af 6) (cN aM c ru st pa (.dic (aE (cj ts) A)) (.lst (ts.map λt=>.str [t])) (bP L) (some (.pure (.str [t]))) o9 aF aN) = .ok (ts.map λt=>D.str [t]) (cN aM c ru st pa (.dic (aE (cj ts) A)) (.lst (ts.map λt=>.str [t])) (bP L) (some (.pure (.str [t]))) o9 aF aN):=by
  generalize aE (cj ts) A=AA at *;generalize (ts.map λt=>D.str [t])=TL at *;generalize bP L=DD at *;simp[e8,af]
 have cc:uC (cN aM c ru st pa (.dic (aE (cj ts) A)) (.lst (ts.map λt=>.str [t])) (bP L) (some (.pure (.str [t]))) o9 aF aN) = .ok (.own (.lst ((ts.filter λu=>!A (t,u)).map λu=>.str [u]))) (cN aM c ru st pa (.dic (aE (cj ts) A)) (.lst (ts.map λt=>.str [t])) (bP L) (some (.pure (.str [t]))) o9 aF aN):=by
  unfold uC;rw[BK,ci];simp only[eh];have dX:([13]:List Nat).any (bJ (cN aM c ru st pa (.dic (aE (cj ts) A)) (.lst (ts.map λt=>.str [t])) (bP L) (some (.pure (.str [t]))) o9 aF aN))=false:=rfl;have x8:bD [13] (cN aM c ru st pa (.dic (aE (cj ts) A)) (.lst (ts.map λt=>.str [t])) (bP L) (some (.pure (.str [t]))) o9 aF aN)=cN aM c ru st pa (.dic (aE (cj ts) A)) (.lst (ts.map λt=>.str [t])) (bP L) (some (.pure (.str [t]))) o9 aF aN:=rfl;rw[dX,x8,hc];rfl
 have k1:au (aK cp (aq uC)) (ae [] 9) (cN aM c ru st pa (.dic (aE (cj ts) A)) (.lst (ts.map λt=>.str [t])) (bP L) (some (.pure (.str [t]))) o9 aF aN) = .ok .next (cN aM c ru st pa (.dic (aE (cj ts) A)) (.lst (ts.map λt=>.str [t])) (bP L) (some (.pure (.str [t]))) (some (.pure (gD (ts.filter λu=>!A (t,u))))) aF aN):=by
  have c':aK cp (aq uC) (cN aM c ru st pa (.dic (aE (cj ts) A)) (.lst (ts.map λt=>.str [t])) (bP L) (some (.pure (.str [t]))) o9 aF aN) = .ok (.pure (gD (ts.filter λu=>!A (t,u)))) (cN aM c ru st pa (.dic (aE (cj ts) A)) (.lst (ts.map λt=>.str [t])) (bP L) (some (.pure (.str [t]))) o9 aF aN):=by
   unfold aK aq gD;rw[cc];simp[S.d,cp]
  unfold au;rw[c'];rfl
 rw[uB,dH k1];generalize (ts.filter λu=>!A (t,u))=gg at *;by_cases h:gg ∈ L
 ·rw[if_pos h];rw[decide_eq_true h] at tJ;generalize aE (cj ts) A=AA at *;generalize (ts.map λt=>D.str [t])=TL at *;generalize bP L=DD at *;generalize gD gg=gk at *;simp[aS,af,aj,tJ,S.d]
 ·rw[if_neg h,PN];rw[decide_eq_false h] at tJ;generalize aE (cj ts) A=AA at *;generalize (ts.map λt=>D.str [t])=TL at *;generalize bP L=DD at *;generalize gD gg=gk at *;simp[aS,af,aj,tJ,S.d,cS,iC,putL,hd]
theorem D7(aM c ru st pa:D)(ts:List Nat)(cL:ts.length<=52)(A:RR)(aF aN:Option S):∀ (r:List Nat) (L:List (List Nat)) (o8 o9:Option S),(∀ t ∈ r,t ∈ ts)->L.length + r.length<=1000 ->
  ∃ o8' lX,forL (ae [] 8) uB (r.map λt=>D.str [t]) (cN aM c ru st pa (.dic (aE (cj ts) A)) (.lst (ts.map λt=>.str [t])) (bP L) o8 o9 aF aN) = .ok .next (cN aM c ru st pa (.dic (aE (cj ts) A)) (.lst (ts.map λt=>.str [t])) (bP (bO L (r.map λt=>ts.filter λu=>!A (t,u)))) o8' lX aF aN)
 | [],L,o8,o9,_,_=>⟨o8,o9,rfl⟩
 | t :: r,L,o8,o9,hr,hl=>by
  rw[WG] at hl;have fK:=PM aM c ru st pa ts cL A L (by omega) t (hr t We) o9 aF aN;obtain⟨o8',lX,ih⟩:=D7 aM c ru st pa ts cL A aF aN r (if ts.filter (λu=>!A (t,u)) ∈ L then L else L ++ [ts.filter λu=>!A (t,u)]) (some (.pure (.str [t]))) (some (.pure (gD (ts.filter λu=>!A (t,u))))) (λx hx=>hr x (Wc _ hx)) (by
    split
    ·omega
    ·rw[WX,List.length_singleton]; omega)
  refine⟨o8',lX,?_⟩;have ed:∀ (g:List Nat) (rest:List (List Nat)),bO L (g :: rest)=bO (if g ∈ L then L else L ++ [g]) rest:=λg rest=>by
   conv=>lhs; unfold bO
   by_cases h:g ∈ L
   ·rw[if_pos h,if_pos h]
   ·rw[if_neg h,if_neg h]
  rw[Wd,Wd,ed,mR (δ1:=cN aM c ru st pa (.dic (aE (cj ts) A)) (.lst (ts.map λt=>.str [t])) (bP L) (some (.pure (.str [t]))) o9 aF aN) rfl fK];exact ih
theorem D8:∀ n:Nat,gv (Wf n (.bl true))=some (Wf n true)
 | 0=>rfl
 | n + 1=>by
  rw[WR,WR];simp[gv,D8 n]
theorem D9:∀ L:List (List Nat),iw 49 (bP L)=true
 | []=>rfl
 | g :: r=>by
  show(flat 49 (gD g) && iw 49 (bP r))=true;rw[D9 r,x_];rfl
theorem PQ(L:List (List Nat)):jU (.lst (bP L)) (.lst (bP L))=some (.pure (.bl false)):=by
 have hf:flat 50 (.lst (bP L))=true:=D9 L;unfold jU;rw[hf,rC hf];rfl
abbrev vB (GA:DF):DS:=(ar (au (aH GA [.val (af 2),.val (af 4)]) (ae [] 11)) (ar (dQ (mw (iZ (aS (i7 "list" (aj 11)))) (mw (aS (ah jU 11 (aj 7))) (iZ (aS (aK nE (aq (nZ [14] 11 (ae [11] 14) bq (i7 "tuple" (aj 14))))))))) (dD (eD (.bl false))) d_) (cS 11 (bI aP))))
theorem PR(GA:DF)(aM c ru st pa AP TT:D)(du:List D)(n:Nat)(o8 o9 aF aN:Option S)(ga:GA [.pure ru,.pure pa]=some (.own (.lst du),[.pure ru,.pure pa]))(cn:jU (.lst du) (.lst du)=some (.pure (.bl false)))(hl:du.length < W9)
  (hc:cg [14] (ae [11] 14) bq (i7 "tuple" (aj 14)) du [some (.pure aM),some (.pure c),some (.pure ru),some (.pure st),some (.pure pa),some (.own AP),some (.pure TT),some (.own (.lst du)),o8,o9,aF,none,none,none,none] [] = .ok (Wf n (.bl true)) [some (.pure aM),some (.pure c),some (.pure ru),some (.pure st),some (.pure pa),some (.own AP),some (.pure TT),some (.own (.lst du)),o8,o9,aF,none,none,none,none]) :
  vB GA (cN aM c ru st pa AP TT du o8 o9 aF aN) = .ok .next (cN aM c ru st pa AP TT du o8 o9 aF (some (.own (.lst (du ++ [.tup []]))))):=by
 have ha:nE (.lst (Wf n (.bl true)))=some (.pure (.bl true)):=by
  show(gv (Wf n (.bl true))).map _=_;rw[D8];simp
 rw[vB,dH (δ1:=cN aM c ru st pa AP TT du o8 o9 aF (some (.own (.lst du)))) (by simp[au,aH,bz,cu,b_,bK,bf,af,ga])];rw[dH (δ1:=cN aM c ru st pa AP TT du o8 o9 aF (some (.own (.lst du)))) (by
  unfold cN;simp[aS,i7,nH,aj,ah,bG,cn,S.d,nZ,bJ,bD];rw[hc];simp[cI,ha])]
 simp[cS,iC,bI,aP,putL,hl]
theorem PU (aM c ru st pa AP TT:D) (L:List (List Nat)) (hL:L.length<=1000) (o8 o9 aF:Option S):cg [14] (ae [11] 14) bq (i7 "tuple" (aj 14)) (bP L) [some (.pure aM),some (.pure c),some (.pure ru),some (.pure st),some (.pure pa),some (.own AP),some (.pure TT),some (.own (.lst (bP L))),o8,o9,aF,none,none,none,none] [] = .ok (Wf L.length (.bl true)) [some (.pure aM),some (.pure c),some (.pure ru),some (.pure st),some (.pure pa),some (.own AP),some (.pure TT),some (.own (.lst (bP L))),o8,o9,aF,none,none,none,none]:=by
 have:∀ DD:D,cg [14] (ae [11] 14) bq (i7 "tuple" (aj 14)) (L.map gD) [some (.pure aM),some (.pure c),some (.pure ru),some (.pure st),some (.pure pa),some (.own AP),some (.pure TT),some (.own DD),o8,o9,aF,none,none,none,none] [] = .ok (L.map λ_=>D.bl true) [some (.pure aM),some (.pure c),some (.pure ru),some (.pure st),some (.pure pa),some (.own AP),some (.pure TT),some (.own DD),o8,o9,aF,none,none,none,none]:=λDD=>by
  have:=jC (cs:=[14]) (g:=ae [11] 14) (t:=bq) (el:=i7 "tuple" (aj 14)) gD (λ_=>D.bl true) [some (.pure aM),some (.pure c),some (.pure ru),some (.pure st),some (.pure pa),some (.own AP),some (.pure TT),some (.own DD),o8,o9,aF,none,none,none,none] L [] (by rw[dj]; simp; omega) (λg hg=>by
   refine⟨_,_,.pure (.bl true),[some (.pure aM),some (.pure c),some (.pure ru),some (.pure st),some (.pure pa),some (.own AP),some (.pure TT),some (.own DD),o8,o9,aF,none,none,none,some (.pure (gD g))],rfl,rfl,?_,rfl,rfl⟩;unfold gD;simp[i7,nH,aj,S.d])
  rw[this];rfl
 have e:=this (.lst (bP L));have er:(L.map λ_=>D.bl true)=Wf L.length (.bl true):=by
  clear this e hL;induction L with
  | nil=>rfl
  | cons b r ih=>rw[Wd,ih,WG,WR]
 rw[er] at e;exact e
abbrev dW(aM:D)(o1 o2 o3 o4 o5 o6 o7 o8 o9 aF aN:Option S):Dl:=[some (.pure aM),o1,o2,o3,o4,o5,o6,o7,o8,o9,aF,aN,none,none,none]
theorem PV{bs:List (Nat×List Tx)}(hn:bs.length<=52)(aM:D)(o1 o2 o3 o4 o5 o6 o7 o8 o9 aF aN:Option S):cg [12] (ae [] 12) bq (ah aw 12 (aq (eD (.int 0)))) (bs.map aZ) (dW aM o1 o2 o3 o4 o5 o6 o7 o8 o9 aF aN) [] = .ok ((bs.map (·.1)).map λt=>D.str [t]) (dW aM o1 o2 o3 o4 o5 o6 o7 o8 o9 aF aN):=by
 have:=jC (cs:=[12]) (g:=ae [] 12) (t:=bq) (el:=ah aw 12 (aq (eD (.int 0)))) aZ (λb=>D.str [b.1]) (dW aM o1 o2 o3 o4 o5 o6 o7 o8 o9 aF aN) bs [] (by rw[dj]; simp; omega) (λb hb=>by
  have q:aw (aZ b) (.int 0)=some (.pure (.str [b.1])):=by simp[aw,dB,fg]
  refine⟨_,_,.pure (.str [b.1]),[some (.pure aM),o1,o2,o3,o4,o5,o6,o7,o8,o9,aF,aN,some (.pure (aZ b)),none,none],rfl,rfl,?_,rfl,rfl⟩;generalize aZ b=B at *;simp[ah,bG,aj,q])
 rw[this,Wu];rfl
abbrev y1(GB GP:DF):DS:=(au (n4 GB (aH GP [.val (af 1)]) [.val (eD (.int 5))]) (cB 3 (bB (ae [] 2) (bB (ae [] 3) (bB (ae [] 4) cH)))))
abbrev y2(GX:DF):DS:=(au (aH GX [.val (af 2),.val (af 4)]) (ae [] 5))
abbrev y3:DS:=(au (bU [12] (aY (ah aw 2 (aq (eD (.int 2))))) (ae [] 12) bq (ah aw 12 (aq (eD (.int 0))))) (ae [] 6))
abbrev y4:DS:=(au (cA aP) (ae [] 7))
abbrev y5:DS:=(cf (aY (af 6)) (ae [] 8) uB)
abbrev y6(GA:DF):DS:=(cf (fV (eD (.int 2))) (ae [] 10) (vB GA))
theorem PX(GB GP GX GA:DF)(aM c pd bc ru st pa AP:D)(B TL du:List D)(o2 o3 o4 o5 o6 o7 o8 o9 aF aN p8 p9:Option S)(gp:GP [.pure c]=some (.own pd,[.pure c]))(gb:GB [.own pd,.pure (.int 5)]=some (.pure (.tup [ru,st,pa]),[.own bc,.pure (.int 5)]))(gx:GX [.pure ru,.pure pa]=some (.own AP,[.pure ru,.pure pa]))(x2:aw ru (.int 2)=some (.pure (.tup B)))
  (c3:cg [12] (ae [] 12) bq (ah aw 12 (aq (eD (.int 0)))) B (dW aM (some (.pure c)) (some (.pure ru)) (some (.pure st)) (some (.pure pa)) (some (.own AP)) o6 o7 o8 o9 aF aN) [] = .ok TL (dW aM (some (.pure c)) (some (.pure ru)) (some (.pure st)) (some (.pure pa)) (some (.own AP)) o6 o7 o8 o9 aF aN))
  (e5:forL (ae [] 8) uB TL (cN aM c ru st pa AP (.lst TL) [] o8 o9 aF aN) = .ok .next (cN aM c ru st pa AP (.lst TL) du p8 p9 aF aN))
  (v:∀ aF aN,vB GA (cN aM c ru st pa AP (.lst TL) du p8 p9 aF aN) = .ok .next (cN aM c ru st pa AP (.lst TL) du p8 p9 aF (some (.own (.lst (du ++ [.tup []])))))) :
  (ar (y1 GB GP) (ar (y2 GX) (ar y3 (ar y4 (ar y5 (y6 GA)))))) (dW aM (some (.pure c)) o2 o3 o4 o5 o6 o7 o8 o9 aF aN) = .ok .next (cN aM c ru st pa AP (.lst TL) du p8 p9 (some (.pure (.int 1))) (some (.own (.lst (du ++ [.tup []]))))):=by
 rw[dH (δ1:=dW aM (some (.pure c)) (some (.pure ru)) (some (.pure st)) (some (.pure pa)) o5 o6 o7 o8 o9 aF aN) (by
  simp[au,n4,aH,bz,cu,b_,bK,bf,af,gp,gb,cB,bB,cH,S.d])]
 rw[dH (δ1:=dW aM (some (.pure c)) (some (.pure ru)) (some (.pure st)) (some (.pure pa)) (some (.own AP)) o6 o7 o8 o9 aF aN) (by simp[au,aH,bz,cu,b_,bK,bf,af,gx])];have i3:aY (ah aw 2 (aq (eD (.int 2)))) (dW aM (some (.pure c)) (some (.pure ru)) (some (.pure st)) (some (.pure pa)) (some (.own AP)) o6 o7 o8 o9 aF aN) = .ok B (dW aM (some (.pure c)) (some (.pure ru)) (some (.pure st)) (some (.pure pa)) (some (.own AP)) o6 o7 o8 o9 aF aN):=by simp[e8,ah,bG,aj,x2]
 rw[dH (δ1:=dW aM (some (.pure c)) (some (.pure ru)) (some (.pure st)) (some (.pure pa)) (some (.own AP)) (some (.own (.lst TL))) o7 o8 o9 aF aN) (by
  unfold dW at i3 c3 ⊢;simp[au,i3,bJ,bD];rw[c3];simp[cI])]
 rw[dH (δ1:=dW aM (some (.pure c)) (some (.pure ru)) (some (.pure st)) (some (.pure pa)) (some (.own AP)) (some (.own (.lst TL))) (some (.own (.lst []))) o8 o9 aF aN) (by simp[au,aP])];have i5:aY (af 6) (dW aM (some (.pure c)) (some (.pure ru)) (some (.pure st)) (some (.pure pa)) (some (.own AP)) (some (.own (.lst TL))) (some (.own (.lst []))) o8 o9 aF aN) = .ok TL (cN aM c ru st pa AP (.lst TL) [] o8 o9 aF aN):=by simp[e8,af]
 rw[dH ((mQ i5).trans e5)];have i6:fV (eD (.int 2)) (cN aM c ru st pa AP (.lst TL) du p8 p9 aF aN) = .ok [.int 0,.int 1] (cN aM c ru st pa AP (.lst TL) du p8 p9 aF aN):=by
  have:=pV 2 (by omega);have h2:dE 0 2=[.int 0,.int 1]:=rfl;rw[h2] at this;simpa using this _
 refine(mQ i6).trans ?_;rw[mR (δ1:=cN aM c ru st pa AP (.lst TL) du p8 p9 (some (.pure (.int 0))) aN) rfl (v _ _)];rw[mR (δ1:=cN aM c ru st pa AP (.lst TL) du p8 p9 (some (.pure (.int 1))) (some (.own (.lst (du ++ [.tup []]))))) rfl (v _ _)];rfl
theorem PY(aM:D)(k:Int)(o2 o3 o4 o5 o6 o7 o8 o9 aF aN:Option S):∃ q2 q3 q4 q5 q6 q7 q8 q9 dU qp,(ar (y1 j8 j9) (ar (y2 j_) (ar y3 (ar y4 (ar y5 (y6 jg)))))) (dW aM (some (.pure (.int k))) o2 o3 o4 o5 o6 o7 o8 o9 aF aN) = .ok .next (dW aM (some (.pure (.int k))) q2 q3 q4 q5 q6 q7 q8 q9 dU qp):=by
 obtain⟨pd,e0,hp⟩:=Ol k;obtain⟨h,w,bs,st,ps,bc,e1,Ru,hZ,_⟩:=O9 hp;obtain⟨A,hA,e2⟩:=PJ Ru hZ;obtain⟨c,rs,e3⟩:=Pr Ru hZ;have n1:=Ru.n1;have cL:(bs.map (·.1)).length<=52:=by simpa using n1
 have hg:((bs.map (·.1)).map λt=>(bs.map (·.1)).filter λu=>!A (t,u))=(bs.map (·.1)).map λt=>fit c (bs.map (·.1)) (c t):=WS λt ht=>by
  unfold fit;refine List.filter_congr λu hu=>?_
  rw[hA c rs t ht u hu];by_cases hq:c t=c u
  ·simp[hq]
  ·simp[hq,Ne.symm hq]
 obtain⟨p8,p9,e5⟩:=D7 aM (.int k) (aB h w bs) (.str [st]) (eM ps) (bs.map (·.1)) cL A aF aN (bs.map (·.1)) [] o8 o9 (λt ht=>ht) (by rw[QS]; omega);rw[hg] at e5;have hl:(bO [] ((bs.map (·.1)).map λt=>fit c (bs.map (·.1)) (c t))).length<=52:=by
  have:=tm ((bs.map (·.1)).map λt=>fit c (bs.map (·.1)) (c t)) [];rw[Wi,QS] at this;omega
 generalize bO [] ((bs.map (·.1)).map λt=>fit c (bs.map (·.1)) (c t))=L at *;have v:∀ dU qp,vB jg (cN aM (.int k) (aB h w bs) (.str [st]) (eM ps) (.dic (aE (cj (bs.map (·.1))) A)) (.lst ((bs.map (·.1)).map λt=>.str [t])) (bP L) p8 p9 dU qp) = .ok .next (cN aM (.int k) (aB h w bs) (.str [st]) (eM ps) (.dic (aE (cj (bs.map (·.1))) A)) (.lst ((bs.map (·.1)).map λt=>.str [t])) (bP L) p8 p9 dU (some (.own (.lst (bP L ++ [.tup []]))))):=λdU qp =>
  PR jg _ _ _ _ _ _ _ _ L.length _ _ _ _ e3 (PQ L) (by unfold bP; rw[Wi,dj]; omega) (PU _ _ _ _ _ _ _ L (by omega) _ _ _)
 exact⟨_,_,_,_,_,_,_,_,_,_,PX j8 j9 j_ jg aM (.int k) pd bc (aB h w bs) (.str [st]) (eM ps) _ (bs.map aZ) _ _ o2 o3 o4 o5 o6 o7 o8 o9 aF aN p8 p9 e0 e1 e2 (oF h w bs).2.2 (PV n1 _ _ _ _ _ _ _ _ _ _ _ _) e5 v⟩
theorem PZ(GC:DF)(B:DS)(aM:D)(cs:List D)(cl c0:D)(e0:GC [.pure aM,.pure (.int 0)]=some (.pure c0,[.pure aM,.pure (.int 0)]))(hs:fE (some 1) (some 5) aM=some (.own cl))(ha:bH (.lst [c0]) cl=some (.own (.lst cs)))(o1 o2 o3 o4 o5 o6 o7 o8 o9 aF aN:Option S)(e:forL (ae [] 1) B cs (dW aM none none none none none none none none none none none) = .ok .next (dW aM o1 o2 o3 o4 o5 o6 o7 o8 o9 aF aN)) :
  (ar (cf (aY (bj bH (cA (az (aH GC [.val (af 0),.val (eD (.int 0))]) aP)) (aq (jW 0 (g8 (eD (.int 1))) (g8 (eD (.int 5))))))) (ae [] 1) B) (dD (eD (.bl true)))) (dW aM none none none none none none none none none none none) = .ok (.ret (.pure (.bl true))) (dW aM o1 o2 o3 o4 o5 o6 o7 o8 o9 aF aN):=by
 have qi:aY (bj bH (cA (az (aH GC [.val (af 0),.val (eD (.int 0))]) aP)) (aq (jW 0 (g8 (eD (.int 1))) (g8 (eD (.int 5)))))) (dW aM none none none none none none none none none none none) = .ok cs (dW aM none none none none none none none none none none none):=by
  simp[e8,aH,bz,cu,b_,af,bK,e0,bf,jW,g8,aj,hs,ha]
 refine(dH ((mQ qi).trans e)).trans ?_;rfl
theorem P0(ns:List Int)(hn:ns.length<=63):∃ aX,oB [.pure (.lst (ns.map .int))]=some (.pure (.bl true),aX):=by
 obtain⟨c0,e0⟩:=Om ns;have P4:∀ (ns:List Int) (lo hi:Option Int),cE (ns.map D.int) lo hi=(cE ns lo hi).map D.int:=λns lo hi=>by
  unfold cE;simp[List.map_take,List.map_drop]
 have ha:bH (.lst [.int c0]) (.lst (cE (ns.map .int) (some 1) (some 5)))=some (.own (.lst ((c0 :: cE ns (some 1) (some 5)).map .int))):=by
  rw[P4];have hl:(cE ns (some 1) (some 5)).length<=63:=by
   unfold cE;simp;omega
  simp only[bH];rw[if_pos (by rw[dj]; simp; omega)];simp
 have hs:fE (some 1) (some 5) (.lst (ns.map .int))=some (.own (.lst (cE (ns.map .int) (some 1) (some 5)))):=rfl;generalize D.lst (ns.map .int)=aM at *;obtain⟨δ',e,o1,o2,o3,o4,o5,o6,o7,o8,o9,aF,aN,rfl⟩:=kJ (g:=ae [] 1) (b:=(ar (y1 j8 j9) (ar (y2 j_) (ar y3 (ar y4 (ar y5 (y6 jg)))))))
  (λ_ δ=>∃ o1 o2 o3 o4 o5 o6 o7 o8 o9 aF aN,δ=dW aM o1 o2 o3 o4 o5 o6 o7 o8 o9 aF aN) ((c0 :: cE ns (some 1) (some 5)).map .int) 0 (dW aM none none none none none none none none none none none) ⟨_,_,_,_,_,_,_,_,_,_,_,rfl⟩ (λi d δ hd ⟨o1,o2,o3,o4,o5,o6,o7,o8,o9,aF,aN,e⟩=>by
   subst e;simp only[Wl,WA] at hd;obtain⟨k,_,rfl⟩:=hd;obtain⟨q2,q3,q4,q5,q6,q7,q8,q9,dU,qp,e⟩:=PY aM k o2 o3 o4 o5 o6 o7 o8 o9 aF aN;exact⟨_,_,rfl,e,_,_,_,_,_,_,_,_,_,_,_,rfl⟩)
 refine⟨[.pure aM],?_⟩;rw[oB,xn];exact Pb (PZ lR _ aM _ _ _ e0 hs ha o1 o2 o3 o4 o5 o6 o7 o8 o9 aF aN e)
end K65
open PySem PySem.W PyProof.Rows
namespace PySem.W.Fast
def tw11530745796783996724:=0
def tw17748172666940222325:=0
def tw11594096018719016380:=0
def tw13399548001761223120:=0
def tw14351150225234436974:=0
def tw18258488694523955541:=0
def tw12020040486698206459:=0
def tw7054867658671042465:=0
def tw16155655741176927275:=0
def tw18256908189273314424:=0
def tw8568418941078736709:=0
def tw14060157878522854949:=0
def tw13243056087404495005:=0
def tw9188541642630767193:=0
def tw9139273249973379702:=0
def tw9402151085570589068:=0
def tw835332257691551589:=0
def tw7292748702429550133:=0
def tw5218386156348141752:=0
def tw15581738630853693613:=0
end PySem.W.Fast
set_option maxRecDepth 100000 in
set_option maxHeartbeats 0 in
theorem PySem.Challenge.cw_tilegrow_k65_tiles_that_are_one_holds : PySem.Challenge.rw_tilegrow_k65_tiles_that_are_one.Holds := by
 w_on; o_law; k_head; (case hw=>w_witness2)
 k_fill
 refine DV.KH (l:=PySem.Challenge.rw_tilegrow_k65_tiles_that_are_one) (k:=6) (G:=K65.oB) rfl rfl ⟨rfl,by decide,by decide⟩ (λw h Y=>PySem.W.kIn_of Y) ?L K65.P0 ?F
 case L=>intro p; exact Eq.refl true
 case F =>
  intro w mg fa h KX G pk;refine' K65.all_mk KX G pk ?d0 ?d1 ?d2 ?d3 ?d4 ?d5 ?d6 ?d7 ?d8 ?d9 ?xu ?xw ?xx ?xy ?xA ?xB ?xC ?qc ?qd ?mJ ?qe ?ox ?jf ?oy ?qf ?j7 ?oz ?iP ?qg
  (case d0|d1|d2|d3|d4|d5|d6|d7|d8|d9|xu|xw|xx=>exact⟨_,_,_,_,_,_,_,_,_,_,by k_is,by k_is,by k_is,by k_is⟩)
  (case xy|xA|xB|xC|qc|qd|mJ|qe|ox|jf|oy|qf|j7|oz|iP|qg=>k_is)
