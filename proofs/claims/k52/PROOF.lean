import PyProof.Rows.All
import Wide.All
import OpenK.AllK
import Wide.FinOn
import Lean
import PyProof.EqAt
import PyProof.EqKinds
import PyProof.TupleCall
import PyProof.NeKinds
import PyProof.StrWalks
import PyProof.ListStr
import PyProof.StrOps2
import PyProof.StrLawsIn
import KE.KDictOf
import PyProof.AttrMissHeap
import PyProof.Draws
import PyProof.EnumMake
import PyProof.Rows.EnumRows
import PyProof.LongRange
import PyProof.NoPylong
import PyProof.SeqI3
import PyProof.Rows.SeqCalls
import PyProof.StrLawsChain
import PyProof.StrCalls2
import KE.KIntText
import PyProof.Rows.CallKwBuiltin
import OpenK.KOwn
import OpenK.KRaise
import PyProof.ExcBaseAll.ValueError
import PyProof.Rows.CatchOwn
import KE.KIsAll
import PyProof.ExcArgsOwn
import PyProof.ExcAttrAll.ValueError
import PyProof.Rows.SeqMore2
import PyProof.ListMulAny
import PyProof.ListMulRoad
import PyProof.ZipIter
import PyProof.Rows.FactsT2
import PyProof.ExcInit
import PyProof.InstStoreFacts
import PyProof.StrCalls
import PyProof.FactsAll.dict_1
import PyProof.FactsAll.subtypes_3
import PyProof.FactsAll.subtypes_4
import PyProof.Dict
import PyProof.MinMaxWalk
import PyProof.WalkInts
import PyProof.WalksMore
import PyProof.FactsAll.tuple_2
import KE.KSortTup
import PyProof.Rows.SortWalk
import PyProof.Rows.SetFrom
import PyProof.DictKinds
import PyProof.DictStraight
import PyProof.SetRoads
import PyProof.CollectWalk
import PyProof.CollectStr
import PyProof.DictIter
import PyProof.Rows.SortShell
import KE.KItemsList
import PyProof.Rows.SortStr
import PyProof.DictItemsLoops
import PyProof.ListNew
import PyProof.Rows.SumAny
import KE.IntBitsLaws
import KE.KLam
import KE.KDictList
import KE.KNestM
import PySem.Challenge.RW_tilegrow_k52_why_a_rule_does_not_mix
open PySem renaming wpAny_bind→W0,Shared→W2,wpAny_pure→W3,wpAny→W5,sizeLine→W6,Spec→W9,starEach→Wb,Program→Wj,World→Wp,Around→Wq,mainGlobals→Ws,mem_of_lookup→Wt,compareOp→Wz,wpAny_newObj_type→WB,wpAny_mono→WE,FuncData→WM,cLine→WO,wpAny_holding→WR,wpAny_callSpecial?_slot→WT,wpAny_loadPart'→Q3,wpAny_call_entry→Q5,backTo→Q9,assignEach→Qa,codeAny→Qe,binaryOp→Qi,codeAny_builtin→Qm,behindInMarks→Qo,pyNext→Qp,cellsFrom→Qs,bootBuiltins→Qu,wpAny_rule→Qv,rawInt→Qy,wpAny_truthy_bool→QB,plainId_quiet→QD,sysModules→QJ,wpAny_field→QK,codeAny_mono→QL,wpAny_typeOf→QM,wpAny_passesOwn→QN,foldedSetIterable→QU,wpAny_setState_of→QV,swapsWith→QZ,sizeLine_eq→J0,wpAny_setField→J2,wpAny_askSetting→Ja,wpAny_setEntries_of→Jd,attributeBase→Jg,wpAny_Call_Name_kw→Jh,tupleKind_room_in1→Jj,wpAny_ite_split→Jk,wpAny_pyIter_tuple→Jl,keywordEach→Jm,builtinLookup_eq_fast→Js,call_meets→Jv,getItem→Jy,sliceBounds→Jz,wpAny_updateSeq→JB,pushCells→JE,getattributeRaised→JF,scanBound→JG,typeIs_str→JI,typeIs_int→JJ,wpAny_pyIter_enum→JN
open PySem.W renaming Frag→W1,mg_none_of→WH,fnOf→WZ,kia_one→Q8,kitOne→QH,keepIn→J1,codeHdIn→Jb,cellsFrom_some→Jn,envX→Jt,kla_obj→JC
open PySem.Heap renaming get?_push_of_some→W4,lt_size→Wi,get?_push_size→Wm,get?_update_self→WG,get?_update_other→WX,size_push→QI,SameBut→J3
open Option.some renaming injEq→W7,inj→Wy
open Nat renaming le_refl→W8,ne_of_lt→Wr,lt_of_lt_of_le→Ww,le_trans→WU,lt_irrefl→Qd,zero_le→Qf,lt_succ_of_lt→Qg,div_add_mod→Qt,gcd→QQ,mod_lt→QY,ne_of_gt→J4,zero_add→J7,mul_comm→J9,add_mul→Jo,le_of_lt→Jr,mul_le_mul→JK,le_succ→JO,lt_succ_self→JQ
open List renaming getElem?_set_ne→Wa,getElem?_eq_getElem→Wc,getElem?_eq_some_iff→Wd,mem_cons→We,range→Wf,replicate→Wg,mem_cons_of_mem→Wh,mem_cons_self→Wl,map_cons→Wn,size_toArray→Wo,getElem?_set_self→Wu,getElem?_map→Wv,map_map→Wx,length_map→WA,mem_of_getElem?→WC,mem_map→WD,mem_append_right→WJ,getElem?_eq_none→WK,mem_range→WL,nodup_cons→WP,mem_map_of_mem→WQ,length_cons→WS,map_append→WY,length_append→Q2,find?_cons→Q4,replicate_succ→Q6,getElem?_set→Q7,lookup_cons→Qb,getElem_mem→Qc,getElem?_range→Qj,pairwise_cons→Qn,mem_append→Qr,length→Qx,append_nil→Qz,nil_append→QA,flatten_cons→QC,eq_nil_of_length_eq_zero→QE,foldl_cons→QO,range_succ→QP,any_cons→QS,pairwise_map→QW,all_eq_true→J8,filterMap_cons→Jc,getElem?_cons_succ→Jf,length_set→Ji,any_eq_false→Jp,nodup_append→Jq,getElem?_of_mem→Jw,append_assoc→JL,ext_getElem?→JM,length_take→JP,not_mem_nil→JR,any_eq_true→JS,of_mem_zip→JT
open Bool renaming and_eq_true→Wk,false_ne_true→WW,eq_iff_iff→Ql,false_eq_true→JH,or_eq_true→JU
open Option renaming bind_some→WF,map_some→WI
open PySem.Builtin.Str renaming strSliceIndices→WN,occurrences→Je
open PySem.Builtin.Slice renaming slicePlaces→WV,sliceAdjust→Qk,sliceApplied→QR
open PySem.Builtin.Tuple renaming tupleExact→Q0
open PyProof.Rows renaming slot_tuple_getitem→Q1,envOfC→J5
open Array renaming length_toList→Qh
open Int renaming toNat_natCast→Qq,eq_ofNat_of_zero_le→QF,mul_assoc→Jx,natCast_mul→JA,natCast_add→JV,emod_nonneg→JW
open PySem.F renaming plain_extend_loop→Qw,slot_tuple_iterator_next→QT
open PySem.Heap.SameBut renaming update→QG
open PySem.Builtin.SmallTypes renaming nextOf→QX
open PySem.SeqAt renaming EqAt→Ju
open LawfulBEq renaming eq_of_beq→JD
set_option Elab.async false
set_option linter.all false
set_option maxRecDepth 100000
namespace L2
open PySem PySem.Spec PyProof.Rows
abbrev Key:=Sum Int Str
def lW:Key->Value->Bool
 | .inl k,v=>Value.isInt k v
 | .inr x,v=>Value.isStrOf x v
def uy(w:Wp):Key->Int
 | .inl k=>hashInt k
 | .inr x=>hashStr w x
theorem jE:∀ {k:Key} {v:Value},lW k v=true->(∃ i t,k=Sum.inl i/\v=Value.int i t)\/(∃ x t,k=Sum.inr x/\v=Value.str x t)
 | .inl i,v,h=>by
  obtain⟨t,e⟩:=Value.isInt_shape (k:=i) (v:=v) h;exact .inl ⟨i,t,rfl,e⟩
 | .inr x,v,h=>by
  obtain⟨t,e⟩:=Value.isStrOf_shape (x:=x) (v:=v) h;exact .inr ⟨x,t,rfl,e⟩
theorem Ga(i:Int)(t:Tok):lW (.inl i) (.int i t)=true:=by simp[lW,Value.isInt]
theorem Gb(x:Str)(t:Tok):lW (.inr x) (.str x t)=true:=by simp[lW,Value.isStrOf]
theorem Gd(a b:Int):decide ((Sum.inl a:Key)=Sum.inl b)=(a == b):=by
 by_cases e:a=b
 ·subst e; simp
 ·have h:¬ (Sum.inl a:Key)=Sum.inl b:=λq=>e (Sum.inl.inj q)
  rw[decide_eq_false h];exact(beq_eq_false_iff_ne.mpr e).symm
theorem Ge(a b:Str):decide ((Sum.inr a:Key)=Sum.inr b)=decide (a=b):=by
 by_cases e:a=b
 ·subst e; simp
 ·have h:¬ (Sum.inr a:Key)=Sum.inr b:=λq=>e (Sum.inr.inj q)
  rw[decide_eq_false h,decide_eq_false e]
theorem Gf(a:Int)(b:Str):decide ((Sum.inl a:Key)=Sum.inr b)=false:=decide_eq_false (λq=>nomatch q)
theorem Gg(a:Str)(b:Int):decide ((Sum.inr a:Key)=Sum.inl b)=false:=decide_eq_false (λq=>nomatch q)
def eB(prog:Wj)(w:Wp):PySem.KeyKind prog w Key where
 is:=lW
 hash:=uy w
 inj:=λv a b ha hb=>by
  rcases jE ha with ⟨i,t,rfl,rfl⟩ | ⟨x,t,rfl,rfl⟩
  ·rcases jE hb with ⟨j,u,rfl,e⟩ | ⟨y,u,rfl,e⟩
   ·injection e with e1 _; rw[e1]
   ·exact nomatch e
  ·rcases jE hb with ⟨j,u,rfl,e⟩ | ⟨y,u,rfl,e⟩
   ·exact nomatch e
   ·injection e with e1 _; rw[e1]
 byValue:=λk v h=>by
  rcases jE h with ⟨i,t,rfl,rfl⟩ | ⟨x,t,rfl,rfl⟩ <;> rfl
 pyHash:=λhv h=>by
  rcases jE hv with ⟨i,t,rfl,rfl⟩ | ⟨x,t,rfl,rfl⟩
  ·exact wpAny_pyHash_int h
  ·exact wpAny_pyHash_str h
 eqBool:=λhu hv h=>by
  rcases jE hu with ⟨i,t,rfl,rfl⟩ | ⟨x,t,rfl,rfl⟩
  ·rcases jE hv with ⟨j,u,rfl,rfl⟩ | ⟨y,u,rfl,rfl⟩
   ·rw[Gd] at h; exact wpAny_eqBool_int h
   ·rw[Gf] at h; exact SeqAt.EqAt.int_str i t y u _ _ _ _ h
  ·rcases jE hv with ⟨j,u,rfl,rfl⟩ | ⟨y,u,rfl,rfl⟩
   ·rw[Gg] at h; exact SeqAt.EqAt.str_int x t j u _ _ _ _ h
   ·rw[Ge] at h; exact wpAny_eqBool_str h
 «strs»:=λk x t v h=>by
  rcases jE h with ⟨i,u,rfl,e⟩ | ⟨y,u,rfl,e⟩
  ·exact nomatch e
  ·injection e with e1 _
   subst e1
   cases v <;> rfl
theorem Gh(prog:Wj)(w:Wp)(k:Key)(v:Value):(eB prog w).is k v=lW k v:=rfl
theorem Gi(prog:Wj)(w:Wp)(i:Int)(t:Tok):(eB prog w).is (.inl i) (.int i t)=true:=Ga i t
theorem Gj(prog:Wj)(w:Wp)(x:Str)(t:Tok):(eB prog w).is (.inr x) (.str x t)=true:=Gb x t
inductive V where
 | ax | bl (b:Bool) | int (i:Int) | str (x:Str) | byt (b:Array UInt8) | flt (b:UInt64) | ref (a:Addr) | ty (n:String)
 deriving DecidableEq
def RelV:V->Value->Prop
 | .ax,u=>u=Value.none
 | .bl b,u=>u=Value.bool b
 | .int i,u=>∃ t,u=Value.int i t
 | .str x,u=>∃ t,u=Value.str x t
 | .byt b,u=>∃ t,u=Value.bytes b t
 | .flt b,u=>∃ t,u=Value.float b t
 | .ref a,u=>u=Value.ref a
 | .ty n,u=>u=Value.type n
abbrev Vals:List V->List Value->Prop:=Paired RelV
theorem Vals.length(r:Vals xs us):xs.length=us.length:=Paired.length r
theorem Vals.get:∀ {xs:List V} {us:List Value} {i:Nat} {x:V},Vals xs us->xs[i]? = some x->∃ u,us[i]? = some u/\RelV x u
 | _,_,_,_,.nil,e=>by simp at e
 | _,_,0,_,.cons r _,e=>by simp at e; subst e; exact⟨_,rfl,r⟩
 | _,_,i + 1,x,.cons _ t,e=>by
  obtain⟨u,h1,h2⟩:=Vals.get (i:=i) (x:=x) t (by simpa using e);exact⟨u,by simpa using h1,h2⟩
theorem Vals.set(r:RelV x u):∀ {xs:List V} {us:List Value} (i:Nat),Vals xs us->Vals (xs.set i x) (us.set i u)
 | _,_,_,.nil=>.nil
 | _,_,0,.cons _ t=>.cons r t
 | _,_,i + 1,.cons q t=>.cons q (Vals.set r i t)
theorem Vals.append:∀ {xs ys:List V} {us ws:List Value},Vals xs us->Vals ys ws->Vals (xs ++ ys) (us ++ ws)
 | _,_,_,_,.nil,s=>s
 | _,_,_,_,.cons r t,s=>.cons r (Vals.append t s)
theorem Vals.take:∀ {xs:List V} {us:List Value} (n:Nat),Vals xs us->Vals (xs.take n) (us.take n)
 | _,_,0,_=>.nil
 | _,_,_ + 1,.nil=>.nil
 | _,_,n + 1,.cons r t=>.cons r (Vals.take n t)
theorem Vals.drop:∀ {xs:List V} {us:List Value} (n:Nat),Vals xs us->Vals (xs.drop n) (us.drop n)
 | _,_,0,r=>r
 | _,_,_ + 1,.nil=>.nil
 | _,_,n + 1,.cons _ t=>Vals.drop n t
def eX:Option V->Option Value->Prop
 | some v,some u=>RelV v u
 | none,none=>True
 | _,_=>False
def KV{κ:Type}:List (κ×V)->List (κ×Value)->Prop:=Paired λ(p:κ×V) (q:κ×Value)=>p.1=q.1/\RelV p.2 q.2
def kV:Key->V
 | .inl i=>.int i
 | .inr x=>.str x
inductive NK where
 | i (z:Int) | s (x:Str) | t (ks:List NK)
noncomputable instance nkDec:DecidableEq NK:=λa b=>Classical.propDecidable (a=b)
mutual
def zV(w:Wp):NK->Int
 | .i z=>uy w (.inl z)
 | .s x=>uy w (.inr x)
 | .t ks=>reduceHash (Builtin.Tuple.tupleHashOf (zW w ks))
def zW(w:Wp):List NK->List Int
 | []=>[]
 | k :: ks=>zV w k :: zW w ks
end
inductive HO where
  | lst (xs:List V)
  | tup (xs:List V)
  | dK (kvs:List (Key×V)) | dT (kvs:List (List Key×V))
  | set (S:Int->Bool) (n:Nat)
  | ins (C dx:Addr) (fs:List (Str×V))
  | own (x:Addr)
  | xd (fs:List (Str×V))
  | met (f x:Addr)
  | j4 (lo hi:Int)
  | frz (o:Obj) (u:HO)
  | tbl (ps:Array Value)
  | ctab (pos:Pos) (q:Str)
  | dN (ep:Nat) (kvs:List (NK×V×V))
  | ext (φ:Heap->Prop)
abbrev Hp:=Addr->Option HO
def upd(H:Hp)(a:Addr)(o:HO):Hp:=λb=>if b=a then some o else H b
theorem dw:upd H a o a=some o:=by unfold upd; rw[if_pos rfl]
theorem bq(h:b≠a):upd H a o b=H b:=by unfold upd; rw[if_neg h]
theorem Gk:upd (upd H a o) a u=upd H a u:=by
 funext b; unfold upd; split <;> rfl
theorem Gm{H:Hp}{a b:Addr}{o u:HO}(h:H a=some o)(h':H b=some u)(d:o≠u):a≠b:=by
 intro e; subst e; rw[h] at h'; exact d (Wy h')
theorem fT{H:Hp}{a b:Addr}{o:HO}(h:H a=some o)(h':H b=none):a≠b:=by
 intro e; subst e; rw[h] at h'; cases h'
def hU (h:Heap) (a:Addr) (ae:Array Value):Prop:=∃ n,h.get? a=some { cls:=.type "tuple",dict:=none,data:=.seq ae n,slots:=#[] }
theorem hU.tup(x:hU h a ae):IsTup h a ae:=let ⟨n,e⟩:=x; ⟨_,e,rfl,n,rfl⟩
theorem hU.new (h:Heap) (ae:Array Value):hU (h.push { cls:=.type "tuple",data:=.seq ae }) h.objs.size ae:=⟨_,Wm _ rfl⟩
theorem hU.lt(x:hU h a ae):a < h.objs.size:=let ⟨_,e⟩:=x; Wi e
section
variable (P:Wj) (w:Wp)
def bZ(H:Hp)(h:Heap)(a:Addr):HO->Prop
 | .lst xs=>xs.length<=W6/\∃ (ae:List Value) (n:Nat),Vals xs ae/\h.get? a=some { cls:=.type "list",data:=.seq ae.toArray n }
 | .tup xs=>xs.length<=W6/\∃ ae:List Value,Vals xs ae/\hU h a ae.toArray
 | .dK kvs=>kvs.length<=W6/\(a == QJ)=false/\∃ vs,KV kvs vs/\h.DictOf (eB P w) a vs
 | .dT kvs=>kvs.length<=W6/\(a == QJ)=false/\∃ xs:List (List Key×Addr×Value),
   Paired (λ(p:List Key×V) (q:List Key×Addr×Value)=>p.1=q.1/\H q.2.1=some (.tup (p.1.map kV))/\RelV p.2 q.2.2) kvs xs /\
   ∃ o es ep,h.get? a=some o/\o.ExactDict/\o.data = .dict es ep/\es.toList=xs.map (entryOfKey (tupleKind (eB P w)))/\(xs.map (·.1)).Nodup
 | .set S n=>h.SetOf (intKind P w) a S n
 | .ins C dx fs=>H dx=some (.own a)/\fs.length<=1000/\dx≠a/\h.get? a=some (PySem.W.instObj C dx) /\
   ∃ mA,h.Ns1 dx mA/\(∀ f,eX (fs.lookup f) (mA f))/\PySem.Within mA (fs.map (·.1))
 | .own _=>∃ o,h.get? a=some o
 | .xd fs=>∃ mA,h.Ns1 a mA/\∀ f,eX (fs.lookup f) (mA f)
 | .j4 lo hi=>∃ t u v,h.get? a=some { cls:=.type "range",data:=.fields #[.int lo t,.int hi u,.int 1 v] }
 | .frz o u=>h.get? a=some o/\bZ H h a u
 | .tbl ps=>h.get? a=some { cls:=.none,data:=.fields ps }
 | .dN ep kvs=>kvs.length<=W6/\(a == QJ)=false/\∃ o es,h.get? a=some o/\o.ExactDict/\o.data = .dict es ep/\Paired (λ(p:NK×V×V) (e:DictEntry)=>e.hash=zV w p.1/\RelV p.2.1 e.key/\RelV p.2.2 e.val) kvs es.toList/\(kvs.map (·.1)).Nodup
 | .ctab pos q=>∃ ps,h.get? a=some { cls:=.none,data:=.fields ps }/\TriplesOk ps.toList/\∀ cv,codeAmong pos ps.toList=some cv->∃ c' oc,cv = .ref c'/\H c'=some (.frz oc (.ext λ_=>True))/\∃ vs tq,oc.data = .fields vs/\vs[1]? = some (.str q tq)
 | .met f x=>h.get? a=some (PySem.W.methodObj (.ref f) (.ref x))
 | .ext φ=>φ h/\(∃ o,h.get? a=some o)/\∀ h1 h2:Heap,φ h1->(∀ o,h1.get? a=some o->h2.get? a=some o)->φ h2
def cB(H:Hp)(h:Heap):Prop:=∀ a o,H a=some o->bZ P w H h a o
end
section
variable {P:Wj} {w:Wp} {H H':Hp} {h h':Heap} {a:Addr} {o:HO}
theorem bZ.lt(x:bZ P w H h a o):a < h.objs.size:=by
 cases o with
 | lst xs=>obtain⟨_,_,_,_,e⟩:=x; exact Wi e
 | tup xs=>obtain⟨_,_,_,p⟩:=x; exact p.lt
 | dK kvs=>obtain⟨_,_,_,_,o,_,_,e,_⟩:=x; exact Wi e
 | dT kvs=>obtain⟨_,_,_,_,o,_,_,e,_⟩:=x; exact Wi e
 | set S n=>obtain⟨o,_,_,_,e,_⟩:=x; exact Wi e
 | ins C dx fs=>obtain⟨_,_,_,e,_⟩:=x; exact Wi e
 | own y=>obtain⟨_,e⟩:=x; exact Wi e
 | xd fs=>obtain⟨_,⟨_,_,_,e,_⟩,_⟩:=x; exact Wi e
 | j4 lo hi=>obtain⟨_,_,_,e⟩:=x; exact Wi e
 | frz ob u=>obtain⟨e,_⟩:=x; exact Wi e
 | tbl ps=>exact Wi (show h.get? a=some _ from x)
 | ctab pos q=>obtain⟨_,e,_⟩:=x; exact Wi e
 | dN ep kvs=>obtain⟨_,_,_,_,e,_⟩:=x; exact Wi e
 | met f y=>exact Wi (show h.get? a=some _ from x)
 | ext φ=>obtain⟨_,⟨_,e⟩,_⟩:=x; exact Wi e
theorem Paired.uz:∀ {l₁:List α} {l₂:List β},Paired F l₁ l₂->(∀ a b,F a b->G a b)->Paired G l₁ l₂
 | _,_,.nil,_=>.nil
 | _,_,.cons r t,f=>.cons (f _ _ r) (Paired.uz t f)
theorem bZ.lX(x:bZ P w H h a o)(k:∀ b u,(b=a\/H b=some (.own a))->h.get? b=some u->h'.get? b=some u)
  (ho:∀ b,H b=some (.own a)->H' b=some (.own a)) (ht:∀ b xs,H b=some (.tup xs)->H' b=some (.tup xs)) (hf:∀ b o u,H b=some (.frz o u)->H' b=some (.frz o u)):bZ P w H' h' a o:=by
 induction o with
 | lst xs=>obtain⟨z,ae,n,r,e⟩:=x; exact⟨z,ae,n,r,k _ _ (.inl rfl) e⟩
 | tup xs=>obtain⟨z,ae,r,n,e⟩:=x; exact⟨z,ae,r,n,k _ _ (.inl rfl) e⟩
 | dK kvs=>obtain⟨z,y,vs,r,ob,es,ep,e,c⟩:=x; exact⟨z,y,vs,r,ob,es,ep,k _ _ (.inl rfl) e,c⟩
 | dT kvs =>
  obtain⟨z,y,xs,r,ob,es,ep,e,c⟩:=x;exact⟨z,y,xs,Paired.uz r λp q z=>⟨z.1,ht _ _ z.2.1,z.2.2⟩,ob,es,ep,k _ _ (.inl rfl) e,c⟩
 | set S n=>obtain⟨ob,es,ep,t,e,c⟩:=x; exact⟨ob,es,ep,t,k _ _ (.inl rfl) e,c⟩
 | ins C dx fs =>
  obtain⟨d,z,ne,e,mA,⟨od,es,ep,e2,c⟩,r⟩:=x;exact⟨ho _ d,z,ne,k _ _ (.inl rfl) e,mA,⟨od,es,ep,k _ _ (.inr d) e2,c⟩,r⟩
 | own y=>obtain⟨ob,e⟩:=x; exact⟨ob,k _ _ (.inl rfl) e⟩
 | xd fs=>obtain⟨mA,⟨od,es,ep,e,c⟩,r⟩:=x; exact⟨mA,⟨od,es,ep,k _ _ (.inl rfl) e,c⟩,r⟩
 | j4 lo hi=>obtain⟨t,u,v,e⟩:=x; exact⟨t,u,v,k _ _ (.inl rfl) e⟩
 | frz ob u ih=>obtain⟨e,q⟩:=x; exact⟨k _ _ (.inl rfl) e,ih q⟩
 | dN ep kvs=>obtain⟨z,y,ob,es,e,c⟩:=x; exact⟨z,y,ob,es,k _ _ (.inl rfl) e,c⟩
 | ctab pos q=>obtain⟨ps,e,t,r⟩:=x; exact⟨ps,k _ _ (.inl rfl) e,t,λcv z=>let ⟨c',oc,z1,z2,z3⟩:=r cv z; ⟨c',oc,z1,hf _ _ _ z2,z3⟩⟩
 | tbl ps =>
  have e:h.get? a=some { cls:=.none,data:=.fields ps }:=x;show h'.get? a=some { cls:=.none,data:=.fields ps };exact k a _ (.inl rfl) e
 | met f y =>
  have e:h.get? a=some (PySem.W.methodObj (.ref f) (.ref y)):=x;show h'.get? a=some (PySem.W.methodObj (.ref f) (.ref y));exact k a _ (.inl rfl) e
 | ext φ=>obtain⟨p,⟨o,e⟩,st⟩:=x; exact⟨st _ _ p λo q=>k _ _ (.inl rfl) q,⟨o,k _ _ (.inl rfl) e⟩,st⟩
theorem cB.lt(x:cB P w H h)(e:H a=some o):a < h.objs.size:=(x a o e).lt
theorem cB.fresh(x:cB P w H h)(e:h.objs.size<=a):H a=none:=by
 cases q:H a with
 | none=>rfl
 | some u=>exact absurd (Ww (x.lt q) e) (Qd _)
theorem cB.kept(x:cB P w H h)(k:∀ b u,h.get? b=some u->h'.get? b=some u):cB P w H h':=λa o e =>
 (x a o e).lX (λb u _ q=>k b u q) (λ_ q=>q) (λ_ _ q=>q) λ_ _ _ q=>q
theorem cB.laid(x:cB P w H h)(k:∀ b u,h.get? b=some u->h'.get? b=some u)(hp:h.objs.size<=a)(new:bZ P w (upd H a o) h' a o):cB P w (upd H a o) h':=λb u e=>by
 have hn:=x.fresh hp;by_cases hb:b=a
 ·subst hb; rw[dw] at e; cases e; exact new
 ·rw[bq hb] at e;exact(x b u e).lX (λc v _ q=>k c v q) (λc q=>by rw[bq (fT q hn)]; exact q) (λc xs q=>by rw[bq (fT q hn)]; exact q) λc o u q=>by rw[bq (fT q hn)]; exact q
end
def Rd(H:Hp)(a:Addr)(u:HO):Prop:=H a=some u\/∃ o,H a=some (.frz o u)
theorem Rd.of(h:H a=some u):Rd H a u:=.inl h
theorem Rd.ok(r:Rd H a u)(x:cB P w H h):bZ P w H h a u:=by
 rcases r with r | ⟨o,r⟩
 ·exact x a u r
 ·obtain⟨_,q⟩:=x a _ r;exact q
def pe:Option HO->Prop
 | some (.lst _)=>True
 | some (.dK _)=>True
 | some (.dT _)=>True
 | some (.dN _ _)=>True
 | some (.set _ _)=>True
 | some (.ins _ _ _)=>True
 | some (.ext _)=>True
 | _=>False
section
variable {P:Wj} {w:Wp} {H:Hp} {h h':Heap} {x e:Addr} {o':HO}
theorem cB.write(ok:cB P w H h)(mu:pe (H x))(he:e=x\/H e=some (.own x))(k:∀ b u,b≠e->h.get? b=some u->h'.get? b=some u)(nH:∃ u,h'.get? e=some u)
  (new:bZ P w (upd H x o') h' x o'):cB P w (upd H x o') h':=λb u q=>by
 have hV:∀ c y,H c=some (.own y)->c≠x:=λc y r z=>by subst z; rw[r] at mu; exact mu
 have Gn:∀ c xs,H c=some (.tup xs)->c≠x:=λc xs r z=>by subst z; rw[r] at mu; exact mu
 have Gp:∀ c o u,H c=some (.frz o u)->c≠x:=λc o u r z=>by subst z; rw[r] at mu; exact mu
 by_cases hb:b=x
 ·subst hb; rw[dw] at q; cases q; exact new
 ·rw[bq hb] at q;by_cases hbe:b=e
  ·have q':H b=some (.own x):=by
    rcases he with z | z
    ·exact absurd (hbe.trans z) hb
    ·rw[hbe]; exact z
   rw[q] at q'; cases q'
   obtain⟨v,hv⟩:=nH;exact⟨v,by rw[hbe]; exact hv⟩
  ·refine(ok b u q).lX (λc v hc r=>k c v ?_ r) (λc r=>by rw[bq (hV c b r)]; exact r) (λc xs r=>by rw[bq (Gn c xs r)]; exact r) λc o u r=>by rw[bq (Gp c o u r)]; exact r
   rcases hc with rfl | hc
   ·exact hbe
   ·rintro rfl;rcases he with z | z
    ·exact hV c b hc z
    ·rw[hc] at z; cases z; exact hb rfl
end
structure Un(fs ex:List Addr)(H H':Hp)(h h':Heap):Prop where
 keep:∀ b o,h.get? b=some o->H b=none->b ∉ fs->b ∉ ex->h'.get? b=some o
 slot:∀ b o,h.get? b=some o->H b=none->b ∈ fs->b ∉ ex->∃ sl,h'.get? b=some { o with slots:=sl }
 free:∀ b o,h.get? b=some o->H b=none->b ∉ ex->H' b=none
 there:∀ b o,h.get? b=some o->b ∉ ex->∃ o',h'.get? b=some o'
 kQ:∀ b xs,H b=some (.tup xs)->H' b=some (.tup xs)
 ja:∀ b o u,H b=some (.frz o u)->H' b=some (.frz o u)
 kR:∀ b ps,H b=some (.tbl ps)->∃ more,H' b=some (.tbl (ps ++ more))
section
variable {fs Gq ex Ti:List Addr} {H H1 H2:Hp} {h h1 h2 h':Heap} {a x e:Addr} {o:HO}
theorem Un.any(u:Un fs ex H H1 h h1)(q:h.get? b=some ob)(n:H b=none)(hx:b ∉ ex):∃ sl,h1.get? b=some { ob with slots:=sl }:=by
 by_cases hb:b ∈ fs
 ·exact u.slot b ob q n hb hx
 ·exact⟨ob.slots,u.keep b ob q n hb hx⟩
theorem Un.kept(k:∀ b u,h.get? b=some u->h'.get? b=some u):Un fs ex H H h h' :=
 ⟨λb ob q _ _ _=>k b ob q,λb ob q _ _ _=>⟨ob.slots,k b ob q⟩,λ_ _ _ n _=>n,λb ob q _=>⟨ob,k b ob q⟩,λ_ _ q=>q,λ_ _ _ q=>q,λ_ ps q=>⟨#[],by rw[q]; simp⟩⟩
theorem Un.refl:Un fs ex H H h h:=Un.kept λ_ _ q=>q
theorem Un.laid(k:∀ b u,h.get? b=some u->h'.get? b=some u)(hp:h.objs.size<=a)(hn:H a=none):Un fs ex H (upd H a o) h h' where
 keep:=λb u q _ _ _=>k b u q
 slot:=λb u q _ _ _=>⟨u.slots,k b u q⟩
 free:=λb u q n _=>by rw[bq (Wr (Ww (Wi q) hp))]; exact n
 there:=λb u q _=>⟨u,k b u q⟩
 kQ:=λb xs q=>by rw[bq (fT q hn)]; exact q
 ja:=λb u xs q=>by rw[bq (fT q hn)]; exact q
 kR:=λb ps q=>⟨#[],by rw[bq (fT q hn),q]; simp⟩
theorem Un.write(mu:pe (H x))(he:e=x\/H e=some (.own x))(k:∀ b u,b≠e->h.get? b=some u->h'.get? b=some u)(nH:∃ u,h'.get? e=some u):Un fs ex H (upd H x o) h h':=by
 have hx:∀ b,H b=none->b≠x:=λb n z=>by subst z; rw[n] at mu; exact mu
 have hb:∀ b,H b=none->b≠e:=λb n z=>by
  subst z;rcases he with r | r
  ·exact hx b n r
  ·rw[n] at r; cases r
 have hm:∀ b u,H b=some u->¬ pe (some u)->b≠x:=λb u q nm z=>by subst z; rw[q] at mu; exact nm mu
 refine⟨λb u q n _ _=>k b u (hb b n) q,λb u q n _ _=>⟨u.slots,k b u (hb b n) q⟩,λb u q n _=>by rw[bq (hx b n)]; exact n,λb u q _=>?_,
  λb xs q=>by rw[bq (hm b _ q λz=>z)]; exact q,λb u xs q=>by rw[bq (hm b _ q λz=>z)]; exact q,λb ps q=>⟨#[],by rw[bq (hm b _ q λz=>z),q]; simp⟩⟩
 by_cases hbe:b=e
 ·subst hbe; exact nH
 ·exact⟨u,k b u hbe q⟩
end
def rh(h:Heap)(H:Hp):List Addr:=(Wf h.objs.size).filter λa=>(H a).isSome
def gk(h:Heap)(H:Hp):Heap:=PySem.W.hideAll h (rh h H)
theorem zX(h:Heap)(H:Hp):(gk h H).objs.size=h.objs.size:=PySem.W.hideAll_size _ _
theorem zY(e:h.get? b=some o)(n:H b=none):(gk h H).get? b=some o :=
 PySem.W.hideAll_get _ e λhm=>by
  have q:(H b).isSome=true:=(List.mem_filter.mp hm).2;rw[n] at q; simp at q
theorem zZ(e:(gk h H).get? b=some o):h.get? b=some o/\H b=none:=by
 have e':h.get? b=some o:=PySem.W.of_hideAll (rh h H) e;refine⟨e',?_⟩
 cases q:H b with
 | none=>rfl
 | some x =>
  have hm:b ∈ rh h H:=List.mem_filter.mpr ⟨WL.mpr (Wi e'),by simp[q]⟩;have z:(gk h H).get? b=none:=PySem.W.hideAll_none (rh h H) hm;rw[z] at e; cases e
def Gr(g h:Heap)(L:Addr):List (Addr×Obj):=(Wf h.objs.size).filterMap λa=>if a=L\/(g.get? a).isSome=true then none else(h.get? a).map λo=>(a,o)
def rest(g h:Heap)(L d:Addr):List (Addr×Obj):=(Gr g h L).filter λp=>decide (p.1≠d)
structure Mod(K:W1)(mg:Str->Option Value)(base:Heap):Prop where
 pf:K.In base
 glob:base.Ns Ws mg
 blt:∃ mb,base.Ns builtinsNs mb/\∀ x:Str,x≠"__name__"->mb x=Qu x
 nolimit:base.NoLimit
structure Cx where
 prog:Wj
 w:Wp
 K:W1
 mg:Str->Option Value
 base:Heap
 A:Wq
 N:List Str
 s₀:W2
 H₀:Hp
 env:Env
 outer:List Env
 stack:List Env
 ex:List Addr
 fn:Str->Bool
 calm:Bool
 pn:List (Addr×Obj)
 xe:Value->W2->Prop
def fU(l:List Env):List Addr:=l.filterMap (·.frame)
abbrev Cx.fs(X:Cx):List Addr:=fU X.outer
def rj(sc:Scope)(x:Str):Prop:=sc.names.lookup x=some .local\/sc.names.lookup x=some .cell\/sc.names.lookup x=some .free
def Loc(sc:Scope)(x:Str):Prop:=sc.names.lookup x=some .local\/sc.names.lookup x=some .cell
def Look(env:Env)(h:Heap)(m:Str->Option Value)(x:Str)(u:Value):Prop :=
 (env.kindOf x=some .local/\m x=some u)\/((env.kindOf x=some .cell\/env.kindOf x=some .free)/\∃ c,env.cells.lookup x=some c/\h.IsCell c (some u))
structure Cx.Ok(X:Cx):Prop where
 mod:Mod X.K X.mg X.base
 kind:X.env.scope.kind = .function
 glob:X.env.globals=Ws
 blt:X.env.builtins=builtinsNs
 above:X.s₀.heap.objs.size<=X.env.locals
 inj:∀ x y c,X.env.cells.lookup x=some c->X.env.cells.lookup y=some c->x=y
 has:∀ x,(X.env.kindOf x=some .cell\/X.env.kindOf x=some .free)->∃ c,X.env.cells.lookup x=some c
 nI:∀ x c,X.fn x=true->X.env.cells.lookup x=some c->X.s₀.heap.objs.size<=c
 hd:X.calm=true->X.A.handled=none
 frames:X.A.frames=some X.stack
 rm:X.stack=X.outer\/(X.stack=X.env :: X.outer/\X.env.frame=some X.env.locals)
 rA:∀ b ∈ X.ex,b≠X.env.locals/\∀ x c,X.env.cells.lookup x=some c->c≠b
 bs:∀ b o,X.base.get? b=some o->X.s₀.heap.get? b=some o/\X.H₀ b=none
 j5:X.base.objs.size<=X.s₀.heap.objs.size
 ph:∀ b o,X.base.get? b=some o->b ∉ X.ex
 pj:∀ b ∈ X.ex,b ∉ X.fs
 h8:X.s₀.heap.FunFrames X.base X.outer
 lY:∀ b ∈ X.fs,X.H₀ b=none
structure Inv(X:Cx)(pins:List (Addr×Obj))(σ:List (Option V))(H:Hp)(s:W2):Prop where
 ok:X.Ok
 os:s.os=X.s₀.os
 bare:AllBare s.gens
 base:Un X.fs X.ex X.H₀ H X.s₀.heap s.heap
 loc:∃ m,s.heap.Ns X.env.locals m/\∀ (i:Nat) (x:Str) (v:V),X.N[i]? = some x->σ[i]? = some (some v)->rj X.env.scope x->∃ u,RelV v u/\Look X.env s.heap m x u
 cell:∀ x c,X.env.cells.lookup x=some c->∃ v,s.heap.IsCell c v
 free:H X.env.locals=none
 h9:∀ x c,X.env.cells.lookup x=some c->H c=none
 pin:∀ p ∈ X.pn ++ pins,s.heap.get? p.1=some p.2/\H p.1=none/\p.1≠X.env.locals/\p.1 ∉ X.fs/\∀ v,p.2.data≠.cell v
 aD:cB X.prog X.w H s.heap
 len:σ.length=X.N.length
section
variable {X:Cx} {pins:List (Addr×Obj)} {σ:List (Option V)} {H H':Hp} {s:W2} {h':Heap}
theorem Cx.Ok.Gs(ok:X.Ok)(e:X.base.get? b=some o):b ∉ X.fs:=λhb=>by
 have:=(ok.h8.mem hb).1;rw[e] at this; cases this
theorem Inv.bs(I:Inv X pins σ H s):∀ b o,X.base.get? b=some o->s.heap.get? b=some o/\H b=none:=λb o e =>
 ⟨I.base.keep b o (I.ok.bs b o e).1 (I.ok.bs b o e).2 (I.ok.Gs e) (I.ok.ph b o e),I.base.free b o (I.ok.bs b o e).1 (I.ok.bs b o e).2 (I.ok.ph b o e)⟩
theorem Inv.bk(I:Inv X pins σ H s):∀ b o,X.base.get? b=some o->s.heap.get? b=some o:=λb o e=>(I.bs b o e).1
theorem Inv.mod(I:Inv X pins σ H s):Mod X.K X.mg X.base:=I.ok.mod
theorem Inv.eO(I:Inv X pins σ H s):X.K.In s.heap:=I.ok.mod.pf.keeps I.bk
theorem Inv.fr(I:Inv X pins σ H s):∃ m,Fr X.base X.env.locals s.heap m :=
 let ⟨m,hn,_⟩:=I.loc
 ⟨m,hn,I.bk,WU I.ok.j5 I.ok.above⟩
theorem Inv.lt(I:Inv X pins σ H s):X.env.locals < s.heap.objs.size:=let ⟨_,hn,_⟩:=I.loc; hn.lt
theorem Inv.sz(I:Inv X pins σ H s):X.s₀.heap.objs.size<=s.heap.objs.size:=WU I.ok.above (Jr I.lt)
theorem Inv.z7(I:Inv X pins σ H s)(h:s.heap.objs.size<=a):a ∉ X.fs:=λhb=>by
 obtain⟨_,o,ho,_⟩:=I.ok.h8.mem hb;exact absurd (Ww (Wi ho) (WU I.sz h)) (Qd _)
theorem Inv.kS(I:Inv X pins σ H s):∀ x c,X.env.cells.lookup x=some c->c≠X.env.locals:=λx c e z=>by
 obtain⟨v,o,ho,hd⟩:=I.cell x c e;obtain⟨m,⟨o',es,ep,ho',hd',_⟩,_⟩:=I.loc;rw[z,ho'] at ho; cases ho; rw[hd'] at hd; cases hd
theorem Inv.h8(I:Inv X pins σ H s):s.heap.FunFrames X.base X.outer:=by
 have all:∀ (l:List Env),(∀ b ∈ fU l,b ∈ X.fs)->X.s₀.heap.FunFrames X.base l->s.heap.FunFrames X.base l:=by
  intro l;induction l with
  | nil=>intro _ _; trivial
  | cons env r ih =>
   intro hs hl;obtain⟨hk,⟨L,o,hf,hn,ho,hd⟩,hr⟩:=hl;have hL:L ∈ X.fs:=hs L (by unfold fU; rw[Jc,hf]; exact Wl);obtain⟨sl,e⟩:=I.base.slot L o ho (I.ok.lY L hL) hL λz=>I.ok.pj L z hL
   exact⟨hk,⟨L,_,hf,hn,e,hd⟩,ih (λb hb=>hs b (by unfold fU; rw[Jc,hf]; exact Wh _ hb)) hr⟩
 exact all X.outer (λ_ hb=>hb) I.ok.h8
theorem Inv.stack(I:Inv X pins σ H s):s.heap.FunFrames X.base X.stack:=by
 rcases I.ok.rm with e | ⟨e,hf⟩
 ·rw[e]; exact I.h8
 ·rw[e];obtain⟨m,hn,_⟩:=I.loc;refine .cons (by rw[I.ok.kind]; decide) hf hn ?_ I.h8;exact Heap.get?_none_of_le (WU I.ok.j5 I.ok.above)
theorem Inv.pk(I:Inv X pins σ H s):∀ b ∈ fU X.stack,b ∈ X.env.locals :: X.fs:=λb hb=>by
 rcases I.ok.rm with e | ⟨e,hf⟩
 ·rw[e] at hb; exact Wh _ hb
 ·rw[e] at hb;unfold fU at hb;rw[Jc,hf] at hb;exact hb
theorem Inv.z8(I:Inv X pins σ H s):∀ b ∈ fU X.stack,H b=none:=λb hb=>by
 rcases We.mp (I.pk b hb) with e | hb
 ·rw[e]; exact I.free
 ·obtain⟨_,o,ho,_⟩:=I.ok.h8.mem hb;exact I.base.free b o ho (I.ok.lY b hb) λz=>I.ok.pj b z hb
theorem Inv.step{g':Array GenState}{t':Nat}{d':Drawn}{ch:List Addr}(I:Inv X pins σ H s)
  (jF:∀ b ∈ ch,(b ∈ X.ex\/X.s₀.heap.objs.size<=b)/\b≠X.env.locals/\(∀ x c,X.env.cells.lookup x=some c->c≠b)/\∀ p ∈ X.pn ++ pins,p.1≠b)
  (keep:∀ b o,b≠X.env.locals->b ∉ X.fs->b ∉ ch->s.heap.get? b=some o->H b=none->h'.get? b=some o)
  (slot:∀ b o,b≠X.env.locals->b ∈ X.fs->b ∉ ch->s.heap.get? b=some o->H b=none->∃ sl,h'.get? b=some { o with slots:=sl }) (free:∀ b o,b ∉ ch->s.heap.get? b=some o->H b=none->H' b=none)
  (there:∀ b o,b ∉ ch->s.heap.get? b=some o->∃ o',h'.get? b=some o')
  (kQ:∀ b xs,H b=some (.tup xs)->H' b=some (.tup xs)) (ja:∀ b o u,H b=some (.frz o u)->H' b=some (.frz o u)) (kR:∀ b ps,H b=some (.tbl ps)->∃ more,H' b=some (.tbl (ps ++ more)))
  (ns:∀ m,s.heap.Ns X.env.locals m->h'.Ns X.env.locals m) (aD:cB X.prog X.w H' h') (hg:AllBare g') :
  Inv X pins σ H' { s with heap:=h',gens:=g',drawn:=d',toks:=t' }:=by
 have z9:∀ b o,X.s₀.heap.get? b=some o->b≠X.env.locals:=λb o e=>Wr (Ww (Wi e) I.ok.above)
 have rB:∀ b o,X.s₀.heap.get? b=some o->b ∉ X.ex->b ∉ ch:=λb o e hx hb=>by
  rcases (jF b hb).1 with z | z
  ·exact hx z
  ·exact absurd (Ww (Wi e) z) (Qd _)
 have cellK:∀ x c,X.env.cells.lookup x=some c->∀ v,s.heap.IsCell c v->h'.IsCell c v:=λx c e v ⟨o,ho,hd⟩=>by
  have pq:c ∉ ch:=λz=>(jF c z).2.2.1 x c e rfl
  by_cases hc:c ∈ X.fs
  ·obtain⟨sl,q⟩:=slot c o (I.kS x c e) hc pq ho (I.h9 x c e);exact⟨_,q,hd⟩
  ·exact⟨o,keep c o (I.kS x c e) hc pq ho (I.h9 x c e),hd⟩
 refine⟨I.ok,I.os,hg,⟨λb o e n hb hx=>?_,λb o e n hb hx=>?_,λb o e n hx=>?_,λb o e hx=>?_,λb xs e=>kQ b xs (I.base.kQ b xs e),λb o xs e=>ja b o xs (I.base.ja b o xs e),λb ps e=>?_⟩,?_,λx c e=>?_,?_,λx c e=>?_,λp hp=>?_,aD,I.len⟩
 ·exact keep b o (z9 b o e) hb (rB b o e hx) (I.base.keep b o e n hb hx) (I.base.free b o e n hx)
 ·obtain⟨sl,e1⟩:=I.base.slot b o e n hb hx;obtain⟨sl',e2⟩:=slot b _ (z9 b o e) hb (rB b o e hx) e1 (I.base.free b o e n hx);exact⟨sl',e2⟩
 ·obtain⟨o',e1⟩:=I.base.there b o e hx;exact free b o' (rB b o e hx) e1 (I.base.free b o e n hx)
 ·obtain⟨o',e1⟩:=I.base.there b o e hx;exact there b o' (rB b o e hx) e1
 ·obtain⟨m1,e1⟩:=I.base.kR b ps e;obtain⟨m2,e2⟩:=kR b _ e1;exact⟨m1 ++ m2,by rw[e2,Array.append_assoc]⟩
 ·obtain⟨m,hn,hl⟩:=I.loc;refine⟨m,ns m hn,λi x v e1 e2 e3=>?_⟩;obtain⟨u,r,l⟩:=hl i x v e1 e2 e3;refine⟨u,r,?_⟩;rcases l with l | ⟨k,c,e,z⟩
  ·exact .inl l
  ·exact .inr ⟨k,c,e,cellK x c e _ z⟩
 ·obtain⟨v,z⟩:=I.cell x c e;exact⟨v,cellK x c e v z⟩
 ·obtain⟨m,⟨o,_,_,ho,_⟩,_⟩:=I.loc;exact free _ o (λz=>(jF _ z).2.1 rfl) ho I.free
 ·obtain⟨v,o,ho,hd⟩:=I.cell x c e;exact free c o (λz=>(jF c z).2.2.1 x c e rfl) ho (I.h9 x c e)
 ·obtain⟨e,n,ne,nf,d⟩:=I.pin p hp;have pq:p.1 ∉ ch:=λz=>(jF p.1 z).2.2.2 p hp rfl
  exact⟨keep p.1 p.2 ne nf pq e n,free p.1 p.2 pq e n,ne,nf,d⟩
theorem Inv.un{t':Nat}(I:Inv X pins σ H s)(u:Un X.fs [] H H' s.heap h')(aD:cB X.prog X.w H' h'):Inv X pins σ H' { s with heap:=h',toks:=t' }:=by
 obtain⟨m,⟨o,es,ep,ho,r⟩,_⟩:=id I.loc;obtain⟨sl,hL⟩:=u.any ho I.free (by simp);exact I.step (g':=s.gens) (d':=s.drawn) (ch:=[]) (λ_ z=>nomatch z) (λb o _ hb _ e n=>u.keep b o e n hb (by simp)) (λb o _ hb _ e n=>u.slot b o e n hb (by simp)) (λb o _ e n=>u.free b o e n (by simp)) (λb o _ e=>u.there b o e (by simp)) u.kQ u.ja u.kR (λm' hm=>by
  obtain⟨o',es',ep',ho',r'⟩:=hm;rw[ho] at ho'; cases ho'
  exact⟨_,es',ep',hL,r'⟩) aD I.bare
theorem Inv.call{g':Array GenState}{t':Nat}{d':Drawn}{ch:List Addr}(I:Inv X pins σ H s)(u:Un (fU X.stack) ch H H' s.heap h')(aD:cB X.prog X.w H' h')(hg:AllBare g')
  (jF:∀ b ∈ ch,(b ∈ X.ex\/X.s₀.heap.objs.size<=b)/\b≠X.env.locals/\(∀ x c,X.env.cells.lookup x=some c->c≠b)/\∀ p ∈ X.pn ++ pins,p.1≠b) :
  Inv X pins σ H' { s with heap:=h',gens:=g',drawn:=d',toks:=t' }:=by
 obtain⟨m,⟨o,es,ep,ho,r⟩,_⟩:=id I.loc;obtain⟨sl,hL⟩:=u.any ho I.free λz=>(jF _ z).2.1 rfl
 exact I.step (ch:=ch) jF (λb o hL hb hc e n=>u.keep b o e n (λz=>(We.mp (I.pk b z)).elim hL hb) hc) (λb o _ _ hc e n=>u.any e n hc) (λb o hc e n=>u.free b o e n hc) (λb o hc e=>u.there b o e hc) u.kQ u.ja u.kR (λm' hm=>by
  obtain⟨o',es',ep',ho',r'⟩:=hm;rw[ho] at ho'; cases ho'
  exact⟨_,es',ep',hL,r'⟩) aD hg
theorem Inv.turned{t':Nat}{it:Addr}(I:Inv X pins σ H s)(k:∀ b o,b≠it->s.heap.get? b=some o->h'.get? b=some o)(hn:H it=none)(hL:it≠X.env.locals)
  (h1:it ∈ X.ex\/X.s₀.heap.objs.size<=it) (h2:∀ x c,X.env.cells.lookup x=some c->c≠it) (h3:∀ p ∈ X.pn ++ pins,p.1≠it):Inv X pins σ H { s with heap:=h',toks:=t' }:=by
 have kT:∀ b u,H b=some u->b≠it:=λb u e z=>by rw[z,hn] at e; cases e
 refine I.step (g':=s.gens) (d':=s.drawn) (ch:=[it]) (λb hb=>?_) (λb o _ _ hc e _=>k b o (λz=>hc (by simp[z])) e) (λb o _ _ hc e _=>⟨o.slots,k b o (λz=>hc (by simp[z])) e⟩) (λ_ _ _ _ n=>n)
  (λb o hc e=>⟨o,k b o (λz=>hc (by simp[z])) e⟩) (λ_ _ e=>e) (λ_ _ _ e=>e) (λb ps e=>⟨#[],by rw[e]; simp⟩) (λm hm=>?_) (λb u e=>?_) I.bare
 ·have e:b=it:=by simpa using hb
  subst e;exact⟨h1,hL,h2,h3⟩
 ·obtain⟨o,es,ep,ho,r⟩:=hm;exact⟨o,es,ep,k _ o (Ne.symm hL) ho,r⟩
 ·refine(I.aD b u e).lX (λc v hc q=>k c v ?_ q) (λ_ q=>q) (λ_ _ q=>q) λ_ _ _ q=>q
  rcases hc with z | z
  ·rw[z]; exact kT b u e
  ·exact kT c _ z
theorem Inv.tok(I:Inv X pins σ H s)(t:Nat):Inv X pins σ H { s with toks:=t }:=I.un (h':=s.heap) (t':=t) Un.refl I.aD
theorem Inv.kept(I:Inv X pins σ H s)(k:∀ b u,s.heap.get? b=some u->h'.get? b=some u):Inv X pins σ H { s with heap:=h',toks:=t' }:=I.un (Un.kept k) (I.aD.kept k)
theorem Inv.laid(I:Inv X pins σ H s)(k:∀ b u,s.heap.get? b=some u->h'.get? b=some u)(hp:s.heap.objs.size<=a)(new:bZ X.prog X.w (upd H a o) h' a o) :
  Inv X pins σ (upd H a o) { s with heap:=h',toks:=t' }:=I.un (Un.laid k hp (I.aD.fresh hp)) (I.aD.laid k hp new)
theorem Inv.write(I:Inv X pins σ H s)(mu:pe (H x))(he:e=x\/H e=some (.own x))(k:∀ b u,b≠e->s.heap.get? b=some u->h'.get? b=some u)(nH:∃ u,h'.get? e=some u)
  (new:bZ X.prog X.w (upd H x o) h' x o):Inv X pins σ (upd H x o) { s with heap:=h',toks:=t' }:=I.un (Un.write mu he k nH) (I.aD.write mu he k nH new)
theorem Inv.weak(I:Inv X pins σ H s)(hl:σ'.length=σ.length)(w:∀ (i:Nat) v,σ'[i]? = some (some v)->σ[i]? = some (some v)):Inv X pins σ' H s :=
 ⟨I.ok,I.os,I.bare,I.base,let ⟨m,hn,kU⟩:=I.loc; ⟨m,hn,λi x v e1 e2 e3=>kU i x v e1 (w i v e2) e3⟩,I.cell,I.free,I.h9,I.pin,I.aD,hl.trans I.len⟩
theorem Inv.z_(I:Inv X pins σ H s)(h:∀ p ∈ pins',s.heap.get? p.1=some p.2/\H p.1=none/\p.1≠X.env.locals/\p.1 ∉ X.fs/\∀ v,p.2.data≠.cell v):Inv X pins' σ H s :=
 ⟨I.ok,I.os,I.bare,I.base,I.loc,I.cell,I.free,I.h9,λp hp=>(Qr.mp hp).elim (λz=>I.pin p (List.mem_append_left _ z)) (h p),I.aD,I.len⟩
theorem Aa{N:List Str}(hN:N.Nodup){i j:Nat}{x:Str}(a:N[i]? = some x)(b:N[j]? = some x):i=j:=by
 obtain⟨h1,e1⟩:=Wd.mp a;obtain⟨h2,e2⟩:=Wd.mp b;exact(List.getElem_inj hN).mp (e1.trans e2.symm)
theorem Ab{M:Model}{A:Wq}{E:Value->W2->Prop}{i:Nat}{x:Str}{v:V}{u:Value}{Q:Unit->W2->Prop}(I:Inv X pins σ H s)(hN:X.N.Nodup)(hi:X.N[i]? = some x)(hx:Loc X.env.scope x)(r:RelV v u)
  (h:∀ s',Inv X pins (σ.set i (some v)) H s'->(∃ a,J3 a s.heap s'.heap/\(a=X.env.locals\/X.env.cells.lookup x=some a))->Q () s') (hf:X.fn x=true\/X.env.scope.names.lookup x=some .local:=by first | exact .inl rfl | exact .inr rfl | assumption):W5 M A (storeName X.env x u) Q E s:=by
 obtain⟨m,hn,hl⟩:=id I.loc;have Gu:(X.env.scope.kind == .class || (X.env.scope.kind == .module && X.env.locals != X.env.globals))=false:=by rw[I.ok.kind]; rfl
 have Ac:i < σ.length:=by rw[I.len]; exact(Wd.mp hi).1
 have kS:=I.kS;have tracked:∀ {a:Addr} {h':Heap},(∃ o,s.heap.get? a=some o/\H a=none)->J3 a s.heap h'->cB X.prog X.w H h':=λ{a h'} ha hs b ob e=>by
  obtain⟨_,_,lZ⟩:=ha;refine(I.aD b ob e).lX (λc w' hc q=>(hs.2 c ?_).trans q) (λ_ q=>q) (λ_ _ q=>q) λ_ _ _ q=>q
  rintro rfl;rcases hc with rfl | hc
  ·rw[lZ] at e; cases e
  ·rw[lZ] at hc; cases hc
 rcases hx with hk | hk
 ·refine wpAny_storeName_local hk hn (λh' pA hs=>?_) Gu;obtain⟨oL,_,_,hoL,_⟩:=id hn;refine h _ ⟨I.ok,I.os,I.bare,⟨λb o e n hb hx=>?_,λb o e n hb hx=>?_,I.base.free,λb o e hx=>?_,I.base.kQ,I.base.ja,I.base.kR⟩,⟨_,pA,λj y v' e1 e2 e3=>?_⟩,λy c e=>?_,I.free,I.h9,λp hp=>?_,tracked ⟨oL,hoL,I.free⟩ hs,by simpa using I.len⟩ ⟨_,hs,.inl rfl⟩
  ·exact(hs.2 b (Wr (Ww (Wi e) I.ok.above))).trans (I.base.keep b o e n hb hx)
  ·obtain⟨sl,e1⟩:=I.base.slot b o e n hb hx;exact⟨sl,(hs.2 b (Wr (Ww (Wi e) I.ok.above))).trans e1⟩
  ·obtain⟨o',e1⟩:=I.base.there b o e hx;exact⟨o',(hs.2 b (Wr (Ww (Wi e) I.ok.above))).trans e1⟩
  ·by_cases hj:j=i
   ·subst hj;rw[hi] at e1; cases e1
    rw[Wu Ac] at e2
    cases e2;exact⟨u,r,.inl ⟨hk,by simp⟩⟩
   ·rw[Wa (Ne.symm hj)] at e2;obtain⟨u',r',q⟩:=hl j y v' e1 e2 e3;refine⟨u',r',?_⟩;rcases q with ⟨k,e⟩ | ⟨k,c,e,z⟩
    ·refine .inl ⟨k,?_⟩;have:y≠x:=λe=>hj (Aa hN e1 (e ▸ hi))
     simp[this,e]
    ·exact .inr ⟨k,c,e,z.sameBut hs (kS y c e)⟩
  ·obtain⟨w',z⟩:=I.cell y c e;exact⟨w',z.sameBut hs (kS y c e)⟩
  ·obtain⟨e,n,ne,nf,d⟩:=I.pin p hp;exact⟨(hs.2 p.1 ne).trans e,n,ne,nf,d⟩
 ·have jb:X.fn x=true:=by
   rcases hf with z | z
   ·exact z
   ·rw[z] at hk; cases hk
  obtain⟨c,hc⟩:=I.ok.has x (.inl hk);obtain⟨w',z⟩:=I.cell x c hc;refine wpAny_storeName_cell I.ok.kind hk hc z (λh' gH hs=>?_);obtain⟨oc,hoc,hocd⟩:=id z;refine h { s with heap:=h' } ⟨I.ok,I.os,I.bare,⟨λb o e n hb hx=>?_,λb o e n hb hx=>?_,I.base.free,λb o e hx=>?_,I.base.kQ,I.base.ja,I.base.kR⟩,⟨m,hn.sameBut hs (Ne.symm (kS x c hc)),λj y v' e1 e2 e3=>?_⟩,λy c' e=>?_,I.free,I.h9,λp hp=>?_,tracked ⟨oc,hoc,I.h9 x c hc⟩ hs,by simpa using I.len⟩ ⟨c,hs,.inr hc⟩
  ·exact(hs.2 b (Wr (Ww (Wi e) (I.ok.nI x c jb hc)))).trans (I.base.keep b o e n hb hx)
  ·obtain⟨sl,e1⟩:=I.base.slot b o e n hb hx;exact⟨sl,(hs.2 b (Wr (Ww (Wi e) (I.ok.nI x c jb hc)))).trans e1⟩
  ·obtain⟨o',e1⟩:=I.base.there b o e hx;exact⟨o',(hs.2 b (Wr (Ww (Wi e) (I.ok.nI x c jb hc)))).trans e1⟩
  ·by_cases hj:j=i
   ·subst hj;rw[hi] at e1; cases e1
    rw[Wu Ac] at e2
    cases e2;exact⟨u,r,.inr ⟨.inl hk,c,hc,gH⟩⟩
   ·rw[Wa (Ne.symm hj)] at e2;obtain⟨u',r',q⟩:=hl j y v' e1 e2 e3;refine⟨u',r',?_⟩;rcases q with q | ⟨k,c',e,z'⟩
    ·exact .inl q
    ·refine .inr ⟨k,c',e,z'.sameBut hs ?_⟩;rintro rfl;exact hj (Aa hN e1 (I.ok.inj _ _ _ e hc ▸ hi))
  ·by_cases hcc:c'=c
   ·subst hcc; exact⟨_,gH⟩
   ·obtain⟨w2,z2⟩:=I.cell y c' e;exact⟨w2,z2.sameBut hs hcc⟩
  ·obtain⟨e,n,ne,nf,d⟩:=I.pin p hp;refine⟨(hs.2 p.1 ?_).trans e,n,ne,nf,d⟩;intro q;rw[q,hoc] at e;have q':oc=p.2:=Wy e;exact d w' (by rw[<- q']; exact hocd)
theorem rC(I:Inv X pins σ H s)(hN:X.N.Nodup)(hi:X.N[i]? = some x)(hx:Loc X.env.scope x)(r:RelV v u)
  (h:∀ s',Inv X pins (σ.set i (some v)) H s'->Q () s') (hf:X.fn x=true\/X.env.scope.names.lookup x=some .local:=by first | exact .inl rfl | exact .inr rfl | assumption):W5 M A (storeName X.env x u) Q E s :=
 Ab I hN hi hx r (λs' I' _=>h s' I') hf
theorem Inv.Gv(I:Inv X pins σ H s)(ho:s'.os=s.os)(u:Un (fU X.stack) ch H H' s.heap s'.heap)(aD:cB X.prog X.w H' s'.heap)(hg:AllBare s'.gens)
  (jF:∀ b ∈ ch,(b ∈ X.ex\/X.s₀.heap.objs.size<=b)/\b≠X.env.locals/\(∀ x c,X.env.cells.lookup x=some c->c≠b)/\∀ p ∈ X.pn ++ pins,p.1≠b):Inv X pins σ H' s':=by
 obtain⟨h',g',d',t',o'⟩:=s';have e:o'=s.os:=ho;subst e;exact I.call (g':=g') (t':=t') (d':=d') u aD hg jF
end
abbrev XK:=Value->Option Addr->Hp->Prop
abbrev St:=List (Option V)
abbrev VK:=V->Hp->Prop
abbrev TE:=St->Hp->VK->Prop
abbrev TT:=St->Hp->(Bool->Hp->Prop)->Prop
abbrev TA:=St->Hp->(List V->Hp->Prop)->Prop
structure Ends where
 nx:St->Hp->Prop
 rt:VK
 bk:St->Hp->Prop:=λ_ _=>False
 ct:St->Hp->Prop:=λ_ _=>False
abbrev TS:=Ends->St->Hp->Prop
def EP(X:Cx)(pins:List (Addr×Obj))(σ:St)(Q:VK)(u:Value)(s':W2):Prop:=∃ v H',Inv X pins σ H' s'/\RelV v u/\Q v H'
def TP(X:Cx)(pins:List (Addr×Obj))(σ:St)(Q:Bool->Hp->Prop)(b:Bool)(s':W2):Prop:=∃ H',Inv X pins σ H' s'/\Q b H'
def AP(X:Cx)(pins:List (Addr×Obj))(σ:St)(Q:List V->Hp->Prop)(us:List Value)(s':W2):Prop:=∃ vs H',Inv X pins σ H' s'/\Vals vs us/\Q vs H'
def SP(X:Cx)(pins:List (Addr×Obj))(D:Ends)(f:Flow)(s':W2):Prop :=
 match f with
 | .next=>∃ σ' H',Inv X pins σ' H' s'/\D.nx σ' H'
 | .brk=>∃ σ' H',Inv X pins σ' H' s'/\D.bk σ' H'
 | .cont=>∃ σ' H',Inv X pins σ' H' s'/\D.ct σ' H'
 | .ret u=>∃ v σ' H',Inv X pins σ' H' s'/\RelV v u/\D.rt v H'
def PE(X:Cx)(e:Expr)(t:TE):Prop :=
 ∀ (pins:List (Addr×Obj)) (s:W2) (σ:St) (H:Hp) (Q:VK),Inv X pins σ H s->t σ H Q->W5 (model X.prog X.w) X.A (eval e X.env) (EP X pins σ Q) X.xe s
def PT(X:Cx)(e:Expr)(t:TT):Prop :=
 ∀ (pins:List (Addr×Obj)) (s:W2) (σ:St) (H:Hp) (Q:Bool->Hp->Prop),Inv X pins σ H s->t σ H Q->W5 (model X.prog X.w) X.A (isTrue e X.env (eval e X.env)) (TP X pins σ Q) X.xe s
def PW(X:Cx)(e:Expr)(t:TT):Prop :=
 ∀ (whole:Sem Value) (pins:List (Addr×Obj)) (s:W2) (σ:St) (H:Hp) (Q:Bool->Hp->Prop),Inv X pins σ H s->t σ H Q->W5 (model X.prog X.w) X.A (isTrue e X.env whole) (TP X pins σ Q) X.xe s
theorem PW.pt(h:PW X e t):PT X e t:=h _
def PA(X:Cx)(es:List Expr)(t:TA):Prop :=
 ∀ (pos:Pos) (pins:List (Addr×Obj)) (s:W2) (σ:St) (H:Hp) (Q:List V->Hp->Prop),Inv X pins σ H s->t σ H Q->W5 (model X.prog X.w) X.A (spliced (Q9 pos (Wb es X.env))) (AP X pins σ Q) X.xe s
def PS(X:Cx)(st:Stmt)(t:TS):Prop :=
 ∀ (pins:List (Addr×Obj)) (s:W2) (σ:St) (H:Hp) (D:Ends),Inv X pins σ H s->t D σ H->W5 (model X.prog X.w) X.A (exec st X.env) (SP X pins D) X.xe s
def dU(X:Cx)(st:List Stmt)(t:TS):Prop :=
 ∀ (pins:List (Addr×Obj)) (s:W2) (σ:St) (H:Hp) (D:Ends),Inv X pins σ H s->t D σ H->W5 (model X.prog X.w) X.A (execs st X.env) (SP X pins D) X.xe s
theorem aQ(h:W5 M A t Q E s)(hQ:∀ a s,Q a s->Q' a s):W5 M A t Q' E s:=WE h hQ λ_ _ x=>x
section
variable {X:Cx}
theorem bin{a b:Expr}{ta tb:TE}(ha:PE X a ta)(hb:PE X b tb){pins:List (Addr×Obj)}{s:W2}{σ:St}{H:Hp}{R:V->V->Hp->Prop}(I:Inv X pins σ H s)(h:ta σ H λx H1=>tb σ H1 λy H2=>R x y H2)
  {α:Type} {Q:α->W2->Prop} {f:Value->Value->Sem α}
  (hf:∀ v u s2 x y H2,Inv X pins σ H2 s2->RelV x v->RelV y u->R x y H2->W5 (model X.prog X.w) X.A (f v u) Q X.xe s2) :
  W5 (model X.prog X.w) X.A (eval a X.env) (λv s₁=>W5 (model X.prog X.w) X.A (eval b X.env) (λu s₂=>W5 (model X.prog X.w) X.A (f v u) Q X.xe s₂) X.xe s₁) X.xe s:=by
 refine aQ (ha pins s σ H _ I h) λv s1 ⟨x,H1,I1,r1,q1⟩=>?_
 refine aQ (hb pins s1 σ H1 _ I1 q1) λu s2 ⟨y,H2,I2,r2,q2⟩=>?_
 exact hf v u s2 x y H2 I2 r1 r2 q2
def dW(i:Nat):TE:=λσ H Q=>∃ v,σ[i]? = some (some v)/\Q v H
def tC(v:V):TE:=λ_ H Q=>Q v H
theorem Gw (hN:X.N[i]? = some x) (hv:rj X.env.scope x) (hd:(x == ("__debug__" : Str))=false:=by decide) (fV:(x == ("__classdict__" : Str))=false:=by decide):PE X (.Name x pos) (dW i):=by
 intro pins s σ H Q I h;obtain⟨v,e,h⟩:=h;obtain⟨m,hn,hl⟩:=I.loc;obtain⟨u,r,l⟩:=hl i x v hN e hv;have fin:EP X pins σ Q u s:=⟨v,H,I,r,h⟩
 rcases l with ⟨hk,hm⟩ | ⟨hk,c,hc,hcell⟩
 ·exact wpAny_Name (wpAny_loadName_local I.ok.kind hk hn hm fin) hd
 ·rcases hk with hk | hk
  ·exact wpAny_Name (wpAny_loadName_cell I.ok.kind hk hc hcell fin) hd
  ·exact wpAny_Name (wpAny_loadName_free I.ok.kind hk hc hcell fin fV) hd
theorem Ad{i j pos}:PE X (.Constant (.int i) j pos) (tC (.int i)):=λ_ _ _ H _ I h=>wpAny_Constant_int ⟨.int i,H,I.tok _,⟨_,rfl⟩,h⟩
theorem Gx{b j pos}:PE X (.Constant (.bool b) j pos) (tC (.bl b)):=λ_ _ _ H _ I h=>Constant_bool ⟨.bl b,H,I,rfl,h⟩
theorem Gy{j pos}:PE X (.Constant .none j pos) (tC .ax):=λ_ _ _ H _ I h=>Constant_none ⟨.ax,H,I,rfl,h⟩
theorem Ae{x j pos}:PE X (.Constant (.str x) j pos) (tC (.str x)):=λ_ _ _ H _ I h=>Calls.Constant_str ⟨.str x,H,I.tok _,⟨_,rfl⟩,h⟩
def Gl(X:Cx)(x:Str):Prop:=X.env.kindOf x=some .globalImplicit
theorem Af(I:Inv X pins σ H s)(hg:Gl X x)(hm:X.mg x=some u)(h:Q u s)
  (hd:(x == ("__debug__" : Str))=false:=by decide):W5 (model X.prog X.w) X.A (eval (.Name x pos) X.env) Q E s :=
 Calls.Name_function_global I.ok.kind hg (Calls.loadGlobal_global (by rw[I.ok.glob]; exact I.mod.glob.keeps I.bk) hm h) hd
theorem pB(I:Inv X pins σ H s)(hg:Gl X x)(hm:X.mg x=none)(hv:Qu x=some u)(h:Q u s)
  (hn:x≠"__name__":=by decide) (hd:(x == ("__debug__" : Str))=false:=by decide):W5 (model X.prog X.w) X.A (eval (.Name x pos) X.env) Q E s:=by
 obtain⟨mb,h1,h2⟩:=I.mod.blt;exact Calls.Name_function_global I.ok.kind hg (Calls.loadGlobal_builtin (by rw[I.ok.glob]; exact I.mod.glob.keeps I.bk) hm (by rw[I.ok.blt]; exact h1.keeps I.bk) ((h2 x hn).trans hv) h) hd
theorem Gz (hg:Gl X x) (hm:X.mg x=none) (hv:Qu x=some u) (r:RelV v u) (hn:x≠"__name__":=by decide) (hd:(x == ("__debug__" : Str))=false:=by decide):PE X (.Name x pos) (tC v) :=
 λ_ _ _ H _ I h=>pB I hg hm hv ⟨v,H,I,r,h⟩ hn hd
variable {a b:Expr} {ta tb:TE} {pos:Pos}
def PC(X:Cx)(op:CmpOp)(a b:Expr)(t:TE):Prop :=
 ∀ (pins:List (Addr×Obj)) (s:W2) (σ:St) (H:Hp) (Q:VK),Inv X pins σ H s->t σ H Q ->
  W5 (model X.prog X.w) X.A (eval a X.env) (λv s₁=>W5 (model X.prog X.w) X.A (eval b X.env) (λu s₂=>W5 (model X.prog X.w) X.A (Wz op v u) (EP X pins σ Q) X.xe s₂) X.xe s₁) X.xe s
theorem GA(b:Expr)(h:op≠.In)(h2:op≠.NotIn):Qo op b=false:=by
 have e1:(op == CmpOp.In)=false:=by cases op <;> first | rfl | exact absurd rfl h
 have e2:(op == CmpOp.NotIn)=false:=by cases op <;> first | rfl | exact absurd rfl h2
 cases b <;> simp[Qo,e1,e2]
def tB(t:TE):TT:=λσ H Q=>t σ H λx H1=>∃ c,x = .bl c/\Q c H1
theorem Tj(h:PC X op a b t)(h1:Qo op b=false:=by first | exact GA _ (by decide) (by decide) | rfl):PT X (.Compare a [op] [b] pos) (tB t):=by
 intro pins s σ H Q I hw;refine wpAny_isTrue_Compare1 (aQ (h pins s σ H _ I hw) λv s1 h1=>aQ h1 λu s2 h2=>aQ h2 λc s3 ⟨x,H1,I1,r1,q1⟩=>?_) h1;obtain⟨d,rfl,q⟩:=q1
 cases r1;exact QB ⟨H1,I1,q⟩
theorem GB(h:PE X e t)(he:∀ whole,isTrue e X.env whole=(do let v <- whole; standAt e.pos; holding [v] (truthy v)):=by intro _; rfl):PT X e (tB t):=by
 intro pins s σ H Q I hw;refine isTrue_plain (aQ (h pins s σ H _ I hw) λv s1 ⟨x,H1,I1,r1,q1⟩=>?_) (he _);obtain⟨d,rfl,q⟩:=q1
 cases r1;exact QB ⟨H1,I1,q⟩
variable {tA rD:TT} {rest:List Expr}
def GC(t u:TT):TT:=λσ H Q=>t σ H λc H1=>if c=true then u σ H1 Q else Q false H1
def GD(t u:TT):TT:=λσ H Q=>t σ H λc H1=>if c=true then Q true H1 else u σ H1 Q
def GF(t:TT):TT:=λσ H Q=>t σ H λc H1=>Q (!c) H1
theorem zev(ha:PT X a tA):PW X (.BoolOp .And [a] pos) tA:=by
 intro wh pins s σ H Q I h;refine isTrue_and (aQ (ha pins s σ H Q I h) λc s1 e=>?_)
 cases c with
 | true=>exact isTrue_and_nil e
 | false=>exact e
theorem GG(ha:PT X a tA):PW X (.BoolOp .Or [a] pos) tA:=by
 intro wh pins s σ H Q I h;refine isTrue_or (aQ (ha pins s σ H Q I h) λc s1 e=>?_)
 cases c with
 | false=>exact isTrue_or_nil e
 | true=>exact e
theorem GH(ha:PT X a tA)(hb:PW X (.BoolOp .And (b :: rest) pos) rD):PW X (.BoolOp .And (a :: b :: rest) pos) (GC tA rD):=by
 intro wh pins s σ H Q I h;refine isTrue_and (aQ (ha pins s σ H _ I h) λc s1 ⟨H1,I1,q1⟩=>?_)
 cases c with
 | true=>exact hb wh pins s1 σ H1 Q I1 q1
 | false=>exact⟨H1,I1,q1⟩
theorem pw_or(ha:PT X a tA)(hb:PW X (.BoolOp .Or (b :: rest) pos) rD):PW X (.BoolOp .Or (a :: b :: rest) pos) (GD tA rD):=by
 intro wh pins s σ H Q I h;refine isTrue_or (aQ (ha pins s σ H _ I h) λc s1 ⟨H1,I1,q1⟩=>?_)
 cases c with
 | true=>exact⟨H1,I1,q1⟩
 | false=>exact hb wh pins s1 σ H1 Q I1 q1
theorem GI(ha:PT X a tA):PT X (.UnaryOp .Not a pos) (GF tA):=by
 intro pins s σ H Q I h;exact isTrue_not (ha pins s σ H (λc H1=>Q (!c) H1) I h)
def GJ(ta tb:TE):TE:=λσ H Q=>ta σ H λx H1=>∃ c,x = .bl c/\if c=true then tb σ H1 Q else Q (.bl false) H1
def GK(ta:TE):TE:=λσ H Q=>ta σ H λx H1=>∃ c,x = .bl c/\Q (.bl (!c)) H1
theorem GL{op}(h:PE X a t):PE X (.BoolOp op [a] pos) t:=λpins s σ H Q I hw=>BoolOp_one (h pins s σ H Q I hw)
theorem GN(ha:PE X a ta)(hb:PE X (.BoolOp .And (b :: rest) pos) tb):PE X (.BoolOp .And (a :: b :: rest) pos) (GJ ta tb):=by
 intro pins s σ H Q I h;refine BoolOp_and (aQ (ha pins s σ H _ I h) λv s1 ⟨x,H1,I1,r1,q1⟩=>?_);obtain⟨c,rfl,q1⟩:=q1
 cases r1;refine QB ?_
 cases c with
 | true=>exact hb pins s1 σ H1 Q I1 q1
 | false=>exact⟨.bl false,H1,I1,rfl,q1⟩
theorem GO(ha:PE X a ta):PE X (.UnaryOp .Not a pos) (GK ta):=by
 intro pins s σ H Q I h;refine UnaryOp_ (aQ (ha pins s σ H _ I h) λv s1 ⟨x,H1,I1,r1,q1⟩=>?_);obtain⟨c,rfl,q1⟩:=q1
 cases r1;exact not_of (QB ⟨.bl (!c),H1,I1,rfl,q1⟩)
end
def cj(K:W1)(H:Hp)(a:Addr)(xs:List V):Prop :=
 Rd H a (.lst xs) \/
  ∃ (o:Obj) (ae:Array Value) (n:Nat),K.lookup a=some o/\o.cls = .type "list"/\o.dict=none/\o.data = .seq ae n/\ae.size<=W6/\Vals xs ae.toList
def cq(K:W1)(H:Hp)(a:Addr)(xs:List V):Prop :=
 Rd H a (.tup xs) \/
  ∃ (o:Obj) (ae:Array Value) (n:Nat),K.lookup a=some o/\o.cls = .type "tuple"/\o.data = .seq ae n/\ae.size<=W6/\Vals xs ae.toList
def GP:Value->Option V
 | .none=>some .ax
 | .bool b=>some (.bl b)
 | .int i _=>some (.int i)
 | .str x _=>some (.str x)
 | .bytes b _=>some (.byt b)
 | .float b _=>some (.flt b)
 | .ref a=>some (.ref a)
 | .type n=>some (.ty n)
 | _=>none
theorem RelV.abs(r:RelV x u):GP u=some x:=by
 cases x with
 | ax=>cases r; rfl
 | bl _=>cases r; rfl
 | int _=>obtain⟨t,rfl⟩:=r; rfl
 | str _=>obtain⟨t,rfl⟩:=r; rfl
 | byt _=>obtain⟨t,rfl⟩:=r; rfl
 | flt _=>obtain⟨t,rfl⟩:=r; rfl
 | ref _=>cases r; rfl
 | ty _=>cases r; rfl
theorem RelV.inj(r:RelV x u)(q:RelV y u):x=y:=Wy (r.abs.symm.trans q.abs)
theorem Vals.inj:∀ {xs ys:List V} {us:List Value},Vals xs us->Vals ys us->xs=ys
 | _,_,_,.nil,.nil=>rfl
 | _,_,_,.cons r t,.cons r' t'=>by rw[r.inj r',Vals.inj t t']
section
variable {X:Cx} {pins:List (Addr×Obj)} {σ:St} {H:Hp} {s:W2} {a:Addr} {xs ys:List V}
theorem cj.of{K:W1}(h:H a=some (.lst xs)):cj K H a xs:=.inl (.inl h)
theorem cq.of{K:W1}(h:H a=some (.tup xs)):cq K H a xs:=.inl (.inl h)
theorem Inv.list(I:Inv X pins σ H s)(h:cj X.K H a xs):∃ ae:List Value,Vals xs ae/\PlainL s.heap a ae.toArray/\xs.length<=W6:=by
 rcases h with h | ⟨o,ae,n,hk,hc,hd,hs,hz,r⟩
 ·obtain⟨z,ae,n,r,e⟩:=h.ok I.aD;exact⟨ae,r,⟨_,n,e,rfl,rfl,rfl⟩,z⟩
 ·refine⟨ae.toList,r,⟨o,n,I.eO a o hk,hc,hd,by simpa using hs⟩,?_⟩;have e:=r.length;simp only[Qh] at e;omega
theorem Inv.tuple(I:Inv X pins σ H s)(h:cq X.K H a xs):∃ ae:List Value,Vals xs ae/\IsTup s.heap a ae.toArray/\xs.length<=W6:=by
 rcases h with h | ⟨o,ae,n,hk,hc,hs,hz,r⟩
 ·obtain⟨z,ae,r,p⟩:=h.ok I.aD;exact⟨ae,r,p.tup,z⟩
 ·refine⟨ae.toList,r,⟨o,I.eO a o hk,hc,n,by simpa using hs⟩,?_⟩;have e:=r.length;simp only[Qh] at e;omega
theorem Inv.Ag(I:Inv X pins σ H s)(h:cj X.K H a xs)(h':cj X.K H a ys):xs=ys:=by
 obtain⟨ae,r,⟨o,n,e,_,_,d⟩,_⟩:=I.list h;obtain⟨its',r',⟨o',n',e',_,_,d'⟩,_⟩:=I.list h';rw[e] at e'; cases e'
 rw[d] at d';injection d' with d1 _
 have:ae=its':=by simpa using congrArg Array.toList d1
 subst this;exact r.inj r'
theorem Inv.Ah(I:Inv X pins σ H s)(h:cq X.K H a xs)(h':cq X.K H a ys):xs=ys:=by
 obtain⟨ae,r,⟨o,e,_,n,d⟩,_⟩:=I.tuple h;obtain⟨its',r',⟨o',e',_,n',d'⟩,_⟩:=I.tuple h';rw[e] at e'; cases e'
 rw[d] at d';injection d' with d1 _
 have:ae=its':=by simpa using congrArg Array.toList d1
 subst this;exact r.inj r'
end
abbrev Cx.jG(X:Cx)(E:Value->W2->Prop):Cx:={ X with xe:=E }
abbrev Cx.gp(X:Cx):Cx:=X.jG λ_ _=>False
theorem Cx.Ok.jG{X:Cx}(ok:X.Ok)(E:Value->W2->Prop):(X.jG E).Ok :=
 ⟨ok.mod,ok.kind,ok.glob,ok.blt,ok.above,ok.inj,ok.has,ok.nI,ok.hd,ok.frames,ok.rm,ok.rA,ok.bs,ok.j5,ok.ph,ok.pj,ok.h8,ok.lY⟩
theorem Cx.Ok.kW{X:Cx}{E:Value->W2->Prop}(ok:(X.jG E).Ok):X.Ok :=
 ⟨ok.mod,ok.kind,ok.glob,ok.blt,ok.above,ok.inj,ok.has,ok.nI,ok.hd,ok.frames,ok.rm,ok.rA,ok.bs,ok.j5,ok.ph,ok.pj,ok.h8,ok.lY⟩
section
variable {X:Cx} {pins:List (Addr×Obj)} {σ:St} {H:Hp} {s:W2} {E:Value->W2->Prop}
theorem Inv.jG(I:Inv X pins σ H s)(E:Value->W2->Prop):Inv (X.jG E) pins σ H s:=⟨I.ok.jG E,I.os,I.bare,I.base,I.loc,I.cell,I.free,I.h9,I.pin,I.aD,I.len⟩
theorem Inv.kW(I:Inv (X.jG E) pins σ H s):Inv X pins σ H s:=⟨I.ok.kW,I.os,I.bare,I.base,I.loc,I.cell,I.free,I.h9,I.pin,I.aD,I.len⟩
theorem SP.kW(h:SP (X.jG E) pins D f s'):SP X pins D f s':=by
 cases f with
 | next=>obtain⟨σ',H',I,q⟩:=h; exact⟨σ',H',I.kW,q⟩
 | brk=>obtain⟨σ',H',I,q⟩:=h; exact⟨σ',H',I.kW,q⟩
 | cont=>obtain⟨σ',H',I,q⟩:=h; exact⟨σ',H',I.kW,q⟩
 | ret u=>obtain⟨v,σ',H',I,r,q⟩:=h; exact⟨v,σ',H',I.kW,r,q⟩
theorem dU.gp{st:List Stmt}{t:TS}(h:dU X.gp st t):dU X st t:=λpins s σ H D I hw =>
 WE (h pins s σ H D (I.jG _) hw) (λ_ _ q=>q.kW) λ_ _ z=>False.elim z
end
section
variable {X:Cx} {st:Stmt} {rest:List Stmt} {t u:TS} {e:Expr} {te:TE} {pos:Pos}
def GQ:TS:=λD σ H=>D.nx σ H
def GR(t u:TS):TS:=λD σ H=>t { D with nx:=u D } σ H
theorem GS:dU X [] GQ:=λ_ _ σ H _ I h=>wpAny_execs_nil ⟨σ,H,I,h⟩
theorem GU(h1:PS X st t)(h2:dU X rest u):dU X (st :: rest) (GR t u):=by
 intro pins s σ H D I h;refine wpAny_execs_cons (aQ (h1 pins s σ H { D with nx:=u D } I h) λf s1 q=>?_)
 cases f with
 | next =>
  obtain⟨σ',H',I',q⟩:=q;exact h2 pins s1 σ' H' D I' q
 | ret v=>exact q
 | brk=>exact q
 | cont=>exact q
theorem GV(h1:PS X st t):dU X [st] t:=by
 intro pins s σ H D I h;refine wpAny_execs_cons (aQ (h1 pins s σ H D I h) λf s1 q=>?_)
 cases f with
 | next=>exact wpAny_execs_nil q
 | ret v=>exact q
 | brk=>exact q
 | cont=>exact q
theorem Inv.quiet(I:Inv X pins σ H s):interactive X.env=false:=by simp[interactive,I.ok.kind]
def uA(te:TE):TS:=λD σ H=>te σ H λ_ H1=>D.nx σ H1
theorem uB(he:PE X e te)(hs:QZ e none pos.line X.env=pure false:=by rfl):PS X (.Expr e pos) (uA te):=by
 intro pins s σ H D I h;exact wpAny_Expr_any (aQ (he pins s σ H _ I h) λv s1 ⟨x,H1,I1,r1,q1⟩=>⟨σ,H1,I1,q1⟩) I.quiet hs
def GW(te:TE):TS:=λD σ H=>te σ H D.rt
theorem GX(he:PE X e te):PS X (.Return (some e) pos) (GW te):=by
 intro pins s σ H D I h;exact wpAny_Return_some (aQ (he pins s σ H _ I h) λv s1 ⟨x,H1,I1,r1,q1⟩=>⟨x,σ,H1,I1,r1,q1⟩)
def GY(c:TT)(t u:TS):TS:=λD σ H=>c σ H λb H1=>if b=true then t D σ H1 else u D σ H1
theorem GZ(hc:PT X c tc)(ha:dU X a t)(hb:dU X b u):PS X (.If c a b pos) (GY tc t u):=by
 intro pins s σ H D I h;refine wpAny_If (aQ (hc pins s σ H _ I h) λd s1 ⟨H1,I1,q1⟩=>?_)
 cases d with
 | true=>exact ha pins s1 σ H1 D I1 q1
 | false=>exact hb pins s1 σ H1 D I1 q1
def G0:TS:=λ_ _ _=>False
theorem G1:PS X st G0:=λ_ _ _ _ _ _ h=>h.elim
end
abbrev TG:=V->St->Hp->(St->Hp->Prop)->Prop
abbrev kX:=List V->St->Hp->(St->Hp->Prop)->Prop
def PG(X:Cx)(target:Expr)(t:TG):Prop :=
 ∀ (pins:List (Addr×Obj)) (s:W2) (σ:St) (H:Hp) (v:V) (u:Value) (Q:St->Hp->Prop),Inv X pins σ H s->RelV v u->t v σ H Q ->
  W5 (model X.prog X.w) X.A (assign target X.env u) (λ_ s'=>∃ σ' H',Inv X pins σ' H' s'/\Q σ' H') X.xe s
def h_(X:Cx)(ts:List Expr)(t:kX):Prop :=
 ∀ (pins:List (Addr×Obj)) (s:W2) (σ:St) (H:Hp) (vs:List V) (us:List Value) (Q:St->Hp->Prop),Inv X pins σ H s->Vals vs us->t vs σ H Q ->
  W5 (model X.prog X.w) X.A (assignInOrder ((Qa ts X.env).map (·.2)) us) (λ_ s'=>∃ σ' H',Inv X pins σ' H' s'/\Q σ' H') X.xe s
abbrev Ai:=V->V->V->Hp->(Hp->Prop)->Prop
def Aj(X:Cx)(t:Ai):Prop :=
 ∀ (pins:List (Addr×Obj)) (s:W2) (σ:St) (H:Hp) (o i v:V) (ov iv u:Value) (Q:Hp->Prop),Inv X pins σ H s->RelV o ov->RelV i iv->RelV v u->t o i v H Q ->
  W5 (model X.prog X.w) X.A (setItem ov iv u) (λ_ s'=>∃ H',Inv X pins σ H' s'/\Q H') X.xe s
section
variable {X:Cx} {pos:Pos}
def rE(i:Nat):TG:=λv σ H Q=>Q (σ.set i (some v)) H
theorem Al(hN:X.N.Nodup)(hi:X.N[i]? = some x)(hx:Loc X.env.scope x)(hf:X.fn x=true\/X.env.scope.names.lookup x=some .local:=by first | exact .inl rfl | exact .inr rfl | assumption):PG X (.Name x pos) (rE i):=by
 intro pins s σ H v u Q I r h;exact wpAny_assign_Name (rC I hN hi hx r (λs' I'=>⟨_,H,I',h⟩) hf)
def G2:kX:=λvs σ H Q=>vs=[]/\Q σ H
def G3(t:TG)(u:kX):kX:=λvs σ H Q=>∃ v r,vs=v :: r/\t v σ H λσ' H'=>u r σ' H' Q
theorem Am:h_ X [] G2:=by
 intro pins s σ H vs us Q I r h;obtain⟨e,h⟩:=h;subst e
 cases r;exact assignInOrder_nil ⟨σ,H,I,h⟩
theorem An(h1:PG X e t)(h2:h_ X es u)
  (hs:(Qa (e :: es) X.env).map (·.2)=assign e X.env :: (Qa es X.env).map (·.2):=by rfl):h_ X (e :: es) (G3 t u):=by
 intro pins s σ H vs us Q I r h;obtain⟨v,vr,e1,h⟩:=h;subst e1
 cases r with
 | cons r rr =>
  rw[hs];refine assignInOrder_cons (aQ (h1 pins s σ H _ _ _ I r h) λ_ s1 ⟨σ1,H1,I1,q1⟩=>?_);exact h2 pins s1 σ1 H1 _ _ Q I1 rr q1
def G4(K:W1)(n:Nat)(t:kX):TG:=λv σ H Q=>∃ a xs,v = .ref a/\cq K H a xs/\xs.length=n/\t xs σ H Q
theorem Ao(hc:X.calm=true)(h:h_ X es t)
  (hn:(Qa es X.env).length=n:=by rfl) (dX:(Qa es X.env).findIdx? (·.1)=none:=by rfl):PG X (.Tuple es k pos) (G4 X.K n t):=by
 intro pins s σ H v u Q I r hw;obtain⟨a,xs,e1,hq,hl,hw⟩:=hw;subst e1
 cases r;obtain⟨ae,rv,ht,hz⟩:=I.tuple hq;refine assign_Tuple_tuple (I.ok.hd hc) ht (by simp[hn,<- hl,rv.length]) dX λh' hx=>?_
 have I1:Inv X pins σ H { s with heap:=h' }:=I.kept (t':=s.toks) λb o e=>hx b o (Wr (Wi e)) e
 exact h pins _ σ H xs _ Q I1 (by simpa using rv) hw
def G5(to ti:TE)(t:Ai):TG:=λv σ H Q=>to σ H λo H1=>ti σ H1 λi H2=>t o i v H2 λH3=>Q σ H3
theorem G6(ho:PE X o to)(hi:PE X i ti)(hs:Aj X t)
  (ha:∀ v,assign (.Subscript o i pos) X.env v=(do
   let ov <- holding [v] (eval o X.env)
   let iv <- holding [v,ov] (eval i X.env)
   standAt pos
   holding [v,ov,iv] (setItem ov iv v)
   release [v,ov,iv] []):=by intro _; rfl):PG X (.Subscript o i pos) (G5 to ti t):=by
 intro pins s σ H v u Q I r h;rw[ha];refine W0 (WR (aQ (ho pins s σ H _ I h) λov s1 ⟨x,H1,I1,r1,q1⟩=>?_));refine W0 (WR (aQ (hi pins s1 σ H1 _ I1 q1) λiv s2 ⟨y,H2,I2,r2,q2⟩=>?_));refine W0 (wpAny_standAt (W0 (WR (aQ (hs pins s2 σ H2 x y v ov iv u _ I2 r1 r2 r q2) λ_ s3 ⟨H3,I3,q3⟩=>?_))));exact wpAny_release ⟨σ,H3,I3,q3⟩
def rF(te:TE)(g:TG):TS:=λD σ H=>te σ H λx H1=>g x σ H1 D.nx
theorem Ap(he:PE X e te)(hg:PG X tg g)(hs:swapsWithSole [tg] e pos.line X.env=pure false:=by rfl)(hw:swappedStores [tg] e X.env=pure none:=by rfl)
  (h1:(Qa [tg] X.env).map (·.2)=[assign tg X.env]:=by rfl):PS X (.Assign [tg] e pos) (rF te g):=by
 intro pins s σ H D I h;refine wpAny_Assign_stores (aQ (he pins s σ H _ I h) λv s1 ⟨x,H1,I1,r1,q1⟩=>?_) hs hw;rw[h1];exact aQ (hg pins s1 σ H1 x v _ I1 r1 q1) λ_ s2 q=>q
theorem G7(hN:X.N.Nodup)(hi:X.N[i]? = some x)(hx:Loc X.env.scope x)(he:PE X e te)(hs:QZ e (some (.Name x pos')) pos.line X.env=pure false:=by rfl)(hf:X.fn x=true\/X.env.scope.names.lookup x=some .local:=by first | exact .inl rfl | exact .inr rfl | assumption) :
  PS X (.Assign [.Name x pos'] e pos) (rF te (rE i)):=by
 intro pins s σ H D I h;refine wpAny_Assign_Name (aQ (he pins s σ H _ I h) λv s1 ⟨y,H1,I1,r1,q1⟩=>?_) hs;exact rC I1 hN hi hx r1 (λs2 I2=>⟨_,H1,I2,q1⟩) hf
def G8(i j:Nat)(ta:TA):TS:=λD σ H=>ta σ H λvs H1=>∃ v w,vs=[v,w]/\D.nx ((σ.set i (some v)).set j (some w)) H1
theorem G9{kt k2 pt2}(hc:X.calm=true)(hN:X.N.Nodup)(hi:X.N[i]? = some x)(hj:X.N[j]? = some y)(uC:i≠j)
  (hx:X.env.scope.names.lookup x=some .local) (hy:X.env.scope.names.lookup y=some .local) (ha:PA X [a,b] ta)
  (hw:swappedStores [.Tuple [.Name x px,.Name y py] kt pt] (.Tuple [a,b] k2 pt2) X.env=pure (some [x,y]))
  (hs:swapsWithSole [.Tuple [.Name x px,.Name y py] kt pt] (.Tuple [a,b] k2 pt2) pos.line X.env=pure false:=by rfl) :
  PS X (.Assign [.Tuple [.Name x px,.Name y py] kt pt] (.Tuple [a,b] k2 pt2) pos) (G8 i j ta):=by
 intro pins s σ H D I h;rw[exec_Assign_arm];refine W0 (wpAny_standAt ?_);rw[hs];refine W0 (W3 ?_);rw[if_neg (by decide)];refine W0 (Tuple_ (aQ (ha _ pins s σ H _ I h) λus s1 ⟨vs,H1,I1,r1,q1⟩=>?_));obtain⟨v,w,e1,q1⟩:=q1;subst e1;obtain⟨u1,u2,rfl,rv,aL⟩:∃ u1 u2,us=[u1,u2]/\RelV v u1/\RelV w u2:=by
  cases r1 with
  | cons p q =>
   cases q with
   | cons p' q' =>
    cases q';exact⟨_,_,rfl,p,p'⟩
 refine WB ?_ (by show 2<=W6; decide);have I2:Inv X pins σ H1 { s1 with heap:=s1.heap.push { cls:=.type "tuple",data:=.seq [u1,u2].toArray } }:=I1.kept (t':=s1.toks) λb o e=>W4 _ e
 rw[hw];refine W0 (W3 ?_);show W5 (model X.prog X.w) X.A (do rule "assign.swapped-stores"; let items <- unpackItems (.ref s1.heap.objs.size) 2 none; assignInOrder [λv=>bindName X.env y v,λv=>bindName X.env x v] items.reverse; pure Flow.next) _ _ _;refine W0 (Qv (W0 (unpackItems_tuple (items:=#[u1,u2]) (I.ok.hd hc) (IsTup.new s1.heap _) λh' j6=>?_)));have I3:=I2.kept (h':=h') (t':=s1.toks) λb o e=>j6 b o (Wr (Wi e)) e
 show W5 _ _ (assignInOrder [λv=>bindName X.env y v,λv=>bindName X.env x v] [u2,u1] >>= λ_=>pure Flow.next) _ _ _;refine W0 (assignInOrder_cons (wpAny_bindName (rC I3 hN hj (.inl hy) aL (λs2 I4=>?_) (.inr hy))));refine assignInOrder_cons (wpAny_bindName (rC I4 hN hi (.inl hx) rv (λs3 I5=>assignInOrder_nil (W3 ?_)) (.inr hx)));rw[List.set_comm _ _ (Ne.symm uC)] at I5;exact⟨_,H1,I5,q1⟩
end
section
variable {X:Cx} {pos:Pos}
def Aq(c:TT)(tb:TS):TS:=λD σ H=>∃ W:Nat->St->Hp->Prop,(∃ m,W m σ H)/\∀ m σ H,W m σ H ->
 c σ H λb H1=>if b=true then ∃ N:St->Hp->Prop,(∀ σ' H',N σ' H'->∃ m',m' < m/\W m' σ' H')/\tb { D with nx:=N,ct:=N,bk:=D.nx } σ H1 else D.nx σ H1
theorem uD(hp:PassesOwn (model X.prog X.w) X.A X.env X.xe)(hc:PT X c tc)(hb:dU X body tb):PS X (.While c body [] pos) (Aq tc tb):=by
 intro pins s σ H D I h;obtain⟨W,⟨m0,w0⟩,turn⟩:=h;refine wpAny_While (codeAny_whileLoop (λn s'=>∃ σ' H',Inv X pins σ' H' s'/\W n σ' H') ?_ m0 ⟨σ,H,I,w0⟩);rintro n s1 ⟨σ1,H1,I1,w1⟩;refine QN hp (aQ (hc pins s1 σ1 H1 _ I1 (turn n σ1 H1 w1)) λb s2 ⟨H2,I2,q2⟩=>?_)
 cases b with
 | true =>
  obtain⟨N,hN,q2⟩:=q2;rw[if_pos rfl];refine QN hp (aQ (hb pins s2 σ1 H2 _ I2 q2) λf s3 q3=>?_)
  cases f with
  | next =>
   obtain⟨σ3,H3,I3,n3⟩:=q3;obtain⟨m',hm,w3⟩:=hN σ3 H3 n3;exact⟨m',hm,σ3,H3,I3,w3⟩
  | cont =>
   obtain⟨σ3,H3,I3,n3⟩:=q3;obtain⟨m',hm,w3⟩:=hN σ3 H3 n3;exact⟨m',hm,σ3,H3,I3,w3⟩
  | brk=>exact q3
  | ret v=>exact q3
 | false =>
  rw[if_neg WW];exact wpAny_execs_nil ⟨σ1,H2,I2,q2⟩
end
structure It where
 go:Nat->Hp->Prop
 pC:Nat->Hp->V->Hp->Prop
 stop:Nat->Hp->Prop
def gq(X:Cx)(pins:List (Addr×Obj))(H:Hp)(b:Addr):Prop :=
 H b=none/\b≠X.env.locals/\b ∉ X.fs/\(b ∈ X.ex\/X.s₀.heap.objs.size<=b)/\(∀ x c,X.env.cells.lookup x=some c->c≠b)/\∀ p ∈ X.pn ++ pins,p.1≠b
theorem Inv.j7(I:Inv X pins σ H s)(hb:s.heap.objs.size<=b)(hn:H' b=none):gq X pins H' b:=by
 refine⟨hn,J4 (Ww I.lt hb),I.z7 hb,.inr (WU I.sz hb),λx c e z=>?_,λp hp z=>?_⟩
 ·obtain⟨v,q⟩:=I.cell x c e;exact absurd (Ww q.lt (by rw[z]; exact hb)) (Qd _)
 ·exact absurd (Ww (Wi (I.pin p hp).1) (by rw[z]; exact hb)) (Qd _)
structure Turn(P:Wj)(w:Wp)(K:W1)(tg:Expr)(J:It)(fp:List Addr)(it:Addr)(tn:Nat->Heap->Prop):Prop where
 mem:it ∈ fp
 obj:∀ i h,tn i h->∀ b ∈ fp,∃ o,h.get? b=some o/\∀ v,o.data≠.cell v
 keep:∀ i h h',tn i h->(∀ b ∈ fp,∀ o,h.get? b=some o->h'.get? b=some o)->tn i h'
 item:∀ (X:Cx),X.prog=P->X.w=w->X.K=K->X.calm=true->∀ (i:Nat) (pins:List (Addr×Obj)) (s:W2) (σ:St) (H:Hp) (E:Value->W2->Prop),Inv X pins σ H s->(∀ b ∈ fp,gq X pins H b)->tn i s.heap->J.go i H ->
  W5 (model P w) X.A (Qp (.ref it)) (λr s1=>∃ u,r=some u /\
   W5 (model P w) X.A (letOwnedTupleGo tg (.ref it) u) (λ_ s2=>∃ x H',Inv X pins σ H' s2/\RelV x u/\J.pC i H x H'/\tn (i + 1) s2.heap/\∀ b ∈ fp,H' b=none) E s1) E s
 done:∀ (X:Cx),X.prog=P->X.w=w->X.K=K->X.calm=true->∀ (i:Nat) (pins:List (Addr×Obj)) (s:W2) (σ:St) (H:Hp) (E:Value->W2->Prop),Inv X pins σ H s->(∀ b ∈ fp,gq X pins H b)->tn i s.heap->J.stop i H ->
  W5 (model P w) X.A (Qp (.ref it)) (λr s1=>r=none/\Inv X pins σ H s1) E s
 self:∀ (A:Wq) (i:Nat) (s:W2) (Q:Value->W2->Prop) (E:Value->W2->Prop),tn i s.heap->Q (.ref it) s->W5 (model P w) A (pyIter (.ref it)) Q E s
abbrev TI:=St->Hp->(It->Hp->Prop)->Prop
def Ar(X:Cx)(pins:List (Addr×Obj))(σ:St)(tg:Expr)(R:It->Hp->Prop)(rG:Value)(s2:W2):Prop :=
 ∃ (it:Addr) (fp:List Addr) (tn:Nat->Heap->Prop) (J:It) (H':Hp),rG = .ref it/\Inv X pins σ H' s2/\Turn X.prog X.w X.K tg J fp it tn/\tn 0 s2.heap/\(∀ b ∈ fp,gq X pins H' b)/\R J H'
def PI(X:Cx)(tg iter:Expr)(wi:TI):Prop :=
 ∀ (pins:List (Addr×Obj)) (s:W2) (σ:St) (H:Hp) (R:It->Hp->Prop),Inv X pins σ H s->wi σ H R ->
  W5 (model X.prog X.w) X.A (eval iter X.env) (λv s1=>W5 (model X.prog X.w) X.A (pyIter v) (Ar X pins σ tg R) X.xe s1) X.xe s
theorem rH(ho:s.heap.get? it=some o)(hc:o.cls = .type n)(hd:o.data = .fields vs)
  (hn:["enumerate","zip","dict_itemiterator","dict_reverseitemiterator","odict_iterator","itertools.zip_longest","itertools.pairwise"].contains n=false) (hQ:Q () s):W5 M A (letOwnedTupleGo tg (.ref it) u) Q E s:=by
 unfold letOwnedTupleGo
 cases tg <;> first
  | exact W3 hQ
  | (cases u <;> first
    | exact W3 hQ
    | (refine W0 (wpAny_load ho ?_); rw[hc,hd]; show W5 M A (if (["enumerate","zip","dict_itemiterator","dict_reverseitemiterator","odict_iterator","itertools.zip_longest","itertools.pairwise"].contains n && vs[0]? == some (Qy _))=true then _ else _) Q E s; rw[if_neg (by intro h; rw[hn,Bool.false_and] at h; cases h)]; exact W3 hQ))
def uE(K:W1)(a:Addr):It :=
 ⟨λi H=>∃ xs x,cj K H a xs/\xs[i]? = some x,λi H x H'=>H'=H/\∀ xs,cj K H a xs->xs[i]? = some x,λi H=>∃ xs,cj K H a xs/\xs.length<=i⟩
def rJ(K:W1)(a:Addr):It :=
 ⟨λi H=>∃ xs x,cq K H a xs/\xs[i]? = some x,λi H x H'=>H'=H/\∀ xs,cq K H a xs->xs[i]? = some x,λi H=>∃ xs,cq K H a xs/\xs.length<=i⟩
def rK(lo:Int)(n:Nat):It:=⟨λi _=>i < n,λi H x H'=>H'=H/\x = .int (lo + i),λi _=>n<=i⟩
theorem G_{P:Wj}{w:Wp}{K:W1}{tg:Expr}(a it:Addr):Turn P w K tg (uE K a) [it] it (λi h=>h.IsListIter it a i) where
 mem:=by simp
 obj:=λi h st b hb=>by
  have e:b=it:=by simpa using hb
  subst e;obtain⟨o,e,c,d⟩:=st;exact⟨o,e,λv z=>by rw[d] at z; cases z⟩
 keep:=λi h h' st k=>st.at λo e=>k it (by simp) o e
 item:=by
  intro X hP hw hK hc i pins s σ H E I hf st hg;subst hP hw hK;obtain⟨xs,x,hq,hx⟩:=hg;obtain⟨ae,rv,p,hz⟩:=I.list hq;obtain⟨u,hu,ru⟩:=rv.get hx;obtain⟨f0,f1,f2,f3,f4,f5⟩:=hf it (by simp);refine wpAny_pyNext_list_item st p.isList (x:=u) (by simpa using hu) λh' eQ sb=>?_
  have I1:Inv X pins σ H { s with heap:=h' }:=I.turned (t':=s.toks) (λb o hb e=>(sb.2 b hb).trans e) f0 f1 f3 f4 f5;obtain⟨o,e,c,d⟩:=id eQ;exact⟨u,rfl,rH (s:={ s with heap:=h' }) e c d (by decide) ⟨x,H,I1,ru,⟨rfl,λys hy=>by rw[I.Ag hy hq]; exact hx⟩,eQ,λb hb=>(hf b hb).1⟩⟩
 done:=by
  intro X hP hw hK hc i pins s σ H E I hf st hg;subst hP hw hK;obtain⟨xs,hq,hx⟩:=hg;obtain⟨ae,rv,p,hz⟩:=I.list hq;obtain⟨f0,f1,f2,f3,f4,f5⟩:=hf it (by simp);have hl:=rv.length;exact wpAny_pyNext_list_end (I.ok.hd hc) st p.isList (by simp; omega) λh' eb=>⟨rfl,I.turned (t':=s.toks) (λb o hb e=>eb b o hb e) f0 f1 f3 f4 f5⟩
 self:=λ_ _ _ _ _ st h=>wpAny_pyIter_listiter st h
theorem Hb{P:Wj}{w:Wp}{K:W1}{tg:Expr}(a it:Addr):Turn P w K tg (rJ K a) [it] it (λi h=>h.IsTupleIter it a i) where
 mem:=by simp
 obj:=λi h st b hb=>by
  have e:b=it:=by simpa using hb
  subst e;obtain⟨o,e,c,d⟩:=st;exact⟨o,e,λv z=>by rw[d] at z; cases z⟩
 keep:=λi h h' st k=>st.at λo e=>k it (by simp) o e
 item:=by
  intro X hP hw hK hc i pins s σ H E I hf st hg;subst hP hw hK;obtain⟨xs,x,hq,hx⟩:=hg;obtain⟨ae,rv,p,hz⟩:=I.tuple hq;obtain⟨u,hu,ru⟩:=rv.get hx;obtain⟨f0,f1,f2,f3,f4,f5⟩:=hf it (by simp);refine wpAny_pyNext_tuple_item st (show s.heap.IsTuple a ae.toArray from p) (x:=u) (by simpa using hu) λh' eQ sb=>?_
  have I1:Inv X pins σ H { s with heap:=h' }:=I.turned (t':=s.toks) (λb o hb e=>(sb.2 b hb).trans e) f0 f1 f3 f4 f5;obtain⟨o,e,c,d⟩:=id eQ;exact⟨u,rfl,rH (s:={ s with heap:=h' }) e c d (by decide) ⟨x,H,I1,ru,⟨rfl,λys hy=>by rw[I.Ah hy hq]; exact hx⟩,eQ,λb hb=>(hf b hb).1⟩⟩
 done:=by
  intro X hP hw hK hc i pins s σ H E I hf st hg;subst hP hw hK;obtain⟨xs,hq,hx⟩:=hg;obtain⟨ae,rv,p,hz⟩:=I.tuple hq;obtain⟨f0,f1,f2,f3,f4,f5⟩:=hf it (by simp);have hl:=rv.length;exact wpAny_pyNext_tuple_end (I.ok.hd hc) st (show s.heap.IsTuple a ae.toArray from p) (by simp; omega) λh' eb=>⟨rfl,I.turned (t':=s.toks) (λb o hb e=>eb b o hb e) f0 f1 f3 f4 f5⟩
 self:=λ_ _ _ _ _ st h=>wpAny_pyIter_tupleiter st h
theorem Hc{P:Wj}{w:Wp}{K:W1}{tg:Expr}(it:Addr)(lo:Int)(n:Nat):Turn P w K tg (rK lo n) [it] it (λi h=>IsRangeIter h it (lo + (i:Nat) * 1) ((n:Int) - (i:Nat)) 1) where
 mem:=by simp
 obj:=λi h st b hb=>by
  have e:b=it:=by simpa using hb
  subst e;exact⟨_,st,λv z=>by
   have z':Data.fields _=Data.cell v:=z
   cases z'⟩
 keep:=λi h h' st k=>k it (by simp) _ st
 item:=by
  intro X hP hw hK hc i pins s σ H E I hf st hg;subst hP hw hK;obtain⟨f0,f1,f2,f3,f4,f5⟩:=hf it (by simp);have W:=Walks.range (prog:=X.prog) (w:=X.w) (I.ok.hd hc) it lo 1 n;refine W.item i s _ _ hg st λv h' tk hv eQ kk=>?_
  obtain⟨t,rfl⟩:=hv;have I1:Inv X pins σ H { s with heap:=h',toks:=tk }:=I.turned (λb o hb e=>kk b o (by simpa using hb) e) f0 f1 f3 f4 f5;refine⟨_,rfl,rH (s:={ s with heap:=h',toks:=tk }) (n:="range_iterator") eQ rfl rfl (by decide) ⟨.int (lo + i),H,I1,⟨t,?_⟩,⟨rfl,rfl⟩,eQ,λb hb=>(hf b hb).1⟩⟩;rw[Int.mul_one]
 done:=by
  intro X hP hw hK hc i pins s σ H E I hf st hg;subst hP hw hK;obtain⟨f0,f1,f2,f3,f4,f5⟩:=hf it (by simp);exact wpAny_pyNext_range_end (I.ok.hd hc) st (by have:n<=i:=hg; omega) λh' eb=>⟨rfl,I.turned (t':=s.toks) (λb o hb e=>eb b o hb e) f0 f1 f3 f4 f5⟩
 self:=λ_ _ _ _ _ st h=>wpAny_pyIter_rangeiter st h
section
variable {X:Cx} {tg:Expr}
theorem Hd{pins:List (Addr×Obj)}{σ:St}{H:Hp}{s:W2}{R:It->Hp->Prop}{E:Value->W2->Prop}{lo hi:Int}{t u v:Tok}{tk:Nat}(I:Inv X pins σ H s)(h1 : -(2 ^ 62)<=lo)(h2:lo < 2 ^ 62)(h3 : -(2 ^ 62)<=hi)(h4:hi < 2 ^ 62)
  (q:R (rK lo (hi - lo).toNat) H):W5 (model X.prog X.w) X.A (pyIter (.ref s.heap.objs.size)) (Ar X pins σ tg R) E { s with heap:=s.heap.push { cls:=.type "range",data:=.fields #[.int lo t,.int hi u,.int 1 v] },toks:=tk }:=by
 refine wpAny_pyIter_range (IsRange.new ..) (small_one h1 h2 h3 h4) ?_;have I1:Inv X pins σ H { s with heap:=s.heap.push { cls:=.type "range",data:=.fields #[.int lo t,.int hi u,.int 1 v] },toks:=tk }:=I.kept λb o e=>W4 _ e
 refine⟨(s.heap.push { cls:=.type "range",data:=.fields #[.int lo t,.int hi u,.int 1 v] }).objs.size,[(s.heap.push { cls:=.type "range",data:=.fields #[.int lo t,.int hi u,.int 1 v] }).objs.size],_,_,H,rfl,
  I1.kept (t':=tk) λb o e=>W4 _ e,Hc _ lo (hi - lo).toNat,?_,λb hb=>?_,q⟩
 ·have e1:lo + ((0:Nat):Int) * 1=lo:=by simp
  have e2:(((hi - lo).toNat:Nat):Int) - ((0:Nat):Int)=Builtin.Range.rangeSize lo hi 1:=by rw[rangeSize_one]; split <;> omega
  show IsRangeIter _ _ (lo + ((0:Nat):Int) * 1) ((((hi - lo).toNat:Nat):Int) - ((0:Nat):Int)) 1;rw[e1,e2];exact Wm _ rfl
 ·have e:b=(s.heap.push { cls:=.type "range",data:=.fields #[.int lo t,.int hi u,.int 1 v] }).objs.size:=by simpa using hb
  subst e;exact I1.j7 (W8 _) (I1.aD.fresh (W8 _))
def He(ta:TA):TI:=λσ H R=>ta σ H λvs H1=>∃ j:Int,vs=[.int j]/\-(2 ^ 62)<=j/\j < 2 ^ 62/\R (rK 0 j.toNat) H1
theorem Hf {a:Expr} {ta:TA} {p pos:Pos} (hg:Gl X "range") (hm:X.mg "range" = none) (ha:PA X [a] ta) (hs:Wb [a] X.env=[(false,eval a X.env)]:=by rfl):PI X tg (.Call (.Name "range" p) [a] [] pos) (He ta):=by
 intro pins s σ H R I h;refine Call_ (pB I hg hm boot_range (PyProof.Rows.callWith_type1 (aQ (ha pos pins s σ H _ I h) λus s1 ⟨vs,H1,I1,r1,q1⟩=>?_) hs rfl));obtain⟨j,e,q1,q2,q⟩:=q1;subst e
 cases r1 with
 | cons r rr =>
  cases rr;obtain⟨t,rfl⟩:=r;exact call_range_1 (Hd I1 (by omega) (by omega) q1 q2 (by simpa using q))
def Hg(wi:TI)(g:TG)(tb:TS):TS:=λD σ H=>wi σ H λJ H1=>∃ W:Nat->Nat->St->Hp->Prop,(∃ m,W 0 m σ H1)/\∀ i m σ H,W i m σ H ->
 (J.stop i H/\D.nx σ H)\/(J.go i H/\∃ N:St->Hp->Prop,(∀ σ' H',N σ' H'->∃ m',m' < m/\W (i + 1) m' σ' H')/\∀ x H',J.pC i H x H'->g x σ H' λσ2 H2=>tb { D with nx:=N,ct:=N,bk:=D.nx } σ2 H2)
def pD(fp:List Addr)(h:Heap):List (Addr×Obj):=fp.filterMap λb=>(h.get? b).map λo=>(b,o)
theorem rL(hb:b ∈ fp)(e:h.get? b=some o):(b,o) ∈ pD fp h:=List.mem_filterMap.mpr ⟨b,hb,by rw[e]; rfl⟩
theorem Hh(hp:p ∈ pD fp h):p.1 ∈ fp/\h.get? p.1=some p.2:=by
 obtain⟨b,hb,e⟩:=List.mem_filterMap.mp hp
 cases q:h.get? b with
 | none=>rw[q] at e; cases e
 | some o =>
  rw[q] at e;have e':(b,o)=p:=Wy e;subst e';exact⟨hb,q⟩
theorem Inv.pinned(I:Inv X pins σ H s)(hf:∀ b ∈ fp,gq X pins H b)(ho:∀ b ∈ fp,∃ o,s.heap.get? b=some o/\∀ v,o.data≠.cell v):Inv X (pins ++ pD fp s.heap) σ H s :=
 I.z_ λp hp=>(Qr.mp hp).elim (λz=>I.pin p (WJ _ z)) λz=>by
  obtain⟨hb,e⟩:=Hh z;obtain⟨f0,f1,f2,_⟩:=hf p.1 hb;obtain⟨o,e',d⟩:=ho p.1 hb;rw[e] at e'; cases e'
  exact⟨e,f0,f1,f2,d⟩
theorem Inv.rM(I:Inv X (pins ++ pl) σ H s):Inv X pins σ H s:=I.z_ λp hp=>I.pin p (WJ _ (List.mem_append_left _ hp))
theorem Hi(hp:PassesOwn (model X.prog X.w) X.A X.env X.xe)(hc:X.calm=true)(hi:PI X tg iter wi)(hg:PG X tg g)(hb:dU X body tb)
  (hs:∀ x,QU iter X.env x=pure x:=by intro _; rfl):PS X (.For tg iter body [] pos) (Hg wi g tb):=by
 intro pins s σ H D I h;refine wpAny_For (aQ (hi pins s σ H _ I h) λv s1 h1=>aQ h1 λrG s2 h2=>?_) hs;obtain⟨it,fp,tn,J,H2,e,I2,T,st2,f2,W,⟨m0,w0⟩,turn⟩:=h2;subst e;-- what stays true of the iterator's objects through the loop
 have uF:∀ {H':Hp},(∀ b ∈ fp,H' b=none)->∀ b ∈ fp,gq X pins H' b:=λhn b hb=>⟨hn b hb,(f2 b hb).2⟩
 refine codeAny_forLoop_any (λn s'=>∃ i σ' H',Inv X pins σ' H' s'/\tn i s'.heap/\(∀ b ∈ fp,H' b=none)/\W i n σ' H') ?_ m0 ⟨0,σ,H2,I2,st2,λb hb=>(f2 b hb).1,w0⟩;rintro n s3 ⟨i,σ3,H3,I3,kY,fr3,w3⟩;rcases turn i n σ3 H3 w3 with ⟨stop,qn⟩ | ⟨go,N,hN,step⟩
 ·refine QN hp (aQ (T.done X rfl rfl rfl hc i pins s3 σ3 H3 X.xe I3 (uF fr3) kY stop) λr s4 ⟨hr,I4⟩=>?_);subst hr;exact wpAny_execs_nil ⟨σ3,H3,I4,qn⟩
 ·refine QN hp (aQ (T.item X rfl rfl rfl hc i pins s3 σ3 H3 X.xe I3 (uF fr3) kY go) λr s4 ⟨u,hr,h4⟩=>?_);subst hr;refine QN hp (aQ h4 λ_ s5 ⟨x,H5,I5,r5,y5,st5,fr5⟩=>?_);have Hj:=I5.pinned (uF fr5) (T.obj _ _ st5);refine QN hp (aQ (hg _ s5 σ3 H5 x u _ Hj r5 (step x H5 y5)) λ_ s6 ⟨σ6,H6,I6,q6⟩=>?_);refine QN hp (aQ (hb _ s6 σ6 H6 _ I6 q6) λf s7 q7=>?_);have again:∀ {σ7:St} {H7:Hp},Inv X (pins ++ pD fp s5.heap) σ7 H7 s7->N σ7 H7->∃ m,m < n/\∃ i σ' H',Inv X pins σ' H' s7/\tn i s7.heap/\(∀ b ∈ fp,H' b=none)/\W i m σ' H':=λ{σ7 H7} I7 n7=>by
   obtain⟨m',hm,w7⟩:=hN σ7 H7 n7;refine⟨m',hm,i + 1,σ7,H7,I7.rM,T.keep _ _ _ st5 λb hb o e=>(I7.pin (b,o) (WJ _ (WJ _ (rL hb e)))).1,λb hb=>?_,w7⟩;obtain⟨o,e,d⟩:=T.obj _ _ st5 b hb;exact(I7.pin (b,o) (WJ _ (WJ _ (rL hb e)))).2.1
  cases f with
  | next=>obtain⟨σ7,H7,I7,n7⟩:=q7; exact again I7 n7
  | cont=>obtain⟨σ7,H7,I7,n7⟩:=q7; exact again I7 n7
  | brk=>obtain⟨σ7,H7,I7,q7⟩:=q7; exact⟨σ7,H7,I7.rM,q7⟩
  | ret v=>obtain⟨x7,σ7,H7,I7,r7,q7⟩:=q7; exact⟨x7,σ7,H7,I7.rM,r7,q7⟩
end
abbrev R2:=V->V->Hp->VK->Prop
def bz(X:Cx)(f:Value->Value->Sem Value)(r:R2):Prop :=
 ∀ (pins:List (Addr×Obj)) (s:W2) (σ:St) (H:Hp) (x y:V) (v u:Value) (Q:VK),Inv X pins σ H s->RelV x v->RelV y u->r x y H Q ->
  W5 (model X.prog X.w) X.A (f v u) (EP X pins σ Q) X.xe s
def uG(X:Cx)(f:Value->Sem Value)(r:V->Hp->VK->Prop):Prop :=
 ∀ (pins:List (Addr×Obj)) (s:W2) (σ:St) (H:Hp) (x:V) (v:Value) (Q:VK),Inv X pins σ H s->RelV x v->r x H Q ->
  W5 (model X.prog X.w) X.A (f v) (EP X pins σ Q) X.xe s
def dM(X:Cx)(f:Value)(r:List V->Hp->VK->Prop):Prop :=
 ∀ (pins:List (Addr×Obj)) (s:W2) (σ:St) (H:Hp) (xs:List V) (us:List Value) (Q:VK),Inv X pins σ H s->Vals xs us->r xs H Q ->
  W5 (model X.prog X.w) X.A (call f us) (EP X pins σ Q) X.xe s
def l5(r:R2)(ta tb:TE):TE:=λσ H Q=>ta σ H λx H1=>tb σ H1 λy H2=>r x y H2 Q
def uH(r:V->Hp->VK->Prop)(ta:TE):TE:=λσ H Q=>ta σ H λx H1=>r x H1 Q
def rI(C:Int->Int->Prop)(g:Int->Int->V):R2:=λx y H Q=>∃ i j,x = .int i/\y = .int j/\C i j/\Q (g i j) H
def iM(g:Int->Int->V):R2:=λx y H Q=>∃ i j,x = .int i/\y = .int j/\Q (g i j) H
def rU(g:Int->V):V->Hp->VK->Prop:=λx H Q=>∃ i,x = .int i/\Q (g i) H
section
variable {X:Cx} {a b c:Expr} {ta tb tc:TE} {pos:Pos}
theorem uI(ha:PE X a ta)(hb:PE X b tb){pins:List (Addr×Obj)}{s:W2}{σ:St}{H:Hp}{R:V->V->Hp->Prop}(I:Inv X pins σ H s)
  (h:ta σ H λx H1=>tb σ H1 λy H2=>R x y H2) {Q:Value->W2->Prop} {f:Value->Value->Sem Value}
  (hf:∀ v u s2 x y H2,Inv X pins σ H2 s2->RelV x v->RelV y u->R x y H2->W5 (model X.prog X.w) X.A (f v u) Q X.xe s2) :
  W5 (model X.prog X.w) X.A (eval a X.env) (λv s₁=>W5 (model X.prog X.w) X.A (eval b X.env) (λu s₂=>W5 (model X.prog X.w) X.A (f v u) Q X.xe s₂) X.xe s₁) X.xe s:=by
 refine aQ (ha pins s σ H _ I h) λv s1 ⟨x,H1,I1,r1,q1⟩=>?_
 refine aQ (hb pins s1 σ H1 _ I1 q1) λu s2 ⟨y,H2,I2,r2,q2⟩=>?_
 exact hf v u s2 x y H2 I2 r1 r2 q2
theorem As{op:Operator}{r:R2}(ho:bz X (Qi op) r)(ha:PE X a ta)(hb:PE X b tb):PE X (.BinOp a op b pos) (l5 r ta tb):=by
 intro pins s σ H Q I h;exact wpAny_BinOp (uI ha hb I h λv u s2 x y H2 I2 rx ry q=>ho pins s2 σ H2 x y v u Q I2 rx ry q)
theorem Au(ho:uG X (unaryOp op) r)(ha:PE X a ta):PE X (.UnaryOp op a pos) (uH r ta):=by
 intro pins s σ H Q I h;exact UnaryOp_ (aQ (ha pins s σ H _ I h) λv s1 ⟨x,H1,I1,r1,q1⟩=>ho pins s1 σ H1 x v Q I1 r1 q1)
theorem pE{f:Value->Value->Sem Value}{C:Int->Int->Prop}{g:Int->Int->Int}
  (rule:∀ (i j:Int) (t u:Tok) (s:W2) (Q:Value->W2->Prop) (E:Value->W2->Prop),C i j->Q (.int (g i j) s.toks) { s with toks:=s.toks + 1 }->W5 (model X.prog X.w) X.A (f (.int i t) (.int j u)) Q E s) :
  bz X f (rI C λi j=>.int (g i j)):=by
 intro pins s σ H x y v u Q I rx ry h;obtain⟨i,j,rfl,rfl,hc,q⟩:=h;obtain⟨t,rfl⟩:=rx;obtain⟨t',rfl⟩:=ry;exact rule i j t t' s _ _ hc ⟨.int (g i j),H,I.tok _,⟨_,rfl⟩,q⟩
theorem Aw{f:Value->Value->Sem Value}{g:Int->Int->Int}
  (rule:∀ (i j:Int) (t u:Tok) (s:W2) (Q:Value->W2->Prop) (E:Value->W2->Prop),Q (.int (g i j) s.toks) { s with toks:=s.toks + 1 }->W5 (model X.prog X.w) X.A (f (.int i t) (.int j u)) Q E s) :
  bz X f (iM λi j=>.int (g i j)):=by
 intro pins s σ H x y v u Q I rx ry h;obtain⟨i,j,rfl,rfl,q⟩:=h;obtain⟨t,rfl⟩:=rx;obtain⟨t',rfl⟩:=ry;exact rule i j t t' s _ _ ⟨.int (g i j),H,I.tok _,⟨_,rfl⟩,q⟩
theorem rN{f:Value->Value->Sem Value}{g:Int->Int->Bool}
  (rule:∀ (i j:Int) (t u:Tok) (s:W2) (Q:Value->W2->Prop) (E:Value->W2->Prop),Q (.bool (g i j)) s->W5 (model X.prog X.w) X.A (f (.int i t) (.int j u)) Q E s) :
  bz X f (iM λi j=>.bl (g i j)):=by
 intro pins s σ H x y v u Q I rx ry h;obtain⟨i,j,rfl,rfl,q⟩:=h;obtain⟨t,rfl⟩:=rx;obtain⟨t',rfl⟩:=ry;exact rule i j t t' s _ _ ⟨.bl (g i j),H,I,rfl,q⟩
def Ax(i j:Int):Prop:=0 < j/\j < 1073741824
def Ay(i j:Int):Prop:=0<=j/\j<=1000000/\i.natAbs < 2 ^ 64
def pF(i j:Int):Prop:=(-(2 ^ 64) < i/\i < 2 ^ 64)\/(-(2 ^ 64) < j/\j < 2 ^ 64)
theorem pF.ok(h:pF i j):IntMulOk i j:=by
 rcases h with ⟨h1,h2⟩ | ⟨h1,h2⟩
 ·exact .of_left (intBits_le_64 h1 h2)
 ·exact .of_right (intBits_le_64 h1 h2)
theorem Hk:bz X (Qi .Add) (iM λi j=>.int (i + j)):=Aw λ_ _ _ _ _ _ _ q=>add_int q
theorem j8:bz X (Qi .Sub) (iM λi j=>.int (i - j)):=Aw λ_ _ _ _ _ _ _ q=>sub_int q
theorem Hl:bz X (Qi .Mult) (rI pF λi j=>.int (i * j)):=pE λ_ _ _ _ _ _ _ hc q=>mul_int q hc.ok
theorem Hm:bz X (Qi .FloorDiv) (rI Ax λi j=>.int (i / j)):=pE λi j _ _ _ _ _ hc q=>by
 have h1:(0:Int) < j:=hc.1;have h2:j < 1073741824:=hc.2;exact floordiv_int (by omega) (by rw[Int.fdiv_eq_ediv_of_nonneg i (by omega)]; exact q) (.inl (PyProof.noPylong_small (by omega)))
theorem ib:bz X (Qi .Mod) (rI (λ_ j=>0 < j) λi j=>.int (i % j)):=pE λi j _ _ _ _ _ hc q=>by
 have h1:(0:Int) < j:=hc;exact mod_int' (by omega) (by rw[Int.fmod_eq_emod_of_nonneg i (by omega)]; exact q)
theorem Az:bz X (Qi .Pow) (rI Ay λi j=>.int (i ^ j.toNat)):=pE λ_ _ _ _ _ _ _ hc q=>pow_int_small hc.1 hc.2.1 hc.2.2 q
theorem Ho{f:Value->Sem Value}{g:Int->Int}
  (rule:∀ (i:Int) (t:Tok) (s:W2) (Q:Value->W2->Prop) (E:Value->W2->Prop),Q (.int (g i) s.toks) { s with toks:=s.toks + 1 }->W5 (model X.prog X.w) X.A (f (.int i t)) Q E s) :
  uG X f (rU λi=>.int (g i)):=by
 intro pins s σ H x v Q I rx h;obtain⟨i,rfl,q⟩:=h;obtain⟨t,rfl⟩:=rx;exact rule i t s _ _ ⟨.int (g i),H,I.tok _,⟨_,rfl⟩,q⟩
theorem AA:uG X (unaryOp .USub) (rU λi=>.int (-i)):=Ho λ_ _ _ _ _ q=>neg_int q
end
section
variable {X:Cx} {a b c:Expr} {ta tb tc:TE} {pos:Pos}
theorem nJ(I:Inv X pins σ H s)(q:Q (.bl k) H)(e:k=k'):EP X pins σ Q (.bool k') s:=by
 subst e;exact⟨.bl k,H,I,rfl,q⟩
theorem Hq:bz X (Wz .Lt) (iM λi j=>.bl (decide (i < j))):=rN λ_ _ _ _ _ _ _ q=>lt_int q
theorem Hr:bz X (Wz .LtE) (iM λi j=>.bl (decide (i<=j))):=rN λ_ _ _ _ _ _ _ q=>le_int q
theorem Ht:bz X (Wz .Gt) (iM λi j=>.bl (decide (j < i))):=rN λ_ _ _ _ _ _ _ q=>gt_int q
theorem Hu:bz X (Wz .GtE) (iM λi j=>.bl (decide (j<=i))):=rN λ_ _ _ _ _ _ _ q=>ge_int q
theorem Hv:bz X (Wz .Lt) (λx y H Q=>∃ i j,x = .str i/\y = .str j/\Q (.bl (decide (i.cps.toList < j.cps.toList))) H):=by
 intro pins s σ H x y v u Q I rx ry h;obtain⟨i,j,rfl,rfl,q⟩:=h;obtain⟨t,rfl⟩:=rx;obtain⟨t',rfl⟩:=ry;exact lt_str (nJ I q rfl)
theorem Hw:bz X (Wz .In) (λx y H Q=>∃ i j,x = .str i/\y = .str j/\Q (.bl (!(Je j i 0 j.length 1).isEmpty)) H):=by
 intro pins s σ H x y v u Q I rx ry h;obtain⟨i,j,rfl,rfl,q⟩:=h;obtain⟨t,rfl⟩:=rx;obtain⟨t',rfl⟩:=ry;exact in_str (nJ I q rfl)
theorem AB:bz X (Wz .Is) (λx y H Q=>y = .ax/\Q (.bl (decide (x = .ax))) H):=by
 intro pins s σ H x y v u Q I rx ry h;obtain⟨rfl,q⟩:=h
 cases ry;refine is_none_gen (nJ I q ?_)
 cases x <;> first
  | (cases rx; rfl)
  | (obtain⟨t,rfl⟩:=rx; rfl)
theorem uJ:bz X (Wz .IsNot) (λx y H Q=>y = .ax/\Q (.bl (!decide (x = .ax))) H):=by
 intro pins s σ H x y v u Q I rx ry h;obtain⟨rfl,q⟩:=h
 cases ry;refine isnot_none_gen (nJ I q ?_)
 cases x <;> first
  | (cases rx; rfl)
  | (obtain⟨t,rfl⟩:=rx; rfl)
theorem Hx:bz X (Wz .NotIn) (λx y H Q=>∃ i j,x = .str i/\y = .str j/\Q (.bl (!(!(Je j i 0 j.length 1).isEmpty))) H):=by
 intro pins s σ H x y v u Q I rx ry h;obtain⟨i,j,rfl,rfl,q⟩:=h;obtain⟨t,rfl⟩:=rx;obtain⟨t',rfl⟩:=ry;exact notIn_str (nJ I q rfl)
theorem bz.or(h:bz X f r)(h':bz X f r'):bz X f (λx y H Q=>r x y H Q\/r' x y H Q):=by
 intro pins s σ H x y v u Q I rx ry q;rcases q with q | q
 ·exact h pins s σ H x y v u Q I rx ry q
 ·exact h' pins s σ H x y v u Q I rx ry q
theorem cQ(b:Expr)(h:op≠.In:=by decide)(h2:op≠.NotIn:=by decide):Qo op b=false:=by
 have e1:(op == CmpOp.In)=false:=by cases op <;> first | rfl | exact absurd rfl h
 have e2:(op == CmpOp.NotIn)=false:=by cases op <;> first | rfl | exact absurd rfl h2
 cases b <;> simp[Qo,e1,e2]
theorem AD{op:CmpOp}{r:R2}(ho:bz X (Wz op) r)(ha:PE X a ta)(hb:PE X b tb)(hm:Qo op b=false):PE X (.Compare a [op] [b] pos) (l5 r ta tb):=by
 intro pins s σ H Q I h;exact wpAny_Compare1 (uI ha hb I h λv u s2 x y H2 I2 rx ry q=>ho pins s2 σ H2 x y v u Q I2 rx ry q) hm
def Hy(t:TE):TT:=λσ H Q=>t σ H λx H'=>∃ k,x = .bl k/\Q k H'
theorem AE(ho:bz X (Wz op) r)(ha:PE X a ta)(hb:PE X b tb)(hm:Qo op b=false):PT X (.Compare a [op] [b] pos) (Hy (l5 r ta tb)):=by
 intro pins s σ H Q I h;refine wpAny_isTrue_Compare1 (aQ (ha pins s σ H _ I h) λv s1 ⟨x,H1,I1,r1,q1⟩=>aQ (hb pins s1 σ H1 _ I1 q1) λu s2 ⟨y,H2,I2,r2,q2⟩ =>
  aQ (ho pins s2 σ H2 x y v u _ I2 r1 r2 q2) λc s3 ⟨z,H3,I3,r3,k,e,q3⟩=>?_) hm
 subst e
 cases r3;exact QB ⟨H3,I3,q3⟩
theorem nK:(W6:Nat) < 2 ^ 63:=by rw[J0]; decide
theorem Hz:bz X (Qi .Add) (λx y H Q=>∃ i j,x = .str i/\y = .str j/\i.length + j.length<=W6/\Q (.str (i ++ j)) H):=by
 intro pins s σ H x y v u Q I rx ry h;obtain⟨i,j,rfl,rfl,hz,q⟩:=h;obtain⟨t,rfl⟩:=rx;obtain⟨t',rfl⟩:=ry;exact add_str (λt' tk=>⟨.str (i ++ j),H,I.tok _,⟨_,rfl⟩,q⟩) hz
theorem fW(r:Vals [x] us):∃ u,us=[u]/\RelV x u:=by
 cases r with
 | cons r1 r2=>cases r2; exact⟨_,rfl,r1⟩
theorem AF(r:Vals [x,y] us):∃ u w',us=[u,w']/\RelV x u/\RelV y w':=by
 cases r with
 | cons r1 r2 =>
  cases r2 with
  | cons r3 r4=>cases r4; exact⟨_,_,rfl,r1,r3⟩
theorem HA:dM X (.builtin "abs") (λxs H Q=>∃ i,xs=[.int i]/\Q (.int (if i < 0 then -i else i)) H):=by
 intro pins s σ H xs us Q I r h;obtain⟨i,rfl,q⟩:=h;obtain⟨u,rfl,t,rfl⟩:=fW r;exact call_abs_int λu tk=>⟨.int (if i < 0 then -i else i),H,I.tok _,⟨_,rfl⟩,q⟩
theorem HB (hc:X.calm=true):dM X (.builtin "max") (λxs H Q=>∃ i j,xs=[.int i,.int j]/\Q (.int (if j > i then j else i)) H):=by
 intro pins s σ H xs us Q I r h;obtain⟨i,j,rfl,q⟩:=h;obtain⟨u,w',rfl,⟨t,rfl⟩,⟨t',rfl⟩⟩:=AF r;refine max_two_ints (I.ok.hd hc) λh' tk k=>⟨_,H,I.kept k,?_,q⟩
 by_cases hj:j > i
 ·rw[if_pos hj,if_pos hj]; exact⟨_,rfl⟩
 ·rw[if_neg hj,if_neg hj]; exact⟨_,rfl⟩
theorem HC:dM X (.type "int") (λxs H Q=>(∃ i,xs=[.int i]/\Q (.int i) H)\/∃ k,xs=[.bl k]/\Q (.int (if k then 1 else 0)) H):=by
 intro pins s σ H xs us Q I r h;rcases h with ⟨i,rfl,q⟩ | ⟨k,rfl,q⟩
 ·obtain⟨u,rfl,t,rfl⟩:=fW r;exact call_int_int ⟨.int i,H,I,⟨_,rfl⟩,q⟩
 ·obtain⟨u,rfl,r1⟩:=fW r
  cases r1;exact call_int_bool ⟨.int (if k then 1 else 0),H,I.tok _,⟨_,rfl⟩,q⟩
end
structure uK(h:Heap)(x dx C:Addr)(mA:Str->Option Value):Prop where
 obj:h.get? x=some (PySem.W.instObj C dx)
 ns:h.Ns1 dx mA
 ne:dx≠x
theorem HD{h:Heap}{dx:Addr}{mA:Str->Option Value}(n:h.Ns1 dx mA):∃ od,h.get? dx=some od/\∀ name,PySem.W.lookIn name od=some (mA name):=by
 obtain⟨o,es,ep,ho,hd,hk,_,hm⟩:=n;refine⟨o,ho,λname=>?_⟩;have e:=hm name;unfold nsFind findBy at e;rw[<- Array.find?_toList] at e;unfold PySem.W.lookIn;rw[hd];dsimp only;split
 ·rename_i y q;rw[q] at e;exact congrArg some e
 ·rename_i q;rw[q] at e;have a:es.toList.any (·.refKey)=false:=by
   rw[List.any_eq_false];intro y hy;obtain⟨z,t,hkey⟩:=hk y (Array.mem_toList_iff.mp hy);simp[DictEntry.refKey,hkey]
  have a':¬ es.toList.any (·.refKey)=true:=by rw[a]; exact WW
  rw[if_neg a'];exact congrArg some e
theorem uK.look(I:uK h x dx C mA):∃ od,PySem.W.InstAt h x (PySem.W.instObj C dx) C (some od)/\∀ name,PySem.W.lookIn name od=some (mA name) :=
 let ⟨od,ho,hl⟩:=HD I.ns
 ⟨od,⟨I.obj,rfl,rfl,ho⟩,hl⟩
section
variable {prog:Wj} {w:Wp} {A:Wq} {E:Value->W2->Prop} {s:W2} {K:W1} {x dx C f:Addr} {mA:Str->Option Value} {name:Str} {v:Value}
end
theorem eX.some_of(r:eX (some v) o):∃ u,o=some u/\RelV v u:=by
 cases o with
 | none=>exact(show False from r).elim
 | some u=>exact⟨u,rfl,r⟩
theorem eX.none_of(r:eX none o):o=none:=by
 cases o with
 | none=>rfl
 | some u=>exact(show False from r).elim
section
variable {P:Wj} {w:Wp} {H H':Hp} {h h':Heap} {a C dx:Addr} {fs Gq:List (Str×V)}
theorem HE(aD:cB P w H h)(e:H a=some (.ins C dx fs)):∃ mA,uK h a dx C mA/\(∀ f,eX (fs.lookup f) (mA f))/\PySem.Within mA (fs.map (·.1))/\fs.length<=1000/\H dx=some (.own a):=by
 obtain⟨d,z,ne,ob,mA,n,r,q⟩:=(show bZ P w H h a (.ins C dx fs) from aD a _ e)
 exact⟨mA,⟨ob,n,ne⟩,r,q,z,d⟩
end
structure uL(K:W1)(C:Addr):Prop where
 pg:PySem.W.plainGet K C Str.empty=true
 hd:PySem.W.hasDictIn K C=true
 po:PySem.W.plainOver K C=true
 sa:PySem.W.findIn K (.ref C) "__setattr__" = some (some (.builtin "object.__setattr__"))
theorem uL.get{K:W1}{C:Addr}(c:uL K C)(f:Str):PySem.W.plainGet K C f=true:=c.pg
section
variable {X:Cx} {pins:List (Addr×Obj)} {σ:St} {H:Hp} {s:W2} {a C dx:Addr} {fs:List (Str×V)} {f:Str} {v:V} {A:Wq} {E:Value->W2->Prop}
end
section
variable {X:Cx} {o e value:Expr} {f:Str} {pos pos' tpos:Pos} {ta tv:TE}
end
section
variable {X:Cx} {pins:List (Addr×Obj)} {σ:St} {H:Hp} {s:W2} {A:Wq} {E:Value->W2->Prop} {Q:Value->W2->Prop} {c:Value} {b:Bool}
inductive iN (K:W1) (H:Hp):V->Value->Prop where
 | ax:iN K H .ax (.type "NoneType")
 | bl (x:Bool):iN K H (.bl x) (.type "bool")
 | int (i:Int):iN K H (.int i) (.type "int")
 | str (x:Str):iN K H (.str x) (.type "str")
 | flt (x:UInt64):iN K H (.flt x) (.type "float")
 | lst {a:Addr} {xs:List V} (e:H a=some (.lst xs)):iN K H (.ref a) (.type "list")
 | frz {a:Addr} {o:Obj} {xs:List V} (e:H a=some (.frz o (.lst xs))):iN K H (.ref a) (.type "list")
 | tup {a:Addr} {xs:List V} (e:H a=some (.tup xs)):iN K H (.ref a) (.type "tuple")
 | dK {a:Addr} {kvs:List (Key×V)} (e:H a=some (.dK kvs)):iN K H (.ref a) (.type "dict")
 | dT {a:Addr} {kvs:List (List Key×V)} (e:H a=some (.dT kvs)):iN K H (.ref a) (.type "dict")
 | ins {a C dx:Addr} {fs:List (Str×V)} (e:H a=some (.ins C dx fs)) (cl:uL K C) (ha:PySem.W.findIn K (.ref C) "__class__" = some (some (.builtin "object.__class__")))
   (hn:PySem.W.specialIn K (.builtin "object.__class__") "__get__" = some (some (.builtin "getset_descriptor.__get__"))) (AG:PySem.W.takesIn K (.builtin "object.__class__")=some true)
   (hm:PySem.W.mroIn K C (.type "object")=some true):iN K H (.ref a) (.ref C)
theorem kZ(I:Inv X pins σ H s)(rx:RelV x u)(ty:iN X.K H x t)(e:QH X.K t c=some b)(h:∀ tk,Q (.bool b) { s with toks:=tk }) :
  W5 (model X.prog X.w) A (call (.builtin "isinstance") [u,c]) Q E s:=by
 cases ty with
 | ax=>cases (show u=Value.none from rx); exact Q8 PySem.W.kitx_none I.eO True.intro e (λz=>nomatch z) h
 | bl y=>cases (show u=Value.bool y from rx); exact Q8 PySem.W.kitx_bool I.eO True.intro e (λz=>nomatch z) h
 | int i=>obtain⟨t,q⟩:=(show ∃ t,u=Value.int i t from rx); cases q; exact Q8 PySem.W.kitx_int I.eO True.intro e (λz=>nomatch z) h
 | str y=>obtain⟨t,q⟩:=(show ∃ t,u=Value.str y t from rx); cases q; exact Q8 PySem.W.kitx_str I.eO True.intro e (λz=>nomatch z) h
 | flt y=>obtain⟨t,q⟩:=(show ∃ t,u=Value.float y t from rx); cases q; exact Q8 PySem.W.kitx_float I.eO True.intro e (λz=>nomatch z) h
 | @lst a xs ea =>
  cases (show u=Value.ref a from rx);obtain⟨_,_,n,_,h1⟩:=(show bZ X.prog X.w H s.heap a (.lst xs) from I.aD a _ ea)
  exact Q8 PySem.W.kitx_list I.eO ⟨_,h1,rfl⟩ e (λz=>nomatch z) h
 | @frz a ob xs ea =>
  cases (show u=Value.ref a from rx);obtain⟨_,_,_,n,_,h1⟩:=(show bZ X.prog X.w H s.heap a (.frz ob (.lst xs)) from I.aD a _ ea)
  exact Q8 PySem.W.kitx_list I.eO ⟨_,h1,rfl⟩ e (λz=>nomatch z) h
 | @tup a xs ea =>
  cases (show u=Value.ref a from rx);obtain⟨_,_,_,p⟩:=(show bZ X.prog X.w H s.heap a (.tup xs) from I.aD a _ ea)
  obtain⟨o,h1,h2,_⟩:=p.tup;exact Q8 PySem.W.kitx_tuple I.eO ⟨o,h1,h2⟩ e (λz=>nomatch z) h
 | @dK a kvs ea =>
  cases (show u=Value.ref a from rx);obtain⟨_,_,vs,_,p⟩:=(show bZ X.prog X.w H s.heap a (.dK kvs) from I.aD a _ ea)
  obtain⟨o,es,ep,h1,h2,_⟩:=p;exact Q8 PySem.W.kitx_dict I.eO ⟨o,h1,h2.1⟩ e (λz=>nomatch z) h
 | @dT a kvs ea =>
  cases (show u=Value.ref a from rx);obtain⟨_,_,xs,_,o,es,ep,h1,h2,_⟩:=(show bZ X.prog X.w H s.heap a (.dT kvs) from I.aD a _ ea)
  exact Q8 PySem.W.kitx_dict I.eO ⟨o,h1,h2.1⟩ e (λz=>nomatch z) h
 | @ins a C dx fs ea cl ha hn AG hm =>
  cases (show u=Value.ref a from rx);obtain⟨mA,O,_⟩:=HE I.aD ea;obtain⟨od,J,_⟩:=O.look;exact Q8 (PySem.W.kitx_own (cl.get _) cl.hd ha hn AG hm) I.eO J e (λz=>nomatch z) h
end
structure cC(k:Nat)(A:Wq):Prop where
 hd:A.handled=none
 dp:A.depth + 3 * k + 5 < recursionLimit
 un:A.units + 16 * k + 200 < WO
theorem cC.mono(r:cC k A)(h:j<=k):cC j A:=⟨r.hd,by have:=r.dp; omega,by have:=r.un; omega⟩
theorem cC.deeper(r:cC (k + 1) A)(env:Env):cC k (A.deeper env) :=
 ⟨r.hd,by have:=r.dp; show A.depth + 1 + 3 * k + 5 < _; omega,by have:=r.un; show A.units + 3 + 16 * k + 200 < _; omega⟩
theorem cC.depth(r:cC k A):A.depth < recursionLimit:=by have:=r.dp; omega
def AH:TA:=λ_ H Q=>Q [] H
def AI(ta:TE)(tr:TA):TA:=λσ H Q=>ta σ H λx H1=>tr σ H1 λxs H2=>Q (x :: xs) H2
section
variable {X:Cx} {e:Expr} {es:List Expr} {te:TE} {t:TA} {pos:Pos}
theorem gI:PA X [] AH:=λ_ _ _ _ H Q I h=>Calls.spliced_nil ⟨[],H,I,.nil,h⟩
theorem fJ(ha:PE X e te)(hr:PA X es t)(hs:Wb (e :: es) X.env=(false,eval e X.env) :: Wb es X.env:=by rfl):PA X (e :: es) (AI te t):=by
 intro pos pins s σ H Q I h;rw[hs];show W5 _ _ (spliced ((false,eval e X.env) :: Q9 pos (Wb es X.env))) _ _ s;refine Calls.spliced_cons (aQ (ha pins s σ H _ I h) λu s1 ⟨x,H1,I1,r1,q1⟩=>?_);exact aQ (hr pos pins s1 σ H1 _ I1 q1) λus s2 ⟨xs,H2,I2,r2,q2⟩=>⟨x :: xs,H2,I2,.cons r1 r2,q2⟩
def HF(t:TA):TE:=λσ H Q=>t σ H λxs H1=>xs.length<=W6/\∀ p,H1 p=none->Q (.ref p) (upd H1 p (.tup xs))
def HG(t:TA):TE:=λσ H Q=>t σ H λxs H1=>xs.length<=W6/\∀ p,H1 p=none->Q (.ref p) (upd H1 p (.lst xs))
theorem HH{x1}(h:PA X es t):PE X (.Tuple es x1 pos) (HF t):=by
 intro pins s σ H Q I hq;refine wpAny_Tuple_spliced (aQ (h pos pins s σ H _ I hq) λus s1 ⟨xs,H1,I1,r,z,q⟩=>⟨by rw[<- r.length]; exact z,?_⟩);have hf:H1 s1.heap.objs.size=none:=I1.aD.fresh (W8 _);refine⟨.ref s1.heap.objs.size,upd H1 s1.heap.objs.size (.tup xs),I1.laid (t':=s1.toks) (λb u e=>W4 _ e) (W8 _) ?_,rfl,q _ hf⟩;exact⟨z,us,r,⟨_,Wm _ rfl⟩⟩
theorem HI(h:PA X es t):PE X (.List es pos) (HG t):=by
 intro pins s σ H Q I hq;refine wpAny_List_spliced (aQ (h pos pins s σ H _ I hq) λus s1 ⟨xs,H1,I1,r,z,q⟩=>⟨by rw[<- r.length]; exact z,?_⟩);have hf:H1 s1.heap.objs.size=none:=I1.aD.fresh (W8 _);refine⟨.ref s1.heap.objs.size,upd H1 s1.heap.objs.size (.lst xs),I1.laid (t':=s1.toks) (λb u e=>W4 _ e) (W8 _) ?_,rfl,q _ hf⟩;exact⟨z,us,0,r,Wm _ rfl⟩
end
abbrev Sp:=List V->Hp->VK->XK->Prop
abbrev jc:=List Env->Hp->W2->XK->Value->W2->Prop
structure nL(P:Wj)(w:Wp)(K:W1)(mg:Str->Option Value)(base:Heap)(A:Wq)(outer:List Env)(s:W2)(H:Hp):Prop where
 frames:A.frames=some outer
 mod:Mod K mg base
 bs:∀ b o,base.get? b=some o->s.heap.get? b=some o/\H b=none
 j5:base.objs.size<=s.heap.objs.size
 h8:s.heap.FunFrames base outer
 lY:∀ b ∈ fU outer,H b=none
 aD:cB P w H s.heap
 bare:AllBare s.gens
def CE(outer:List Env)(P:Wj)(w:Wp)(H:Hp)(s:W2)(Q:VK)(u:Value)(s':W2):Prop :=
 ∃ v H',s'.os=s.os/\AllBare s'.gens/\Un (fU outer) [] H H' s.heap s'.heap/\cB P w H' s'.heap/\RelV v u/\Q v H'
def CR(CX:jc)(outer:List Env)(P:Wj)(w:Wp)(H:Hp)(s:W2)(Q:VK)(E:XK)(r:Result)(s':W2):Prop :=
 match r with
 | .ok (.ret u)=>CE outer P w H s Q u s'
 | .ok _=>False
 | .error e=>CX outer H s E e s'
structure gJ(P:Wj)(w:Wp)(K:W1)(mg:Str->Option Value)(base:Heap)(CX:jc)(k:Nat)(f:Addr)(fd:WM)(ps:List Str)(sp:Sp):Prop where
 len:∀ vs H Q E,sp vs H Q E->vs.length=ps.length
 run:∀ (A:Wq) (outer:List Env) (s:W2) (H:Hp) (args:Args) (us:List Value) (vs:List V) (Q:VK) (E:XK),cC k A->nL P w K mg base A outer s H->BindsTo s fd args (ps.zip us)->Vals vs us->sp vs H Q E ->
  Qe (model P w) A (.call (.ref f) args) (CR CX outer P w H s Q E) s
section
variable {X:Cx} {pins:List (Addr×Obj)} {σ:St} {H:Hp} {s s':W2}
theorem Inv.uM(I:Inv X pins σ H s):nL X.prog X.w X.K X.mg X.base X.A X.stack s H :=
 ⟨I.ok.frames,I.ok.mod,I.bs,WU I.ok.j5 I.sz,I.stack,I.z8,I.aD,I.bare⟩
theorem Inv.after(I:Inv X pins σ H s)(h:CE X.stack X.prog X.w H s Q u s'):EP X pins σ Q u s':=by
 obtain⟨v,H',os,bare,un,aD,r,q⟩:=h;obtain⟨hh,g,d,t,os'⟩:=s';obtain rfl:os'=s.os:=os;exact⟨v,H',I.call (h':=hh) (g':=g) (d':=d) (t':=t) (ch:=[]) un aD bare (λb z=>absurd z (by simp)),r,q⟩
end
def AJ(sp:Sp)(k7:List V)(E:XK)(t:TA):TE:=λσ H Q=>t σ H λvs H1=>sp (vs ++ k7) H1 Q E
def Binds(K:W1)(fd:WM)(ps:List Str)(ds:List Value):Prop :=
 ∀ (s:W2) (us:List Value),K.In s.heap->(us ++ ds).length=ps.length->BindsTo s fd ⟨us,[]⟩ (ps.zip (us ++ ds))
theorem Binds.all{K:W1}{fd:WM}{ps:List Str}(h:∀ us:List Value,us.length=ps.length->bindArgs fd ⟨us,[]⟩=pure (ps.zip us)):Binds K fd ps []:=λs us _ hl=>by
 rw[Qz] at hl ⊢;exact .of_eq (h us hl)
def uN(CX:jc)(X:Cx)(E:XK):Prop:=∀ (pins:List (Addr×Obj)) (σ:St) (H:Hp) (s:W2) (e:Value) (s':W2),Inv X pins σ H s->CX X.stack H s E e s'->X.xe e s'
section
variable {X:Cx} {CX:jc} {k:Nat} {f C:Addr} {fd:WM} {ps:List Str} {sp:Sp} {k7:List V} {ds:List Value} {E:XK} {x m:Str} {p pos apos:Pos} {e o:Expr} {es:List Expr} {ta:TE} {t:TA}
theorem HJ(F:gJ X.prog X.w X.K X.mg X.base CX k f fd ps sp)(hr:cC k X.A)(hb:Binds X.K fd ps ds)(hd:Vals k7 ds)(hx:uN CX X E)
  (I:Inv X pins σ H s) (r:Vals vs us) (h:sp (vs ++ k7) H Q E):W5 (model X.prog X.w) X.A (call (.ref f) us) (EP X pins σ Q) X.xe s:=by
 have r2:Vals (vs ++ k7) (us ++ ds):=r.append hd;have hl:(us ++ ds).length=ps.length:=by rw[<- r2.length]; exact F.len _ _ _ _ h
 refine wpAny_call (QL (F.run X.A X.stack s H ⟨us,[]⟩ (us ++ ds) (vs ++ k7) Q E hr I.uM (hb s us I.eO hl) r2 h) λr s' hq=>?_)
 cases r with
 | error e=>exact hx pins σ H s e s' I hq
 | ok fl =>
  cases fl with
  | ret u=>exact I.after hq
  | next=>exact False.elim hq
  | brk=>exact False.elim hq
  | cont=>exact False.elim hq
theorem AK(F:gJ X.prog X.w X.K X.mg X.base CX k f fd ps sp)(hr:cC k X.A)(hg:Gl X x)(hm:X.mg x=some (.ref f))(hk:J1 X.K (.ref f)=true)(hb:Binds X.K fd ps ds)(hd:Vals k7 ds)(hx:uN CX X E)
  (ha:PA X (e :: es) t) (gu:(x == ("__debug__" : Str))=false:=by decide) (he:Wb (e :: es) X.env=(false,eval e X.env) :: Wb es X.env:=by rfl) (dE:(Q9 pos (Wb es X.env)).any (·.1)=false:=by rfl) :
  PE X (.Call (.Name x p) (e :: es) [] pos) (AJ sp k7 E t):=by
 intro pins s σ H Q I h;refine Jh (Af I hg hm ?_ gu);refine PySem.W.callWith_K (h₀:=X.base) I.ok.mod.pf hk (aQ (ha pos pins s σ H _ I h) λus s1 ⟨vs,H1,I1,r,q⟩=>⟨I1.eO,?_⟩) he dE;exact HJ F hr hb hd hx I1 r q
end
def PK(X:Cx)(AL:List Keyword)(t:TA):Prop :=
 ∀ (pos:Pos) (pins:List (Addr×Obj)) (s:W2) (σ:St) (H:Hp) (Q:List V->Hp->Prop),Inv X pins σ H s->t σ H Q->W5 (model X.prog X.w) X.A (evalAll ((backToKw pos (Jm AL X.env)).map (·.2))) (AP X pins σ Q) X.xe s
section
variable {X:Cx} {CX:jc} {k:Nat} {f C:Addr} {fd:WM} {ps ks:List Str} {sp:Sp} {E:XK} {x m:Str} {p pos apos Tn:Pos} {e o:Expr} {es:List Expr} {AL:List Keyword} {te ta:TE} {t tk:TA} {nm:Option Str}
variable {g:List Value->List Value->List Value} {gV:List V->List V->List V}
end
structure ck(N P:List Str)(sc:Scope):Prop where
 kind:sc.kind = .function
 co:sc.isCoroutine=false
 gen:sc.isGenerator=false
 nd:N.Nodup
 pre:N.take P.length=P
 par:∀ x ∈ P,sc.names.lookup x=some .local\/sc.names.lookup x=some .cell
 uO:∀ y ∈ sc.names,y.2≠.free
theorem scc{N P:List Str}{sc:Scope}(kind:sc.kind = .function:=by rfl)(co:sc.isCoroutine=false:=by rfl)(gen:sc.isGenerator=false:=by rfl)(nd:N.Nodup:=by decide +kernel)(pre:N.take P.length=P:=by rfl)(par:∀ x ∈ P,sc.names.lookup x=some .local\/sc.names.lookup x=some .cell:=by decide +kernel)(uO:∀ y ∈ sc.names,y.2≠.free:=by decide +kernel):ck N P sc:=⟨kind,co,gen,nd,pre,par,uO⟩
theorem AM{kindOf:Str->Option NameKind}{x:Str}:∀ {binds:List (Str×Value)} {m:Str->Option Value},(∀ v,(x,v) ∉ binds)->bindL kindOf binds m x=m x
 | [],_,_=>rfl
 | (n,v) :: r,m,h=>by
  unfold bindL;rw[AM λw hw=>h w (Wh _ hw)];split
  ·have:x≠n:=by rintro rfl; exact h v Wl
   simp[this]
  ·rfl
theorem AN{kindOf:Str->Option NameKind}{x:Str}:∀ {binds:List (Str×Value)} {m:Str->Option Value},(∀ v,(x,v) ∉ binds)->bindC kindOf binds m x=m x
 | [],_,_=>rfl
 | (n,v) :: r,m,h=>by
  unfold bindC;rw[AN λw hw=>h w (Wh _ hw)];split
  ·rfl
  ·have:x≠n:=by rintro rfl; exact h v Wl
   simp[this]
theorem AO{kindOf:Str->Option NameKind}{x:Str}{v:Value}:∀ {P:List Str} {vs:List Value} {i:Nat} {m:Str->Option Value},P.Nodup->P[i]? = some x->vs[i]? = some v->kindOf x=some .local ->
  bindL kindOf (P.zip vs) m x=some v
 | [],_,_,_,_,h,_,_=>by simp at h
 | _ :: _,[],_,_,_,_,h,_=>by simp at h
 | p :: P,w :: vs,0,m,nd,h1,h2,hk=>by
  simp at h1 h2; subst h1; subst h2
  show bindL kindOf ((p,w) :: P.zip vs) m p=_;unfold bindL;rw[AM λv hv=>(WP.mp nd).1 (JT hv).1,if_pos hk];simp
 | p :: P,w :: vs,i + 1,m,nd,h1,h2,hk=>by
  show bindL kindOf ((p,w) :: P.zip vs) m x=_;unfold bindL;exact AO (i:=i) (WP.mp nd).2 (by simpa using h1) (by simpa using h2) hk
theorem AQ{kindOf:Str->Option NameKind}{x:Str}{v:Value}:∀ {P:List Str} {vs:List Value} {i:Nat} {m:Str->Option Value},P.Nodup->P[i]? = some x->vs[i]? = some v->kindOf x≠some .local ->
  bindC kindOf (P.zip vs) m x=some v
 | [],_,_,_,_,h,_,_=>by simp at h
 | _ :: _,[],_,_,_,_,h,_=>by simp at h
 | p :: P,w :: vs,0,m,nd,h1,h2,hk=>by
  simp at h1 h2; subst h1; subst h2
  show bindC kindOf ((p,w) :: P.zip vs) m p=_;unfold bindC;rw[AN λv hv=>(WP.mp nd).1 (JT hv).1,if_neg hk];simp
 | p :: P,w :: vs,i + 1,m,nd,h1,h2,hk=>by
  show bindC kindOf ((p,w) :: P.zip vs) m x=_;unfold bindC;exact AQ (i:=i) (WP.mp nd).2 (by simpa using h1) (by simpa using h2) hk
def b7(N:List Str)(vs:List V):St:=vs.map some ++ Wg (N.length - vs.length) none
def fK(CX:jc)(P:Wj)(w:Wp)(K:W1)(mg:Str->Option Value)(base:Heap)(N:List Str)(qual:Str)(scope:Scope)(f:Addr)(cd:Value)(A:Wq)(outer:List Env)(s:W2)(H:Hp)(E:XK):Cx where
 prog:=P
 w:=w
 K:=K
 mg:=mg
 base:=base
 A:=A.deeper (J5 qual scope s.heap.objs.size f cd)
 N:=N
 s₀:=s
 H₀:=H
 env:=J5 qual scope s.heap.objs.size f cd
 outer:=outer
 stack:=J5 qual scope s.heap.objs.size f cd :: outer
 ex:=[]
 calm:=true
 fn:=λ_=>true
 pn:=[]
 xe:=λe s'=>W5 (model P w) (A.deeper (J5 qual scope s.heap.objs.size f cd)) (leaving (J5 qual scope s.heap.objs.size f cd) e) (λ_ l6=>CX outer H s E e l6) (λe' l6=>CX outer H s E e' l6) s'
theorem AR{sc:Scope}{n:Nat}{x:Str}(h:sc.names.lookup x=some .cell):∃ c,(Qs n sc.names []).lookup x=some c:=by
 have q:=Jn sc.names n [] (.inl h);exact Option.isSome_iff_exists.mp q
theorem AS{CX:jc}{P:Wj}{w:Wp}{K:W1}{mg:Str->Option Value}{base:Heap}{N ps:List Str}{qual:Str}{scope:Scope}{f:Addr}{cd:Value}{A:Wq}{outer:List Env}{s s1:W2}{H:Hp}{E:XK}{us:List Value}{vs:List V}
  (S:ck N ps scope) (hd:A.handled=none) (e0:nL P w K mg base A outer s H) (hl:vs.length=ps.length) (r:Vals vs us)
  (x:InCallC s s.heap.objs.size (bindL (J5 qual scope s.heap.objs.size f cd).kindOf (ps.zip us) λ_=>none) (Qs (s.heap.objs.size + 1) scope.names []) (bindC (J5 qual scope s.heap.objs.size f cd).kindOf (ps.zip us) λ_=>none) s1) :
  Inv (fK CX P w K mg base N qual scope f cd A outer s H E) [] (b7 N vs) H s1:=by
 have dE:ps.length<=N.length:=by have:=congrArg Qx S.pre; rw[JP] at this; omega
 obtain⟨h1,tk,rfl,hk⟩:=x.done;have jd:∀ b:Addr,b ∉ (fK CX P w K mg base N qual scope f cd A outer s H E).ex:=λb z=>absurd (show b ∈ ([]:List Addr) from z) (by simp)
 refine⟨⟨e0.mod,S.kind,rfl,rfl,W8 _,λy z c h1 h2=>?_,λy hy=>?_,λy c _ h=>?_,λ_=>hd,Around.frames_deeper e0.frames,.inr ⟨rfl,rfl⟩,λb z=>absurd z (jd b),e0.bs,e0.j5,λb _ _=>jd b,λb z=>absurd z (jd b),e0.h8,e0.lY⟩,
  rfl,e0.bare,Un.kept hk,⟨_,x.toInCall.ns,λi y v h1 h2 h3=>?_⟩,λy c h=>⟨_,x.cell y c h⟩,e0.aD.fresh (W8 _),λy c h=>?_,λp hp=>absurd (show p ∈ ([]:List (Addr×Obj)) from hp) (by simp),e0.aD.kept hk,?_⟩
 ·exact name_of_addr x.apart (Wt h1) (Wt h2)
 ·have hy:scope.names.lookup y=some .cell\/scope.names.lookup y=some .free:=hy;rcases hy with hy | hy
  ·exact AR hy
  ·exact absurd rfl (S.uO _ (Wt hy))
 ·exact Jr (x.above y c (Wt h))
 ·have hi:i < vs.length:=by
   unfold b7 at h2;by_cases hi:i < vs.length
   ·exact hi
   ·rw[List.getElem?_append_right (by simpa using hi)] at h2;rw[List.getElem?_replicate] at h2;split at h2 <;> cases h2
  have ha:vs[i]? = some v:=by
   unfold b7 at h2;rw[List.getElem?_append_left (by simpa using hi),Wv] at h2
   cases e:vs[i]? with
   | none=>rw[e] at h2; cases h2
   | some a=>rw[e] at h2; cases h2; rfl
  obtain⟨u,hu,rv⟩:=r.get ha;have hp:ps[i]? = some y:=by
   rw[<- S.pre,List.getElem?_take_of_lt (by omega)]; exact h1
  have AU:ps.Nodup:=by rw[<- S.pre]; exact S.nd.sublist (List.take_sublist _ _)
  refine⟨u,rv,?_⟩;rcases S.par y (WC hp) with k | k
  ·exact .inl ⟨k,AO AU hp hu k⟩
  ·obtain⟨c,e⟩:=AR (n:=s.heap.objs.size + 1) k;refine .inr ⟨.inl k,c,e,?_⟩;have q:=x.cell y c e;rw[AQ AU hp hu (by show scope.names.lookup y≠_; rw[k]; decide)] at q;exact q
 ·exact e0.aD.fresh (Jr (x.above y c (Wt h)))
 ·unfold b7;show _=N.length;rw[Q2,WA,List.length_replicate];omega
theorem AV{CX:jc}{P:Wj}{w:Wp}{K:W1}{mg:Str->Option Value}{base:Heap}{k:Nat}{f:Addr}{name qual:Str}{params:Arguments}{body:List Stmt}{scope:Scope}{dV kV doc pm aJ ct oc:Value}{an od:Option Addr}
  {eC:Array (Option Value)} {N ps:List Str} {sp:Sp} (lk:K.lookup f=some ⟨oc,od,.func (WZ name qual params body scope dV kV doc pm an aJ ct),eC⟩) (fV:PySem.W.codeIn K aJ qual=true) (S:ck N ps scope)
  (len:∀ vs H Q E,sp vs H Q E->vs.length=ps.length)
  (eE:∀ (A:Wq) (outer:List Env) (s:W2) (H:Hp) (vs:List V) (Q:VK) (E:XK),cC k (A.deeper (J5 qual scope s.heap.objs.size f aJ))->sp vs H Q E ->
   ∃ t,dU (fK CX P w K mg base N qual scope f aJ A outer s H E) body t/\t { nx:=λ_ H'=>Q .ax H',rt:=Q } (b7 N vs) H) :
  gJ P w K mg base CX (k + 1) f (WZ name qual params body scope dV kV doc pm an aJ ct) ps sp:=by
 refine⟨len,λA outer s H args us vs Q E hr e0 hb r je=>?_⟩;have hl:=len _ _ _ _ je;have KX:K.In s.heap:=e0.mod.pf.keeps λb o e=>(e0.bs b o e).1
 have lim:s.heap.NoLimit:=e0.mod.nolimit.keeps λb o e=>(e0.bs b o e).1
 have uP:∀ y ∈ ps.zip us,scope.names.lookup y.1=some .local\/(scope.names.lookup y.1=some .cell/\((Qs (s.heap.objs.size + 1) scope.names []).lookup y.1).isSome=true):=λ⟨n,v⟩ hy=>by
  rcases S.par n (JT hy).1 with q | q
  ·exact .inl q
  ·exact .inr ⟨q,Jn _ _ _ (.inl q)⟩
 refine codeAny_call_function hr.depth (KX _ _ lk) rfl S.co S.gen rfl (PySem.W.codeRec_of KX fV) (hb _ _ _ _ ?_);refine wpAny_newFunctionEnv_cells S.kind uP λenv he s1 x=>?_
 subst he;refine⟨lim.keeps x.toInCall.keep,codeAny_func ?_⟩;obtain⟨t,ht,hq⟩:=eE A outer s H vs Q E (hr.deeper _) je;have I:Inv (fK CX P w K mg base N qual scope f aJ A outer s H E) [] (b7 N vs) H s1:=AS S hr.hd e0 hl r x;refine WE (ht [] s1 (b7 N vs) H _ I hq) (λfl s' hs=>?_) λe s' hs=>hs
 have fin:∀ {σ':St} {H':Hp} {v:V} {u:Value},Inv (fK CX P w K mg base N qual scope f aJ A outer s H E) [] σ' H' s'->RelV v u->Q v H'->CE outer P w H s Q u s' :=
  λ{σ' H' v u} J rv q=>⟨v,H',J.os,J.bare,J.base,J.aD,rv,q⟩
 cases fl with
 | ret u =>
  obtain⟨v,σ',H',J,rv,q⟩:=hs;exact fin J rv q
 | next =>
  obtain⟨σ',H',J,q⟩:=hs;exact fin (v:=V.ax) (u:=Value.none) J rfl q
 | brk =>
  obtain⟨_,_,_,q⟩:=hs;exact False.elim q
 | cont =>
  obtain⟨_,_,_,q⟩:=hs;exact False.elim q
section
variable {X:Cx} {x:Str} {p pos:Pos} {e:Expr} {es:List Expr} {t:TA} {id T:String} {r:List V->Hp->VK->Prop}
def AW(r:List V->Hp->VK->Prop)(t:TA):TE:=λσ H Q=>t σ H λvs H1=>r vs H1 Q
theorem rO (hc:dM X (.builtin id) r) (hg:Gl X x) (hm:X.mg x=none) (hv:Qu x=some (.builtin id)) (ha:PA X (e :: es) t) (hn:x≠"__name__":=by decide) (gu:(x == ("__debug__" : Str))=false:=by decide)
  (he:Wb (e :: es) X.env=(false,eval e X.env) :: Wb es X.env:=by rfl) (dE:(Q9 pos (Wb es X.env)).any (·.1)=false:=by rfl):PE X (.Call (.Name x p) (e :: es) [] pos) (AW r t):=by
 intro pins s σ H Q I h;refine Jh (pB I hg hm hv ?_ hn gu);exact PyProof.Rows.callWith_builtin1 (aQ (ha pos pins s σ H _ I h) λus s1 ⟨vs,H1,I1,r1,q1⟩=>hc pins s1 σ H1 vs us Q I1 r1 q1) he dE
theorem AX (hc:dM X (.type T) r) (hg:Gl X x) (hm:X.mg x=none) (hv:Qu x=some (.type T)) (ha:PA X (e :: es) t) (hn:x≠"__name__":=by decide) (gu:(x == ("__debug__" : Str))=false:=by decide)
  (he:Wb (e :: es) X.env=(false,eval e X.env) :: Wb es X.env:=by rfl) (dE:(Q9 pos (Wb es X.env)).any (·.1)=false:=by rfl):PE X (.Call (.Name x p) (e :: es) [] pos) (AW r t):=by
 intro pins s σ H Q I h;refine Jh (pB I hg hm hv ?_ hn gu);exact PyProof.Rows.callWith_type1 (aQ (ha pos pins s σ H _ I h) λus s1 ⟨vs,H1,I1,r1,q1⟩=>hc pins s1 σ H1 vs us Q I1 r1 q1) he dE
end
end L2
namespace HT
open PySem PyProof.Rows
section
open PySem.SeqAt
open PySem.AutoSeq1 (wpAny_loadPart')
open PySem.MeetsSeq PySem.MeetsSeq2 PySem.MeetsSeq3
end
section
variable {prog:Wj} {w:Wp} {A:Wq} {E:Value->W2->Prop} {s:W2}
theorem HK(ht:IsTup s.heap t vs.toArray)(hb:IsTup s.heap b ws.toArray)(hv:vs≠[])
  (h1:ws=[]->Q (.ref t) s) (h2:ws≠[]->Q (.ref s.heap.objs.size) { s with heap:=s.heap.push { cls:=.type "tuple",data:=.seq (vs ++ ws).toArray } })
  (hsz:vs.length + ws.length<=W6):W5 (model prog w) A (Qi .Add (.ref t) (.ref b)) Q E s:=by
 obtain⟨⟨cls,dd,data,sl⟩,ho,hc,n,hd⟩:=id ht;obtain⟨⟨cls2,l7,data2,k8⟩,ho2,hc2,n2,hd2⟩:=id hb;simp only at hc hd hc2 hd2;subst hc hd hc2 hd2;have e:vs.toArray ++ ws.toArray=(vs ++ ws).toArray:=by simp
 by_cases hw:ws=[]
 ·exact concat_meets ⟨_,ho,rfl⟩ ⟨_,ho2,rfl⟩ noFill_tuple_add seq_tuple_add PySem.F.slot_tuple_add PySem.F.entry_tuple_add (PySem.F.args_tuple_add_2 _ _)
   (tuple_addW1 t b vs.toArray ws.toArray n n2 dd l7 sl k8 (by simpa using hv) (by simp[hw])) ⟨ho,ho2,h1 hw⟩
 ·refine concat_meets ⟨_,ho,rfl⟩ ⟨_,ho2,rfl⟩ noFill_tuple_add seq_tuple_add PySem.F.slot_tuple_add PySem.F.entry_tuple_add (PySem.F.args_tuple_add_2 _ _)
   (tuple_addW2 t b vs.toArray ws.toArray n n2 dd l7 sl k8 (by simpa using hv) (by simpa using hw) (by rw[Wo,Wo]; exact hsz)) ⟨ho,ho2,?_⟩
  rw[e];exact h2 hw
def aZ(n d:Nat):Option Int->Nat
 | none=>d
 | some v=>if v < 0 then(v + (n:Int)).toNat else min v.toNat n
theorem uQ(n d:Nat)(hd:d<=n)(o:Option Int):aZ n d o<=n:=by
 cases o with
 | none=>exact hd
 | some v =>
  show(if v < 0 then(v + (n:Int)).toNat else min v.toNat n)<=n;by_cases hv:v < 0
  ·rw[if_pos hv]; omega
  ·rw[if_neg hv]; exact Nat.min_le_right _ _
theorem AY(v:Int)(n d:Nat):(if v < 0 then max (v + (n:Int)) 0 else min v (n:Int))=((aZ n d (some v):Nat):Int):=by
 show(if v < 0 then max (v + (n:Int)) 0 else min v (n:Int))=(((if v < 0 then(v + (n:Int)).toNat else min v.toNat n):Nat):Int);by_cases hv:v < 0
 ·simp only[if_pos hv]; omega
 ·simp only[if_neg hv]; omega
theorem HL(lo hi:Option Int)(n:Nat):Qk lo hi 1 (n:Int)=(((aZ n 0 lo:Nat):Int),((aZ n n hi:Nat):Int)):=by
 have h1:¬ ((1:Int) < 0):=by omega
 unfold Qk;simp only[h1,if_false];refine Prod.ext ?_ ?_
 ·cases lo with
  | none=>rfl
  | some v=>exact AY v n 0
 ·cases hi with
  | none=>rfl
  | some v=>exact AY v n n
theorem HM(i j:Nat):WV (i:Int) (j:Int) 1=j - i:=by
 unfold WV;have h1:(1:Int) > 0:=by omega
 simp only[h1,if_true,Int.ediv_one];split <;> omega
theorem AZ(p:IsPart v o)(h:Q o s):W5 (model prog w) A (Builtin.Slice.slicePartIndex v) Q E s:=by
 cases p with
 | none=>exact slicePart_none h
 | int i t=>exact slicePart_int h
theorem A0{sl:Addr}{vl vu:Value}{lo hi:Option Int}{n:Nat}{Q:Int×Int×Nat->W2->Prop}(hs:s.heap.IsSliceOf sl vl vu .none)(pl:IsPart vl lo)(pu:IsPart vu hi)
  (h:Q (((aZ n 0 lo:Nat):Int),1,aZ n n hi - aZ n 0 lo) s):W5 (model prog w) A (QR (.ref sl) (pure (n:Int))) Q E s:=by
 obtain⟨os,hos,hcs,hds⟩:=id hs;unfold QR Builtin.Slice.sliceFields;refine W0 (W0 (QK hos hds (x:=vl) rfl (W0 (QK hos hds (x:=vu) rfl (W0 (QK hos hds (x:=.none) rfl (W3 ?_)))))));refine W0 (slicePart_none ?_);show W5 _ _ (if ((1:Int) == 0)=true then _ else _) _ _ s;rw[if_neg (by decide)];refine W0 (AZ pl (W0 (AZ pu (W0 (W3 ?_)))));show W5 _ _ (match Qk lo hi 1 (n:Int) with | (lo,hi)=>pure (lo,(1:Int),WV lo hi 1)) _ _ s;rw[HL lo hi n];show W5 _ _ (pure (((aZ n 0 lo:Nat):Int),(1:Int),WV ((aZ n 0 lo:Nat):Int) ((aZ n n hi:Nat):Int) 1)) _ _ s;rw[HM];exact W3 h
theorem HN(xs:Array Value)(i k:Nat):((Wf k).filterMap λ(m:Nat)=>xs[((i:Int) + (m:Int) * 1).toNat]?).toArray=((xs.toList.drop i).take k).toArray:=by
 have e:(λ(m:Nat)=>xs[((i:Int) + (m:Int) * 1).toNat]?)=λm=>xs[i + m]?:=by
  funext m
  have:((i:Int) + (m:Int) * 1).toNat=i + m:=by omega
  rw[this]
 rw[e];have:=pick_run xs i k;rw[List.filterMap_map] at this;have e2:((λx=>xs[x]?) ∘ λx=>i + x)=λm=>xs[i + m]?:=rfl
 rw[e2] at this;rw[this]
theorem HP{t sl:Addr}{items:Array Value}{vl vu:Value}{lo hi:Option Int}{Q:Value->W2->Prop}(ht:IsTup s.heap t items)(hs:s.heap.IsSliceOf sl vl vu .none)(pl:IsPart vl lo)(pu:IsPart vu hi)
  (hw:¬ (aZ items.size 0 lo=0/\aZ items.size items.size hi=items.size))
  (h:Q (.ref s.heap.objs.size) { s with heap:=s.heap.push { cls:=.type "tuple",data:=.seq ((items.toList.drop (aZ items.size 0 lo)).take (aZ items.size items.size hi - aZ items.size 0 lo)).toArray } })
  (hsz:items.size<=W6):W5 (model prog w) A (Jy (.ref t) (.ref sl)) Q E s:=by
 have j9:sizeOk (.seq ((items.toList.drop (aZ items.size 0 lo)).take (aZ items.size items.size hi - aZ items.size 0 lo)).toArray):=by
  show((items.toList.drop (aZ items.size 0 lo)).take (aZ items.size items.size hi - aZ items.size 0 lo)).toArray.size<=W6;rw[Wo,JP,List.length_drop,Qh];omega
 have hj:aZ items.size items.size hi<=items.size:=uQ _ _ (W8 _) hi;obtain⟨os,hos,hcs,hds⟩:=id hs;have pG:s.TypeIs (.ref sl) "slice":=⟨os,hos,hcs⟩
 unfold Jy;try with_reducible refine WR ?_
 first | refine W0 (W3 ?_) | skip
 refine W0 (wpAny_sequenceKey ht.typeIs (by decide) ?_);refine W0 (WT (name:=Str.ofString "__getitem__") ht.typeIs Q1
  (Q5 Q1 ht.typeIs entry_tuple_getitem ?_ (args_tuple_getitem _ _)))
 show W5 _ _ (Builtin.Tuple.tupleItemsOf (.ref t) >>= _) _ _ s;refine W0 (tupleItemsOf_ ht ?_);refine W0 (QM pG ?_);rw[if_pos (by decide)];refine W0 (A0 hs pl pu ?_);have j_:¬ ((((aZ items.size 0 lo:Nat):Int) == 0 && (1:Int) == 1 && (aZ items.size items.size hi - aZ items.size 0 lo) == items.size)=true):=by
  intro q;rw[Wk,Wk] at q;have q1:((aZ items.size 0 lo:Nat):Int)=0:=JD q.1.1;have q2:aZ items.size items.size hi - aZ items.size 0 lo=items.size:=JD q.2;exact hw ⟨by omega,by omega⟩
 show W5 _ _ (if (((aZ items.size 0 lo:Nat):Int) == 0 && (1:Int) == 1 && (aZ items.size items.size hi - aZ items.size 0 lo) == items.size)=true then _ else _) _ _ s;rw[if_neg j_,HN];first
  | exact W0 (m:=Q0 _) (WB (W3 ⟨_,rfl,W3 h⟩) j9)
  | exact W0 (m:=Q0 _) (WB (W0 (W3 (W3 ⟨_,rfl,W3 h⟩))) j9)
  | exact W0 (W0 (m:=Q0 _) (WB (W3 (W3 ⟨_,rfl,W3 h⟩)) j9))
  | exact W0 (W0 (m:=Q0 _) (WB (W3 ⟨_,rfl,W3 h⟩) j9))
end
end HT
namespace L2
open PySem PySem.Spec PyProof.Rows
abbrev TO:=St->Hp->(Option Int->Hp->Prop)->Prop
def PO(X:Cx)(e:Option Expr)(t:TO):Prop :=
 ∀ (pins:List (Addr×Obj)) (s:W2) (σ:St) (H:Hp) (Q:Option Int->Hp->Prop),Inv X pins σ H s->t σ H Q ->
  W5 (model X.prog X.w) X.A (evalPart e X.env) (λu s'=>∃ o H',Inv X pins σ H' s'/\IsPart u o/\Q o H') X.xe s
def HQ:TO:=λ_ H Q=>Q none H
def HR(t:TE):TO:=λσ H Q=>t σ H λx H1=>∃ i,x = .int i/\Q (some i) H1
section
variable {X:Cx} {e:Expr} {te:TE} {lo hi:Option Expr} {tl th:TO} {pos p2:Pos}
theorem HS:PO X none HQ:=by
 intro pins s σ H Q I h;rw[evalPart_none];exact W3 ⟨none,H,I,.none,h⟩
theorem HU(h:PE X e te):PO X (some e) (HR te):=by
 intro pins s σ H Q I hw;rw[evalPart_some];refine aQ (h pins s σ H _ I hw) λu s1 ⟨x,H1,I1,r1,q1⟩=>?_
 obtain⟨i,rfl,q⟩:=q1;obtain⟨t,rfl⟩:=r1;exact⟨some i,H1,I1,.int i t,q⟩
def jH(X:Cx)(r:V->Option Int->Option Int->Hp->VK->Prop):Prop :=
 ∀ (pins:List (Addr×Obj)) (s:W2) (σ:St) (H:Hp) (x:V) (v vl vu:Value) (lo hi:Option Int) (sl:Addr) (Q:VK),Inv X pins σ H s->RelV x v->s.heap.IsSliceOf sl vl vu .none->IsPart vl lo->IsPart vu hi->r x lo hi H Q ->
  ∃ T id,typeLookup (.type T) "__getitem__" = pure (some (.builtin id))/\s.TypeIs v T/\W5 (model X.prog X.w) X.A (Jy v (.ref sl)) (EP X pins σ Q) X.xe s
theorem jH.or(h:jH X r)(h':jH X r'):jH X (λx lo hi H Q=>r x lo hi H Q\/r' x lo hi H Q):=by
 intro pins s σ H x v vl vu lo hi sl Q I rx hs pl pu q;rcases q with q | q
 ·exact h pins s σ H x v vl vu lo hi sl Q I rx hs pl pu q
 ·exact h' pins s σ H x v vl vu lo hi sl Q I rx hs pl pu q
def HV(r:V->Option Int->Option Int->Hp->VK->Prop)(te:TE)(tl th:TO):TE:=λσ H Q=>te σ H λx H1=>tl σ H1 λl H2=>th σ H2 λu H3=>r x l u H3 Q
theorem A1(hr:jH X r)(he:PE X e te)(hl:PO X lo tl)(hu:PO X hi th):PE X (.Subscript e (.Slice lo hi none p2) pos) (HV r te tl th):=by
 intro pins s σ H Q I h;refine Subscript_ (aQ (he pins s σ H _ I h) λv s1 ⟨x,H1,I1,r1,q1⟩=>?_);refine wpAny_Slice (aQ (hl pins s1 σ H1 _ I1 q1) λvl s2 ⟨l,H2,I2,pl,q2⟩=>aQ (hu pins s2 σ H2 _ I2 q2) λvu s3 ⟨u,H3,I3,pu,q3⟩=>?_);rw[evalPart_none];refine W3 ?_;have I4:Inv X pins σ H3 { s3 with heap:=s3.heap.push { cls:=.type "slice",data:=.fields #[vl,vu,.none] } }:=I3.kept (t':=s3.toks) λb ob q=>W4 _ q
 obtain⟨T,id,hT,ht,hg⟩:=hr pins { s3 with heap:=s3.heap.push { cls:=.type "slice",data:=.fields #[vl,vu,.none] } } σ H3 x v vl vu l u s3.heap.objs.size Q I4 r1 (Heap.IsSliceOf.new ..) pl pu q3;show W5 (model X.prog X.w) X.A (subscriptTail e (.Slice lo hi none p2) v (.ref s3.heap.objs.size)) (EP X pins σ Q) X.xe { s3 with heap:=s3.heap.push { cls:=.type "slice",data:=.fields #[vl,vu,.none] } };exact tail_any (ops:=[.ref s3.heap.objs.size,v]) ht hT hg (by with_unfolding_all rfl)
def k9(xs:List V)(lo hi:Option Int):List V:=(xs.drop (HT.aZ xs.length 0 lo)).take (HT.aZ xs.length xs.length hi - HT.aZ xs.length 0 lo)
theorem A2(xs:List V)(lo hi:Option Int):(k9 xs lo hi).length<=xs.length:=by
 unfold k9;rw[JP,List.length_drop];omega
def HW(K:W1):V->Option Int->Option Int->Hp->VK->Prop:=λx lo hi H Q=>∃ a xs,x = .ref a/\cq K H a xs /\
 ¬ (HT.aZ xs.length 0 lo=0/\HT.aZ xs.length xs.length hi=xs.length)/\∀ p,H p=none->Q (.ref p) (upd H p (.tup (k9 xs lo hi)))
theorem HX:jH X (HW X.K):=by
 intro pins s σ H x v vl vu lo hi sl Q I rx hs pl pu h;obtain⟨a,xs,rfl,hx,hw,q⟩:=h
 cases rx;obtain⟨ae,r,ht,hz⟩:=I.tuple hx;have hlen:ae.toArray.size=xs.length:=by rw[Wo]; exact r.length.symm
 refine⟨"tuple",_,PyProof.Rows.slot_tuple_getitem.lookup,ht.typeIs,?_⟩;refine HT.HP ht hs pl pu (by rw[hlen]; exact hw) ?_ (by rw[hlen]; exact hz);rw[hlen];refine⟨.ref s.heap.objs.size,_,I.laid (t':=s.toks) (o:=.tup (k9 xs lo hi)) (λb ob q=>W4 _ q) (W8 _) ?_,rfl,q _ (I.aD.fresh (W8 _))⟩;exact⟨WU (A2 xs lo hi) hz,_,(r.drop (HT.aZ xs.length 0 lo)).take (HT.aZ xs.length xs.length hi - HT.aZ xs.length 0 lo),hU.new _ _⟩
def A3(K:W1):R2:=λx y H Q=>∃ a b xs ys,x = .ref a/\y = .ref b/\cq K H a xs/\cq K H b ys/\xs≠[]/\xs.length + ys.length<=W6 /\
 (ys=[]->Q (.ref a) H)/\(ys≠[]->∀ p,H p=none->Q (.ref p) (upd H p (.tup (xs ++ ys))))
theorem Vals.rP(r:Vals xs us):us=[] ↔ xs=[]:=by
 cases r with
 | nil=>simp
 | cons _ _=>simp
theorem HY:bz X (Qi .Add) (A3 X.K):=by
 intro pins s σ H x y v u Q I rx ry h;obtain⟨a,b,xs,ys,rfl,rfl,ha,hb,hx,hz,q1,q2⟩:=h
 cases rx
 cases ry;obtain⟨ae,r1,p1,_⟩:=I.tuple ha;obtain⟨its2,r2,p2,_⟩:=I.tuple hb;refine HT.HK p1 p2 (λz=>hx (r1.rP.mp z)) (λz=>⟨.ref a,H,I,rfl,q1 (r2.rP.mp z)⟩) (λz=>?_) (by rw[<- r1.length,<- r2.length]; exact hz);refine⟨.ref s.heap.objs.size,_,I.laid (t':=s.toks) (o:=.tup (xs ++ ys)) (λb ob q=>W4 _ q) (W8 _) ?_,rfl,q2 (λw=>z (r2.rP.mpr w)) _ (I.aD.fresh (W8 _))⟩;exact⟨by rw[Q2]; exact hz,_,r1.append r2,hU.new _ _⟩
end
def fw(n:Nat)(i:Int):Option Nat:=if 0<=i then(if i < n then some i.toNat else none) else if -(n:Int)<=i then some (i + n).toNat else none
def cR{α:Type}(xs:List α)(i:Int):Option α:=(fw xs.length i).bind λj=>xs[j]?
theorem A4(h:fw n i=some j):seqIndex? i n=some j/\j < n/\-(n:Int)<=i/\i < n:=by
 unfold fw at h;by_cases h0:0<=i
 ·rw[if_pos h0] at h;by_cases h1:i < n
  ·rw[if_pos h1] at h;have e:i.toNat=j:=Wy h;exact⟨by rw[seqIndex_of h0 h1,e],by omega,by omega,h1⟩
  ·rw[if_neg h1] at h; cases h
 ·rw[if_neg h0] at h;by_cases h1 : -(n:Int)<=i
  ·rw[if_pos h1] at h;have e:(i + n).toNat=j:=Wy h;exact⟨by rw[seqIndex_neg (by omega) h1,e],by omega,h1,by omega⟩
  ·rw[if_neg h1] at h; cases h
theorem uR(h:cR xs i=some v):∃ j,seqIndex? i xs.length=some j/\xs[j]? = some v/\j < xs.length/\-(xs.length:Int)<=i/\i < xs.length:=by
 unfold cR at h
 cases e:fw xs.length i with
 | none=>rw[e] at h; cases h
 | some j =>
  rw[e] at h;obtain⟨h1,h2,h3,h4⟩:=A4 e;exact⟨j,h1,h,h2,h3,h4⟩
def uS(b:Expr):Prop:=∀ o i,subscripted b false o i=operate [o,i] (Jy o i)
def ic(X:Cx)(r:R2):Prop :=
 ∀ (value slice:Expr) (pins:List (Addr×Obj)) (s:W2) (σ:St) (H:Hp) (x y:V) (v u:Value) (Q:VK),Inv X pins σ H s->RelV x v->RelV y u->r x y H Q ->
  subscripted slice false v u=operate [v,u] (Jy v u)->W5 (model X.prog X.w) X.A (subscriptTail value slice v u) (EP X pins σ Q) X.xe s
def uT(X:Cx)(id:String)(r:V->List V->Hp->VK->Prop):Prop :=
 ∀ (pins:List (Addr×Obj)) (s:W2) (σ:St) (H:Hp) (x:V) (xs:List V) (v:Value) (us:List Value) (Q:VK),Inv X pins σ H s->RelV x v->Vals xs us->r x xs H Q ->
  W5 (model X.prog X.w) X.A (call (.builtin id) (v :: us)) (EP X pins σ Q) X.xe s
section
variable {X:Cx} {a b:Expr} {ta tb:TE} {pos:Pos}
theorem ic.or(h:ic X r)(h':ic X r'):ic X (λx y H Q=>r x y H Q\/r' x y H Q):=by
 intro value slice pins s σ H x y v u Q I rx ry q hs;rcases q with q | q
 ·exact h value slice pins s σ H x y v u Q I rx ry q hs
 ·exact h' value slice pins s σ H x y v u Q I rx ry q hs
theorem A5(hr:ic X r)(ha:PE X a ta)(hb:PE X b tb)(hs:uS b):PE X (.Subscript a b pos) (l5 r ta tb):=by
 intro pins s σ H Q I h;exact Subscript_ (uI ha hb I h λv u s2 x y H2 I2 rx ry q=>hr a b pins s2 σ H2 x y v u Q I2 rx ry q (hs _ _))
def A6(K:W1):R2:=λx y H Q=>∃ p xs i v,x = .ref p/\y = .int i/\cj K H p xs/\cR xs i=some v/\Q v H
def A7(K:W1):R2:=λx y H Q=>∃ p xs i v,x = .ref p/\y = .int i/\cq K H p xs/\cR xs i=some v/\Q v H
def A8:R2:=λx y H Q=>∃ z i c,x = .str z/\y = .int i/\z.length<=W6/\cR z.cps.toList i=some c/\Q (.str ⟨#[c]⟩) H
theorem HZ:ic X (A6 X.K):=by
 intro value slice pins s σ H x y v u Q I rx ry h hs;obtain⟨p,xs,i,z,rfl,rfl,hq,he,q⟩:=h
 cases rx;obtain⟨t,rfl⟩:=ry;obtain⟨ae,r,pl,hz⟩:=I.list hq;obtain⟨j,h1,h2,h3,h4,h5⟩:=uR he;obtain⟨w,ew,aL⟩:=r.get h2;have hl:=r.length;have hn:=nK;have fin:EP X pins σ Q w s:=⟨z,H,I,aL,q⟩
 by_cases h0:0<=i
 ·have hj:i.toNat=j:=by
   rw[seqIndex_of h0 h5] at h1;exact Wy h1
  exact item_listR pl.isList h0 (by omega) (by rw[hj]; simpa using ew) fin hs
 ·have hj:(i + (ae.toArray.size:Int)).toNat=j:=by
   rw[seqIndex_neg (by omega) h4] at h1;rw[Wo,<- hl];exact Wy h1
  exact subscriptTail_builtinR (x:=w) pl.isList.typeIs slot_list_getitem.lookup
   (wpAny_getItem_list_neg (Q:=λr s'=>r=w/\EP X pins σ Q r s') pl.isList (by omega) (by rw[Wo] <;> omega) (by omega) (by rw[hj]; simpa using ew) ⟨rfl,fin⟩) hs
theorem H_:ic X (A7 X.K):=by
 intro value slice pins s σ H x y v u Q I rx ry h hs;obtain⟨p,xs,i,z,rfl,rfl,hq,he,q⟩:=h
 cases rx;obtain⟨t,rfl⟩:=ry;obtain⟨ae,r,pl,hz⟩:=I.tuple hq;obtain⟨j,h1,h2,h3,h4,h5⟩:=uR he;obtain⟨w,ew,aL⟩:=r.get h2;have hl:=r.length;have hn:=nK;have fin:EP X pins σ Q w s:=⟨z,H,I,aL,q⟩
 exact subscriptTail_builtinR (x:=w) pl.typeIs slot_tuple_getitem.lookup
  (getItem_tuple (j:=j) (Q:=λr s'=>r=w/\EP X pins σ Q r s') pl (by omega) (by omega) (by rw[Wo,<- hl]; exact h1) (by simpa using ew) ⟨rfl,fin⟩) hs
theorem Ia:ic X A8:=by
 intro value slice pins s σ H x y v u Q I rx ry h hs;obtain⟨z,i,c,rfl,rfl,hz,he,q⟩:=h;obtain⟨t,rfl⟩:=rx;obtain⟨t',rfl⟩:=ry;obtain⟨j,h1,h2,h3,h4,h5⟩:=uR he;have hl:z.cps.toList.length=z.length:=by simp[Str.length]
 rw[hl] at h1 h4 h5;have hn:=nK;exact tail_any (JI s z t) slot_str_getitem.lookup (getItem_str (c:=c) (by
  have e1:decide (i < -(2 ^ 63:Int))=false:=decide_eq_false (by omega);have e2:decide (i ≥ 2 ^ 63)=false:=decide_eq_false (by omega);rw[e1,e2,Bool.or_false]) (by rw[h1]; simpa using h2) ⟨.str ⟨#[c]⟩,H,I.tok _,⟨_,rfl⟩,q⟩) hs
def rQ(K:W1):R2:=λx y H Q=>A6 K x y H Q\/A7 K x y H Q\/A8 x y H Q
theorem bC:ic X (rQ X.K):=HZ.or (H_.or Ia)
theorem Ib (ae:List Value) (n j:Nat) (u:Value):Obj.mapSeq (·.setIfInBounds j u) { cls:=.type "list",data:=.seq ae.toArray n } = { cls:=.type "list",data:=.seq (ae.set j u).toArray n }:=by
 simp[Obj.mapSeq]
theorem Inv.lst(I:Inv X pins σ H s)(h:H p=some (.lst xs)) :
  ∃ (ae:List Value) (n:Nat),Vals xs ae/\s.heap.get? p=some { cls:=.type "list",data:=.seq ae.toArray n }/\xs.length<=W6:=by
 obtain⟨z,ae,n,r,e⟩:=I.aD p _ h;exact⟨ae,n,r,e,z⟩
theorem Inv.Ic{pins:List (Addr×Obj)}{σ:St}{H:Hp}{s:W2}{p:Addr}{xs ys:List V}{ae its':List Value}{n n':Nat}{f:Obj->Obj}(I:Inv X pins σ H s)(h:H p=some (.lst xs))
  (ho:s.heap.get? p=some { cls:=.type "list",data:=.seq ae.toArray n }) (hf:f { cls:=.type "list",data:=.seq ae.toArray n } = { cls:=.type "list",data:=.seq its'.toArray n' }) (r:Vals ys its') (hz:ys.length<=W6) (t:Nat) :
  Inv X pins σ (upd H p (.lst ys)) { s with heap:=s.heap.update p f,toks:=t }:=by
 have e:(s.heap.update p f).get? p=some { cls:=.type "list",data:=.seq its'.toArray n' }:=by
  rw[WG f ho (by rw[hf] <;> rfl),hf]
 refine I.write (x:=p) (e:=p) (by rw[h]; trivial) (.inl rfl) (λb u hb q=>(WX _ _ (Ne.symm hb)).trans q) ⟨_,e⟩ ?_;exact⟨hz,its',n',r,e⟩
def Ie:V->V->V->Hp->(Hp->Prop)->Prop:=λo i v H Q=>∃ p xs k j,o = .ref p/\i = .int k/\H p=some (.lst xs)/\fw xs.length k=some j/\Q (upd H p (.lst (xs.set j v)))
theorem Ig:Aj X Ie:=by
 intro pins s σ H o i v ov iv u Q I ro ri rv h;obtain⟨p,xs,k,j,rfl,rfl,hp,hj,q⟩:=h
 cases ro;obtain⟨t,rfl⟩:=ri;obtain⟨ae,n,r,ho,hz⟩:=I.lst hp;obtain⟨h1,h2,h3,h4⟩:=A4 hj;have hl:=r.length;have hn:=nK;have I':Inv X pins σ (upd H p (.lst (xs.set j v))) { s with heap:=s.heap.update p (Obj.mapSeq (·.setIfInBounds j u)) } :=
  I.Ic hp ho (Ib ae n j u) (r.set rv j) (by rw[Ji]; exact hz) s.toks
 by_cases h0:0<=k
 ·have hk:k.toNat=j:=by
   rw[seqIndex_of h0 h4] at h1;exact Wy h1
  exact PySem.W.ki_setAt ho h0 (by omega) (by rw[Wo,<- hl]; exact h4) (by rw[hk]; exact⟨_,I',q⟩)
 ·have hk:(k + (ae.toArray.size:Int)).toNat=j:=by
   rw[seqIndex_neg (by omega) h3] at h1;rw[Wo,<- hl];exact Wy h1
  exact PySem.W.ki_setBack ho (by omega) (by rw[Wo,<- hl]; exact h3) (by omega) (by rw[hk]; exact⟨_,I',q⟩)
theorem Ih(lo hi:Option Int)(n:Nat):(Jz lo hi none n).1=((HT.aZ n 0 lo:Nat):Int)/\(Jz lo hi none n).2.1=((HT.aZ n n hi:Nat):Int)/\(Jz lo hi none n).2.2=1:=by
 refine⟨?_,?_,rfl⟩
 ·cases lo with
  | none=>simp[Jz,HT.aZ]
  | some i =>
   simp only[Jz,HT.aZ,Option.getD_none,show(1:Int) > 0 by decide,if_true];by_cases h:i < 0
   ·simp only[h,if_true] <;> omega
   ·simp only[h,if_false] <;> omega
 ·cases hi with
  | none=>simp[Jz,HT.aZ]
  | some i =>
   simp only[Jz,HT.aZ,Option.getD_none,show(1:Int) > 0 by decide,if_true];by_cases h:i < 0
   ·simp only[h,if_true] <;> omega
   ·simp only[h,if_false] <;> omega
theorem Ii(ae:List Value)(lo hi:Option Int):slicePick ae.toArray lo hi none=((ae.drop (HT.aZ ae.length 0 lo)).take (HT.aZ ae.length ae.length hi - HT.aZ ae.length 0 lo)).toArray:=by
 obtain⟨h1,h2,h3⟩:=Ih lo hi ae.toArray.size;unfold slicePick;rw[h1,h2,h3];simp only[sliceRange_one,pick_run,Wo] <;> rfl
def A9(K:W1):V->Option Int->Option Int->Hp->VK->Prop:=λx lo hi H Q=>∃ a xs,x = .ref a/\cj K H a xs/\∀ p,H p=none->Q (.ref p) (upd H p (.lst (k9 xs lo hi)))
theorem Ij:jH X (A9 X.K):=by
 intro pins s σ H x v vl vu lo hi sl Q I rx hs pl pu h;obtain⟨a,xs,rfl,hx,q⟩:=h
 cases rx;obtain⟨ae,r,ht,hz⟩:=I.list hx;have hlen:=r.length;refine⟨"list",_,slot_list_getitem.lookup,ht.isList.typeIs,?_⟩;refine wpAny_getItem_list_slice ht.isList hs pl pu .none (by simp) ?_ (by rw[Wo] <;> omega);rw[Ii,<- hlen];refine⟨.ref s.heap.objs.size,_,I.laid (t':=s.toks) (o:=.lst (k9 xs lo hi)) (λb ob q=>W4 _ q) (W8 _) ?_,rfl,q _ (I.aD.fresh (W8 _))⟩;exact⟨WU (A2 xs lo hi) hz,_,0,(r.drop (HT.aZ xs.length 0 lo)).take (HT.aZ xs.length xs.length hi - HT.aZ xs.length 0 lo),Wm _ rfl⟩
def ka:V->Bool
 | .ax=>true
 | .bl _=>true
 | .int _=>true
 | .str _=>true
 | _=>false
def k_:V->V->Bool
 | .ax,.ax=>true
 | .bl a,.bl b=>a == b
 | .bl a,.int b=>(if a then 1 else 0) == b
 | .int a,.bl b=>a == (if b then 1 else 0)
 | .int a,.int b=>a == b
 | .str a,.str b=>a == b
 | _,_=>false
theorem Ik(ry:RelV y u)(rx:RelV x v)(fy:ka y=true)(fx:ka x=true):Ju A s u v (k_ y x):=by
 cases y with
 | ax =>
  cases ry
  cases x with
  | ax=>cases rx; exact SeqAt.EqAt.same _
  | bl b=>cases rx; exact SeqAt.EqAt.none_bool b
  | int b=>obtain⟨t,rfl⟩:=rx; exact SeqAt.EqAt.none_int b t
  | str b=>obtain⟨t,rfl⟩:=rx; exact SeqAt.EqAt.none_str b t
  | _=>exact absurd (show false=true from fx) WW
 | bl a =>
  cases ry
  cases x with
  | ax=>cases rx; exact SeqAt.EqAt.bool_none a
  | bl b=>cases rx; exact SeqAt.EqAt.bool_bool a b
  | int b=>obtain⟨t,rfl⟩:=rx; exact SeqAt.EqAt.bool_int a b t
  | str b=>obtain⟨t,rfl⟩:=rx; exact SeqAt.EqAt.bool_str a b t
  | _=>exact absurd (show false=true from fx) WW
 | int a =>
  obtain⟨t',rfl⟩:=ry
  cases x with
  | ax=>cases rx; exact SeqAt.EqAt.int_none a t'
  | bl b=>cases rx; exact SeqAt.EqAt.int_bool a t' b
  | int b=>obtain⟨t,rfl⟩:=rx; exact SeqAt.EqAt.int_int a t' b t
  | str b=>obtain⟨t,rfl⟩:=rx; exact SeqAt.EqAt.int_str a t' b t
  | _=>exact absurd (show false=true from fx) WW
 | str a =>
  obtain⟨t',rfl⟩:=ry
  cases x with
  | ax=>cases rx; exact SeqAt.EqAt.str_none a t'
  | bl b=>cases rx; exact SeqAt.EqAt.str_bool a t' b
  | int b=>obtain⟨t,rfl⟩:=rx; exact SeqAt.EqAt.str_int a t' b t
  | str b=>obtain⟨t,rfl⟩:=rx; exact SeqAt.EqAt.str_str a t' b t
  | _=>exact absurd (show false=true from fx) WW
 | _=>exact absurd (show false=true from fy) WW
def gv(x:V)(u:Value):Bool:=match u with
 | .none=>k_ .ax x
 | .bool b=>k_ (.bl b) x
 | .int i _=>k_ (.int i) x
 | .str z _=>k_ (.str z) x
 | _=>false
theorem A_(r:RelV y u)(f:ka y=true):gv x u=k_ y x:=by
 cases y with
 | ax=>cases r; rfl
 | bl b=>cases r; rfl
 | int i=>obtain⟨t,rfl⟩:=r; rfl
 | str z=>obtain⟨t,rfl⟩:=r; rfl
 | _=>exact absurd (show false=true from f) WW
theorem pH:∀ {xs:List V} {us:List Value},Vals xs us->xs.all ka=true->us.any (gv x)=xs.any λy=>k_ y x
 | _,_,.nil,_=>rfl
 | y :: xs,u :: us,.cons r t,f=>by
  rw[List.all_cons,Wk] at f;rw[QS,QS,A_ r f.1,pH t f.2]
theorem pI(rx:RelV x v)(fx:ka x=true):∀ {xs:List V} {us:List Value},Vals xs us->xs.all ka=true->∀ u ∈ us,Ju A s u v (gv x u)
 | _,_,.nil,_=>λu hu=>by cases hu
 | y :: xs,u :: us,.cons r t,f=>λu' hu=>by
  rw[List.all_cons,Wk] at f;rcases We.mp hu with rfl | hu
  ·rw[A_ r f.1]; exact Ik r rx f.1 fx
  ·exact pI rx fx t f.2 u' hu
def rR(x:V)(xs:List V):Bool:=xs.any λy=>k_ y x
def rS(K:W1)(neg:Bool):R2:=λx y H Q=>∃ p xs,y = .ref p/\(cj K H p xs\/cq K H p xs)/\ka x=true/\xs.all ka=true/\Q (.bl (if neg then !rR x xs else rR x xs)) H
theorem Ba:bz X (Wz .In) (rS X.K false):=by
 intro pins s σ H x y v u Q I rx ry h;obtain⟨p,xs,rfl,hq,fx,fs,q⟩:=h
 cases ry;rcases hq with hq | hq
 ·obtain⟨ae,r,pl,hz⟩:=I.list hq;refine SeqAt.in_listAt (gv x) pl.isList (λw hw=>pI rx fx r fs w (by simpa using hw)) ⟨.bl _,H,I,rfl,?_⟩;rw[show ae.toArray.any (gv x)=ae.any (gv x) by simp,pH r fs];exact q
 ·obtain⟨ae,r,pl,hz⟩:=I.tuple hq;refine SeqAt.in_tupleAt (gv x) pl (λw hw=>pI rx fx r fs w (by simpa using hw)) ⟨.bl _,H,I,rfl,?_⟩;rw[show ae.toArray.any (gv x)=ae.any (gv x) by simp,pH r fs];exact q
theorem Bb:bz X (Wz .NotIn) (rS X.K true):=by
 intro pins s σ H x y v u Q I rx ry h;obtain⟨p,xs,rfl,hq,fx,fs,q⟩:=h
 cases ry;rcases hq with hq | hq
 ·obtain⟨ae,r,pl,hz⟩:=I.list hq;refine SeqAt.notIn_listAt (gv x) pl.isList (λw hw=>pI rx fx r fs w (by simpa using hw)) ⟨.bl _,H,I,rfl,?_⟩;rw[show ae.toArray.any (gv x)=ae.any (gv x) by simp,pH r fs];exact q
 ·obtain⟨ae,r,pl,hz⟩:=I.tuple hq;refine SeqAt.notIn_tupleAt (gv x) pl (λw hw=>pI rx fx r fs w (by simpa using hw)) ⟨.bl _,H,I,rfl,?_⟩;rw[show ae.toArray.any (gv x)=ae.any (gv x) by simp,pH r fs];exact q
theorem Il:dM X (.builtin "len") (λxs H Q=>∃ p ys,xs=[.ref p]/\(cj X.K H p ys\/cq X.K H p ys)/\Q (.int ys.length) H):=by
 intro pins s σ H xs us Q I r h;obtain⟨p,ys,rfl,hq,q⟩:=h;obtain⟨u,rfl,rx⟩:=fW r
 cases rx;have hn:=nK;rcases hq with hq | hq
 ·obtain⟨ae,r',pl,hz⟩:=I.list hq;have hlen:=r'.length;exact Calls.call_len_list pl.isList (by simp only[Wo] <;> omega) ⟨.int ys.length,H,I.tok _,⟨s.toks + 1,by rw[Wo,hlen]⟩,q⟩
 ·obtain⟨ae,r',pl,hz⟩:=I.tuple hq;have hlen:=r'.length;exact len_tuple pl (by simp only[Wo] <;> omega) ⟨.int ys.length,H,I.tok _,⟨s.toks + 1,by rw[Wo,hlen]⟩,q⟩
theorem Im:dM X (.builtin "len") (λxs H Q=>∃ z,xs=[.str z]/\z.length<=W6/\Q (.int z.length) H):=by
 intro pins s σ H xs us Q I r h;obtain⟨z,rfl,hz,q⟩:=h;obtain⟨u,rfl,t,rfl⟩:=fW r;have hn:=nK;exact len_str (by omega) ⟨.int z.length,H,I.tok _,⟨_,rfl⟩,q⟩
theorem dM.or(h:dM X f r)(h':dM X f r'):dM X f (λxs H Q=>r xs H Q\/r' xs H Q):=by
 intro pins s σ H xs us Q I rs q;rcases q with q | q
 ·exact h pins s σ H xs us Q I rs q
 ·exact h' pins s σ H xs us Q I rs q
theorem Io:dM X (.type "list") (λxs H Q=>∃ p ys,xs=[.ref p]/\(cj X.K H p ys\/cq X.K H p ys)/\∀ l,H l=none->Q (.ref l) (upd H l (.lst ys))):=by
 intro pins s σ H xs us Q I r h;obtain⟨p,ys,rfl,hq,q⟩:=h;obtain⟨u,rfl,rx⟩:=fW r
 cases rx;have fin:∀ (ae:List Value),Vals ys ae->ys.length<=W6->∀ (h':Heap) (c':Nat),(∀ b o',s.heap.get? b=some o'->h'.get? b=some o') ->
   h'.get? s.heap.objs.size=some { cls:=.type "list",dict:=none,data:=.seq ae.toArray c',slots:=#[] }->EP X pins σ Q (.ref s.heap.objs.size) { s with heap:=h' }:=λae r' hz h' c' kp e =>
  ⟨.ref s.heap.objs.size,_,I.laid (t':=s.toks) kp (W8 _) (show bZ X.prog X.w _ h' _ (.lst ys) from⟨hz,ae,c',r',e⟩),rfl,q _ (I.aD.fresh (W8 _))⟩
 rcases hq with hq | hq
 ·obtain⟨ae,r',pl,hz⟩:=I.list hq;have hlen:=r'.length;obtain⟨o,ho,hc,n,hd⟩:=pl.isList;exact call_list_seq p (.inl rfl) ho hc hd (λh' c' kp e=>fin ae r' hz h' c' kp e) (by simp only[Wo] <;> omega)
 ·obtain⟨ae,r',pl,hz⟩:=I.tuple hq;have hlen:=r'.length;obtain⟨o,ho,hc,n,hd⟩:=pl;exact call_list_seq p (.inr rfl) ho hc hd (λh' c' kp e=>fin ae r' hz h' c' kp e) (by simp only[Wo] <;> omega)
theorem Ip:dM X (.type "tuple") (λxs H Q=>∃ p ys,xs=[.ref p]/\((cj X.K H p ys/\∀ l,H l=none->Q (.ref l) (upd H l (.tup ys)))\/(cq X.K H p ys/\Q (.ref p) H))):=by
 intro pins s σ H xs us Q I r h;obtain⟨p,ys,rfl,h⟩:=h;obtain⟨u,rfl,rx⟩:=fW r
 cases rx;rcases h with ⟨hq,q⟩ | ⟨hq,q⟩
 ·obtain⟨ae,r',pl,hz⟩:=I.list hq;have hlen:=r'.length;refine call_tuple_list pl.isList (λh' kp=>?_) (by simp only[Wo] <;> omega);have I1:Inv X pins σ H { s with heap:=h' }:=I.kept (t':=s.toks) kp;have I2:Inv X pins σ (upd H h'.objs.size (.tup ys)) { s with heap:=h'.push { cls:=.type "tuple",data:=.seq ae.toArray } } :=
   I1.laid (t':=s.toks) (λb o e=>W4 _ e) (W8 _) (show bZ X.prog X.w _ _ _ (.tup ys) from⟨hz,ae,r',hU.new _ _⟩)
  exact⟨.ref h'.objs.size,_,I2,rfl,q _ (I1.aD.fresh (W8 _))⟩
 ·obtain⟨ae,r',pl,hz⟩:=I.tuple hq;exact call_tuple_same pl ⟨.ref p,H,I,rfl,q⟩
def uU(K:W1)(T:String)(x:V)(H:Hp):Prop:=match x with
 | .str _=>T = "str"
 | .int _=>T = "int"
 | .ref p=>(T = "list"/\∃ xs,cj K H p xs)\/(T = "tuple"/\∃ o,K.lookup p=some o/\o.cls = .type "tuple"/\o.dict=none) \/
   (T = "dict"/\((∃ kvs,H p=some (.dK kvs))\/∃ kvs,H p=some (.dT kvs)))\/(T = "set"/\∃ S n,H p=some (.set S n))
 | _=>False
theorem Iq(I:Inv X pins σ H s)(r:RelV x v)(ty:uU X.K T x H) :
  s.TypeIs v T/\∀ a,v = .ref a->∃ ob,s.heap.get? a=some ob/\ob.dict=none:=by
 cases x with
 | str z =>
  obtain⟨t,rfl⟩:=r
  cases (show T = "str" from ty);exact⟨JI s z t,λ_ e=>nomatch e⟩
 | int i =>
  obtain⟨t,rfl⟩:=r
  cases (show T = "int" from ty);exact⟨JJ s i t,λ_ e=>nomatch e⟩
 | ref p =>
  cases r;rcases ty with ⟨rfl,xs,hq⟩ | ⟨rfl,o,hk,hc,hd⟩ | ⟨rfl,hk⟩ | ⟨rfl,S,n,hk⟩
  ·obtain⟨ae,_,pl,_⟩:=I.list hq;refine⟨pl.isList.typeIs,λa e=>?_⟩
   cases e;obtain⟨o,n,e,c,hd,_⟩:=pl;exact⟨o,e,hd⟩
  ·refine⟨⟨o,I.eO p o hk,hc⟩,λa e=>?_⟩
   cases e;exact⟨o,I.eO _ o hk,hd⟩
  ·have z:∃ o,s.heap.get? p=some o/\o.ExactDict:=by
    rcases hk with ⟨kvs,hk⟩ | ⟨kvs,hk⟩
    ·obtain⟨_,_,_,_,o,_,_,e,ex,_⟩:=I.aD p _ hk;exact⟨o,e,ex⟩
    ·obtain⟨_,_,_,_,o,_,_,e,ex,_⟩:=I.aD p _ hk;exact⟨o,e,ex⟩
   obtain⟨o,e,ex⟩:=z;refine⟨⟨o,e,ex.1⟩,λa e2=>?_⟩
   cases e2;exact⟨o,e,ex.2.1⟩
  ·obtain⟨o,_,_,_,e,ex,_⟩:=I.aD p _ hk;refine⟨⟨o,e,ex.1⟩,λa e2=>?_⟩
   cases e2;exact⟨o,e,ex.2.1⟩
 | _=>exact False.elim ty
def Bc(K:W1)(T:String)(r:V->List V->Hp->VK->Prop)(to:TE)(t:TA):TE:=λσ H Q=>to σ H λx H1=>uU K T x H1/\t σ H1 λxs H2=>r x xs H2 Q
variable {o e:Expr} {es:List Expr} {to:TE} {t:TA} {name:Str} {apos bE:Pos} {T id:String} {r:V->List V->Hp->VK->Prop}
theorem uV (pa:PlainAttrs T) (slot:Slot T name id) (Ir:typeOf (.builtin id)=pure (.type "method_descriptor")) (hm:uT X id r) (ho:PE X o to) (ha:PA X (e :: es) t)
  (l8:Jg o name X.env (eval o X.env)=eval o X.env:=by rfl)
  (l9:((Q9 bE (Wb (e :: es) X.env)).all (λx=>!x.1) && (backToKw bE (Jm [] X.env)).all (λx=>x.1.isSome)
   && decide ((e :: es).length + ([]:List Keyword).length + (if ([]:List Keyword).isEmpty then 0 else 1) < 30))=true:=by rfl)
  (gK:(apos.endLine == bE.line)=true:=by rfl) (hs:Wb (e :: es) X.env=(false,eval e X.env) :: Wb es X.env:=by rfl) (uW:(Q9 bE (Wb es X.env)).any (·.1)=false:=by rfl) :
  PE X (.Call (.Attribute o name apos) (e :: es) [] bE) (Bc X.K T r to t):=by
 intro pins s σ H Q I h;refine wpAny_Call_method_late l8 l9 gK rfl (aQ (ho pins s σ H _ I h) λv s1 ⟨x,H1,I1,r1,ty,q1⟩=>?_);obtain⟨h1,h2⟩:=Iq I1 r1 ty;refine⟨T,id,pa,slot,Ir,h1,h2,?_⟩;have hA:=ha bE pins s1 σ H1 _ I1 q1;rw[hs] at hA ⊢;refine Calls.callWith_builtin (by show(false || (Q9 bE (Wb es X.env)).any (·.1))=false; rw[uW] <;> rfl) (Calls.evalArgs_plain ?_);exact aQ hA λus s2 ⟨vs,H2,I2,r2,q2⟩=>hm pins s2 σ H2 x vs v us Q I2 r1 r2 q2
end
def Iu(X:Cx)(id:String)(r:V->List V->Hp->VK->Prop):Prop :=
 ∀ (pins:List (Addr×Obj)) (s:W2) (σ:St) (H:Hp) (x:V) (xs:List V) (v:Value) (us:List Value) (Q:VK),Inv X pins σ H s->RelV x v->Vals xs us->r x xs H Q ->
  W5 (model X.prog X.w) X.A (call (.builtin id) (v :: us)) (EP X pins σ Q) X.xe s
theorem Vals.one:∀ {x:V} {us:List Value},Vals [x] us->∃ u,us=[u]/\RelV x u
 | _,_,.cons r .nil=>⟨_,rfl,r⟩
theorem Vals.two:∀ {x y:V} {us:List Value},Vals [x,y] us->∃ u v,us=[u,v]/\RelV x u/\RelV y v
 | _,_,_,.cons r (.cons q .nil)=>⟨_,_,rfl,r,q⟩
theorem Vals.reverse(h:Vals xs us):Vals xs.reverse us.reverse:=by
 induction h with
 | nil=>exact .nil
 | cons r t ih=>rw[List.reverse_cons,List.reverse_cons]; exact Vals.append ih (.cons r .nil)
theorem Vals.rep(h:Vals xs us):∀ k:Nat,Vals (Wg k xs).flatten (Wg k us).flatten
 | 0=>.nil
 | k + 1=>by
  rw[Q6,Q6,QC,QC];exact Vals.append h (Vals.rep h k)
theorem Be(ae:List Value):∀ (k:Nat) (acc:List Value),
  List.foldl (λx1 x2=>x1 ++ x2) acc.toArray (Wg k ae.toArray)=(acc ++ (Wg k ae).flatten).toArray
 | 0,acc=>by simp
 | k + 1,acc=>by
  have e:acc.toArray ++ ae.toArray=(acc ++ ae).toArray:=by simp
  have e2:(acc ++ ae) ++ (Wg k ae).flatten=acc ++ (Wg (k + 1) ae).flatten:=by
   rw[Q6,QC,JL]
  rw[<- e2,<- Be ae k (acc ++ ae),<- e,Q6,QO]
section
variable {X:Cx} {pins:List (Addr×Obj)} {σ:St} {H:Hp} {s:W2} {l b:Addr} {xs ys zs:List V}
theorem Inv.Iw{ae its':List Value}{n:Nat}{f:Array Value->Array Value}{t':Nat}(I:Inv X pins σ H s)(hH:H l=some (.lst xs))
  (e:s.heap.get? l=some { cls:=.type "list",data:=.seq ae.toArray n }) (hf:f ae.toArray=its'.toArray) (hv:Vals ys its') (hz:ys.length<=W6) :
  Inv X pins σ (upd H l (.lst ys)) { s with heap:=s.heap.update l (Obj.mapSeq f),toks:=t' }:=by
 have q:=PySem.IsL.update e f;rw[hf] at q;refine I.write (x:=l) (e:=l) (by rw[hH]; exact trivial) (.inl rfl) (λb' u hb hu=>(WX s.heap (Obj.mapSeq f) (Ne.symm hb)).trans hu) ⟨_,q⟩ ?_;exact⟨hz,its',_,hv,q⟩
theorem Inv.Bf(I:Inv X pins σ H s)(hv:Vals ys ae)(hz:ys.length<=W6) :
  Inv X pins σ (upd H s.heap.objs.size (.lst ys)) { s with heap:=s.heap.push { cls:=.type "list",data:=.seq ae.toArray },toks:=t' } :=
 I.laid (λ_ _ q=>W4 _ q) (W8 _) ⟨hz,ae,0,hv,Wm _ rfl⟩
theorem Inv.fresh(I:Inv X pins σ H s):H s.heap.objs.size=none:=I.aD.fresh (W8 _)
theorem Inv.Iy (I:Inv X pins σ H s) (hH:H l=some (.lst xs)):xs.length<=W6/\∃ (ae:List Value) (n:Nat),Vals xs ae/\xs.length=ae.length/\s.heap.get? l=some { cls:=.type "list",data:=.seq ae.toArray n }:=by
 obtain⟨z,ae,n,r,e⟩:=I.aD l _ hH;exact⟨z,ae,n,r,r.length,e⟩
end
section
variable {X:Cx}
def Bg:V->List V->Hp->VK->Prop:=λx vs H Q=>∃ l xs y,x = .ref l/\vs=[y]/\H l=some (.lst xs)/\xs.length < W6/\Q .ax (upd H l (.lst (xs ++ [y])))
theorem Bh:Iu X "list.append" Bg:=by
 intro pins s σ H x vs v us Q I rx rv h;obtain⟨l,xs,y,rfl,rfl,hH,hz,q⟩:=h
 cases rx;obtain⟨u,rfl,ru⟩:=rv.one;obtain⟨z,ae,n,r,hl,e⟩:=I.Iy hH;refine Jv F.slot_list_append ⟨_,e,rfl⟩ F.entry_list_append (F.args_list_append_2 _ _) (PySem.list_append l ae.toArray n u (by rw[Wo]; omega)) ⟨e,?_⟩;refine⟨.ax,_,I.Iw (its':=ae ++ [u]) hH e (by simp) (r.append (.cons ru .nil)) ?_,rfl,q⟩;rw[Q2,List.length_singleton];omega
theorem uX(xs:List α)(k:Nat):(Wg k xs).flatten.length=k * xs.length:=by
 induction k with
 | zero=>simp
 | succ k ih=>rw[Q6,QC,Q2,ih,Nat.succ_mul,Nat.add_comm]
end
section
variable {prog:Wj} {w:Wp} {A:Wq} {E:Value->W2->Prop} {s:W2}
set_option maxRecDepth 100000 in
end
section
variable {X:Cx}
end
section
variable {κ:Type} [DecidableEq κ]
def dF(kvs:List (κ×V))(k:κ):Option V:=(kvs.find? λkv=>decide (kv.1=k)).map (·.2)
def putK(kvs:List (κ×V))(k:κ)(v:V):List (κ×V) :=
 if (kvs.any λkv=>decide (kv.1=k))=true then kvs.map (λkv=>if kv.1=k then(kv.1,v) else kv) else kvs ++ [(k,v)]
theorem rV{p:κ×V}{r:List (κ×V)}{k:κ}(e:p.1=k):dF (p :: r) k=some p.2:=by simp[dF,Q4,e]
theorem rW{p:κ×V}{r:List (κ×V)}{k:κ}(e:¬ p.1=k):dF (p :: r) k=dF r k:=by simp[dF,Q4,e]
theorem Bi(k:κ):∀ kvs:List (κ×V),(kvs.any λkv=>decide (kv.1=k))=(dF kvs k).isSome
 | []=>rfl
 | p :: r=>by
  rw[QS];by_cases e:p.1=k
  ·simp only[rV e,decide_eq_true e,Bool.true_or,Option.isSome_some]
  ·rw[rW e,decide_eq_false e,Bool.false_or]; exact Bi k r
theorem nM(kvs:List (κ×V))(k:κ)(v:V):(putK kvs k v).length<=kvs.length + 1:=by
 unfold putK;split
 ·rw[WA]; omega
 ·rw[Q2,WS,List.length_nil]; omega
theorem eX.pJ(r:eX o u):o.isSome=u.isSome:=by
 cases o with
 | none=>cases u with
  | none=>rfl
  | some _=>exact(show False from r).elim
 | some _=>cases u with
  | none=>exact(show False from r).elim
  | some _=>rfl
theorem eX.getD(r:eX o u)(rd:RelV d d'):RelV (o.getD d) (u.getD d'):=by
 cases o with
 | none=>cases u with
  | none=>exact rd
  | some _=>exact(show False from r).elim
 | some _=>cases u with
  | none=>exact(show False from r).elim
  | some _=>exact r
theorem KV.val{kvs:List (κ×V)}{vs:List (κ×Value)}(r:KV kvs vs)(k:κ):eX (dF kvs k) (valueAt vs k):=by
 unfold KV at r;induction r with
 | nil=>exact True.intro
 | @cons p q ps qs h t ih =>
  obtain⟨h1,h2⟩:=h;by_cases e:p.1=k
  ·have e':q.1=k:=h1.symm.trans e;have b:valueAt (q :: qs) k=some q.2:=by simp[valueAt,Q4,e']
   rw[rV e,b]; exact h2
  ·have e':¬ q.1=k:=λz=>e (h1.trans z)
   have b:valueAt (q :: qs) k=valueAt qs k:=by simp[valueAt,Q4,e']
   rw[rW e,b]; exact ih
theorem KV.any(r:KV kvs vs)(k:κ):(kvs.any λkv=>decide (kv.1=k))=vs.any λkv=>decide (kv.1=k):=by
 unfold KV at r;induction r with
 | nil=>rfl
 | cons h t ih=>rw[QS,QS,ih,h.1]
theorem KV.uY(r:KV kvs vs)(k:κ)(ry:RelV y u) :
  KV (kvs.map λkv=>if kv.1=k then(kv.1,y) else kv) (vs.map λkv=>if kv.1=k then(kv.1,u) else kv):=by
 unfold KV at r ⊢;induction r with
 | nil=>exact .nil
 | @cons p q ps qs h t ih =>
  rw[Wn,Wn];refine .cons ?_ ih;obtain⟨h1,h2⟩:=h;by_cases e:p.1=k
  ·rw[if_pos e,if_pos (h1.symm.trans e)]; exact⟨h1,ry⟩
  ·rw[if_neg e,if_neg (λz=>e (h1.trans z))]; exact⟨h1,h2⟩
theorem KV.put(r:KV kvs vs)(k:κ)(ry:RelV y u):KV (putK kvs k y) (stored vs k u):=by
 unfold putK stored;rw[r.any k];by_cases e:(vs.any λkv=>decide (kv.1=k))=true
 ·rw[if_pos e,if_pos e]; exact r.uY k ry
 ·rw[if_neg e,if_neg e]; exact Paired.snoc r ⟨rfl,ry⟩
theorem KV.length(r:KV kvs vs):kvs.length=vs.length:=Paired.length r
end
theorem kb(r:RelV (kV k) u):(eB P w).is k u=true:=by
 cases k with
 | inl i=>obtain⟨t,e⟩:=(show ∃ t,u=Value.int i t from r); subst e; exact Gi P w i t
 | inr x=>obtain⟨t,e⟩:=(show ∃ t,u=Value.str x t from r); subst e; exact Gj P w x t
theorem Bj:∀ {ks:List Key} {us:List Value},Vals (ks.map kV) us->ItemsAre (eB P w) ks us
 | [],_,r=>by rw[List.map_nil] at r; cases r; exact .nil
 | k :: ks,_,r=>by
  rw[Wn] at r
  cases r with
  | cons h t=>exact .cons (kb h) (Bj t)
abbrev KT(H:Hp):List (List Key×V)->List (List Key×Addr×Value)->Prop:=Paired λp q=>p.1=q.1/\H q.2.1=some (.tup (p.1.map kV))/\RelV p.2 q.2.2
theorem KT.val{H:Hp}{kvs:List (List Key×V)}{xs:List (List Key×Addr×Value)}(r:KT H kvs xs)(k:List Key):eX (dF kvs k) ((atKey xs k).map (·.2)):=by
 induction r with
 | nil=>exact True.intro
 | @cons p q ps qs h t ih =>
  obtain⟨h1,_,h2⟩:=h;by_cases e:p.1=k
  ·have e':q.1=k:=h1.symm.trans e;have b:atKey (q :: qs) k=some q.2:=by simp[atKey,Q4,e']
   rw[rV e,b]; exact h2
  ·have e':¬ q.1=k:=λz=>e (h1.trans z)
   have b:atKey (q :: qs) k=atKey qs k:=by simp[atKey,Q4,e']
   rw[rW e,b]; exact ih
theorem KT.uY(r:KT H kvs xs)(k:List Key)(ry:RelV y u) :
  KT H (kvs.map λkv=>if kv.1=k then(kv.1,y) else kv) (xs.map (putAt k u)):=by
 induction r with
 | nil=>exact .nil
 | @cons p q ps qs h t ih =>
  rw[Wn,Wn];refine .cons ?_ ih;obtain⟨h1,h2,h3⟩:=h;unfold putAt;by_cases e:p.1=k
  ·rw[if_pos e,if_pos (h1.symm.trans e)]; exact⟨h1,h2,ry⟩
  ·rw[if_neg e,if_neg (λz=>e (h1.trans z))]; exact⟨h1,h2,h3⟩
theorem KT.put(r:KT H kvs xs)(k:List Key)(hb:H b=some (.tup (k.map kV)))(ry:RelV y u) :
  KT H (putK kvs k y) (storedH xs k b u):=by
 have e:(kvs.any λkv=>decide (kv.1=k))=(atKey xs k).isSome:=by
  rw[Bi,(r.val k).pJ,Option.isSome_map]
 unfold putK storedH;rw[e];by_cases q:(atKey xs k).isSome=true
 ·rw[if_pos q,if_pos q]; exact r.uY k ry
 ·rw[if_neg q,if_neg q]; exact Paired.snoc r ⟨rfl,hb,ry⟩
theorem KT.keeps(r:KT H kvs xs)(ht:∀ b ys,H b=some (.tup ys)->H' b=some (.tup ys)):KT H' kvs xs :=
 Paired.uz r λ_ _ z=>⟨z.1,ht _ _ z.2.1,z.2.2⟩
section
variable {P:Wj} {w:Wp} {H:Hp} {h:Heap} {a:Addr}
theorem Bk(ok:cB P w H h)(e:Rd H a u):bZ P w H h a u:=e.ok ok
theorem l_(ok:cB P w H h)(e:Rd H a (.dK kvs)):kvs.length<=W6/\(a == QJ)=false/\∃ vs,KV kvs vs/\h.DictOf (eB P w) a vs :=
 show bZ P w H h a (.dK kvs) from Bk ok e
theorem nN(ok:cB P w H h)(e:H a=some (.dK kvs)):kvs.length<=W6/\(a == QJ)=false/\∃ vs,KV kvs vs/\h.DictOf (eB P w) a vs:=l_ ok (.inl e)
theorem nO(ok:cB P w H h)(e:H a=some (.tup (ks.map kV))):(tupleKind (eB P w)).is h ks a:=by
 obtain⟨_,ae,r,p⟩:=(show bZ P w H h a (.tup (ks.map kV)) from ok a _ e)
 obtain⟨o,h1,h2,n,h3⟩:=p.tup;exact⟨o,ae.toArray,n,h1,h2,h3,by simpa using Bj r⟩
theorem nQ(ok:cB P w H h)(e:Rd H a (.dT kvs)):kvs.length<=W6/\(a == QJ)=false /\
  ∃ xs,KT H kvs xs/\h.DictOfH (tupleKind (eB P w)) a xs:=by
 obtain⟨z,y,xs,r,o,es,ep,h1,h2,h3,h4,h5⟩:=(show bZ P w H h a (.dT kvs) from Bk ok e)
 refine⟨z,y,xs,r,o,es,ep,h1,h2,h3,h4,λx hx=>?_,h5⟩;have all:∀ {l:List (List Key×V)} {m:List (List Key×Addr×Value)},KT H l m->∀ x ∈ m,(tupleKind (eB P w)).is h x.1 x.2.1:=by
  intro l m q;induction q with
  | nil=>intro x hx; exact nomatch hx
  | @cons p q ps qs hq t ih =>
   intro x hx;rcases We.mp hx with e | hx
   ·subst e;exact nO ok (by rw[<- hq.1]; exact hq.2.1)
   ·exact ih x hx
 exact all r x hx
theorem Iz(ok:cB P w H h)(e:H a=some (.dT kvs)):kvs.length<=W6/\(a == QJ)=false /\
  ∃ xs,KT H kvs xs/\h.DictOfH (tupleKind (eB P w)) a xs:=nQ ok (.inl e)
end
def jI(H:Hp)(a:Addr)(y:V)(r:Option V):Prop :=
 (∃ kvs k,Rd H a (.dK kvs)/\y=kV k/\r=dF kvs k)\/∃ kvs k b,Rd H a (.dT kvs)/\y = .ref b/\H b=some (.tup (k.map kV))/\r=dF kvs k
def pK(H:Hp)(a:Addr)(y v:V)(H':Hp):Prop :=
 (∃ kvs k,H a=some (.dK kvs)/\y=kV k/\kvs.length < W6/\H'=upd H a (.dK (putK kvs k v))) \/
 ∃ kvs k b,H a=some (.dT kvs)/\y = .ref b/\H b=some (.tup (k.map kV))/\kvs.length < W6/\H'=upd H a (.dT (putK kvs k v))
theorem jI.k{H:Hp}{a:Addr}{kvs:List (Key×V)}{k:Key}(e:H a=some (.dK kvs)):jI H a (kV k) (dF kvs k):=.inl ⟨kvs,k,.inl e,rfl,rfl⟩
theorem pK.k{H:Hp}{a:Addr}{kvs:List (Key×V)}{k:Key}{v:V}(e:H a=some (.dK kvs))(hl:kvs.length < W6):pK H a (kV k) v (upd H a (.dK (putK kvs k v))):=.inl ⟨kvs,k,e,rfl,hl,rfl⟩
section
variable {X:Cx} {pins:List (Addr×Obj)} {σ:St} {H:Hp} {s:W2} {a:Addr} {y v:V} {u r:Value} {o:Option V} {A:Wq} {E:Value->W2->Prop}
theorem Inv.big(I:Inv X pins σ H s):QJ < s.heap.objs.size:=by
 have h:Ws < s.heap.objs.size:=(I.mod.glob.keeps I.bk).lt;exact Nat.lt_trans (by decide) h
theorem IA(hu:A.units + 1 < WO)(I:Inv X pins σ H s)(g:jI H a y (some v))(ry:RelV y u)(h:∀ w' s',Inv X pins σ H s'->RelV v w'->Q w' s') :
  W5 (model X.prog X.w) A (Jy (.ref a) u) Q E s:=by
 rcases g with ⟨kvs,k,e,ey,l⟩ | ⟨kvs,k,b,e,ey,eb,l⟩
 ·subst ey;obtain⟨z,hd,vs,rel,dd⟩:=l_ I.aD e;obtain⟨w',hw,aL⟩:=eX.some_of (v:=v) (o:=valueAt vs k) (by rw[l]; exact rel.val k);exact wpAny_getItem_of (kb ry) dd.mapOf hw (h w' _ (I.tok _) aL)
 ·subst ey
  cases (show u=Value.ref b from ry);obtain⟨z,hd,xs,rel,dd⟩:=nQ I.aD e;obtain⟨w',hw,aL⟩:=eX.some_of (v:=v) (o:=(atKey xs k).map (·.2)) (by rw[l]; exact rel.val k);obtain⟨p,hp,uZ⟩:=Option.map_eq_some_iff.mp hw;refine wpAny_getItem_heap (Jj hu) (nO I.aD eb) dd hp ?_;rw[uZ];exact h w' _ (I.tok _) aL
theorem IB(hu:A.units + 1 < WO)(I:Inv X pins σ H s)(g:jI H a y o)(ry:RelV y u)(h:∀ s',Inv X pins σ H s'->Q (.bool o.isSome) s') :
  W5 (model X.prog X.w) A (Wz .In u (.ref a)) Q E s:=by
 rcases g with ⟨kvs,k,e,ey,l⟩ | ⟨kvs,k,b,e,ey,eb,l⟩
 ·subst ey;obtain⟨z,hd,vs,rel,dd⟩:=l_ I.aD e;refine wpAny_in_of (kb ry) hd dd.mapOf ?_;rw[<- (rel.val k).pJ,<- l];exact h _ (I.tok _)
 ·subst ey
  cases (show u=Value.ref b from ry);obtain⟨z,hd,xs,rel,dd⟩:=nQ I.aD e;refine wpAny_in_heap (Jj hu) (nO I.aD eb) hd dd ?_;have q:=(rel.val k).pJ;rw[Option.isSome_map] at q;rw[<- q,<- l];exact h _ (I.tok _)
theorem IC(hu:A.units + 1 < WO)(I:Inv X pins σ H s)(g:jI H a y o)(ry:RelV y u)(h:∀ s',Inv X pins σ H s'->Q (.bool (!o.isSome)) s') :
  W5 (model X.prog X.w) A (Wz .NotIn u (.ref a)) Q E s:=by
 rcases g with ⟨kvs,k,e,ey,l⟩ | ⟨kvs,k,b,e,ey,eb,l⟩
 ·subst ey;obtain⟨z,hd,vs,rel,dd⟩:=l_ I.aD e;refine wpAny_notIn_of (kb ry) hd dd.mapOf ?_;rw[<- (rel.val k).pJ,<- l];exact h _ (I.tok _)
 ·subst ey
  cases (show u=Value.ref b from ry);obtain⟨z,hd,xs,rel,dd⟩:=nQ I.aD e;refine wpAny_notIn_heap (Jj hu) (nO I.aD eb) hd dd ?_;have q:=(rel.val k).pJ;rw[Option.isSome_map] at q;rw[<- q,<- l];exact h _ (I.tok _)
theorem pL(I:Inv X pins σ H s)(mu:pe (H a))(hs:J3 a s.heap h')(he:∃ q,h'.get? a=some q)(new:bZ X.prog X.w (upd H a ob) h' a ob) :
  Inv X pins σ (upd H a ob) { s with heap:=h',toks:=t' } :=
 I.write (x:=a) (e:=a) mu (.inl rfl) (λb q hb z=>(hs.2 b hb).trans z) he new
theorem rX(z:kvs.length<=W6)(hd:(a == QJ)=false)(rel:KV kvs vs)(dd:h'.DictOf (eB P w) a vs) :
  bZ P w H' h' a (.dK kvs):=⟨z,hd,vs,rel,dd⟩
theorem ID(hu:A.units + 1 < WO)(I:Inv X pins σ H s)(g:pK H a y v H')(ry:RelV y u)(rv:RelV v r)(h:∀ s',Inv X pins σ H' s'->Q () s') :
  W5 (model X.prog X.w) A (setItem (.ref a) u r) Q E s:=by
 rcases g with ⟨kvs,k,e,ey,l,eH⟩ | ⟨kvs,k,b,e,ey,eb,l,eH⟩
 ·subst ey eH;obtain⟨z,hd,vs,rel,dd⟩:=nN I.aD e;have hz:vs.length<=W6:=by rw[<- rel.length]; exact z
  have hl:(putK kvs k v).length<=W6:=by have:=nM kvs k v; omega
  refine wpAny_setItem_pairs (hsz:=hz) (kb ry) dd λh' ig hs=>h _ ?_
  have he:∃ q,h'.get? a=some q:=let ⟨q,_,_,hq,_⟩:=ig; ⟨q,hq⟩
  exact pL I (by rw[e]; exact True.intro) hs he (rX hl hd (rel.put k rv) ig)
 ·subst ey eH
  cases (show u=Value.ref b from ry);obtain⟨z,hd,xs,rel,dd⟩:=Iz I.aD e;have hz:xs.length<=W6:=by rw[<- Paired.length rel]; exact z
  have hl:(putK kvs k v).length<=W6:=by have:=nM kvs k v; omega
  refine wpAny_setItem_heap (hsz:=hz) (Jj hu) (nO I.aD eb) dd λh' ig hs=>h _ ?_
  obtain⟨q,es,ep,hq,h2,h3,h4,_,h5⟩:=ig;refine pL I (by rw[e]; exact True.intro) hs ⟨q,hq⟩ ⟨hl,hd,_,(rel.put k eb rv).keeps λc ys ec=>?_,q,es,ep,hq,h2,h3,h4,h5⟩;rw[bq (Gm ec e (λz=>nomatch z))];exact ec
end
section
variable {X:Cx} {pins:List (Addr×Obj)} {σ:St} {H:Hp} {s:W2} {a:Addr} {kvs:List (Key×V)} {k:Key} {u:Value} {A:Wq} {E:Value->W2->Prop}
theorem IE (I:Inv X pins σ H s) (e:Rd H a (.dK kvs)) (h:∀ t s',Inv X pins σ H s'->Q (.int kvs.length t) s'):W5 (model X.prog X.w) A (call (.builtin "len") [.ref a]) Q E s:=by
 obtain⟨z,hd,vs,rel,dd⟩:=l_ I.aD e;refine call_len_dict hd dd (by rw[<- rel.length]; rw[J0] at z; omega) ?_;rw[<- rel.length];exact h _ _ (I.tok _)
end
def IF(td ty tv:TE):TS:=λD σ H=>tv σ H λv H1=>td σ H1 λx H2=>ty σ H2 λy H3=>∃ a H4,x = .ref a/\pK H3 a y v H4/\D.nx σ H4
section
variable {X:Cx} {o i e value:Expr} {pos pos' tpos:Pos} {td ty tv:TE}
theorem IG(hu:X.A.units + 1 < WO)(ho:PE X o td)(hi:PE X i ty)(hv:PE X value tv)(hs:QZ value (some (.Subscript o i pos')) pos.line X.env=pure false) :
  PS X (.Assign [.Subscript o i pos'] value pos) (IF td ty tv):=by
 intro pins s σ H D I h;refine wpAny_Assign_Subscript (aQ (hv pins s σ H _ I h) λr s1 ⟨v,H1,I1,rv,q1⟩=>aQ (ho pins s1 σ H1 _ I1 q1) λu s2 ⟨x,H2,I2,rx,q2⟩=>aQ (hi pins s2 σ H2 _ I2 q2) λiv s3 ⟨y,H3,I3,ry,a,H4,ex,g,q3⟩=>?_) hs;subst ex;obtain rfl:u=Value.ref a:=rx;exact ID hu I3 g ry rv λs4 I4=>⟨σ,H4,I4,q3⟩
end
theorem u0 (h:Heap) (hb:QJ < h.objs.size):bZ P w H (h.push { cls:=.type "dict",data:=.dict #[] }) h.objs.size (.dK []) :=
 ⟨Qf _,beq_eq_false_iff_ne.mpr (Ne.symm (Wr hb)),[],.nil,Heap.DictOf.new h⟩
def IH:TE:=λ_ H Q=>∀ p,H p=none->Q (.ref p) (upd H p (.dK []))
section
variable {X:Cx} {pos:Pos}
theorem II:PE X (.Dict [] [] pos) IH:=λpins s σ H Q I h =>
 wpAny_Dict_empty ⟨.ref s.heap.objs.size,_,I.laid (a:=s.heap.objs.size) (o:=.dK []) (t':=s.toks) (λ_ _ q=>W4 _ q) (W8 _) (u0 s.heap I.big),rfl,h _ (I.aD.fresh (W8 _))⟩
end
def u3:List (TE×TE)->St->Hp->(List (V×V)->Hp->Prop)->Prop
 | [],_,H,Q=>Q [] H
 | (tk,tv) :: r,σ,H,Q=>tk σ H λx H1=>tv σ H1 λy H2=>u3 r σ H2 λps H3=>Q ((x,y) :: ps) H3
abbrev VV:List (V×V)->List (Value×Value)->Prop:=Paired λp q=>RelV p.1 q.1/\RelV p.2 q.2
def rY(X:Cx)(pos:Pos)(keys:List (Option Expr))(values:List Expr)(ma:List (TE×TE)):Prop :=
 ∀ (pins:List (Addr×Obj)) (s:W2) (σ:St) (H:Hp) (Q:List (V×V)->Hp->Prop),Inv X pins σ H s->u3 ma σ H Q ->
  W5 (model X.prog X.w) X.A (evalPairs (pairTrees keys values X.env pos)) (λvs s'=>∃ ps H',Inv X pins σ H' s'/\VV ps vs/\Q ps H') X.xe s
theorem IJ:rY X pos [] [] []:=λpins s σ H Q I h=>pairTrees_nil_walk ⟨[],H,I,.nil,h⟩
theorem IK(hk:PE X k tk)(hv:PE X v tv)(hr:rY X pos ks vs ma) :
  rY X pos (some k :: ks) (v :: vs) ((tk,tv) :: ma):=λpins s σ H Q I h =>
 pairTrees_cons_walk (aQ (hk pins s σ H _ I h) λu s1 ⟨x,H1,I1,rx,q1⟩=>aQ (hv pins s1 σ H1 _ I1 q1) λw2 s2 ⟨y,H2,I2,ry,q2⟩ =>
  aQ (hr pins s2 σ H2 _ I2 q2) λws s3 ⟨ps,H3,I3,rel,q3⟩=>⟨(x,y) :: ps,H3,I3,.cons ⟨rx,ry⟩ rel,q3⟩)
def me(kvs more:List (Key×V)):List (Key×V):=more.foldl (λacc kv=>putK acc kv.1 kv.2) kvs
theorem KV.merge:∀ {more:List (Key×V)} {rs:List (Key×Value)} {kvs:List (Key×V)} {vs:List (Key×Value)},KV more rs->KV kvs vs->KV (me kvs more) (merged vs rs):=by
 intro more rs kvs vs r;unfold KV at r;induction r generalizing kvs vs with
 | nil=>intro q; exact q
 | @cons p q ps qs h t ih =>
  intro r0;have e:KV (putK kvs p.1 p.2) (stored vs q.1 q.2):=by
   have:=r0.put p.1 h.2;rw[<- h.1]; exact this
  exact ih e
theorem Bl:∀ (more kvs:List (Key×V)),(me kvs more).length<=kvs.length + more.length
 | [],kvs=>by show kvs.length<=kvs.length + 0; omega
 | p :: r,kvs=>by
  have h1:=Bl r (putK kvs p.1 p.2);have h2:=nM kvs p.1 p.2;show(me (putK kvs p.1 p.2) r).length<=_;rw[WS]; omega
theorem Bm:∀ {kvs:List (Key×V)} {ws:List (Value×Value)},VV (kvs.map λkv=>(kV kv.1,kv.2)) ws->∃ rs,Carries (eB P w) ws rs/\KV kvs rs
 | [],_,r=>by rw[List.map_nil] at r; cases r; exact⟨[],True.intro,.nil⟩
 | p :: kvs,_,r=>by
  rw[Wn] at r
  cases r with
  | @cons a b as bs h t =>
   obtain⟨rs,c,q⟩:=Bm (P:=P) (w:=w) t;obtain⟨b1,b2⟩:=b;exact⟨(p.1,b2) :: rs,⟨kb h.1,rfl,c⟩,.cons ⟨rfl,h.2⟩ q⟩
def IL(ma:List (TE×TE)):TE:=λσ H Q=>∀ p,H p=none->u3 ma σ (upd H p (.dK [])) λps H2=>H2 p=some (.dK [])/\∃ kvs:List (Key×V),ps=kvs.map (λkv=>(kV kv.1,kv.2))/\kvs.length<=15/\Q (.ref p) (upd H2 p (.dK (me [] kvs)))
theorem IM(h:rY X pos keys values ma)(gx:keys.all (·.isSome)=true)(hl:keys.length=values.length)(h0:keys≠[])
  (IP:keys.length<=15):PE X (.Dict keys values pos) (IL ma):=by
 intro pins s σ H Q I q;have hn:=I.aD.fresh (W8 s.heap.objs.size);have I1:=I.laid (a:=s.heap.objs.size) (o:=.dK []) (h':=s.heap.push { cls:=.type "dict",data:=.dict #[] }) (t':=s.toks) (λ_ _ q=>W4 _ q) (W8 _) (u0 s.heap I.big);refine wpAny_Dict_walk (knd:=eB X.prog X.w) gx hl h0 IP (aQ (h pins _ σ _ _ I1 (q _ hn)) λws s2 ⟨ps,H2,I2,rel,e,kvs,ep,lk,q2⟩=>?_);subst ep;obtain⟨rs,c,rk⟩:=Bm (P:=X.prog) (w:=X.w) rel;obtain⟨z,hd,vs0,r0,dd⟩:=nN I2.aD e
 cases r0;refine⟨rs,c,dd,λh' ig hs=>⟨.ref s.heap.objs.size,_,?_,rfl,q2⟩⟩;have hz:(me [] kvs).length<=W6:=by
  have h1:=Bl kvs [];rw[List.length_nil] at h1;rw[J0]; omega
 have he:∃ q,h'.get? s.heap.objs.size=some q:=let ⟨q,_,_,hq,_⟩:=ig; ⟨q,hq⟩
 exact pL I2 (by rw[e]; exact True.intro) hs he (rX hz hd (rk.merge .nil) ig)
structure M1(X:Cx)(o:Expr)(m:Str)(apos:Pos)(e:Expr)(bE:Pos):Prop where
 base:Jg o m X.env (eval o X.env)=eval o X.env
 u5:((Q9 bE (Wb [e] X.env)).all (λx=>!x.1) && (backToKw bE (Jm [] X.env)).all (λx=>x.1.isSome)
  && decide (([e]:List Expr).length + ([]:List Keyword).length + (if ([]:List Keyword).isEmpty then 0 else 1) < 30))=true
 line:(apos.endLine == bE.line)=true
 trees:Q9 bE (Wb [e] X.env)=[(false,eval e X.env)]
structure M2(X:Cx)(o:Expr)(m:Str)(apos:Pos)(e f:Expr)(bE:Pos):Prop where
 base:Jg o m X.env (eval o X.env)=eval o X.env
 u5:((Q9 bE (Wb [e,f] X.env)).all (λx=>!x.1) && (backToKw bE (Jm [] X.env)).all (λx=>x.1.isSome)
  && decide (([e,f]:List Expr).length + ([]:List Keyword).length + (if ([]:List Keyword).isEmpty then 0 else 1) < 30))=true
 line:(apos.endLine == bE.line)=true
 trees:Q9 bE (Wb [e,f] X.env)=[(false,eval e X.env),(false,eval f X.env)]
def u6(H:Hp)(a:Addr):Prop:=(∃ kvs,Rd H a (.dK kvs))\/∃ kvs,Rd H a (.dT kvs)
theorem Bn(I:Inv X pins σ H s)(d:u6 H a) :
  s.TypeIs (.ref a) "dict"/\(∀ b,Value.ref a = .ref b->∃ ob,s.heap.get? b=some ob/\ob.dict=none)/\(a == QJ)=false:=by
 rcases d with ⟨kvs,e⟩ | ⟨kvs,e⟩
 ·obtain⟨_,hd,vs,_,dd⟩:=l_ I.aD e;refine⟨dd.typeIs,λb q=>?_,hd⟩
  cases q;obtain⟨ob,_,_,h1,h2,_⟩:=dd;exact⟨ob,h1,h2.2.1⟩
 ·obtain⟨_,hd,xs,_,dd⟩:=nQ I.aD e;refine⟨dd.typeIs,λb q=>?_,hd⟩
  cases q;obtain⟨ob,_,_,h1,h2,_⟩:=dd;exact⟨ob,h1,h2.2.1⟩
section
variable {X:Cx} {pins:List (Addr×Obj)} {σ:St} {H:Hp} {s:W2} {a:Addr} {y d:V} {u r:Value} {o:Option V} {A:Wq} {E:Value->W2->Prop}
theorem IQ(hu:A.units + 1 < WO)(I:Inv X pins σ H s)(g:jI H a y o)(ry:RelV y u)(h:∀ w' s',Inv X pins σ H s'->RelV (o.getD .ax) w'->Q w' s') :
  W5 (model X.prog X.w) A (call (.builtin "dict.get") [.ref a,u]) Q E s:=by
 rcases g with ⟨kvs,k,e,ey,l⟩ | ⟨kvs,k,b,e,ey,eb,l⟩
 ·subst ey;obtain⟨z,hd,vs,rel,dd⟩:=l_ I.aD e;refine call_meetsIn PySem.F.slot_dict_get dd.typeIs PySem.F.entry_dict_get (PySem.F.args_dict_get_2 _ _) (meets_dict_get (eB X.prog X.w) a (kb ry) hd) ⟨_,dd.mapOf,h _ _ (I.tok _) ?_⟩;rw[l];exact(rel.val k).getD rfl
 ·subst ey
  cases (show u=Value.ref b from ry);obtain⟨z,hd,xs,rel,dd⟩:=nQ I.aD e;refine call_meetsIn PySem.F.slot_dict_get dd.typeIs PySem.F.entry_dict_get (PySem.F.args_dict_get_2 _ _) (meetsH_dict_get (tupleKind (eB X.prog X.w)) a b hd) ⟨Jj hu,k,xs,nO I.aD eb,dd,h _ _ (I.tok _) ?_⟩;rw[l];exact(rel.val k).getD rfl
end
def IS(td ty:TE):TE:=λσ H Q=>td σ H λx H1=>∃ a,x = .ref a/\u6 H1 a/\ty σ H1 λy H2=>∃ o,jI H2 a y o/\Q (o.getD .ax) H2
section
variable {X:Cx} {o e f:Expr} {apos bE:Pos} {td ty tx:TE}
theorem IT (hu:X.A.units + 1 < WO) (ho:PE X o td) (he:PE X e ty) (m:M1 X o "get" apos e bE):PE X (.Call (.Attribute o "get" apos) [e] [] bE) (IS td ty):=by
 intro pins s σ H Q I h;refine wpAny_Call_method m.base m.u5 m.line PySem.F.plainAttrs_dict PySem.F.slot_dict_get PySem.F.type_dict_get (aQ (ho pins s σ H _ I h) λu s1 ⟨x,H1,I1,rx,a,ex,d,q1⟩=>?_);subst ex;obtain rfl:u=Value.ref a:=rx;obtain⟨t1,t2,_⟩:=Bn I1 d;refine⟨t1,t2,?_⟩;rw[m.trees];refine Calls.callWith_builtin rfl (Calls.evalArgs_plain (Calls.spliced_cons (aQ (he pins s1 σ H1 _ I1 q1) λiv s2 ⟨y,H2,I2,ry,ov,g,q2⟩=>Calls.spliced_nil ?_)));exact IQ hu I2 g ry λw' s3 I3 aL=>⟨_,H2,I3,aL,q2⟩
end
section
variable {X:Cx} {pins:List (Addr×Obj)} {σ:St} {H:Hp} {s:W2} {a:Addr} {kvs:List (Key×V)} {A:Wq} {E:Value->W2->Prop}
end
section
variable {X:Cx} {pins:List (Addr×Obj)} {σ:St} {H:Hp} {s:W2} {a:Addr} {y:V} {u:Value} {A:Wq} {E:Value->W2->Prop}
end
end L2
namespace Att
open PySem PySem.W PySem.Calls PyProof.Rows
theorem IU:∀ (ns:List Int) (vs:List Value),WellAll P h vs (ns.map WData.int)->IntsAre vs ns:=by
 intro ns;induction ns with
 | nil =>
  intro vs w;rw[List.map_nil] at w
  cases w;exact .nil
 | cons n ns ih =>
  intro vs w;rw[Wn] at w
  cases w with
  | cons a b =>
   cases a;exact .cons _ _ (ih _ b)
theorem IV{l:OpenLaw}{n:Nat}(hn:l.most=some n){P:Params}{h:Heap}{args:List WData}{vals:List Value}
  (rZ:l.row.toRowW.claim.pre args=true) (u7:WellAll P h vals args) :
  ∃ a vs ns,vals=[Value.ref a]/\args=[WData.list (ns.map WData.int)]/\h.get? a=some { cls:=.type "list",data:=.seq vs.toArray }/\IntsAre vs ns/\ns.length<=n:=by
 have IW:WShape.hasAll [] args [.list .int]=true:=(pre_splitW rZ).1;have hc:l.pre.holds [] { args:=args } = true:=(pre_splitW rZ).2;obtain⟨d,r,rfl,h1,h2⟩:=hasAllW_cons IW;obtain rfl:=hasAllW_nil h2;obtain⟨xs,rfl,h3⟩:=hasW_list h1;obtain⟨ns,rfl⟩:=items_int h3;have hlen:ns.length<=n:=by
  unfold OpenLaw.pre at hc;have h4:(WTm.not (.lt (.lit (.int (n:Int))) (.len (.arg 0)))).holds [] { args:=[.list (ns.map .int)] } = true:=by
   have h4:=(holds_andW hc).1;rw[hn] at h4;exact h4
  have h5:=condW_of h4 (w_not (w_lt w_lit (w_len_list (w_arg rfl))));rw[WA] at h5;refine Nat.le_of_not_lt λq=>?_
  have q':(n:Int) < ((ns.length:Nat):Int):=by omega
  first
   | (rw[decide_eq_true q'] at h5; exact absurd h5 (by decide))
   | (simp at h5; omega)
 cases u7 with
 | cons w1 w2 =>
  cases w2
  cases w1 with
  | list ho gx=>exact⟨_,_,ns,rfl,rfl,ho,IU ns _ gx,hlen⟩
theorem IX(l:OpenLaw)(args:List WData):l.row.toRowW.claim.post args (.bool true) args=true :=
 postW_of (r:=l.row.toRowW) (X:=(true == true))
  (show WShape.has [] (.bool true) .bool=true by first | rfl | decide | simp[WShape.has,WShape.arms,WShape.armsAll])
  (show(WTm.eq .res (.lit (.bool true))).value [] { args:=args,res:=some (.bool true),after:=args } = some (.bool (true == true)) from w_eq_bool (w_res rfl) w_lit) rfl
theorem Bo{l:OpenLaw}{n:Nat}{q:Wj}{loose:List Str}{XP:(Str->Option Value)->Heap->Prop}{YP:Wp->Heap->Prop}{d:DefRec}
  (hn:l.most=some n) (pM:d.params.defaults=[])
  (call:∀ (w:Wp) (s₀ s₁:W2) (mg mb:Str->Option Value) (fa:Addr) (o:Obj) (pm cd doc:Value) (a:Addr) (vs:List Value) (ns:List Int),
   Ground q loose [] XP w s₀ mg mb s₁.heap->YP w s₁.heap ->
   s₁.heap.get? fa=some o->o.data = .func (docDef d.name d.params d.body d.scope pm cd doc)->s₁.heap.CodeRec cd d.name->mg d.name=some (.ref fa) ->
   s₁.heap.get? a=some { cls:=.type "list",data:=.seq vs.toArray }->IntsAre vs ns->ns.length<=n->s₁.gens = #[] ->
   Qe (model l.prog w) callerA (.call (.ref fa) ⟨[.ref a],[]⟩) (λr s'=>r = .ok (.ret (.bool true))/\OldK s₁.heap s'.heap/\s'.os=s₁.os/\AllBare s'.gens) s₁) :
  WalkO q loose XP YP l.row.toRowW d [] (λf vs=>PySem.call f vs):=by
 intro w s₀ s₁ mg mb G Y fa o pm cd doc dV kV ho hd fV hD kg hg args vals as rZ hlay hrd u7 hlo;obtain rfl:dV = .none:=Dflts.none hD pM;obtain rfl:kV = .none:=Dflts.noKw hD;obtain⟨a,vs,ns,rfl,rfl,pO,hints,hlen⟩:=IV hn rZ u7;refine enter_call (QL (call w s₀ s₁ mg mb fa o pm cd doc a vs ns G Y ho (fd_plain hd) fV kg pO hints hlen hg) λr s' hq=>?_);obtain⟨rfl,h2,h3,h4⟩:=hq;exact⟨.inl ⟨.bool true,.bool true,[],rfl,λ_=>rfl,.bool true,IX l _,λ_=>⟨List.Pairwise.nil,λ_ hm=>(nomatch hm)⟩⟩,h2,h3,h4⟩
section
variable {prog:Wj} {w:Wp} {A:Wq} {E:Value->W2->Prop} {s:W2} {K:Frag}
end
end Att
namespace L2
open PySem PySem.Spec PyProof.Rows
theorem u9:∀ {vs:List Value} {ns:List Int},IntsAre vs ns->Vals (ns.map V.int) vs
 | _,_,.nil=>.nil
 | _,_,.cons n t h=>.cons ⟨t,rfl⟩ (u9 h)
def u_(H:Hp):Prop:=∀ b,H b=none\/∃ o xs,H b=some (.frz o (.lst xs))
theorem IY{P:Wj}{w:Wp}{K:W1}{mg mb:Str->Option Value}{CX:jc}{k:Nat}{fa a:Addr}{fd:WM}{x:Str}{sp:Sp}{s₁:W2}{vs:List Value}{ns:List Int}
  (KX:K.In s₁.heap) (la:s₁.heap.Ns Ws mg) (hb:s₁.heap.Ns builtinsNs mb) (vb:∀ x:Str,x≠"__name__"->mb x=Qu x) (vc:s₁.heap.NoLimit) (hg:s₁.gens = #[])
  (ha:s₁.heap.get? a=some { cls:=.type "list",data:=.seq vs.toArray }) (hi:IntsAre vs ns) (hl:ns.length<=W6) (hr:cC k callerA)
  (F:∀ base:Heap,K.In base->base.Ns Ws mg->gJ P w K mg base CX k fa fd [x] sp) (vd:∀ (s:W2) (u:Value),BindsTo s fd ⟨[u],[]⟩ [(x,u)])
  (je:∀ H:Hp,u_ H->cj K H a (ns.map V.int)->sp [.ref a] H (λv _=>v = .bl true) λ_ _ _=>False)
  (vf:∀ H e s',CX [] H s₁ (λ_ _ _=>False) e s'->False) :
  Qe (model P w) callerA (.call (.ref fa) ⟨[.ref a],[]⟩) (λr s'=>r = .ok (.ret (.bool true))/\OldK s₁.heap s'.heap/\s'.os=s₁.os/\AllBare s'.gens) s₁:=by
 have rv:=u9 hi;have Bp:=hi.length;-- from an abstract heap in which nothing but the script may be tracked
 have core:∀ H:Hp,u_ H->cj K H a (ns.map V.int)->cB P w H s₁.heap->(∀ b,H b≠none->b=a)->(H a≠none->K.lookup a=none) ->
   Qe (model P w) callerA (.call (.ref fa) ⟨[.ref a],[]⟩) (λr s'=>r = .ok (.ret (.bool true))/\OldK s₁.heap s'.heap/\s'.os=s₁.os/\AllBare s'.gens) s₁:=by
  intro H hO hS aD hA hK;have nR:∀ {b:Addr} {o:Obj},s₁.heap.get? b=some o->H b=none->(gk s₁.heap H).get? b=some o:=λe n=>zY e n
  have jd:∀ {b:Addr} {o:Obj} {es:Array DictEntry} {ep:Nat},s₁.heap.get? b=some o->o.data = .dict es ep->H b=none:=λ{b o es ep} e d=>by
   cases q:H b with
   | none=>rfl
   | some u =>
    have e':b=a:=hA b (by rw[q]; simp);subst e';rw[ha] at e; cases e
    have d':Data.seq vs.toArray _=Data.dict es ep:=d
    cases d'
  have kh:∀ {b:Addr} {m:Str->Option Value},s₁.heap.Ns b m->(gk s₁.heap H).Ns b m:=λ{b m} ⟨o,es,ep,e,d,r⟩=>⟨o,es,ep,nR e (jd e d),d,r⟩
  have pP:K.In (gk s₁.heap H):=λb o e=>nR (KX b o e) (by
   cases q:H b with
   | none=>rfl
   | some u =>
    have e':b=a:=hA b (by rw[q]; simp);subst e';rw[hK (by rw[q]; simp)] at e; cases e)
  have hM:Mod K mg (gk s₁.heap H):=⟨pP,kh la,⟨mb,kh hb,vb⟩,let ⟨mc,h1,h2⟩:=vc; ⟨mc,kh h1,h2⟩⟩
  have e0:nL P w K mg (gk s₁.heap H) callerA [] s₁ H:=⟨rfl,hM,λb o e=>zZ e,Nat.le_of_eq (zX _ _),trivial,λb hb=>absurd (show b ∈ ([]:List Addr) from hb) (by simp),aD,.of_eq hg⟩
  refine QL ((F _ pP (kh la)).run callerA [] s₁ H ⟨[.ref a],[]⟩ [.ref a] [.ref a] _ _ hr e0 (vd s₁ (.ref a)) (.cons rfl .nil) (je H hO hS)) λr s' h=>?_
  cases r with
  | error e=>exact(vf H e s' h).elim
  | ok fl =>
   cases fl with
   | next=>exact False.elim h
   | brk=>exact False.elim h
   | cont=>exact False.elim h
   | ret u =>
    obtain⟨v,H',os,bare,un,hok',r',q⟩:=h;have q':v = .bl true:=q;subst q';obtain rfl:u=Value.bool true:=r';refine⟨rfl,OldK.of_keep λb o e=>?_,os,bare⟩
    cases q:H b with
    | none=>exact un.keep b o e q (by intro z; exact absurd (show b ∈ ([]:List Addr) from z) (by simp)) (by simp)
    | some u =>
     rcases hO b with z | ⟨ob,xs,z⟩
     ·rw[q] at z; cases z
     ·have z2:=un.ja b ob _ z;obtain⟨e1,_⟩:=aD b _ z;obtain⟨e2,_⟩:=hok' b _ z2;rw[e] at e1; cases e1
      exact e2
 cases hk:K.lookup a with
 | some o =>
  -- the script is one of the module's own objects
  have e:=KX a o hk;rw[ha] at e
  cases e;refine core (λ_=>none) (λ_=>.inl rfl) (.inr ⟨_,vs.toArray,_,hk,rfl,rfl,rfl,by rw[Wo,Bp]; exact hl,by simpa using rv⟩) (λb u z=>by have z':(none:Option HO)=some u:=z; cases z') (λb z=>absurd rfl z) λz=>absurd rfl z
 | none =>
  refine core (λb=>if b=a then some (.frz { cls:=.type "list",data:=.seq vs.toArray } (.lst (ns.map V.int))) else none) (λb=>?_) (.inl (.inr ⟨{ cls:=.type "list",data:=.seq vs.toArray },if_pos rfl⟩)) (λb u z=>?_) (λb z=>?_) λ_=>hk
  ·by_cases hb:b=a
   ·exact .inr ⟨_,_,if_pos hb⟩
   ·exact .inl (if_neg hb)
  ·by_cases hb:b=a
   ·have z':=(if_pos hb).symm.trans z
    cases z';subst hb;exact⟨ha,by rw[WA]; exact hl,vs,_,rv,ha⟩
   ·have z':=(if_neg hb).symm.trans z
    cases z'
  ·by_cases hb:b=a
   ·exact hb
   ·exact absurd (if_neg hb) z
abbrev To{K:W1}{h:Heap}(_:K.In h):W1:=K
theorem Tp{l:PySem.W.OpenLaw}{n k:Nat}{q:Wj}{loose:List Str}{XP:(Str->Option Value)->Heap->Prop}{YP:Wp->Heap->Prop}{d:DefRec}{K:Params->W1}{CX:Wp->jc}{sp:Wp->Sp}{x:Str}
  (hn:l.most=some n) (IZ:n<=W6) (pM:d.params.defaults=[]) (hr:cC k callerA)
  (hY:∀ (w:Wp) (h:Heap),YP w h->(K w.params).In h)
  (F:∀ (w:Wp) (mg:Str->Option Value) (fa:Addr) (h:Heap),(K w.params).In h->h.Ns Ws mg->mg d.name=some (.ref fa) ->
   ∃ fd:WM,(∀ (s:W2) (u:Value),BindsTo s fd ⟨[u],[]⟩ [(x,u)]) /\
    ∀ base:Heap,(K w.params).In base->base.Ns Ws mg->gJ l.prog w (K w.params) mg base (CX w) k fa fd [x] (sp w))
  (je:∀ (w:Wp) (H:Hp) (a:Addr) (ns:List Int),ns.length<=n->u_ H->cj (K w.params) H a (ns.map V.int)->sp w [.ref a] H (λv _=>v = .bl true) λ_ _ _=>False)
  (vf:∀ (w:Wp) (H:Hp) (s:W2) (e:Value) (s':W2),CX w [] H s (λ_ _ _=>False) e s'->False) :
  PySem.W.WalkO q loose XP YP l.row.toRowW d [] (λf vs=>PySem.call f vs):=by
 refine Att.Bo hn pM λw s₀ s₁ mg mb fa o pm cd doc a vs ns G Y ho hd fV kg pO hints hlen hg=>?_
 have KX:=hY w _ Y;obtain⟨fd,hb,hF⟩:=F w mg fa _ KX G.T.g kg;exact IY KX G.T.g G.T.b G.T.builtins G.T.nolimit hg pO hints (WU hlen IZ) hr hF hb (λH hO hS=>je w H a ns hlen hO hS) λH e s'=>vf w H s₁ e s'
def gL(s:Stmt):Arguments:=match s with
 | .FunctionDef _ a _ _ _ _ _ _ _ _=>a
 | _=>{ posonlyargs:=[],args:=[],vararg:=none,kwonlyargs:=[],kw_defaults:=[],kwarg:=none,defaults:=[] }
def dY(s:Stmt):List Stmt:=match s with
 | .FunctionDef _ _ b _ _ _ _ _ _ _=>b
 | _=>[]
def bc(s:Stmt):Scope:=match s with
 | .FunctionDef _ _ _ _ _ _ sc _ _ _=>sc
 | _=>{ kind:=.function,names:=[],isGenerator:=false,isCoroutine:=false }
abbrev dG:jc:=λ_ _ _ _ _ _=>False
abbrev E0:XK:=λ_ _ _=>False
theorem Bq:uN dG X E0:=λ_ _ _ _ _ _ _ h=>h.elim
structure bS(K:W1)(x qual:Str)(st:Stmt)(f:Addr)(fd:WM):Prop where
 ex:∃ (oc:Value) (od:Option Addr) (kV doc pm:Value) (an:Option Addr) (aJ ct:Value) (eC:Array (Option Value)),
  fd=WZ x qual (gL st) (dY st) (bc st) .none kV doc pm an aJ ct/\K.lookup f=some ⟨oc,od,.func fd,eC⟩/\PySem.W.codeIn K aJ qual=true
 kp:J1 K (.ref f)=true
section
variable {P:Wj} {w:Wp} {K:W1} {mg:Str->Option Value} {base:Heap}
theorem bS.ok{x qual:Str}{st:Stmt}{f:Addr}{fd:WM}{N ps:List Str}{k:Nat}{sp:Sp}(F:bS K x qual st f fd)(S:ck N ps (bc st))(len:∀ vs H Q E,sp vs H Q E->vs.length=ps.length)
  (eE:∀ (aJ:Value) (A:Wq) (outer:List Env) (s:W2) (H:Hp) (vs:List V) (Q:VK) (E:XK),cC k (A.deeper (J5 qual (bc st) s.heap.objs.size f aJ))->sp vs H Q E ->
   ∃ t,dU (fK dG P w K mg base N qual (bc st) f aJ A outer s H E).gp (dY st) t/\t { nx:=λ_ H'=>Q .ax H',rt:=Q } (b7 N vs) H):gJ P w K mg base dG (k + 1) f fd ps sp:=by
 obtain⟨oc,od,kV,doc,pm,an,aJ,ct,eC,rfl,lk,fV⟩:=F.ex;refine AV lk fV S len λA outer s H vs Q E hr je=>?_
 obtain⟨t,h,q⟩:=eE aJ A outer s H vs Q E hr je;exact⟨t,h.gp,q⟩
theorem bS.binds{x qual:Str}{st:Stmt}{f:Addr}{fd:WM}{ps:List Str}(F:bS K x qual st f fd)
  (h:∀ (kV doc pm:Value) (an:Option Addr) (aJ ct:Value) (us:List Value),us.length=ps.length->bindArgs (WZ x qual (gL st) (dY st) (bc st) .none kV doc pm an aJ ct) ⟨us,[]⟩=pure (ps.zip us)):Binds K fd ps []:=by
 obtain⟨oc,od,kV,doc,pm,an,aJ,ct,eC,rfl,lk,fV⟩:=F.ex;exact .all (h kV doc pm an aJ ct)
theorem vg{x qual:Str}{st:Stmt}{f:Addr}{oc:Value}{od an:Option Addr}{eC:Array (Option Value)}{kV doc pm aJ ct:Value}(l:K.lookup f=some ⟨oc,od,.func (WZ x qual (gL st) (dY st) (bc st) .none kV doc pm an aJ ct),eC⟩)
  (c:PySem.W.codeIn K aJ qual=true) (k:J1 K (.ref f)=true):bS K x qual st f (WZ x qual (gL st) (dY st) (bc st) .none kV doc pm an aJ ct):=⟨⟨oc,od,kV,doc,pm,an,aJ,ct,eC,rfl,l,c⟩,k⟩
end
theorem I0(h:n<=1000):n < W6:=Nat.lt_of_le_of_lt h (by decide)
section
variable {X:Cx}
theorem pv (i:Nat) (hN:X.N[i]? = some x:=by rfl) (hv:rj X.env.scope x:=by first | exact Or.inl rfl | exact Or.inr (Or.inl rfl) | exact Or.inr (Or.inr rfl)) (hd:(x == ("__debug__" : Str))=false:=by decide)
  (fV:(x == ("__classdict__" : Str))=false:=by decide):PE X (.Name x pos) (dW i):=Gw hN hv hd fV
theorem I_:dM X (.builtin "len") (λxs H Q=>∃ a kvs,xs=[V.ref a]/\H a=some (.dK kvs)/\Q (.int kvs.length) H):=by
 intro pins s σ H xs us Q I r h;obtain⟨a,kvs,rfl,ha,q⟩:=h;obtain⟨u,rfl,ru⟩:=fW r
 cases ru;exact IE I (.inl ha) λt s' I'=>⟨.int kvs.length,H,I',⟨t,rfl⟩,q⟩
end
section
variable {κ:Type} [DecidableEq κ]
end
def fL(cells:List (Str×Addr)):List (Str×NameKind)->List (Str×Addr)->List (Str×Addr)
 | [],acc=>acc
 | (n,k) :: r,acc=>fL cells r (if k == .free then(match cells.lookup n with | some a=>(n,a) :: acc | none=>acc) else acc)
theorem vh(f:Str×NameKind->List (Str×Addr)->Sem (ForInStep (List (Str×Addr))))
  (hf:∀ name kind cs,f (name,kind) cs=if kind == .free then(do let a <- cellOf env name; pure (.yield ((name,a) :: cs))) else pure (.yield cs)) :
  ∀ (names:List (Str×NameKind)) (acc:List (Str×Addr)),(∀ x ∈ names,x.2=NameKind.free->∃ c,env.cells.lookup x.1=some c)->(forIn names acc f:Sem (List (Str×Addr)))=pure (fL env.cells names acc)
 | [],acc,_=>by rw[List.forIn_nil]; rfl
 | (n,k) :: r,acc,h=>by
  rw[List.forIn_cons,hf];unfold fL;by_cases hk:(k == NameKind.free)=true
  ·obtain⟨c,hc⟩:=h (n,k) Wl (by simpa using hk);have gH:env.cells.lookup n=some c:=hc;have e:cellOf env n=pure c:=by unfold cellOf; rw[gH]
   rw[if_pos hk,if_pos hk,e,gH];exact vh f hf r _ λx hx=>h x (Wh _ hx)
  ·rw[if_neg hk,if_neg hk];exact vh f hf r _ λx hx=>h x (Wh _ hx)
theorem Br(h:∀ x ∈ scope.names,x.2=NameKind.free->∃ c,env.cells.lookup x.1=some c):closureFor scope env=pure (fL env.cells scope.names []):=by
 unfold closureFor;dsimp only;rw[vh (env:=env) _ (λname kind cs=>by cases hkc:kind == NameKind.free <;> simp[hkc]) scope.names [] h];rfl
theorem Bs:∀ (names:List (Str×NameKind)) (acc:List (Str×Addr)),(n,c) ∈ fL cells names acc->(n,c) ∈ acc\/((n,NameKind.free) ∈ names/\cells.lookup n=some c)
 | [],acc,h=>.inl h
 | (y,k) :: r,acc,h=>by
  unfold fL at h;rcases Bs r _ h with q | ⟨q,e⟩
  ·by_cases hk:(k == NameKind.free)=true
   ·rw[if_pos hk] at q;have mf:k=NameKind.free:=by simpa using hk
    cases e:cells.lookup y with
    | none=>rw[e] at q; exact .inl q
    | some a =>
     rw[e] at q;rcases We.mp q with z | z
     ·cases z;exact .inr ⟨by rw[mf]; exact Wl,e⟩
     ·exact .inl z
   ·rw[if_neg hk] at q; exact .inl q
  ·exact .inr ⟨Wh _ q,e⟩
theorem Bt:∀ (names:List (Str×NameKind)) (acc:List (Str×Addr)),(acc.lookup n).isSome=true\/((n,NameKind.free) ∈ names/\(cells.lookup n).isSome=true)->((fL cells names acc).lookup n).isSome=true
 | [],acc,h=>h.elim id λz=>absurd z.1 (by simp)
 | (y,k) :: r,acc,h=>by
  unfold fL;apply Bt r;by_cases hk:(k == NameKind.free)=true
  ·rw[if_pos hk]
   cases e:cells.lookup y with
   | none =>
    rcases h with h | ⟨h1,h2⟩
    ·exact .inl h
    ·rcases We.mp h1 with z | z
     ·cases z;rw[e] at h2; cases h2
     ·exact .inr ⟨z,h2⟩
   | some a =>
    by_cases hn:(n == y)=true
    ·refine .inl ?_;show(List.lookup n ((y,a) :: acc)).isSome=true;rw[Qb,hn];rfl
    ·rcases h with h | ⟨h1,h2⟩
     ·refine .inl ?_;show(List.lookup n ((y,a) :: acc)).isSome=true;have pA:(n == y)=false:=by simpa using hn
      rw[Qb,pA];exact h
     ·rcases We.mp h1 with z | z
      ·cases z;exact absurd (by simp) hn
      ·exact .inr ⟨z,h2⟩
  ·rw[if_neg hk];rcases h with h | ⟨h1,h2⟩
   ·exact .inl h
   ·rcases We.mp h1 with z | z
    ·cases z;exact absurd rfl hk
    ·exact .inr ⟨z,h2⟩
theorem vi:∀ (names:List (Str×NameKind)) (h:Heap) (acc:List (Str×Addr)),(n,c) ∈ Qs h.objs.size names acc ->
  (n,c) ∈ acc\/((n,NameKind.cell) ∈ names/\h.objs.size<=c/\(JE h names).IsCell c none)
 | [],_,_,h=>.inl h
 | (y,k) :: r,h,acc,hm=>by
  unfold Qs at hm;unfold JE;by_cases hk:(k == NameKind.cell)=true
  ·rw[if_pos hk] at hm;rw[if_pos hk];have mf:k=NameKind.cell:=by simpa using hk
   have sz:(h.push { cls:=.type "cell",data:=.cell none }).objs.size=h.objs.size + 1:=QI ..;rw[<- sz] at hm;rcases vi r _ _ hm with q | ⟨q1,q2,q3⟩
   ·rcases We.mp q with z | z
    ·cases z;refine .inr ⟨by rw[mf]; exact Wl,W8 _,?_⟩;exact Heap.IsCell.keeps ⟨_,Wm _ rfl,rfl⟩ (pushCells_keeps r _)
    ·exact .inl z
   ·exact .inr ⟨Wh _ q1,by rw[sz] at q2; omega,q3⟩
  ·rw[if_neg hk] at hm;rw[if_neg hk];rcases vi r _ _ hm with q | ⟨q1,q2,q3⟩
   ·exact .inl q
   ·exact .inr ⟨Wh _ q1,q2,q3⟩
theorem vj:∀ (names:List (Str×NameKind)) (k:Nat) (acc:List (Str×Addr)),(∀ n n' c,(n,c) ∈ acc->(n',c) ∈ acc->n=n')->(∀ n c,(n,c) ∈ acc->c < k) ->
  ∀ n n' c,(n,c) ∈ Qs k names acc->(n',c) ∈ Qs k names acc->n=n'
 | [],_,_,h,_=>h
 | (y,kd) :: r,k,acc,h,hb=>by
  unfold Qs;by_cases hk:(kd == NameKind.cell)=true
  ·rw[if_pos hk];refine vj r (k + 1) _ (λn n' c h1 h2=>?_) λn c hm=>?_
   ·rcases We.mp h1 with e | h1 <;> rcases We.mp h2 with e' | h2
    ·cases e; cases e'; rfl
    ·cases e; exact absurd (hb _ _ h2) (Qd _)
    ·cases e'; exact absurd (hb _ _ h1) (Qd _)
    ·exact h n n' c h1 h2
   ·rcases We.mp hm with e | hm
    ·cases e; exact JQ _
    ·exact Qg (hb _ _ hm)
  ·rw[if_neg hk];exact vj r k acc h hb
theorem mh{env:Env}{x:Str}:∀ {names:List (Str×NameKind)} {k:NameKind},
  (names.map λ(y:Str×NameKind)=>if (y.2 == NameKind.free && env.scope.kind == .function && env.kindOf y.1 == some .cell) then(y.1,NameKind.cell) else(y.1,y.2)).lookup x=some k ->
  names.lookup x=some k\/(k=NameKind.cell/\names.lookup x=some .free)
 | [],_,h=>by simp at h
 | (n,kd) :: r,k,h=>by
  rw[Wn] at h;have ih:=@mh env x r k
  cases hx:x == n with
  | true =>
   by_cases hc:(kd == NameKind.free && env.scope.kind == .function && env.kindOf n == some .cell)=true
   ·rw[if_pos hc,Qb,hx] at h
    cases h;simp only[Wk] at hc;have:kd=NameKind.free:=by simpa using hc.1.1
    exact .inr ⟨rfl,by rw[Qb,hx,this]⟩
   ·rw[if_neg hc,Qb,hx] at h
    cases h;exact .inl (by rw[Qb,hx])
  | false =>
   have h':(r.map λ(y:Str×NameKind)=>if (y.2 == NameKind.free && env.scope.kind == .function && env.kindOf y.1 == some .cell) then(y.1,NameKind.cell) else(y.1,y.2)).lookup x=some k:=by
    by_cases hc:(kd == NameKind.free && env.scope.kind == .function && env.kindOf n == some .cell)=true
    ·rw[if_pos hc,Qb,hx] at h; exact h
    ·rw[if_neg hc,Qb,hx] at h; exact h
   rw[Qb,hx];exact ih h'
def eY(X:Cx)(scope:Scope)(s₀:W2)(H₀:Hp)(ex:List Addr):Cx :=
 { X with
  env:={ scope:=relabel scope X.env,locals:=s₀.heap.objs.size,globals:=X.env.globals,cells:=Qs (s₀.heap.objs.size + 1) scope.names (fL X.env.cells scope.names []),qual:=X.env.qual,func:=none,code:=X.env.code,frame:=X.env.frame,builtins:=X.env.builtins }
  s₀:=s₀
  H₀:=H₀
  outer:=X.stack
  ex:=ex
  fn:=λx=>scope.names.lookup x == some .cell
  pn:=[]
  xe:=λ_ _=>False }
structure mj(X:Cx)(scope:Scope)(cs:List Nat):Prop where
 kind:scope.kind = .function
 names:∀ x ∈ scope.names,x.2 = .local->scope.names.lookup x.1=some .local
 free:∀ x ∈ scope.names,x.2 = .free->X.env.kindOf x.1=some .cell\/X.env.kindOf x.1=some .free
 nd:(scope.names.map (·.1)).Nodup
 own:∀ (i:Nat) x,X.N[i]? = some x->scope.names.lookup x=some .local\/scope.names.lookup x=some .cell->i ∈ cs
def bJ(cs:List Nat)(σ:St):St:=cs.foldl (λσ i=>σ.set i none) σ
theorem r8(cs:List Nat):∀ σ:St,(bJ cs σ).length=σ.length:=by
 induction cs with
 | nil=>intro σ; rfl
 | cons i r ih =>
  intro σ;show(bJ r (σ.set i none)).length=_;rw[ih]; simp
theorem lg:∀ (cs:List Nat) (σ:St) (i:Nat) (v:V),(bJ cs σ)[i]? = some (some v)->σ[i]? = some (some v)/\i ∉ cs:=by
 intro cs;induction cs with
 | nil=>intro σ i v h; exact⟨h,by simp⟩
 | cons j r ih =>
  intro σ i v h;have h':(bJ r (σ.set j none))[i]? = some (some v):=h;obtain⟨h1,h2⟩:=ih _ i v h';by_cases e:j=i
  ·subst e;rw[Q7] at h1;simp at h1
  ·rw[Wa e] at h1;exact⟨h1,by simp only[We,not_or]; exact⟨Ne.symm e,h2⟩⟩
theorem vk:∀ {l:List (Str×α)},(l.map (·.1)).Nodup->(x,k) ∈ l->(x,k') ∈ l->k=k'
 | (y,j) :: r,nd,h1,h2=>by
  rw[Wn,List.nodup_cons] at nd;rcases We.mp h1 with e | g1 <;> rcases We.mp h2 with e' | g2
  ·cases e; cases e'; rfl
  ·cases e; exact absurd (WQ (f:=(·.1)) g2) nd.1
  ·cases e'; exact absurd (WQ (f:=(·.1)) g1) nd.1
  ·exact vk nd.2 g1 g2
section
variable {X:Cx} {pins:List (Addr×Obj)} {σ:St} {H:Hp} {s:W2} {scope:Scope} {cs:List Nat} {fp:List Addr}
theorem JX(I:Inv X pins σ H s)(S:mj X scope cs)(hf:∀ b ∈ fp,gq X pins H b)(bx:∀ b ∈ fp,b < s.heap.objs.size) :
  Inv (eY X scope s H fp) [] (bJ cs σ) H { s with heap:=JE (s.heap.push { cls:=.type "dict",data:=.dict #[] }) scope.names }:=by
 have sz:(s.heap.push { cls:=.type "dict",data:=.dict #[] }).objs.size=s.heap.objs.size + 1:=QI ..;have kp:∀ b o,s.heap.get? b=some o->(JE (s.heap.push { cls:=.type "dict",data:=.dict #[] }) scope.names).get? b=some o:=λb o e=>pushCells_keeps _ _ b o (W4 _ e)
 have r9:∀ n c,(n,c) ∈ fL X.env.cells scope.names []->(n,NameKind.free) ∈ scope.names/\X.env.cells.lookup n=some c:=λn c h=>(Bs _ _ h).elim (λz=>absurd z (by simp)) id
 have JY:∀ n c,(n,c) ∈ fL X.env.cells scope.names []->c < s.heap.objs.size:=λn c h=>by
  obtain⟨v,q⟩:=I.cell n c (r9 n c h).2;exact q.lt
 have pQ:∀ n c,(n,c) ∈ Qs (s.heap.objs.size + 1) scope.names (fL X.env.cells scope.names []) ->
   ((n,NameKind.free) ∈ scope.names/\X.env.cells.lookup n=some c)\/((n,NameKind.cell) ∈ scope.names/\s.heap.objs.size + 1<=c/\(JE (s.heap.push { cls:=.type "dict",data:=.dict #[] }) scope.names).IsCell c none):=λn c h=>by
  rw[<- sz] at h;rcases vi _ _ _ h with q | q
  ·exact .inl (r9 n c q)
  ·rw[sz] at q; exact .inr q
 have JZ:=vj scope.names (s.heap.objs.size + 1) (fL X.env.cells scope.names []) (λn n' c h1 h2=>I.ok.inj n n' c (r9 n c h1).2 (r9 n' c h2).2) (λn c h=>Qg (JY n c h));have pR:∀ x ∈ scope.names,x.2 = .free->∃ c,X.env.cells.lookup x.1=some c:=λx hx hk=>I.ok.has x.1 (S.free x hx hk)
 have J_:∀ b ∈ fp,b ∉ fU X.stack:=λb hb z=>by
  obtain⟨_,f1,f2,_⟩:=hf b hb;rcases We.mp (I.pk b z) with e | e
  ·exact f1 e
  ·exact f2 e
 have Ka:∀ x,(eY X scope s H fp).env.kindOf x=some .cell\/(eY X scope s H fp).env.kindOf x=some .free->scope.names.lookup x=some .cell\/scope.names.lookup x=some .free:=λx h=>by
  rcases h with h | h
  ·have h':(relabel scope X.env).names.lookup x=some .cell:=h;rcases mh (env:=X.env) (names:=scope.names) h' with q | ⟨_,q⟩
   ·exact .inl q
   ·exact .inr q
  ·have h':(relabel scope X.env).names.lookup x=some .free:=h;rcases mh (env:=X.env) (names:=scope.names) h' with q | ⟨q,_⟩
   ·exact .inr q
   ·cases q
 have Bu:∀ x,scope.names.lookup x=some .cell\/scope.names.lookup x=some .free->∃ c,(Qs (s.heap.objs.size + 1) scope.names (fL X.env.cells scope.names [])).lookup x=some c:=λx h=>by
  refine Option.isSome_iff_exists.mp (Jn scope.names _ _ ?_);rcases h with h | h
  ·exact .inl h
  ·refine .inr (Bt _ _ (.inr ⟨Wt h,?_⟩));obtain⟨c,hc⟩:=pR _ (Wt h) rfl;exact Option.isSome_iff_exists.mpr ⟨c,hc⟩
 have Kb:(JE (s.heap.push { cls:=.type "dict",data:=.dict #[] }) scope.names).Ns s.heap.objs.size λ_=>none:=(Heap.Ns.new s.heap (.type "dict")).keeps (pushCells_keeps _ _)
 refine⟨⟨I.ok.mod,S.kind,I.ok.glob,I.ok.blt,W8 _,λy z c h1 h2=>JZ y z c (Wt h1) (Wt h2),λx hx=>Bu x (Ka x hx),λx c jb h=>?_,I.ok.hd,I.ok.frames,.inl rfl,
  λb hb=>⟨Wr (bx b hb),λx c h e=>?_⟩,I.bs,WU I.ok.j5 I.sz,λb o e hb=>?_,J_,I.stack,I.z8⟩,
  rfl,I.bare,Un.kept kp,⟨λ_=>none,Kb,λi x v h1 h2 h3=>?_⟩,λx c h=>?_,I.aD.fresh (W8 _),λx c h=>?_,λp hp=>absurd (show p ∈ ([]:List (Addr×Obj)) from hp) (by simp),I.aD.kept kp,(r8 cs σ).trans I.len⟩
 ·rcases pQ x c (Wt h) with q | q
  ·have Kc:scope.names.lookup x=some .cell:=by
    have:(scope.names.lookup x == some .cell)=true:=jb;exact JD this
   have:=vk S.nd q.1 (Wt Kc)
   cases this
  ·exact Nat.le_of_succ_le q.2.1
 ·subst e;rcases pQ x c (Wt h) with q | q
  ·exact(hf c hb).2.2.2.2.1 x c q.2 rfl
  ·exact absurd (Ww (bx c hb) (Nat.le_of_succ_le q.2.1)) (Qd _)
 ·obtain⟨_,_,_,f3,_⟩:=hf b hb;rcases f3 with z | z
  ·exact I.ok.ph b o e z
  ·exact absurd (Ww (Wi (I.ok.bs b o e).1) z) (Qd _)
 ·obtain⟨h2',hni⟩:=lg cs σ i v h2;have Bv:¬ (scope.names.lookup x=some .local\/scope.names.lookup x=some .cell):=λz=>hni (S.own i x h1 z)
  have lZ:scope.names.lookup x=some .free:=by
   rcases h3 with h3 | h3 | h3
   ·rcases mh (env:=X.env) (names:=scope.names) h3 with q | ⟨q,_⟩
    ·exact absurd (.inl q) Bv
    ·cases q
   ·rcases mh (env:=X.env) (names:=scope.names) h3 with q | ⟨_,q⟩
    ·exact absurd (.inr q) Bv
    ·exact q
   ·rcases mh (env:=X.env) (names:=scope.names) h3 with q | ⟨q,_⟩
    ·exact q
    ·cases q
  have hk:=S.free _ (Wt lZ) rfl;obtain⟨m,hn,hl⟩:=I.loc;have Kd:rj X.env.scope x:=by
   rcases hk with hk | hk
   ·exact .inr (.inl hk)
   ·exact .inr (.inr hk)
  obtain⟨u,r,l⟩:=hl i x v h1 h2' Kd;refine⟨u,r,?_⟩;rcases l with ⟨k,_⟩ | ⟨_,c,hc,hcell⟩
  ·have k':X.env.kindOf x=some .local:=k;rcases hk with hk | hk
   ·rw[show X.env.kindOf x=some .cell from hk] at k'; cases k'
   ·rw[show X.env.kindOf x=some .free from hk] at k'; cases k'
  ·obtain⟨c',gH⟩:=Bu x (.inr lZ);have e:c'=c:=by
    rcases pQ x c' (Wt gH) with q | q
    ·have q2:=q.2;rw[hc] at q2; exact(Wy q2).symm
    ·have:=vk S.nd q.1 (Wt lZ)
     cases this
   subst e;refine .inr ⟨?_,c',gH,hcell.keeps kp⟩;rcases h3 with h3 | h3 | h3
   ·rcases mh (env:=X.env) (names:=scope.names) h3 with q | ⟨q,_⟩
    ·rw[lZ] at q; cases q
    ·cases q
   ·exact .inl h3
   ·exact .inr h3
 ·rcases pQ x c (Wt h) with q | q
  ·obtain⟨v,z⟩:=I.cell x c q.2;exact⟨v,z.keeps kp⟩
  ·exact⟨none,q.2.2⟩
 ·rcases pQ x c (Wt h) with q | q
  ·exact I.h9 x c q.2
  ·exact I.aD.fresh (Nat.le_of_succ_le q.2.1)
end
abbrev ki:Value->W2->Prop:=λ_ _=>False
def Bw(ifs:List Expr)(env:Env):Sem Bool:=forIn ifs true λc r=>if r=true then do let ok <- isTrue c env (eval c env); pure (ForInStep.yield ok) else pure (ForInStep.yield r)
theorem Ke(I:Nat->W2->Prop)
  (turn:∀ n s,I n s->W5 (model prog w) A (Qp it) (λr s₁=>match r with
   | none=>R (.ok .next) s₁
   | some v=>W5 (model prog w) A (letOwnedTupleGo target it v) (λ_ Bx=>W5 (model prog w) A (assign target env v) (λ_ s₂ =>
     W5 (model prog w) A (Bw ifs env) (λok s₃ =>
      if ok=true then W5 (model prog w) A (eval elt env) (λx s₄ =>
       W5 (model prog w) A (call (.builtin "list.append") [acc,x]) (λ_ s₅=>∃ m,m < n/\I m s₅) ki s₄) ki s₃
      else ∃ m,m < n/\I m s₃) ki s₂) ki Bx) ki s₁) ki s)
  (n:Nat) (h:I n s) :
  Qe (model prog w) A (.compLoop (.ListComp elt [⟨target,iter,ifs,0⟩] scope pos) 0 it acc env) R s:=by
 refine codeAny_loop rfl I (λn s hI=>?_) n h;show W5 _ A ((compTurn (.ListComp elt [⟨target,iter,ifs,0⟩] scope pos) 0 it acc env).onRaise (λx=>do noteFrame x env; theTreesLotGoes x)) _ _ s;refine wpAny_noted ?_;rw[compTurn_list];refine W0 (wpAny_standAt (W0 (WE (turn n s hI) (λr s₁ h₁=>?_) λ_ _ h'=>h'.elim)))
 cases r with
 | none=>exact W3 h₁
 | some v =>
  refine W0 (WE h₁ (λ_ Bx Kf=>?_) λ_ _ h'=>h'.elim);refine W0 (WE Kf (λ_ s₂ h₂=>W0 (WE h₂ (λok s₃ h₃=>?_) λ_ _ h'=>h'.elim)) λ_ _ h'=>h'.elim)
  cases ok with
  | false=>exact W3 ⟨rfl,h₃⟩
  | true =>
   exact W0 (W0 (WE h₃ (λx s₄ h₄=>W0 (WE h₄ (λ_ s₅ h₅=>W3 (W3 ⟨rfl,h₅⟩)) λ_ _ h'=>h'.elim)) λ_ _ h'=>h'.elim))
theorem Kg
  (h:Q { scope,locals:=s.heap.objs.size,globals,cells:=Qs (s.heap.objs.size + 1) scope.names cl,qual,func:=none,code:=env.code,frame:=env.frame,builtins:=env.builtins }
   { s with heap:=JE (s.heap.push { cls:=.type "dict",data:=.dict #[] }) scope.names }):W5 M A (newFunctionEnv scope globals cl [] qual none .none (some env)) Q E s:=by
 simp only[newFunctionEnv,Option.isSome_some,if_true];refine W0 (wpAny_alloc ?_);refine W0 (wpAny_layCells _ (λname kind cells=>by cases hkc:kind == NameKind.cell <;> simp[hkc]) _ _ _ _ ?_);rw[show({ s with heap:=s.heap.push { cls:=.type "dict",data:=.dict #[] } }:W2).heap.objs.size=s.heap.objs.size + 1 from QI ..];exact W0 (W3 (W3 h))
def pS(X:Cx)(ifs:List Expr)(t:TT):Prop :=
 ∀ (pins:List (Addr×Obj)) (s:W2) (σ:St) (H:Hp) (Q:Bool->Hp->Prop),Inv X pins σ H s->t σ H Q->W5 (model X.prog X.w) X.A (Bw ifs X.env) (TP X pins σ Q) X.xe s
def Kh:TT:=λ_ H Q=>Q true H
theorem Ki:pS X [] Kh:=λpins s σ H Q I h=>wpAny_tests_nil ⟨H,I,h⟩
def Le(σ σ':St):Prop:=σ'.length=σ.length/\∀ (i:Nat) (v:V),σ[i]? = some (some v)->σ'[i]? = some (some v)
def By(cs:List Nat)(g:TG)(tt:TT)(te:TE)(σ:St)(Q:VK)(J:It)(H1:Hp):Prop :=
 ∀ l,H1 l=none->∃ W:Nat->Nat->Hp->Prop,(∃ m,W 0 m (upd H1 l (.lst [])))/\∀ i m H2,W i m H2 ->
  (J.stop i H2/\Q (.ref l) H2) \/
  (J.go i H2/\∀ x H3,J.pC i H2 x H3->g x (bJ cs σ) H3 λσ4 H4=>Le (bJ cs σ) σ4/\tt σ4 H4 λb H5 =>
   if b=true then te σ4 H5 λv H6=>∃ ys m',H6 l=some (.lst ys)/\ys.length < W6/\m' < m/\W (i + 1) m' (upd H6 l (.lst (ys ++ [v]))) else ∃ m',m' < m/\W (i + 1) m' H5)
def vm(cs:List Nat)(wi:TI)(g:TG)(tt:TT)(te:TE):TE:=λσ H Q=>wi σ H λJ H1=>By cs g tt te σ Q J H1
section
variable {X:Cx} {pins:List (Addr×Obj)} {σ:St} {H:Hp} {s:W2} {scope:Scope} {cs:List Nat} {elt tg iter:Expr} {ifs:List Expr} {pos:Pos} {g:TG} {tt:TT} {te:TE}
theorem Bz{it:Addr}{fp:List Addr}{tn:Nat->Heap->Prop}{J:It}{Q:VK}{E:Value->W2->Prop}{RR:Value->Addr->Result->W2->Prop}(hc:X.calm=true)(I:Inv X pins σ H s)(S:mj X scope cs)
  (T:Turn X.prog X.w X.K tg J fp it tn) (st:tn 0 s.heap) (hf:∀ b ∈ fp,gq X pins H b)
  (hg:∀ s₀ H₀ ex,PG (eY X scope s₀ H₀ ex) tg g) (ht:∀ s₀ H₀ ex,pS (eY X scope s₀ H₀ ex) ifs tt) (he:∀ s₀ H₀ ex,PE (eY X scope s₀ H₀ ex) elt te) (q:By cs g tt te σ Q J H)
  (Kj:∀ l C s' H',Inv X pins σ H' s'->gq X pins H' C->(∃ m,s'.heap.Ns C m)->Q (.ref l) H'->RR (.ref l) C (.ok .next) s') :
  W5 (model X.prog X.w) X.A (newList []) (λacc s₃=>W5 (model X.prog X.w) X.A (newFunctionEnv scope X.env.globals (fL X.env.cells scope.names []) [] X.env.qual none .none (some X.env)) (λBA s₄ =>
   Qe (model X.prog X.w) X.A (.compStart (.ListComp elt [⟨tg,iter,ifs,0⟩] scope pos) 0 (.ref it) acc { BA with scope:=relabel scope X.env }) (RR acc BA.locals) s₄) E s₃) E s:=by
 refine WB ?_;have gM:H s.heap.objs.size=none:=I.aD.fresh (W8 _);obtain⟨W,⟨m0,w0⟩,turn⟩:=q s.heap.objs.size gM;generalize hl:s.heap.objs.size=l at *;have I3:Inv X pins σ (upd H l (.lst [])) { s with heap:=s.heap.push { cls:=.type "list",dict:=none,data:=.seq ([]:List Value).toArray } } :=
  I.laid (t':=s.toks) (λb u e=>W4 _ e) (Nat.le_of_eq hl) ⟨Qf _,[],0,.nil,by rw[<- hl]; exact Wm _ rfl⟩
 have Kk:∀ b o,s.heap.get? b=some o->(s.heap.push { cls:=.type "list",dict:=none,data:=.seq ([]:List Value).toArray }).get? b=some o:=λb o e=>W4 _ e
 have mm:∀ b ∈ fp,b≠l:=λb hb e=>by
  obtain⟨o,ho,_⟩:=T.obj 0 _ st b hb;exact absurd (Wi ho) (by rw[e,hl]; exact Qd _)
 have vn:∀ b ∈ fp,gq X pins (upd H l (.lst [])) b:=λb hb=>⟨by rw[bq (mm b hb)]; exact(hf b hb).1,(hf b hb).2⟩
 have kY:tn 0 (s.heap.push { cls:=.type "list",dict:=none,data:=.seq ([]:List Value).toArray }):=T.keep 0 _ _ st λb _ o e=>Kk b o e
 generalize hs3:({ s with heap:=s.heap.push { cls:=.type "list",dict:=none,data:=.seq ([]:List Value).toArray } }:W2)=s3 at I3;have BC:tn 0 s3.heap:=by rw[<- hs3]; exact kY
 have Kl:∀ b ∈ fp,b < s3.heap.objs.size:=λb hb=>by
  obtain⟨o,ho,_⟩:=T.obj 0 _ BC b hb;exact Wi ho
 refine Kg ?_;have I4:=JX I3 S vn Kl;generalize hX:eY X scope s3 (upd H l (.lst [])) fp=X' at I4;generalize hs4:({ s3 with heap:=JE (s3.heap.push { cls:=.type "dict",data:=.dict #[] }) scope.names }:W2)=s4 at I4 ⊢;have nS:=hg s3 (upd H l (.lst [])) fp;have nU:=ht s3 (upd H l (.lst [])) fp;have BD:=he s3 (upd H l (.lst [])) fp;rw[hX] at nS nU BD;have BG:tn 0 s4.heap:=T.keep 0 _ _ BC λb _ o e=>by rw[<- hs4]; exact pushCells_keeps _ _ b o (W4 _ e)
 have hP:X'.prog=X.prog:=by rw[<- hX]; rfl
 have hw:X'.w=X.w:=by rw[<- hX]; rfl
 have hA:X'.A=X.A:=by rw[<- hX]; rfl
 have hK:X'.K=X.K:=by rw[<- hX]; rfl
 have gH:X'.calm=true:=by rw[<- hX]; exact hc
 have r_:X'.xe=ki:=by rw[<- hX]; rfl
 have BH:X'.env.locals=s3.heap.objs.size:=by rw[<- hX]; rfl
 have Km:({ scope:=relabel scope X.env,locals:=s3.heap.objs.size,globals:=X.env.globals,cells:=Qs (s3.heap.objs.size + 1) scope.names (fL X.env.cells scope.names []),qual:=X.env.qual,func:=none,code:=X.env.code,frame:=X.env.frame,builtins:=X.env.builtins }:Env)=X'.env:=by rw[<- hX]; rfl
 have vo:∀ {H':Hp},(∀ b ∈ fp,H' b=none)->∀ b ∈ fp,gq X' [] H' b:=λ{H'} hn b hb=>by
  have ex:X'.ex=fp:=by rw[<- hX]; rfl
  have pn:X'.pn=[]:=by rw[<- hX]; rfl
  refine⟨hn b hb,(I4.ok.rA b (by rw[ex]; exact hb)).1,I4.ok.pj b (by rw[ex]; exact hb),.inl (by rw[ex]; exact hb),(I4.ok.rA b (by rw[ex]; exact hb)).2,λp hp=>?_⟩;rw[pn] at hp;simp at hp
 show Qe (model X.prog X.w) X.A (.compStart (.ListComp elt [⟨tg,iter,ifs,0⟩] scope pos) 0 (.ref it) (.ref l) ({ scope:=relabel scope X.env,locals:=s3.heap.objs.size,globals:=X.env.globals,cells:=Qs (s3.heap.objs.size + 1) scope.names (fL X.env.cells scope.names []),qual:=X.env.qual,func:=none,code:=X.env.code,frame:=X.env.frame,builtins:=X.env.builtins }:Env)) (RR (.ref l) s3.heap.objs.size) s4;rw[Km];have loop:Qe (model X.prog X.w) X.A (.compLoop (.ListComp elt [⟨tg,iter,ifs,0⟩] scope pos) 0 (.ref it) (.ref l) X'.env) (RR (.ref l) s3.heap.objs.size) s4:=by
  refine Ke (λn s'=>∃ i H',Inv X' [] (bJ cs σ) H' s'/\tn i s'.heap/\(∀ b ∈ fp,H' b=none)/\W i n H') ?_ m0 ⟨0,_,I4,BG,λb hb=>(vn b hb).1,w0⟩;rintro n s5 ⟨i,H5,I5,st5,fr5,w5⟩;rcases turn i n H5 w5 with ⟨stop,qn⟩ | ⟨go,step⟩
  ·have:=T.done X' hP hw hK gH i [] s5 (bJ cs σ) H5 ki I5 (vo fr5) st5 stop;rw[hA] at this;refine aQ this λr s6 ⟨hr,I6⟩=>?_
   subst hr;have b6:=I6.base;have e1:X'.fs=fU X.stack:=by rw[<- hX]; rfl
   have e2:X'.ex=fp:=by rw[<- hX]; rfl
   have e3:X'.H₀=upd H l (.lst []):=by rw[<- hX]; rfl
   have e4:X'.s₀=s3:=by rw[<- hX]; rfl
   rw[e1,e2,e3,e4] at b6;have o6:s6.os=s3.os:=by rw[<- e4]; exact I6.os
   have Kn:cB X.prog X.w H5 s6.heap:=by rw[<- hP,<- hw]; exact I6.aD
   have J6:Inv X pins σ H5 s6:=I3.Gv o6 b6 Kn I6.bare λb hb=>by
    obtain⟨_,f1,_,f3,f4,f5⟩:=vn b hb;exact⟨f3,f1,f4,f5⟩
   obtain⟨m6,n6,_⟩:=I6.loc;rw[BH] at n6;refine Kj l s3.heap.objs.size s6 H5 J6 (I3.j7 (W8 _) ?_) ⟨m6,n6⟩ qn;rw[<- BH];exact I6.free
  ·have:=T.item X' hP hw hK gH i [] s5 (bJ cs σ) H5 ki I5 (vo fr5) st5 go;rw[hA] at this;refine aQ this λr s6 ⟨u,hr,h6⟩=>?_
   subst hr;refine aQ h6 λ_ s7 ⟨x,H7,I7,r7,y7,st7,fr7⟩=>?_
   have Ko:=I7.pinned (vo fr7) (T.obj _ _ st7);have a8:=nS _ s7 (bJ cs σ) H7 x u _ Ko r7 (step x H7 y7);rw[hP,hw,hA,r_] at a8;refine aQ a8 λ_ s8 ⟨σ8,H8,I8,le8,q8⟩=>?_
   have a9:=nU _ s8 σ8 H8 _ I8 q8;rw[hP,hw,hA,r_] at a9;refine aQ a9 λok s9 ⟨H9,I9,q9⟩=>?_
   have back:∀ {H':Hp} {s':W2},Inv X' ([] ++ pD fp s7.heap) σ8 H' s'->Inv X' [] (bJ cs σ) H' s'/\tn (i + 1) s'.heap/\∀ b ∈ fp,H' b=none:=λ{H' s'} J=>by
    refine⟨J.rM.weak (le8.1.symm) le8.2,T.keep _ _ _ st7 λb hb o e=>(J.pin (b,o) (WJ _ (WJ _ (rL hb e)))).1,λb hb=>?_⟩;obtain⟨o,e,d⟩:=T.obj _ _ st7 b hb;exact(J.pin (b,o) (WJ _ (WJ _ (rL hb e)))).2.1
   cases ok with
   | false =>
    rw[if_neg WW] at q9 ⊢;obtain⟨m',hm,w9⟩:=q9;obtain⟨b1,b2,b3⟩:=back I9;exact⟨m',hm,i + 1,H9,b1,b2,b3,w9⟩
   | true =>
    rw[if_pos rfl] at q9 ⊢;have BI:=BD _ s9 σ8 H9 _ I9 q9;rw[hP,hw,hA,r_] at BI;refine aQ BI λx10 s10 ⟨v,H10,I10,r10,ys,m',hy,hz,hm,w10⟩=>?_
    have nV:=Bh (X:=X') _ s10 σ8 H10 (.ref l) [v] (.ref l) [x10] (λ_ H'=>W (i + 1) m' H') I10 rfl (.cons r10 .nil) ⟨l,ys,v,rfl,rfl,hy,hz,w10⟩;rw[hP,hw,hA,r_] at nV;refine aQ nV λ_ s11 ⟨_,H11,I11,_,w11⟩=>?_
    obtain⟨b1,b2,b3⟩:=back I11;exact⟨m',hm,i + 1,H11,b1,b2,b3,w11⟩
 exact codeAny_compStart_list loop (T.self X.A 0 s4 _ _ BG loop)
theorem Kp(hc:X.calm=true)(S:mj X scope cs)(hi:PI X tg iter wi)(hg:∀ s₀ H₀ ex,PG (eY X scope s₀ H₀ ex) tg g)(ht:∀ s₀ H₀ ex,pS (eY X scope s₀ H₀ ex) ifs tt)(he:∀ s₀ H₀ ex,PE (eY X scope s₀ H₀ ex) elt te)
  (hs:∀ x,QU iter X.env x=pure x:=by intro _; rfl):PE X (.ListComp elt [⟨tg,iter,ifs,0⟩] scope pos) (vm cs wi g tt te):=by
 intro pins s σ H Q I h;have pR:∀ x ∈ scope.names,x.2 = .free->∃ c,X.env.cells.lookup x.1=some c:=λx hx hk=>I.ok.has x.1 (S.free x hx hk)
 rw[eval_ListComp];refine wpAny_comprehension_free (use:=none) rfl hs (Br pR) S.kind S.names (aQ (hi pins s σ H _ I h) λxv s1 h1=>aQ h1 λrG s2 h2=>?_);obtain⟨it,fp,tn,J,H2,e,I2,T,st2,f2,q2⟩:=h2;subst e;refine Bz (RR:=λacc C=>compPost (model X.prog X.w) X.A X.xe none (EP X pins σ Q) acc C) hc I2 S T st2 f2 hg ht he q2 ?_;intro l C s' H' I' fC ⟨m,n⟩ q;exact⟨m,n,λh' iO=>⟨.ref l,H',I'.turned (t':=s'.toks) (λb o hb e=>(iO.2 b hb).trans e) fC.1 fC.2.1 fC.2.2.2.1 fC.2.2.2.2.1 fC.2.2.2.2.2,rfl,q⟩⟩
theorem Kq(hc:X.calm=true)(S:mj X scope cs)(hN:X.N.Nodup)(gN:X.N[i]? = some y)(hy:X.env.scope.names.lookup y=some .local)
  (hi:PI X tg iter wi) (hg:∀ s₀ H₀ ex,PG (eY X scope s₀ H₀ ex) tg g) (ht:∀ s₀ H₀ ex,pS (eY X scope s₀ H₀ ex) ifs tt) (he:∀ s₀ H₀ ex,PE (eY X scope s₀ H₀ ex) elt te)
  (mn:QZ (.ListComp elt [⟨tg,iter,ifs,0⟩] scope pos) (some (.Name y py)) sd.line X.env=pure true:=by rfl)
  (hs:∀ x,QU iter X.env x=pure x:=by intro _; rfl):PS X (.Assign [.Name y py] (.ListComp elt [⟨tg,iter,ifs,0⟩] scope pos) sd) (rF (vm cs wi g tt te) (rE i)):=by
 intro pins s σ H D I h;have pR:∀ x ∈ scope.names,x.2 = .free->∃ c,X.env.cells.lookup x.1=some c:=λx hx hk=>I.ok.has x.1 (S.free x hx hk)
 rw[exec_Assign_Name_used _ _ _ _ mn];refine W0 (wpAny_standAt (W0 ?_));show W5 _ X.A (do let _ <- comprehension (.ListComp elt [⟨tg,iter,ifs,0⟩] scope pos) scope X.env _ (newList []) false (eval iter X.env) (some (assign (.Name y py) X.env))) _ _ s;refine W0 (WE (wpAny_comprehension_free (use:=some (assign (.Name y py) X.env)) (Q:=λ_ s'=>SP X pins D .next s') rfl hs (Br pR) S.kind S.names
  (aQ (hi pins s σ H _ I h) λxv s1 h1=>aQ h1 λrG s2 h2=>?_)) (λ_ s' hq=>W3 (W3 hq)) λ_ _ e=>e)
 obtain⟨it,fp,tn,J,H2,e,I2,T,st2,f2,q2⟩:=h2;subst e;refine Bz (RR:=λacc C=>compPost (model X.prog X.w) X.A X.xe (some (assign (.Name y py) X.env)) (λ_ s'=>SP X pins D .next s') acc C) hc I2 S T st2 f2 hg ht he q2 ?_;intro l C s' H' I' fC ⟨m,n⟩ q;show W5 _ X.A (assign (.Name y py) X.env (.ref l)) _ _ _;refine wpAny_assign_Name (Ab I' hN gN (.inl hy) (v:=.ref l) rfl (λl6 I'' ⟨a,vp,ha⟩=>?_) (.inr hy));have fM:C≠a:=by
  rcases ha with rfl | ha
  ·exact fC.2.1
  ·exactλe=>fC.2.2.2.2.1 y a ha e.symm
 refine⟨m,n.sameBut vp fM,λh' iO=>⟨_,H',I''.turned (t':=l6.toks) (λb o hb e=>(iO.2 b hb).trans e) fC.1 fC.2.1 fC.2.2.2.1 fC.2.2.2.2.1 fC.2.2.2.2.2,q⟩⟩
end
end L2
set_option maxHeartbeats 4000000
namespace DV
open PySem PySem.Spec PyProof.Rows L2
abbrev Tx:=List Nat
def toS(x:Tx):Str:=⟨x.toArray⟩
theorem pT(x:Tx):(toS x).cps.toList=x:=by simp[toS]
theorem jf(x:Tx):(toS x).length=x.length:=by simp[toS,Str.length]
theorem se(h:toS x=toS y):x=y:=by
 have:=congrArg (λz:Str=>z.cps.toList) h;simpa[toS] using this
theorem vq(z:Str):z=toS z.cps.toList:=by simp[toS]
abbrev bA:=Sum Int Tx
def cL:bA->Key
 | .inl i=>.inl i
 | .inr x=>.inr (toS x)
inductive D where
 | ax | bl (b:Bool) | int (i:Int) | str (x:Tx) | tup (xs:List D) | lst (xs:List D) | aM (kvs:List (bA×D)) | exc (n:Nat) (fl:D) | xd (fs:List (Tx×D)) | fn (a:Nat) | dic (kvs:List (D×D))
mutual
def vt:Nat->D->Option NK
 | _,.int i=>some (.i i)
 | _,.bl b=>some (.i (if b then 1 else 0))
 | _,.str x=>some (.s (toS x))
 | n + 1,.tup xs=>(BJ n xs).map .t
 | _,_=>none
def BJ:Nat->List D->Option (List NK)
 | _,[]=>some []
 | n,x :: xs=>(vt n x).bind λk=>(BJ n xs).map λks=>k :: ks
end
def excAt(C:Addr)(v:V)(a:Addr):Heap->Prop:=λh=>∃ o,h.get? a=some o/\o.cls = .ref C/\(∀ x,v = .ref x->o.dict=some x)/\∃ vs,o.data = .fields vs
def Kr(fs:List (Str×V))(x:Addr):Heap->Prop:=λh=>∃ mA,h.Ns1 x mA/\∀ f,eX (fs.lookup f) (mA f)
inductive S where
 | pure (d:D)
 | own (d:D)
def S.d:S->D
 | .pure d=>d
 | .own d=>d
abbrev Dl:=List (Option S)
abbrev St:=L2.St
inductive Rep (H:Hp) (O:Addr->Prop):V->D->Prop
 | ax:Rep H O .ax .ax
 | bl (b:Bool):Rep H O (.bl b) (.bl b)
 | int (i:Int):Rep H O (.int i) (.int i)
 | str (x:Tx):Rep H O (.str (toS x)) (.str x)
 | tup {a:Addr} {vs:List V} {ds:List D}:¬ O a->H a=some (.tup vs)->vs.length=ds.length->(∀ (i:Nat) v d,vs[i]? = some v->ds[i]? = some d->Rep H O v d)->Rep H O (.ref a) (.tup ds)
 | lst {a:Addr} {vs:List V} {ds:List D}:¬ O a->Rd H a (.lst vs)->vs.length=ds.length->(∀ (i:Nat) v d,vs[i]? = some v->ds[i]? = some d->Rep H O v d)->Rep H O (.ref a) (.lst ds)
 | aM {a:Addr} {ws:List (Key×V)} {ds:List (bA×D)}:¬ O a->H a=some (.dK ws)->ws.map (·.1)=ds.map (λp=>cL p.1)->(∀ (i:Nat) p q,ws[i]? = some p->ds[i]? = some q->Rep H O p.2 q.2)->Rep H O (.ref a) (.aM ds)
 | exc {a:Addr} {n:Nat} {v:V} {fl:D}:¬ O a->H a=some (.ext (excAt n v a))->Rep H O v fl->Rep H O (.ref a) (.exc n fl)
 | xd {x:Addr} {fs:List (Str×V)} {ds:List (Tx×D)}:¬ O x->H x=some (.ext (Kr fs x))->fs.map (·.1)=ds.map (λp=>toS p.1)->(∀ (i:Nat) p q,fs[i]? = some p->ds[i]? = some q->Rep H O p.2 q.2)->Rep H O (.ref x) (.xd ds)
 | fn (a:Addr):Rep H O (.ref a) (.fn a)
 | dic {a:Addr} {ep:Nat} {ws:List (NK×V×V)} {ds:List (D×D)}:¬ O a->H a=some (.dN ep ws)->ws.length=ds.length->(∀ (i:Nat) p q,ws[i]? = some p->ds[i]? = some q->Rep H O p.2.1 q.1)->(∀ (i:Nat) p q,ws[i]? = some p->ds[i]? = some q->Rep H O p.2.2 q.2)->(∀ (i:Nat) p q,ws[i]? = some p->ds[i]? = some q->vt 6 q.1=some p.1)->Rep H O (.ref a) (.dic ds)
abbrev aI(H:Hp)(O:Addr->Prop)(vs:List V)(ds:List D):Prop:=vs.length=ds.length/\∀ (i:Nat) v d,vs[i]? = some v->ds[i]? = some d->Rep H O v d
structure DN(H:Hp)(O:Addr->Prop)(ws:List (NK×V×V))(ds:List (D×D)):Prop where
 len:ws.length=ds.length
 key:∀ (i:Nat) p q,ws[i]? = some p->ds[i]? = some q->Rep H O p.2.1 q.1
 val:∀ (i:Nat) p q,ws[i]? = some p->ds[i]? = some q->Rep H O p.2.2 q.2
 vw:∀ (i:Nat) p q,ws[i]? = some p->ds[i]? = some q->vt 6 q.1=some p.1
def gy(H:Hp)(O:Addr->Prop)(a:Addr):D->Prop
 | .lst ds=>∃ vs,H a=some (.lst vs)/\aI H O vs ds
 | .aM ds=>∃ ws:List (Key×V),H a=some (.dK ws)/\ws.map (·.1)=ds.map (λp=>cL p.1)/\∀ (i:Nat) p q,ws[i]? = some p->ds[i]? = some q->Rep H O p.2 q.2
 | .dic ds=>∃ (ep:Nat) (ws:List (NK×V×V)),H a=some (.dN ep ws)/\DN H O ws ds
 | _=>False
section
variable {H H':Hp} {O O':Addr->Prop} {v:V} {d:D} {vs:List V} {ds:List D} {a:Addr}
theorem Rd.keep(h:Rd H a u)(k:∀ o,H a=some o->H' a=some o):Rd H' a u:=by
 rcases h with h | ⟨o,h⟩
 ·exact .inl (k _ h)
 ·exact .inr ⟨o,k _ h⟩
theorem Rd.some(h:Rd H a u):∃ o,H a=some o:=by
 rcases h with h | ⟨o,h⟩
 ·exact⟨_,h⟩
 ·exact⟨_,h⟩
theorem Rep.keep(h:Rep H O v d)(k:∀ a o,H a=some o->¬ O a->H' a=some o):Rep H' O v d:=by
 induction h with
 | ax=>exact .ax
 | bl b=>exact .bl b
 | int i=>exact .int i
 | str x=>exact .str x
 | tup h1 h2 h3 _ ih=>exact .tup h1 (k _ _ h2 h1) h3 ih
 | lst h1 h2 h3 _ ih=>exact .lst h1 (Rd.keep h2 λo e=>k _ o e h1) h3 ih
 | aM h1 h2 h3 _ ih=>exact .aM h1 (k _ _ h2 h1) h3 ih
 | exc h1 h2 _ ih=>exact .exc h1 (k _ _ h2 h1) ih
 | xd h1 h2 h3 _ ih=>exact .xd h1 (k _ _ h2 h1) h3 ih
 | fn a=>exact .fn a
 | dic h1 h2 h3 _ _ h6 ih pU=>exact .dic h1 (k _ _ h2 h1) h3 ih pU h6
theorem Rep.bf(h:Rep H O v d)(k:∀ a,O' a->O a\/H a=none):Rep H O' v d:=by
 have no:∀ {a:Addr} {u:HO},¬ O a->Rd H a u->¬ O' a:=λ{a u} h1 h2 z=>by
  rcases k a z with q | q
  ·exact h1 q
  ·obtain⟨o,e⟩:=Rd.some h2;rw[q] at e; cases e
 induction h with
 | ax=>exact .ax
 | bl b=>exact .bl b
 | int i=>exact .int i
 | str x=>exact .str x
 | tup h1 h2 h3 _ ih=>exact .tup (no h1 (.inl h2)) h2 h3 ih
 | lst h1 h2 h3 _ ih=>exact .lst (no h1 h2) h2 h3 ih
 | aM h1 h2 h3 _ ih=>exact .aM (no h1 (.inl h2)) h2 h3 ih
 | exc h1 h2 _ ih=>exact .exc (no h1 (.inl h2)) h2 ih
 | xd h1 h2 h3 _ ih=>exact .xd (no h1 (.inl h2)) h2 h3 ih
 | fn a=>exact .fn a
 | dic h1 h2 h3 _ _ h6 ih pU=>exact .dic (no h1 (.inl h2)) h2 h3 ih pU h6
theorem DN.keep{ws:List (NK×V×V)}{ds:List (D×D)}(h:DN H O ws ds)(k:∀ a o,H a=some o->¬ O a->H' a=some o):DN H' O ws ds:=⟨h.len,λi p q e1 e2=>(h.key i p q e1 e2).keep k,λi p q e1 e2=>(h.val i p q e1 e2).keep k,h.vw⟩
theorem DN.bf{ws:List (NK×V×V)}{ds:List (D×D)}(h:DN H O ws ds)(k:∀ a,O' a->O a\/H a=none):DN H O' ws ds:=⟨h.len,λi p q e1 e2=>(h.key i p q e1 e2).bf k,λi p q e1 e2=>(h.val i p q e1 e2).bf k,h.vw⟩
theorem aI.keep(h:aI H O vs ds)(k:∀ a o,H a=some o->¬ O a->H' a=some o):aI H' O vs ds:=⟨h.1,λi v d e1 e2=>(h.2 i v d e1 e2).keep k⟩
theorem aI.bf(h:aI H O vs ds)(k:∀ a,O' a->O a\/H a=none):aI H O' vs ds:=⟨h.1,λi v d e1 e2=>(h.2 i v d e1 e2).bf k⟩
theorem aI.nil:aI H O [] []:=⟨rfl,λi v d e _=>by simp at e⟩
theorem aI.cons(h:Rep H O v d)(r:aI H O vs ds):aI H O (v :: vs) (d :: ds):=by
 refine⟨by simp[r.1],λi v' d' e1 e2=>?_⟩
 cases i with
 | zero=>simp at e1 e2; subst e1; subst e2; exact h
 | succ i=>exact r.2 i v' d' (by simpa using e1) (by simpa using e2)
theorem aI.head(r:aI H O (v :: vs) (d :: ds)):Rep H O v d:=r.2 0 v d rfl rfl
theorem aI.tail(r:aI H O (v :: vs) (d :: ds)):aI H O vs ds:=⟨by simpa using r.1,λi v' d' e1 e2=>r.2 (i + 1) v' d' (by simpa using e1) (by simpa using e2)⟩
theorem aI.append(h:aI H O vs ds)(h':aI H O ij cM):aI H O (vs ++ ij) (ds ++ cM):=by
 induction vs generalizing ds with
 | nil =>
  cases ds with
  | nil=>exact h'
  | cons d r=>have:=h.1; simp at this
 | cons v r ih =>
  cases ds with
  | nil=>have:=h.1; simp at this
  | cons d q=>exact .cons h.head (ih h.tail)
theorem aI.get{i:Nat}(h:aI H O vs ds)(e:ds[i]? = some d):∃ v,vs[i]? = some v/\Rep H O v d:=by
 have hi:i < ds.length:=(Wd.mp e).1;have hv:i < vs.length:=by rw[h.1]; exact hi
 exact⟨vs[i],by simp[hv],h.2 i _ d (by simp[hv]) e⟩
theorem aI.take(n:Nat)(h:aI H O vs ds):aI H O (vs.take n) (ds.take n):=by
 refine⟨by simp[h.1],λi v d e1 e2=>?_⟩;by_cases hi:i < n
 ·rw[List.getElem?_take_of_lt hi] at e1 e2;exact h.2 i v d e1 e2
 ·rw[List.getElem?_take_eq_none (by omega)] at e1; cases e1
theorem aI.drop(n:Nat)(h:aI H O vs ds):aI H O (vs.drop n) (ds.drop n):=by
 refine⟨by simp[h.1],λi v d e1 e2=>?_⟩;rw[List.getElem?_drop] at e1 e2;exact h.2 (n + i) v d e1 e2
theorem aI.set(h:aI H O vs ds)(r:Rep H O v d)(j:Nat):aI H O (vs.set j v) (ds.set j d):=by
 refine⟨by simp[h.1],λi v' d' e1 e2=>?_⟩;by_cases hi:j=i
 ·subst hi;rw[Q7] at e1 e2;simp at e1 e2;obtain⟨_,rfl⟩:=e1;obtain⟨_,rfl⟩:=e2;exact r
 ·rw[Wa hi] at e1 e2;exact h.2 i v' d' e1 e2
theorem aI.reverse(h:aI H O vs ds):aI H O vs.reverse ds.reverse:=by
 refine⟨by simp[h.1],λi v d e1 e2=>?_⟩;have hl:=h.1;have h1:i < vs.length:=by have:=(Wd.mp e1).1; simpa using this
 rw[List.getElem?_reverse (by omega)] at e1;rw[List.getElem?_reverse (by omega)] at e2;exact h.2 (vs.length - 1 - i) v d e1 (by rw[hl]; exact e2)
theorem gy.keep(h:gy H O a d)(hk:∀ b o,H b=some o->¬ O b->H' b=some o)(ha:∀ o,H a=some o->H' a=some o):gy H' O a d:=by
 cases d <;> first
  | exact h.elim
  | (obtain⟨vs,e,r⟩:=h; exact⟨vs,ha _ e,aI.keep r hk⟩)
  | (obtain⟨ws,e,r,q⟩:=h; exact⟨ws,ha _ e,r,λi p p' e1 e2=>(q i p p' e1 e2).keep hk⟩)
  | (obtain⟨ep,ws,e,r⟩:=h; exact⟨ep,ws,ha _ e,r.keep hk⟩)
theorem gy.bf(h:gy H O a d)(k:∀ a,O' a->O a\/H a=none):gy H O' a d:=by
 cases d <;> first
  | exact h.elim
  | (obtain⟨vs,e,r⟩:=h; exact⟨vs,e,aI.bf r k⟩)
  | (obtain⟨ws,e,r,q⟩:=h; exact⟨ws,e,r,λi p p' e1 e2=>(q i p p' e1 e2).bf k⟩)
  | (obtain⟨ep,ws,e,r⟩:=h; exact⟨ep,ws,e,r.bf k⟩)
theorem gy.some(h:gy H O a d):∃ o,H a=some o:=by
 cases d <;> first
  | exact h.elim
  | (obtain⟨vs,e,r⟩:=h; exact⟨_,e⟩)
  | (obtain⟨ep,vs,e,r⟩:=h; exact⟨_,e⟩)
theorem gy.rep(h:gy H O a d)(ho:¬ O a):Rep H O (.ref a) d:=by
 cases d with
 | lst ds=>obtain⟨vs,e,r⟩:=h; exact .lst ho (.inl e) r.1 r.2
 | aM ds=>obtain⟨ws,e,r,q⟩:=h; exact .aM ho e r q
 | dic ds=>obtain⟨ep,ws,e,r⟩:=h; exact .dic ho e r.len r.key r.val r.vw
 | _=>exact h.elim
end
structure Xc where
 cls:Tx
 Tq:D
structure Fc where
 H₀:Hp
 B:Addr->Prop
 pin:List (Nat×Addr)
 xc:Xc->Dl->Prop:=λ_ _=>False
def Fc.plus(c:Fc)(p:Addr):Fc:={ c with B:=λa=>c.B a\/a=p }
def Fc.I(c:Fc)(a:Addr):Prop:=∃ i,(i,a) ∈ c.pin
def Own(σ:St)(δ:Dl)(a:Addr):Prop:=∃ (i:Nat) (d:D),δ[i]? = some (some (.own d))/\σ[i]? = some (some (.ref a))
def Av(c:Fc)(σ:St)(δ:Dl)(a:Addr):Prop:=c.B a\/Own σ δ a
structure Ok(c:Fc)(σ:St)(δ:Dl)(H:Hp):Prop where
 keep:∀ a o,c.H₀ a=some o->¬ c.I a->H a=some o
 bd:∀ a,c.B a->∃ o,H a=some o
 fN:∀ a,c.I a->∃ o,H a=some o
 len:δ.length=σ.length
 slot:∀ (i:Nat) d,δ[i]? = some (some (.pure d))->∃ v,σ[i]? = some (some v)/\Rep H (Av c σ δ) v d
 own:∀ (i:Nat) d,δ[i]? = some (some (.own d))->∃ a,σ[i]? = some (some (.ref a))/\gy H (Av c σ δ) a d/\(c.I a\/c.H₀ a=none)/\¬ c.B a
 inj:∀ (i j:Nat) a d d',δ[i]? = some (some (.own d))->δ[j]? = some (some (.own d'))->σ[i]? = some (some (.ref a))->σ[j]? = some (some (.ref a))->i=j
 pinned:∀ p ∈ c.pin,σ[p.1]? = some (some (.ref p.2))
structure aS(c:Fc)(σ:St)(δ:Dl)(H:Hp)(σ':St)(δ':Dl)(H':Hp):Prop where
 ok:Ok c σ' δ' H'
 keep:∀ a o,H a=some o->¬ Own σ δ a->H' a=some o
 own:∀ a,Own σ' δ' a->Own σ δ a\/H a=none
 there:∀ a o,H a=some o->∃ o',H' a=some o'
section
variable {c:Fc} {σ σ' σ'':St} {δ δ' δ'':Dl} {H H' BK:Hp} {v:V} {d:D} {a p:Addr}
theorem Ok.Ks(k:Ok c σ δ H)(h:c.B a):∃ o,H a=some o:=k.bd a h
theorem Ok.BL(k:Ok c σ δ H)(h:Own σ δ a):∃ o,H a=some o:=by
 obtain⟨i,d,e1,e2⟩:=h;obtain⟨b,e3,q,_⟩:=k.own i d e1;rw[e2] at e3; cases e3
 exact q.some
theorem Ok.sf(k:Ok c σ δ H)(h:Av c σ δ a):∃ o,H a=some o:=h.elim k.Ks k.BL
theorem Ok.jJ(k:Ok c σ δ H)(h:H a=none):¬ Av c σ δ a:=λz=>by
 obtain⟨o,e⟩:=k.sf z;rw[h] at e; cases e
theorem aS.refl(k:Ok c σ δ H):aS c σ δ H σ δ H:=⟨k,λ_ _ e _=>e,λ_ h=>.inl h,λ_ o e=>⟨o,e⟩⟩
theorem aS.trans(x:aS c σ δ H σ' δ' H')(y:aS c σ' δ' H' σ'' δ'' BK):aS c σ δ H σ'' δ'' BK:=by
 refine⟨y.ok,λa o e n=>?_,λa h=>?_,λa o e=>?_⟩
 ·refine y.keep a o (x.keep a o e n) λz=>?_
  rcases x.own a z with q | q
  ·exact n q
  ·rw[q] at e; cases e
 ·rcases y.own a h with q | q
  ·exact x.own a q
  ·right
   cases e:H a with
   | none=>rfl
   | some o =>
    obtain⟨o',e'⟩:=x.there a o e;rw[q] at e'; cases e'
 ·obtain⟨o',e'⟩:=x.there a o e;exact y.there a o' e'
theorem aS.av(x:aS c σ δ H σ' δ' H'):∀ a,Av c σ' δ' a->Av c σ δ a\/H a=none:=λa h=>by
 rcases h with h | h
 ·exact .inl (.inl h)
 ·rcases x.own a h with q | q
  ·exact .inl (.inr q)
  ·exact .inr q
theorem Rep.dZ(h:Rep H (Av c σ δ) v d)(x:aS c σ δ H σ' δ' H'):Rep H' (Av c σ' δ') v d:=by
 have h1:Rep H (λa=>Av c σ δ a\/Av c σ' δ' a) v d:=Rep.bf h λa z=>z.elim .inl (x.av a)
 exact(h1.keep λa o e n=>x.keep a o e λz=>n (.inl (.inr z))).bf λa z=>.inl (.inr z)
theorem aI.dZ(h:aI H (Av c σ δ) vs ds)(x:aS c σ δ H σ' δ' H'):aI H' (Av c σ' δ') vs ds:=⟨h.1,λi v d e1 e2=>Rep.dZ (h.2 i v d e1 e2) x⟩
def bp(c:Fc)(σ:St)(δ:Dl)(Hs H:Hp)(v:V):S->Prop
 | .pure d=>Rep H (Av c σ δ) v d
 | .own d=>∃ a,v = .ref a/\gy H (Av (c.plus a) σ δ) a d/\¬ c.B a/\c.H₀ a=none/\Ok (c.plus a) σ δ H/\Hs a=none
theorem sg(k:Ok (c.plus a) σ δ H):¬ Own σ δ a:=λ⟨i,d,e1,e2⟩=>by
 obtain⟨b,e3,_,_,n⟩:=k.own i d e1;rw[e2] at e3; cases e3
 exact n (.inr rfl)
theorem bp.rep(h:bp c σ δ Hs H v r):Rep H (Av c σ δ) v r.d:=by
 cases r with
 | pure d=>exact h
 | own d =>
  obtain⟨a,rfl,o,n,f,k,_⟩:=h;refine(o.bf λb z=>.inl ?_).rep λz=>z.elim n (sg k)
  exact z.elim (λz=>.inl (.inl z)) .inr
theorem bp.back(h:bp c σ δ Hs H v r)(x:aS c σ₀ δ₀ H' σ' δ' Hs):bp c σ δ H' H v r:=by
 cases r with
 | pure d=>exact h
 | own d =>
  obtain⟨a,e,o,n,f,k,hs⟩:=h;refine⟨a,e,o,n,f,k,?_⟩
  cases q:H' a with
  | none=>rfl
  | some o =>
   obtain⟨o',e'⟩:=x.there a o q;rw[hs] at e'; cases e'
theorem bp.Kt(h:bp c σ δ Hs H v r):bp c σ δ c.H₀ H v r:=by
 cases r with
 | pure d=>exact h
 | own d =>
  obtain⟨a,e,o,n,f,k,hs⟩:=h;exact⟨a,e,o,n,f,k,f⟩
theorem Ok.alloc(k:Ok c σ δ H)(hp:H p=none)(o:HO):Ok c σ δ (upd H p o):=by
 have up:∀ a w,H a=some w->upd H p o a=some w:=λa w e=>by
  rw[bq (fT e hp)]; exact e
 refine⟨λa w e n=>up a w (k.keep a w e n),λa z=>(k.bd a z).elim λw e=>⟨w,up a w e⟩,λa z=>(k.fN a z).elim λw e=>⟨w,up a w e⟩,k.len,λi d e=>?_,λi d e=>?_,k.inj,k.pinned⟩
 ·obtain⟨v,e1,r⟩:=k.slot i d e;exact⟨v,e1,r.keep λa w q _=>up a w q⟩
 ·obtain⟨a,e1,r,q⟩:=k.own i d e;exact⟨a,e1,r.keep (λb w q _=>up b w q) λw q=>up a w q,q⟩
theorem aS.alloc(k:Ok c σ δ H)(hp:H p=none)(o:HO):aS c σ δ H σ δ (upd H p o):=by
 have up:∀ a w,H a=some w->upd H p o a=some w:=λa w e=>by
  rw[bq (fT e hp)]; exact e
 exact⟨k.alloc hp o,λa w e _=>up a w e,λa h=>.inl h,λa w e=>⟨w,up a w e⟩⟩
theorem Ok.nW(k:Ok c σ δ H)(hp:H p=none):c.H₀ p=none:=by
 cases e:c.H₀ p with
 | none=>rfl
 | some o =>
  by_cases q:c.I p
  ·obtain⟨w,e'⟩:=k.fN p q;rw[hp] at e'; cases e'
  ·have:=k.keep p o e q;rw[hp] at this; cases this
theorem Ok.plus(k:Ok c σ δ H)(hp:H p=none)(o:HO):Ok (c.plus p) σ δ (upd H p o):=by
 have k':=k.alloc hp o;have sub:∀ b,Av (c.plus p) σ δ b->Av c σ δ b\/b=p:=λb z=>by
  rcases z with (z | z) | z
  ·exact .inl (.inl z)
  ·exact .inr z
  ·exact .inl (.inr z)
 have si:∀ b,Av (c.plus p) σ δ b->Av c σ δ b\/H b=none:=λb z=>(sub b z).elim .inl λe=>.inr (by rw[e]; exact hp)
 have up:∀ a w,H a=some w->upd H p o a=some w:=λa w e=>by
  rw[bq (fT e hp)]; exact e
 refine⟨k'.keep,λa z=>?_,k'.fN,k.len,λi d e=>?_,λi d e=>?_,k.inj,k.pinned⟩
 ·rcases z with z | z
  ·exact k'.bd a z
  ·exact⟨o,by rw[z]; exact dw⟩
 ·obtain⟨v,e1,r⟩:=k.slot i d e;exact⟨v,e1,(r.bf si).keep λa w q _=>up a w q⟩
 ·obtain⟨a,e1,r,q,nb⟩:=k.own i d e;refine⟨a,e1,(r.bf si).keep (λb w q _=>up b w q) (λw q=>up a w q),q,λz=>?_⟩;rcases z with z | z
  ·exact nb z
  ·obtain⟨w,ew⟩:=r.some;rw[z,hp] at ew; cases ew
theorem bp.jK(k:Ok c σ δ H)(r:aI H (Av c σ δ) vs ds)(hp:H p=none):bp c σ δ H (upd H p (.lst vs)) (.ref p) (.own (.lst ds)):=by
 have up:∀ a w,H a=some w->upd H p (.lst vs) a=some w:=λa w e=>by
  rw[bq (fT e hp)]; exact e
 refine⟨p,rfl,⟨vs,dw,?_⟩,λz=>k.jJ hp (.inl z),k.nW hp,k.plus hp _,hp⟩;have r1:aI H (Av (c.plus p) σ δ) vs ds:=aI.bf r λb z=>by
  rcases z with (z | z) | z
  ·exact .inl (.inl z)
  ·exact .inr (by rw[z]; exact hp)
  ·exact .inl (.inr z)
 exact aI.keep r1 λb w e _=>up b w e
theorem bp.mq(k:Ok c σ δ H)(r:aI H (Av c σ δ) vs ds)(hp:H p=none):bp c σ δ H (upd H p (.tup vs)) (.ref p) (.pure (.tup ds)):=by
 have up:∀ a w,H a=some w->upd H p (.tup vs) a=some w:=λa w e=>by
  rw[bq (fT e hp)]; exact e
 have r1:=aI.keep r (H':=upd H p (.tup vs)) λb w e _=>up b w e
 exact .tup (k.jJ hp) dw r1.1 r1.2
end
inductive Rs (α:Type) where
 | ok (a:α) (δ:Dl)
 | exc (x:Xc) (δ:Dl)
 | stuck
def Rs.bind{α β:Type}(r:Rs α)(f:α->Dl->Rs β):Rs β:=match r with
 | .ok a δ=>f a δ
 | .exc x δ=>.exc x δ
 | .stuck=>.stuck
abbrev DE:=Dl->Rs S
def XC(c:Fc)(x:Xc)(δ:Dl):Prop:=c.xc x δ
def post{α:Type}(c:Fc)(r:Rs α)(k:α->Dl->Prop):Prop:=match r with
 | .ok a δ=>k a δ
 | .exc x δ=>XC c x δ
 | .stuck=>False
theorem bw:post c (r.bind f) k ↔ post c r λa δ=>post c (f a δ) k:=by
 cases r <;> exact Iff.rfl
theorem aW(h:post c r k)(m:∀ a δ,k a δ->k' a δ):post c r k':=by
 cases r with
 | ok a δ=>exact m a δ h
 | exc x δ=>exact h
 | stuck=>exact h
def tD(c:Fc)(f:DE):TE:=λσ H Q=>∃ δ,Ok c σ δ H/\post c (f δ) λr δ'=>∀ v H',aS c σ δ H σ δ' H'->bp c σ δ' H H' v r->Q v H'
abbrev SE(X:Cx)(c:Fc)(e:Expr)(f:DE):Prop:=PE X e (tD c f)
def cS(c:Fc)(σ:St)(δ:Dl)(H:Hp)(v:V)(d:D):Prop:=Rep H (Av c σ δ) v d\/∃ a,v = .ref a/\gy H (Av c σ δ) a d
abbrev BE:=Dl->Rs D
def tB(c:Fc)(f:BE):TE:=λσ H Q=>∃ δ,Ok c σ δ H/\post c (f δ) λd δ'=>∀ v H',aS c σ δ H σ δ' H'->cS c σ δ' H' v d->Q v H'
abbrev SB(X:Cx)(c:Fc)(e:Expr)(f:BE):Prop:=PE X e (tB c f)
theorem PE.weak(h:PE X e t)(w:∀ σ H Q,t' σ H Q->t σ H Q):PE X e t':=λpins s σ H Q I q=>h pins s σ H Q I (w σ H Q q)
def aj(f:DE):BE:=λδ=>(f δ).bind λr δ'=>.ok r.d δ'
theorem bp.b(h:bp c σ δ Hs H v r):cS c σ δ H v r.d:=.inl h.rep
theorem aC{X:Cx}{c:Fc}{e:Expr}{f:DE}(h:SE X c e f):SB X c e (aj f):=PE.weak h λσ H Q ⟨δ,k,p⟩=>⟨δ,k,by
 unfold aj at p;rw[bw] at p;exact aW p λr δ' q v H' a s=>q v H' a s.b⟩
def ah(i:Nat):BE:=λδ=>match δ[i]? with
 | some (some r)=>.ok r.d δ
 | _=>.stuck
def aa(i:Nat):DE:=λδ=>match δ[i]? with
 | some (some (.pure d))=>.ok (.pure d) δ
 | some (some (.own d))=>.ok (.pure d) (δ.set i (some (.pure d)))
 | _=>.stuck
def eD(d:D):DE:=λδ=>.ok (.pure d) δ
section
variable {X:Cx} {c:Fc}
theorem aX{i:Nat}{e:Expr}(h:PE X e (dW i)):SB X c e (ah i):=PE.weak h λσ H Q ⟨δ,k,p⟩=>by
 unfold ah at p
 cases e:δ[i]? with
 | none=>rw[e] at p; exact p.elim
 | some o =>
  cases o with
  | none=>rw[e] at p; exact p.elim
  | some r =>
   rw[e] at p
   cases r with
   | pure d =>
    obtain⟨v,e1,r⟩:=k.slot i d e;exact⟨v,e1,p v H (.refl k) (.inl r)⟩
   | own d =>
    obtain⟨a,e1,r,_⟩:=k.own i d e;exact⟨.ref a,e1,p _ H (.refl k) (.inr ⟨a,rfl,r⟩)⟩
theorem Own.sub(h:Own σ (δ.set i (some (.pure d))) a):Own σ δ a:=by
 obtain⟨j,d',e1,e2⟩:=h;by_cases hj:i=j
 ·subst hj;rw[Q7] at e1;simp at e1
 ·rw[Wa hj] at e1;exact⟨j,d',e1,e2⟩
theorem Ok.give(k:Ok c σ δ H)(e:δ[i]? = some (some (.own d))) :
  ∃ a,σ[i]? = some (some (.ref a))/\aS c σ δ H σ (δ.set i (some (.pure d))) H/\Rep H (Av c σ (δ.set i (some (.pure d)))) (.ref a) d:=by
 obtain⟨a,e1,r,q,nb⟩:=k.own i d e;have hi:i < δ.length:=(Wd.mp e).1;have sub:∀ b,Av c σ (δ.set i (some (.pure d))) b->Av c σ δ b:=λb z=>z.elim .inl λz=>.inr z.sub
 have na:¬ Av c σ (δ.set i (some (.pure d))) a:=by
  rintro (z | ⟨j,d',f1,f2⟩)
  ·exact nb z
  ·by_cases hj:i=j
   ·subst hj;rw[Q7] at f1;simp at f1
   ·rw[Wa hj] at f1;exact hj (k.inj i j a d d' e f1 e1 f2)
 have rep:Rep H (Av c σ (δ.set i (some (.pure d)))) (.ref a) d:=(r.bf λb z=>.inl (sub b z)).rep na;refine⟨a,e1,⟨⟨k.keep,k.bd,k.fN,by rw[Ji]; exact k.len,λj d' f=>?_,λj d' f=>?_,λj l b d1 d2 f1 f2=>?_,k.pinned⟩,λ_ _ w _=>w,λb z=>.inl z.sub,λ_ o w=>⟨o,w⟩⟩,rep⟩
 ·by_cases hj:i=j
  ·subst hj;rw[Wu hi] at f
   cases f;exact⟨.ref a,e1,rep⟩
  ·rw[Wa hj] at f;obtain⟨v,g1,g2⟩:=k.slot j d' f;exact⟨v,g1,g2.bf λb z=>.inl (sub b z)⟩
 ·by_cases hj:i=j
  ·subst hj;rw[Wu hi] at f
   cases f
  ·rw[Wa hj] at f;obtain⟨b,g1,g2,g3⟩:=k.own j d' f;exact⟨b,g1,g2.bf λb z=>.inl (sub b z),g3⟩
 ·have h1:δ[j]? = some (some (.own d1)):=by
   by_cases hj:i=j
   ·subst hj; rw[Wu hi] at f1; cases f1
   ·rw[Wa hj] at f1; exact f1
  have h2:δ[l]? = some (some (.own d2)):=by
   by_cases hj:i=l
   ·subst hj; rw[Wu hi] at f2; cases f2
   ·rw[Wa hj] at f2; exact f2
  exact k.inj j l b d1 d2 h1 h2
theorem aH{i:Nat}{e:Expr}(h:PE X e (dW i)):SE X c e (aa i):=PE.weak h λσ H Q ⟨δ,k,p⟩=>by
 unfold aa at p
 cases e:δ[i]? with
 | none=>rw[e] at p; exact p.elim
 | some o =>
  cases o with
  | none=>rw[e] at p; exact p.elim
  | some r =>
   rw[e] at p
   cases r with
   | pure d =>
    obtain⟨v,e1,r⟩:=k.slot i d e;exact⟨v,e1,p v H (.refl k) r⟩
   | own d =>
    obtain⟨a,e1,x,r⟩:=k.give e;exact⟨.ref a,e1,p _ H x r⟩
theorem aG{i j pos}:SE X c (.Constant (.int i) j pos) (eD (.int i)):=PE.weak Ad λσ H Q ⟨δ,k,p⟩=>p _ H (.refl k) (.int i)
theorem eS{b j pos}:SE X c (.Constant (.bool b) j pos) (eD (.bl b)):=PE.weak Gx λσ H Q ⟨δ,k,p⟩=>p _ H (.refl k) (.bl b)
theorem jL{j pos}:SE X c (.Constant .none j pos) (eD .ax):=PE.weak Gy λσ H Q ⟨δ,k,p⟩=>p _ H (.refl k) .ax
theorem nX{x j pos}(y:Tx)(h:x=toS y:=by decide +kernel):SE X c (.Constant (.str x) j pos) (eD (.str y)):=by
 subst h;exact PE.weak Ae λσ H Q ⟨δ,k,p⟩=>p _ H (.refl k) (.str y)
end
open PySem PySem.Spec PyProof.Rows L2 PySem.SeqAt
mutual
def aB:D->D->Bool
 | .ax,.ax=>true
 | .bl a,.bl b=>a == b
 | .int a,.int b=>a == b
 | .bl a,.int b=>(if a then 1 else 0) == b
 | .int a,.bl b=>a == (if b then 1 else 0)
 | .str a,.str b=>a == b
 | .tup xs,.tup ys=>fX xs ys
 | .lst xs,.lst ys=>fX xs ys
 | _,_=>false
def fX:List D->List D->Bool
 | [],[]=>true
 | x :: xs,y :: ys=>aB x y && fX xs ys
 | _,_=>false
end
mutual
def flat:Nat->D->Bool
 | _,.ax=>true
 | _,.bl _=>true
 | _,.int _=>true
 | _,.str _=>true
 | 0,.tup _=>false
 | n + 1,.tup xs=>jg n xs
 | 0,.lst _=>false
 | n + 1,.lst xs=>jg n xs
 | _,.aM _=>false
 | _,.exc _ _=>false
 | _,.xd _=>false
 | _,.fn _=>false
 | _,.dic _=>false
def jg:Nat->List D->Bool
 | _,[]=>true
 | n,x :: xs=>flat n x && jg n xs
end
example:aB (.tup [.int 1,.str [2]]) (.tup [.int 1,.str [2]])=true:=by decide +kernel
theorem mr:∀ {xs:List D} {x:D},jg n xs=true->x ∈ xs->flat n x=true
 | [],_,_,h=>by simp at h
 | y :: ys,x,h,hm=>by
  simp only[jg,Wk] at h;rcases We.mp hm with e | hm
  ·rw[e]; exact h.1
  ·exact mr h.2 hm
theorem sj:∀ {xs ys:List D} {f:Nat->Bool},xs.length=ys.length->(∀ (j:Nat) x y,xs[j]? = some x->ys[j]? = some y->f j=aB x y)->(Wf xs.length).all f=fX xs ys
 | [],[],f,_,_=>rfl
 | [],y :: ys,f,h,_=>by simp at h
 | x :: xs,[],f,h,_=>by simp at h
 | x :: xs,y :: ys,f,h,hf=>by
  simp only[fX];rw[WS,List.range_succ_eq_map,List.all_cons,hf 0 x y rfl rfl,List.all_map];rw[<- sj (f:=λj=>f (j + 1)) (by simpa using h) (λj a b e1 e2=>hf (j + 1) a b (by simpa using e1) (by simpa using e2))];rfl
theorem sk:∀ {xs ys:List D},xs.length≠ys.length->fX xs ys=false
 | [],[],h=>absurd rfl h
 | [],y :: ys,_=>rfl
 | x :: xs,[],_=>rfl
 | x :: xs,y :: ys,h=>by
  simp only[fX];rw[sk (xs:=xs) (ys:=ys) (by intro e; exact h (by simp[e]))];simp
mutual
theorem vx:∀ {n:Nat} {d:D},flat n d=true->aB d d=true
 | _,.ax,_=>rfl
 | _,.bl b,_=>by simp[aB]
 | _,.int i,_=>by simp[aB]
 | _,.str x,_=>by simp[aB]
 | 0,.tup xs,h=>by simp[flat] at h
 | n + 1,.tup xs,h=>by simp only[aB]; exact vy (n:=n) (by simpa[flat] using h)
 | 0,.lst xs,h=>by simp[flat] at h
 | n + 1,.lst xs,h=>by simp only[aB]; exact vy (n:=n) (by simpa[flat] using h)
 | _,.aM xs,h=>by simp[flat] at h
 | _,.exc n _,h=>by simp[flat] at h
 | _,.xd n,h=>by simp[flat] at h
theorem vy:∀ {n:Nat} {ds:List D},jg n ds=true->fX ds ds=true
 | _,[],_=>rfl
 | n,x :: xs,h=>by
  simp only[jg,Wk] at h;simp only[fX];rw[vx h.1,vy h.2];rfl
end
abbrev cE:Addr->Prop:=λ_=>False
theorem Rep.un(h:Rep H O v d):Rep H cE v d:=Rep.bf h λ_ z=>z.elim
theorem cS.un(h:cS c σ δ H v d):Rep H cE v d:=by
 rcases h with h | ⟨a,rfl,o⟩
 ·exact Rep.un h
 ·exact(o.bf (O':=cE) λ_ z=>z.elim).rep λz=>z
section
variable {X:Cx} {pins:List (Addr×Obj)} {σ:St} {H:Hp} {s:W2}
theorem Inv.gO(I:Inv X pins σ H s)(h:Rd H a (.lst vs)):∃ ae:List Value,Vals vs ae/\s.heap.IsList a ae.toArray:=by
 obtain⟨ae,r,p,_⟩:=I.list (.inl h);exact⟨ae,r,p.isList⟩
theorem Inv.gP(I:Inv X pins σ H s)(h:H a=some (.tup vs)):∃ ae:List Value,Vals vs ae/\s.heap.IsTuple a ae.toArray:=by
 obtain⟨ae,r,p,_⟩:=I.tuple (.of h);exact⟨ae,r,p⟩
theorem vz(x y:Tx):((toS x:Str) == toS y)=(x == y):=by
 rw[Ql];simp only[beq_iff_eq];exact⟨se,λe=>by rw[e]⟩
theorem Ku(A:Wq):A.in1.units=A.units + 1:=rfl
theorem Rd.inj(h:Rd H a u)(k:Rd H a w)(hu:∀ o z,u≠.frz o z)(hw:∀ o z,w≠.frz o z):u=w:=by
 rcases h with h | ⟨o,h⟩ <;> rcases k with k | ⟨o',k⟩
 ·rw[h] at k; exact Wy k
 ·rw[h] at k; exact absurd (Wy k) (hu _ _)
 ·rw[h] at k; exact absurd (Wy k).symm (hw _ _)
 ·rw[h] at k;have:=Wy k;injection this
theorem aI.inj{vs:List V}:∀ {ds es:List D},vs.length=ds.length->vs.length=es.length->(∀ (i:Nat) v d e,vs[i]? = some v->ds[i]? = some d->es[i]? = some e->d=e)->ds=es:=by
 intro ds es h1 h2 h;apply JM;intro i;by_cases hi:i < vs.length
 ·have a1:i < ds.length:=by omega
  have a2:i < es.length:=by omega
  rw[Wc a1,Wc a2];rw[h i vs[i] ds[i] es[i] (by simp[hi]) (by simp[a1]) (by simp[a2])]
 ·rw[WK (by omega),WK (by omega)]
theorem Rep.inj{O:Addr->Prop}{v:V}{d:D}(h:Rep H O v d):∀ {n:Nat} {e:D},flat n d=true->flat n e=true->Rep H O v e->d=e:=by
 induction h with
 | ax=>intro n e _ _ k; cases k; rfl
 | bl b=>intro n e _ _ k; cases k; rfl
 | int i=>intro n e _ _ k; cases k; rfl
 | str x =>
  intro n e _ _ k;generalize hz:V.str (toS x)=z at k
  cases k with
  | str y=>injection hz with hz; rw[se hz]
  | _=>cases hz
 | @tup a vs ds h1 h2 h3 h4 ih =>
  intro n e fd fe k
  cases n with
  | zero=>simp[flat] at fd
  | succ n =>
   simp only[flat] at fd
   cases k with
   | @tup _ ws es k1 k2 k3 k4 =>
    simp only[flat] at fe;have e1:=Rd.inj (.inl h2) (.inl k2) (λ_ _ z=>by cases z) (λ_ _ z=>by cases z);injection e1 with e1
    subst e1;rw[aI.inj h3 k3 λi v d e q1 q2 q3=>ih i v d q1 q2 (mr fd (WC q2)) (mr fe (WC q3)) (k4 i v e q1 q3)]
   | lst k1 k2=>exact absurd (Rd.inj (.inl h2) k2 (λ_ _ z=>by cases z) (λ_ _ z=>by cases z)) (λz=>by cases z)
   | aM k1 k2=>exact absurd (Rd.inj (.inl h2) (.inl k2) (λ_ _ z=>by cases z) (λ_ _ z=>by cases z)) (λz=>by cases z)
   | exc k1 k2=>simp[flat] at fe
   | xd k1 k2=>simp[flat] at fe
   | fn _=>simp[flat] at fe
   | dic _=>simp[flat] at fe
 | @lst a vs ds h1 h2 h3 h4 ih =>
  intro n e fd fe k
  cases n with
  | zero=>simp[flat] at fd
  | succ n =>
   simp only[flat] at fd
   cases k with
   | @lst _ ws es k1 k2 k3 k4 =>
    simp only[flat] at fe;have e1:=Rd.inj h2 k2 (λ_ _ z=>by cases z) (λ_ _ z=>by cases z);injection e1 with e1
    subst e1;rw[aI.inj h3 k3 λi v d e q1 q2 q3=>ih i v d q1 q2 (mr fd (WC q2)) (mr fe (WC q3)) (k4 i v e q1 q3)]
   | tup k1 k2=>exact absurd (Rd.inj h2 (.inl k2) (λ_ _ z=>by cases z) (λ_ _ z=>by cases z)) (λz=>by cases z)
   | aM k1 k2=>exact absurd (Rd.inj h2 (.inl k2) (λ_ _ z=>by cases z) (λ_ _ z=>by cases z)) (λz=>by cases z)
   | exc k1 k2=>simp[flat] at fe
   | xd k1 k2=>simp[flat] at fe
   | fn _=>simp[flat] at fe
   | dic _=>simp[flat] at fe
 | aM h1 h2 h3 h4 ih =>
  intro n e fd _ _
  cases n <;> simp[flat] at fd
 | exc h1 h2 =>
  intro n e fd _ _
  cases n <;> simp[flat] at fd
 | xd h1 h2 =>
  intro n e fd _ _
  cases n <;> simp[flat] at fd
 | fn _ =>
  intro n e fd _ _
  cases n <;> simp[flat] at fd
 | dic h1 h2 =>
  intro n e fd _ _
  cases n <;> simp[flat] at fd
def vA(H:Hp)(s:W2)(n:Nat):Prop:=∀ (A:Wq) (x y:V) (u w:Value) (d e:D),A.units + n + 1 < WO->flat n d=true->flat n e=true->Rep H cE x d->Rep H cE y e->RelV x u->RelV y w->EqAt A s u w (aB d e)
def mw(H:Hp)(s:W2)(A:Wq)(n:Nat):Prop:=match n with
 | 0=>True
 | m + 1=>A.units + m + 2 < WO/\vA H s m
def sm(ds es:List D)(j:Nat):Bool:=match ds[j]?,es[j]? with
 | some p,some q=>aB p q
 | _,_=>false
theorem sr(j:Nat)(p q:D)(e1:ds[j]? = some p)(e2:es[j]? = some q):sm ds es j=aB p q:=by unfold sm; rw[e1,e2]
theorem su{n:Nat}{A:Wq}{vs ws:List V}{ds es:List D}{ae gQ:List Value}(hu:A.units + n + 2 < WO)(ih:vA H s n)(r1:Vals vs ae)(r2:Vals ws gQ)(l1:vs.length=ds.length)(l2:ws.length=es.length)
  (g1:∀ (i:Nat) v d,vs[i]? = some v->ds[i]? = some d->Rep H cE v d) (g2:∀ (i:Nat) v d,ws[i]? = some v->es[i]? = some d->Rep H cE v d) (f1:jg n ds=true) (f2:jg n es=true) :
  ∀ j (h1:j < ae.toArray.size) (h2:j < gQ.toArray.size),EqAt A.in1 s ae.toArray[j] gQ.toArray[j] (sm ds es j):=by
 intro j h1 h2;have e1:=r1.length;have e2:=r2.length;simp at h1 h2;have hd:j < ds.length:=by omega
 have he:j < es.length:=by omega
 have hv:j < vs.length:=by omega
 have hw:j < ws.length:=by omega
 obtain⟨u',pV,ru'⟩:=r1.get (i:=j) (x:=vs[j]) (by simp[hv]);obtain⟨w',hw',rw''⟩:=r2.get (i:=j) (x:=ws[j]) (by simp[hw]);have eu:ae.toArray[j]=u':=by simpa[h1] using pV
 have ew:gQ.toArray[j]=w':=by simpa[h2] using hw'
 rw[eu,ew,sr j ds[j] es[j] (by simp[hd]) (by simp[he])];exact ih A.in1 vs[j] ws[j] u' w' ds[j] es[j] (by rw[Ku]; omega) (mr f1 (Qc hd)) (mr f2 (Qc he)) (g1 j _ _ (by simp[hv]) (by simp[hd])) (g2 j _ _ (by simp[hw]) (by simp[he])) ru' rw''
theorem BM(h1:n=ds.length)(h2:m=es.length):((Wf (min n m)).all (sm ds es) && n == m)=fX ds es:=by
 subst h1 h2;by_cases hl:ds.length=es.length
 ·rw[<- hl,Nat.min_self,sj hl sr];simp
 ·rw[sk hl];simp[hl]
theorem Kv(I:Inv X pins σ H s)(n:Nat)(A:Wq)(bK:A.units < WO)(t1:s.heap.IsTuple a ae.toArray)(t2:s.heap.IsTuple b gQ.toArray)(r1:Vals vs ae)(r2:Vals ws gQ)(l1:vs.length=ds.length)(l2:ws.length=es.length)
  (g1:∀ (i:Nat) v d,vs[i]? = some v->ds[i]? = some d->Rep H cE v d) (g2:∀ (i:Nat) v d,ws[i]? = some v->es[i]? = some d->Rep H cE v d) (f1:flat n (.tup ds)=true) (f2:flat n (.tup es)=true) (ih:mw H s A n) :
  RcAt A s (.ref a) (.ref b) (fX ds es):=by
 cases n with
 | zero=>simp[flat] at f1
 | succ n =>
  simp only[flat] at f1 f2;obtain⟨hu,ih⟩:=ih;have q:=RcAt.tuples (A:=A) (s:=s) t1 t2 bK (su hu ih r1 r2 l1 l2 g1 g2 f1 f2);rw[BM (by have:=r1.length; simp; omega) (by have:=r2.length; simp; omega)] at q;exact q
theorem Kw(I:Inv X pins σ H s)(n:Nat)(A:Wq)(bK:A.units < WO)(t1:s.heap.IsTuple a ae.toArray)(t2:s.heap.IsTuple b gQ.toArray)(r1:Vals vs ae)(r2:Vals ws gQ)(l1:vs.length=ds.length)(l2:ws.length=es.length)
  (g1:∀ (i:Nat) v d,vs[i]? = some v->ds[i]? = some d->Rep H cE v d) (g2:∀ (i:Nat) v d,ws[i]? = some v->es[i]? = some d->Rep H cE v d) (f1:flat n (.tup ds)=true) (f2:flat n (.tup es)=true) (ih:mw H s A n) :
  RcNeAt A s (.ref a) (.ref b) (!fX ds es):=by
 cases n with
 | zero=>simp[flat] at f1
 | succ n =>
  simp only[flat] at f1 f2;obtain⟨hu,ih⟩:=ih;have q:=RcNeAt.tuples (A:=A) (s:=s) t1 t2 bK (su hu ih r1 r2 l1 l2 g1 g2 f1 f2);rw[BM (by have:=r1.length; simp; omega) (by have:=r2.length; simp; omega)] at q;exact q
theorem Kx(I:Inv X pins σ H s)(n:Nat)(A:Wq)(bK:A.units < WO)(t1:s.heap.IsList a ae.toArray)(t2:s.heap.IsList b gQ.toArray)(r1:Vals vs ae)(r2:Vals ws gQ)(l1:vs.length=ds.length)(l2:ws.length=es.length)
  (g1:∀ (i:Nat) v d,vs[i]? = some v->ds[i]? = some d->Rep H cE v d) (g2:∀ (i:Nat) v d,ws[i]? = some v->es[i]? = some d->Rep H cE v d) (f1:flat n (.lst ds)=true) (f2:flat n (.lst es)=true) (ih:mw H s A n) :
  RcAt A s (.ref a) (.ref b) (fX ds es):=by
 cases n with
 | zero=>simp[flat] at f1
 | succ n =>
  simp only[flat] at f1 f2;obtain⟨hu,ih⟩:=ih;have z1:ae.toArray.size=ds.length:=by have:=r1.length; simp; omega
  have z2:gQ.toArray.size=es.length:=by have:=r2.length; simp; omega
  by_cases hl:ds.length=es.length
  ·have q:=RcAt.lists (A:=A) (s:=s) t1 t2 (by rw[z1,z2]; exact hl) bK (su hu ih r1 r2 l1 l2 g1 g2 f1 f2);rw[z1,sj hl sr] at q;exact q
  ·rw[sk hl];exact RcAt.lists_lengths (A:=A) (s:=s) t1 t2 (by rw[z1,z2]; simpa using hl) bK
theorem Ky(I:Inv X pins σ H s)(n:Nat)(A:Wq)(bK:A.units < WO)(t1:s.heap.IsList a ae.toArray)(t2:s.heap.IsList b gQ.toArray)(r1:Vals vs ae)(r2:Vals ws gQ)(l1:vs.length=ds.length)(l2:ws.length=es.length)
  (g1:∀ (i:Nat) v d,vs[i]? = some v->ds[i]? = some d->Rep H cE v d) (g2:∀ (i:Nat) v d,ws[i]? = some v->es[i]? = some d->Rep H cE v d) (f1:flat n (.lst ds)=true) (f2:flat n (.lst es)=true) (ih:mw H s A n) :
  RcNeAt A s (.ref a) (.ref b) (!fX ds es):=by
 cases n with
 | zero=>simp[flat] at f1
 | succ n =>
  simp only[flat] at f1 f2;obtain⟨hu,ih⟩:=ih;have z1:ae.toArray.size=ds.length:=by have:=r1.length; simp; omega
  have z2:gQ.toArray.size=es.length:=by have:=r2.length; simp; omega
  by_cases hl:ds.length=es.length
  ·have q:=RcNeAt.lists (A:=A) (s:=s) t1 t2 (by rw[z1,z2]; exact hl) bK (su hu ih r1 r2 l1 l2 g1 g2 f1 f2);rw[z1,sj hl sr] at q;exact q
  ·rw[sk hl];exact RcNeAt.lists_lengths (A:=A) (s:=s) t1 t2 (by rw[z1,z2]; simpa using hl) bK
theorem vC(I:Inv X pins σ H s)(n:Nat)(A:Wq)(x y:V)(u w:Value)(d e:D)(bK:A.units < WO)(fd:flat n d=true)(fe:flat n e=true)(ih:mw H s A n)(rx:Rep H cE x d)(ry:Rep H cE y e)(ru:RelV x u)(aL:RelV y w):RcAt A s u w (aB d e):=by
 cases rx with
 | ax =>
  cases ru
  cases ry with
  | ax =>
   cases aL;simp only[aB]; exact RcAt.none_none
  | bl q =>
   cases aL;simp only[aB]; exact RcAt.none_bool _
  | int q =>
   obtain⟨t2,rfl⟩:=aL;simp only[aB]; exact RcAt.none_int _ _
  | str q =>
   obtain⟨t2,rfl⟩:=aL;simp only[aB]; exact RcAt.none_str _ _
  | tup k1 k2 k3 k4 =>
   cases aL; obtain⟨its2,r2,t2⟩:=Inv.gP I k2
   simp only[aB]; exact RcAt.none_tuple t2 bK
  | lst k1 k2 k3 k4 =>
   cases aL; obtain⟨its2,r2,t2⟩:=Inv.gO I k2
   simp only[aB]; exact RcAt.none_list t2 bK
  | aM k1 k2 k3 k4=>(cases n <;> simp[flat] at fe)
  | exc k1 k2=>(cases n <;> simp[flat] at fe)
  | xd k1 k2=>(cases n <;> simp[flat] at fe)
  | fn _=>(cases n <;> simp[flat] at fe)
  | dic _=>(cases n <;> simp[flat] at fe)
 | bl p =>
  cases ru
  cases ry with
  | ax =>
   cases aL;simp only[aB]; exact RcAt.bool_none _
  | bl q =>
   cases aL;simp only[aB]; exact RcAt.bool_bool _ _
  | int q =>
   obtain⟨t2,rfl⟩:=aL;simp only[aB]; exact RcAt.bool_int _ _ _
  | str q =>
   obtain⟨t2,rfl⟩:=aL;simp only[aB]; exact RcAt.bool_str _ _ _
  | tup k1 k2 k3 k4 =>
   cases aL; obtain⟨its2,r2,t2⟩:=Inv.gP I k2
   simp only[aB]; exact RcAt.bool_tuple _ t2 bK
  | lst k1 k2 k3 k4 =>
   cases aL; obtain⟨its2,r2,t2⟩:=Inv.gO I k2
   simp only[aB]; exact RcAt.bool_list _ t2 bK
  | aM k1 k2 k3 k4=>(cases n <;> simp[flat] at fe)
  | exc k1 k2=>(cases n <;> simp[flat] at fe)
  | xd k1 k2=>(cases n <;> simp[flat] at fe)
  | fn _=>(cases n <;> simp[flat] at fe)
  | dic _=>(cases n <;> simp[flat] at fe)
 | int p =>
  obtain⟨t1,rfl⟩:=ru
  cases ry with
  | ax =>
   cases aL;simp only[aB]; exact RcAt.int_none _ _
  | bl q =>
   cases aL;simp only[aB]; exact RcAt.int_bool _ _ _
  | int q =>
   obtain⟨t2,rfl⟩:=aL;simp only[aB]; exact RcAt.int_int _ _ _ _
  | str q =>
   obtain⟨t2,rfl⟩:=aL;simp only[aB]; exact RcAt.int_str _ _ _ _
  | tup k1 k2 k3 k4 =>
   cases aL; obtain⟨its2,r2,t2⟩:=Inv.gP I k2
   simp only[aB]; exact RcAt.int_tuple _ _ t2 bK
  | lst k1 k2 k3 k4 =>
   cases aL; obtain⟨its2,r2,t2⟩:=Inv.gO I k2
   simp only[aB]; exact RcAt.int_list _ _ t2 bK
  | aM k1 k2 k3 k4=>(cases n <;> simp[flat] at fe)
  | exc k1 k2=>(cases n <;> simp[flat] at fe)
  | xd k1 k2=>(cases n <;> simp[flat] at fe)
  | fn _=>(cases n <;> simp[flat] at fe)
  | dic _=>(cases n <;> simp[flat] at fe)
 | str p =>
  obtain⟨t1,rfl⟩:=ru
  cases ry with
  | ax =>
   cases aL;simp only[aB]; exact RcAt.str_none _ _
  | bl q =>
   cases aL;simp only[aB]; exact RcAt.str_bool _ _ _
  | int q =>
   obtain⟨t2,rfl⟩:=aL;simp only[aB]; exact RcAt.str_int _ _ _ _
  | str q =>
   obtain⟨t2,rfl⟩:=aL;simp only[aB]; rw[<- vz]; exact RcAt.str_str _ _ _ _
  | tup k1 k2 k3 k4 =>
   cases aL; obtain⟨its2,r2,t2⟩:=Inv.gP I k2
   simp only[aB]; exact RcAt.str_tuple _ _ t2 bK
  | lst k1 k2 k3 k4 =>
   cases aL; obtain⟨its2,r2,t2⟩:=Inv.gO I k2
   simp only[aB]; exact RcAt.str_list _ _ t2 bK
  | aM k1 k2 k3 k4=>(cases n <;> simp[flat] at fe)
  | exc k1 k2=>(cases n <;> simp[flat] at fe)
  | xd k1 k2=>(cases n <;> simp[flat] at fe)
  | fn _=>(cases n <;> simp[flat] at fe)
  | dic _=>(cases n <;> simp[flat] at fe)
 | tup h1 h2 h3 h4 =>
  cases ru; obtain⟨its1,r1,t1⟩:=Inv.gP I h2
  cases ry with
  | ax =>
   cases aL;simp only[aB]; exact RcAt.tuple_none t1 bK
  | bl q =>
   cases aL;simp only[aB]; exact RcAt.tuple_bool _ t1 bK
  | int q =>
   obtain⟨t2,rfl⟩:=aL;simp only[aB]; exact RcAt.tuple_int _ _ t1 bK
  | str q =>
   obtain⟨t2,rfl⟩:=aL;simp only[aB]; exact RcAt.tuple_str _ _ t1 bK
  | tup k1 k2 k3 k4 =>
   cases aL; obtain⟨its2,r2,t2⟩:=Inv.gP I k2
   simp only[aB]; exact Kv I n A bK t1 t2 r1 r2 h3 k3 h4 k4 fd fe ih
  | lst k1 k2 k3 k4 =>
   cases aL; obtain⟨its2,r2,t2⟩:=Inv.gO I k2
   simp only[aB]; exact RcAt.tuple_list t1 t2 bK
  | aM k1 k2 k3 k4=>(cases n <;> simp[flat] at fe)
  | exc k1 k2=>(cases n <;> simp[flat] at fe)
  | xd k1 k2=>(cases n <;> simp[flat] at fe)
  | fn _=>(cases n <;> simp[flat] at fe)
  | dic _=>(cases n <;> simp[flat] at fe)
 | lst h1 h2 h3 h4 =>
  cases ru; obtain⟨its1,r1,t1⟩:=Inv.gO I h2
  cases ry with
  | ax =>
   cases aL;simp only[aB]; exact RcAt.list_none t1 bK
  | bl q =>
   cases aL;simp only[aB]; exact RcAt.list_bool _ t1 bK
  | int q =>
   obtain⟨t2,rfl⟩:=aL;simp only[aB]; exact RcAt.list_int _ _ t1 bK
  | str q =>
   obtain⟨t2,rfl⟩:=aL;simp only[aB]; exact RcAt.list_str _ _ t1 bK
  | tup k1 k2 k3 k4 =>
   cases aL; obtain⟨its2,r2,t2⟩:=Inv.gP I k2
   simp only[aB]; exact RcAt.list_tuple t1 t2 bK
  | lst k1 k2 k3 k4 =>
   cases aL; obtain⟨its2,r2,t2⟩:=Inv.gO I k2
   simp only[aB]; exact Kx I n A bK t1 t2 r1 r2 h3 k3 h4 k4 fd fe ih
  | aM k1 k2 k3 k4=>(cases n <;> simp[flat] at fe)
  | exc k1 k2=>(cases n <;> simp[flat] at fe)
  | xd k1 k2=>(cases n <;> simp[flat] at fe)
  | fn _=>(cases n <;> simp[flat] at fe)
  | dic _=>(cases n <;> simp[flat] at fe)
 | aM h1 h2 h3 h4=>(cases n <;> simp[flat] at fd)
 | exc h1 h2=>(cases n <;> simp[flat] at fd)
 | xd h1 h2=>(cases n <;> simp[flat] at fd)
 | fn _=>(cases n <;> simp[flat] at fd)
 | dic _=>(cases n <;> simp[flat] at fd)
theorem Kz(I:Inv X pins σ H s)(n:Nat)(A:Wq)(x y:V)(u w:Value)(d e:D)(bK:A.units < WO)(fd:flat n d=true)(fe:flat n e=true)(ih:mw H s A n)(rx:Rep H cE x d)(ry:Rep H cE y e)(ru:RelV x u)(aL:RelV y w):RcNeAt A s u w (!aB d e):=by
 cases rx with
 | ax =>
  cases ru
  cases ry with
  | ax =>
   cases aL;simp only[aB]; exact RcNeAt.none_none
  | bl q =>
   cases aL;simp only[aB]; exact RcNeAt.none_bool _
  | int q =>
   obtain⟨t2,rfl⟩:=aL;simp only[aB]; exact RcNeAt.none_int _ _
  | str q =>
   obtain⟨t2,rfl⟩:=aL;simp only[aB]; exact RcNeAt.none_str _ _
  | tup k1 k2 k3 k4 =>
   cases aL; obtain⟨its2,r2,t2⟩:=Inv.gP I k2
   simp only[aB]; exact RcNeAt.none_tuple t2 bK
  | lst k1 k2 k3 k4 =>
   cases aL; obtain⟨its2,r2,t2⟩:=Inv.gO I k2
   simp only[aB]; exact RcNeAt.none_list t2 bK
  | aM k1 k2 k3 k4=>(cases n <;> simp[flat] at fe)
  | exc k1 k2=>(cases n <;> simp[flat] at fe)
  | xd k1 k2=>(cases n <;> simp[flat] at fe)
  | fn _=>(cases n <;> simp[flat] at fe)
  | dic _=>(cases n <;> simp[flat] at fe)
 | bl p =>
  cases ru
  cases ry with
  | ax =>
   cases aL;simp only[aB]; exact RcNeAt.bool_none _
  | bl q =>
   cases aL;simp only[aB]; exact RcNeAt.bool_bool _ _
  | int q =>
   obtain⟨t2,rfl⟩:=aL;simp only[aB]; exact RcNeAt.bool_int _ _ _
  | str q =>
   obtain⟨t2,rfl⟩:=aL;simp only[aB]; exact RcNeAt.bool_str _ _ _
  | tup k1 k2 k3 k4 =>
   cases aL; obtain⟨its2,r2,t2⟩:=Inv.gP I k2
   simp only[aB]; exact RcNeAt.bool_tuple _ t2 bK
  | lst k1 k2 k3 k4 =>
   cases aL; obtain⟨its2,r2,t2⟩:=Inv.gO I k2
   simp only[aB]; exact RcNeAt.bool_list _ t2 bK
  | aM k1 k2 k3 k4=>(cases n <;> simp[flat] at fe)
  | exc k1 k2=>(cases n <;> simp[flat] at fe)
  | xd k1 k2=>(cases n <;> simp[flat] at fe)
  | fn _=>(cases n <;> simp[flat] at fe)
  | dic _=>(cases n <;> simp[flat] at fe)
 | int p =>
  obtain⟨t1,rfl⟩:=ru
  cases ry with
  | ax =>
   cases aL;simp only[aB]; exact RcNeAt.int_none _ _
  | bl q =>
   cases aL;simp only[aB]; exact RcNeAt.int_bool _ _ _
  | int q =>
   obtain⟨t2,rfl⟩:=aL;simp only[aB]; exact RcNeAt.int_int _ _ _ _
  | str q =>
   obtain⟨t2,rfl⟩:=aL;simp only[aB]; exact RcNeAt.int_str _ _ _ _
  | tup k1 k2 k3 k4 =>
   cases aL; obtain⟨its2,r2,t2⟩:=Inv.gP I k2
   simp only[aB]; exact RcNeAt.int_tuple _ _ t2 bK
  | lst k1 k2 k3 k4 =>
   cases aL; obtain⟨its2,r2,t2⟩:=Inv.gO I k2
   simp only[aB]; exact RcNeAt.int_list _ _ t2 bK
  | aM k1 k2 k3 k4=>(cases n <;> simp[flat] at fe)
  | exc k1 k2=>(cases n <;> simp[flat] at fe)
  | xd k1 k2=>(cases n <;> simp[flat] at fe)
  | fn _=>(cases n <;> simp[flat] at fe)
  | dic _=>(cases n <;> simp[flat] at fe)
 | str p =>
  obtain⟨t1,rfl⟩:=ru
  cases ry with
  | ax =>
   cases aL;simp only[aB]; exact RcNeAt.str_none _ _
  | bl q =>
   cases aL;simp only[aB]; exact RcNeAt.str_bool _ _ _
  | int q =>
   obtain⟨t2,rfl⟩:=aL;simp only[aB]; exact RcNeAt.str_int _ _ _ _
  | str q =>
   obtain⟨t2,rfl⟩:=aL;simp only[aB]; rw[<- vz]; exact RcNeAt.str_str _ _ _ _
  | tup k1 k2 k3 k4 =>
   cases aL; obtain⟨its2,r2,t2⟩:=Inv.gP I k2
   simp only[aB]; exact RcNeAt.str_tuple _ _ t2 bK
  | lst k1 k2 k3 k4 =>
   cases aL; obtain⟨its2,r2,t2⟩:=Inv.gO I k2
   simp only[aB]; exact RcNeAt.str_list _ _ t2 bK
  | aM k1 k2 k3 k4=>(cases n <;> simp[flat] at fe)
  | exc k1 k2=>(cases n <;> simp[flat] at fe)
  | xd k1 k2=>(cases n <;> simp[flat] at fe)
  | fn _=>(cases n <;> simp[flat] at fe)
  | dic _=>(cases n <;> simp[flat] at fe)
 | tup h1 h2 h3 h4 =>
  cases ru; obtain⟨its1,r1,t1⟩:=Inv.gP I h2
  cases ry with
  | ax =>
   cases aL;simp only[aB]; exact RcNeAt.tuple_none t1 bK
  | bl q =>
   cases aL;simp only[aB]; exact RcNeAt.tuple_bool _ t1 bK
  | int q =>
   obtain⟨t2,rfl⟩:=aL;simp only[aB]; exact RcNeAt.tuple_int _ _ t1 bK
  | str q =>
   obtain⟨t2,rfl⟩:=aL;simp only[aB]; exact RcNeAt.tuple_str _ _ t1 bK
  | tup k1 k2 k3 k4 =>
   cases aL; obtain⟨its2,r2,t2⟩:=Inv.gP I k2
   simp only[aB]; exact Kw I n A bK t1 t2 r1 r2 h3 k3 h4 k4 fd fe ih
  | lst k1 k2 k3 k4 =>
   cases aL; obtain⟨its2,r2,t2⟩:=Inv.gO I k2
   simp only[aB]; exact RcNeAt.tuple_list t1 t2 bK
  | aM k1 k2 k3 k4=>(cases n <;> simp[flat] at fe)
  | exc k1 k2=>(cases n <;> simp[flat] at fe)
  | xd k1 k2=>(cases n <;> simp[flat] at fe)
  | fn _=>(cases n <;> simp[flat] at fe)
  | dic _=>(cases n <;> simp[flat] at fe)
 | lst h1 h2 h3 h4 =>
  cases ru; obtain⟨its1,r1,t1⟩:=Inv.gO I h2
  cases ry with
  | ax =>
   cases aL;simp only[aB]; exact RcNeAt.list_none t1 bK
  | bl q =>
   cases aL;simp only[aB]; exact RcNeAt.list_bool _ t1 bK
  | int q =>
   obtain⟨t2,rfl⟩:=aL;simp only[aB]; exact RcNeAt.list_int _ _ t1 bK
  | str q =>
   obtain⟨t2,rfl⟩:=aL;simp only[aB]; exact RcNeAt.list_str _ _ t1 bK
  | tup k1 k2 k3 k4 =>
   cases aL; obtain⟨its2,r2,t2⟩:=Inv.gP I k2
   simp only[aB]; exact RcNeAt.list_tuple t1 t2 bK
  | lst k1 k2 k3 k4 =>
   cases aL; obtain⟨its2,r2,t2⟩:=Inv.gO I k2
   simp only[aB]; exact Ky I n A bK t1 t2 r1 r2 h3 k3 h4 k4 fd fe ih
  | aM k1 k2 k3 k4=>(cases n <;> simp[flat] at fe)
  | exc k1 k2=>(cases n <;> simp[flat] at fe)
  | xd k1 k2=>(cases n <;> simp[flat] at fe)
  | fn _=>(cases n <;> simp[flat] at fe)
  | dic _=>(cases n <;> simp[flat] at fe)
 | aM h1 h2 h3 h4=>(cases n <;> simp[flat] at fd)
 | exc h1 h2=>(cases n <;> simp[flat] at fd)
 | xd h1 h2=>(cases n <;> simp[flat] at fd)
 | fn _=>(cases n <;> simp[flat] at fd)
 | dic _=>(cases n <;> simp[flat] at fd)
theorem BN(h:RcAt A s u w k)(hs:u=w->k=true)(hf:∀ b t,u≠Value.float b t):EqAt A s u w k:=λprog w' E Q hq=>by
 unfold eqBool;refine WR ?_;refine Jk (λjN=>?_) (λ_=>?_)
 ·have e:=JD jN;rw[hs e] at hq;exact W0 (Qv (W3 hq))
 ·cases u with
  | float b t=>exact absurd rfl (hf b t)
  | _=>exact W0 (h prog w' E _ (QB hq))
theorem BO(r:Rep H cE x d)(ru:RelV x u)(b:UInt64)(t:Tok):u≠Value.float b t:=by
 intro e;subst e
 cases r <;> first | (cases ru; done) | (obtain⟨t',e⟩:=ru; cases e)
theorem KA(I:Inv X pins σ H s)(n:Nat):vA H s n:=by
 induction n with
 | zero =>
  intro A x y u w d e hu fd fe rx ry ru aL;refine BN (vC I 0 A x y u w d e (by omega) fd fe trivial rx ry ru aL) (λh=>?_) (BO rx ru);subst h;have:=ru.inj aL;subst this;rw[Rep.inj rx fd fe ry];exact vx fe
 | succ n ih =>
  intro A x y u w d e hu fd fe rx ry ru aL;refine BN (vC I (n + 1) A x y u w d e (by omega) fd fe ⟨by omega,ih⟩ rx ry ru aL) (λh=>?_) (BO rx ru);subst h;have:=ru.inj aL;subst this;rw[Rep.inj rx fd fe ry];exact vx fe
theorem sv(I:Inv X pins σ H s):∀ n:Nat,A.units + n + 1 < WO->mw H s A n
 | 0,_=>trivial
 | n + 1,h=>⟨by omega,KA I n⟩
def BP:R2:=λx y H Q=>∃ d e,Rep H cE x d/\Rep H cE y e/\flat 50 d=true/\flat 50 e=true/\Q (.bl (aB d e)) H
def BQ:R2:=λx y H Q=>∃ d e,Rep H cE x d/\Rep H cE y e/\flat 50 d=true/\flat 50 e=true/\Q (.bl (!aB d e)) H
theorem ik(hu:X.A.units + 64 < WO):bz X (Wz .Eq) BP:=by
 intro pins s σ H x y v u Q I rx ry h;obtain⟨d,e,r1,r2,f1,f2,q⟩:=h;exact vC I 50 X.A x y v u d e (by omega) f1 f2 (sv I 50 (by omega)) r1 r2 rx ry X.prog X.w X.xe _ ⟨.bl _,H,I,rfl,q⟩
theorem pW(hu:X.A.units + 64 < WO):bz X (Wz .NotEq) BQ:=by
 intro pins s σ H x y v u Q I rx ry h;obtain⟨d,e,r1,r2,f1,f2,q⟩:=h;exact Kz I 50 X.A x y v u d e (by omega) f1 f2 (sv I 50 (by omega)) r1 r2 rx ry X.prog X.w X.xe _ ⟨.bl _,H,I,rfl,q⟩
end
def bY{α:Type}(xs:List α)(lo hi:Option Int):List α:=(xs.drop (HT.aZ xs.length 0 lo)).take (HT.aZ xs.length xs.length hi - HT.aZ xs.length 0 lo)
theorem BR(xs:List V)(lo hi:Option Int):bY xs lo hi=k9 xs lo hi:=rfl
theorem vD(xs:List α)(lo hi:Option Int):(bY xs lo hi).length<=xs.length:=by
 unfold bY;rw[JP,List.length_drop];omega
theorem aI.cut(lo hi:Option Int)(h:aI H O vs ds):aI H O (bY vs lo hi) (bY ds lo hi):=by
 unfold bY;rw[h.1];exact aI.take _ (aI.drop _ h)
theorem KC{α:Type}{xs:List α}{lo hi:Option Int}(h:HT.aZ xs.length 0 lo=0/\HT.aZ xs.length xs.length hi=xs.length):bY xs lo hi=xs:=by
 unfold bY;rw[h.1,h.2];simp
section
variable {prog:Wj} {w:Wp} {A:Wq} {E:Value->W2->Prop} {s:W2}
theorem KD{t sl:Addr}{items:Array Value}{vl vu:Value}{lo hi:Option Int}{Q:Value->W2->Prop}(ht:IsTup s.heap t items)(hs:s.heap.IsSliceOf sl vl vu .none)(pl:IsPart vl lo)(pu:IsPart vu hi)
  (hw:HT.aZ items.size 0 lo=0/\HT.aZ items.size items.size hi=items.size) (h:Q (.ref t) s):W5 (model prog w) A (Jy (.ref t) (.ref sl)) Q E s:=by
 obtain⟨os,hos,hcs,hds⟩:=id hs;have pG:s.TypeIs (.ref sl) "slice":=⟨os,hos,hcs⟩
 unfold Jy;try with_reducible refine WR ?_
 first | refine W0 (W3 ?_) | skip
 refine W0 (wpAny_sequenceKey ht.typeIs (by decide) ?_);refine W0 (WT (name:=Str.ofString "__getitem__") ht.typeIs Q1
  (Q5 Q1 ht.typeIs entry_tuple_getitem ?_ (args_tuple_getitem _ _)))
 show W5 _ _ (Builtin.Tuple.tupleItemsOf (.ref t) >>= _) _ _ s;refine W0 (tupleItemsOf_ ht ?_);refine W0 (QM pG ?_);rw[if_pos (by decide)];refine W0 (HT.A0 hs pl pu ?_);show W5 _ _ (if (((HT.aZ items.size 0 lo:Nat):Int) == 0 && (1:Int) == 1 && (HT.aZ items.size items.size hi - HT.aZ items.size 0 lo) == items.size)=true then _ else _) _ _ s;rw[hw.1,hw.2];rw[if_pos (by simp)];refine W0 (m:=Builtin.Tuple.tupleIsExact (.ref t)) ?_;unfold Builtin.Tuple.tupleIsExact;refine W0 (QM ht.typeIs (W3 ?_));rw[if_pos (by decide)];exact W0 (Qv (W0 (W3 (W3 ⟨_,rfl,W3 h⟩))))
end
section
variable {X:Cx}
def BS(K:W1):V->Option Int->Option Int->Hp->VK->Prop:=λx lo hi H Q=>∃ a xs,x = .ref a/\cq K H a xs /\
 ((HT.aZ xs.length 0 lo=0/\HT.aZ xs.length xs.length hi=xs.length)->Q (.ref a) H)/\(¬ (HT.aZ xs.length 0 lo=0/\HT.aZ xs.length xs.length hi=xs.length)->∀ p,H p=none->Q (.ref p) (upd H p (.tup (k9 xs lo hi))))
theorem KG:jH X (BS X.K):=by
 intro pins s σ H x v vl vu lo hi sl Q I rx hs pl pu h;obtain⟨a,xs,rfl,hx,q1,q2⟩:=h;by_cases hw:HT.aZ xs.length 0 lo=0/\HT.aZ xs.length xs.length hi=xs.length
 ·cases rx;obtain⟨ae,r,ht,hz⟩:=I.tuple hx;have hlen:ae.toArray.size=xs.length:=by rw[Wo]; exact r.length.symm
  refine⟨"tuple",_,PyProof.Rows.slot_tuple_getitem.lookup,ht.typeIs,?_⟩;exact KD ht hs pl pu (by rw[hlen]; exact hw) ⟨.ref a,H,I,rfl,q1 hw⟩
 ·exact HX pins s σ H (.ref a) v vl vu lo hi sl Q I rx hs pl pu ⟨a,xs,rfl,hx,hw,q2 hw⟩
theorem KH(a b:Nat):sliceRange (a:Int) (b:Int) 1=(Wf (b - a)).map (λk=>a + k):=by
 have h0:((1:Int) > 0)=True:=by simp
 unfold sliceRange;simp only[h0,if_true];by_cases bx:(a:Int) < (b:Int)
 ·rw[if_pos bx];have e3:(((b:Int) - (a:Int) + 1 - 1) / 1).toNat=b - a:=by
   rw[Int.ediv_one]; omega
  rw[e3];refine List.map_congr_left λk _=>?_
  omega
 ·rw[if_neg bx];have:b - a=0:=by omega
  rw[this];rfl
theorem BU(lo hi:Option Int)(n:Nat):WN lo hi 1 n=(Wf (HT.aZ n n hi - HT.aZ n 0 lo)).map (λk=>HT.aZ n 0 lo + k):=by
 have c:∀ (i:Int) (d:Nat),max 0 (min (if i < 0 then i + (n:Int) else i) (n:Int))=((HT.aZ n d (some i):Nat):Int):=by
  intro i d;show max 0 (min (if i < 0 then i + (n:Int) else i) (n:Int))=(((if i < 0 then(i + (n:Int)).toNat else min i.toNat n):Nat):Int);by_cases hi:i < 0
  ·simp only[if_pos hi]; omega
  ·simp only[if_neg hi]; omega
 have h0:((1:Int) > 0)=True:=by simp
 rw[<- KH];unfold WN;simp only[h0,if_true]
 cases lo with
 | none =>
  cases hi with
  | none=>rfl
  | some j=>show sliceRange 0 (max 0 (min (if j < 0 then j + (n:Int) else j) (n:Int))) 1=_; rw[c j n]; rfl
 | some i =>
  cases hi with
  | none=>show sliceRange (max 0 (min (if i < 0 then i + (n:Int) else i) (n:Int))) (n:Int) 1=_; rw[c i 0]; rfl
  | some j=>show sliceRange (max 0 (min (if i < 0 then i + (n:Int) else i) (n:Int))) (max 0 (min (if j < 0 then j + (n:Int) else j) (n:Int))) 1=_; rw[c i 0,c j n]
theorem KI(x:Tx)(lo hi:Option Int):(⟨((WN lo hi 1 (toS x).length).filterMap ((toS x).cps[·]?)).toArray⟩:Str)=toS (bY x lo hi):=by
 unfold toS;congr 1
 rw[BU];have:=pick_run (x.toArray) (HT.aZ x.length 0 lo) (HT.aZ x.length x.length hi - HT.aZ x.length 0 lo);have hl:({ cps:=x.toArray }:Str).length=x.length:=by simp[Str.length]
 rw[hl];rw[this];rfl
def BV:V->Option Int->Option Int->Hp->VK->Prop:=λx lo hi H Q=>∃ z:Tx,x = .str (toS z)/\z.length<=W6/\Q (.str (toS (bY z lo hi))) H
theorem BW(p:IsPart v o):∃ q:Option (Int×Tok),v=partValue q/\q.map (·.1)=o:=by
 cases p with
 | none=>exact⟨none,rfl,rfl⟩
 | int i t=>exact⟨some (i,t),rfl,rfl⟩
theorem KJ:jH X BV:=by
 intro pins s σ H x v vl vu lo hi sl Q I rx hs pl pu h;obtain⟨z,rfl,hz,q⟩:=h;obtain⟨t,rfl⟩:=rx;obtain⟨l,rfl,el⟩:=BW pl;obtain⟨u,rfl,eu⟩:=BW pu;obtain⟨o,ho,hc,hd⟩:=hs;refine⟨"str",_,F.slot_str_getitem.lookup,JI s _ t,?_⟩;refine wpAny_getItem_str_slice (l:=l) (u:=u) (st:=none) ⟨o,ho,hc,hd⟩ rfl ?_;unfold sliceMade;have e:(slicePicked (toS z) l u none)=WN lo hi 1 (toS z).length:=by
  unfold slicePicked;rw[el,eu];rfl
 rw[e];by_cases hw:(((none:Option (Int×Tok)).map (·.1)).getD 1 == 1 && (WN lo hi 1 (toS z).length).length == (toS z).length)=true
 ·rw[if_pos hw];refine⟨.str (toS (bY z lo hi)),H,I,⟨t,?_⟩,q⟩;congr 1
  rw[Wk] at hw;have vE:=JD hw.2;rw[BU,WA,List.length_range,jf] at vE;have h1:=HT.uQ z.length 0 (Qf _) lo;have h2:=HT.uQ z.length z.length (W8 _) hi;unfold bY;congr 1
  by_cases h0:z.length=0
  ·have:z=[]:=QE h0;subst this;simp
  ·have a1:HT.aZ z.length 0 lo=0:=by omega
   rw[a1] at vE ⊢;rw[vE];simp
 ·rw[if_neg hw];show Made.post (.str _) _ _;rw[KI];exact⟨by rw[jf]; exact WU (vD z lo hi) hz,.str (toS (bY z lo hi)),H,I.tok _,⟨_,rfl⟩,q⟩
def lh(X:Cx)(r:V->Hp->VK->Prop):Prop :=
 ∀ (pins:List (Addr×Obj)) (s:W2) (σ:St) (H:Hp) (x:V) (v:Value) (t:Tok) (sl:Addr) (Q:VK),Inv X pins σ H s->RelV x v->s.heap.IsSliceOf sl .none .none (.int (-1) t)->r x H Q ->
  ∃ T id,typeLookup (.type T) "__getitem__" = pure (some (.builtin id))/\s.TypeIs v T/\W5 (model X.prog X.w) X.A (Jy v (.ref sl)) (EP X pins σ Q) X.xe s
theorem lh.or(h:lh X r)(h':lh X r'):lh X (λx H Q=>r x H Q\/r' x H Q):=by
 intro pins s σ H x v t sl Q I rx hs q;rcases q with q | q
 ·exact h pins s σ H x v t sl Q I rx hs q
 ·exact h' pins s σ H x v t sl Q I rx hs q
theorem KL{r:V->Hp->VK->Prop}{e st:Expr}{te:TE}{p2 pos:Pos}(hr:lh X r)(he:PE X e te)(dX:PE X st (tC (.int (-1)))):PE X (.Subscript e (.Slice none none (some st) p2) pos) (uH r te):=by
 intro pins s σ H Q I h;refine Subscript_ (aQ (he pins s σ H _ I h) λv s1 ⟨x,H1,I1,r1,q1⟩=>?_);refine wpAny_Slice ?_;rw[evalPart_none,evalPart_some];refine W3 (W3 ?_);refine aQ (dX pins s1 σ H1 (λy H2=>y = .int (-1)/\H2=H1) I1 ⟨rfl,rfl⟩) λu s2 ⟨y,H2,I2,r2,ey,eh⟩=>?_
 subst ey eh;obtain⟨t,rfl⟩:=r2;have I4:Inv X pins σ H2 { s2 with heap:=s2.heap.push { cls:=.type "slice",data:=.fields #[.none,.none,.int (-1) t] } }:=I2.kept (t':=s2.toks) λb ob q=>W4 _ q
 obtain⟨T,id,hT,ht,hg⟩:=hr pins { s2 with heap:=s2.heap.push { cls:=.type "slice",data:=.fields #[.none,.none,.int (-1) t] } } σ H2 x v t s2.heap.objs.size Q I4 r1 (Heap.IsSliceOf.new ..) q1;show W5 (model X.prog X.w) X.A (subscriptTail e (.Slice none none (some st) p2) v (.ref s2.heap.objs.size)) (EP X pins σ Q) X.xe { s2 with heap:=s2.heap.push { cls:=.type "slice",data:=.fields #[.none,.none,.int (-1) t] } };exact tail_any (ops:=[v,.ref s2.heap.objs.size]) ht hT hg (by with_unfolding_all rfl)
theorem KN{pos pos':Pos}{j}:PE X (.UnaryOp .USub (.Constant (.int 1) j pos') pos) (tC (.int (-1))) :=
 PE.weak (Au AA Ad) λσ H Q h=>⟨1,rfl,h⟩
theorem KO(n:Nat):WN none none (-1) n=(Wf n).map λk=>n - 1 - k:=by
 unfold WN;have h0:¬ ((-1:Int) > 0):=by decide
 simp only[h0,if_false];exact PySem.W.krv_sliceRange n
theorem KP:lh X (λx H Q=>∃ z:Tx,x = .str (toS z)/\z.length<=W6/\Q (.str (toS z.reverse)) H):=by
 intro pins s σ H x v t sl Q I rx hs h;obtain⟨z,rfl,hz,q⟩:=h;obtain⟨t',rfl⟩:=rx;obtain⟨o,ho,hc,hd⟩:=hs;refine⟨"str",_,F.slot_str_getitem.lookup,JI s _ t',?_⟩;refine wpAny_getItem_str_slice (l:=none) (u:=none) (st:=some (-1,t)) ⟨o,ho,hc,hd⟩ (by show((-1:Int) == 0)=false; decide) ?_;unfold sliceMade;rw[if_neg (by intro h; rw[Wk] at h; exact absurd (show((-1:Int) == 1)=true from h.1) (by decide))];have e:(⟨((slicePicked (toS z) none none (some (-1,t))).filterMap ((toS z).cps[·]?)).toArray⟩:Str)=toS z.reverse:=by
  unfold slicePicked;show(⟨((WN none none (-1) (toS z).length).filterMap ((toS z).cps[·]?)).toArray⟩:Str)=_;rw[KO,PySem.W.krv_range,List.filterMap_reverse];have:(toS z).length=(toS z).cps.size:=rfl;rw[this,PySem.W.krv_all];simp[toS]
 show Made.post (.str _) _ _;rw[e];exact⟨by rw[jf,List.length_reverse]; exact hz,.str (toS z.reverse),H,I.tok _,⟨_,rfl⟩,q⟩
theorem KQ:lh X (λx H Q=>∃ a xs,x = .ref a/\cj X.K H a xs/\∀ p,H p=none->Q (.ref p) (upd H p (.lst xs.reverse))):=by
 intro pins s σ H x v t sl Q I rx hs h;obtain⟨a,xs,rfl,hx,q⟩:=h
 cases rx;obtain⟨ae,r,ht,hz⟩:=I.list hx;have hlen:=r.length;refine⟨"list",_,slot_list_getitem.lookup,ht.isList.typeIs,?_⟩;refine wpAny_getItem_list_slice ht.isList hs .none .none (.int (-1) t) (by decide) ?_ (by rw[Wo] <;> omega);rw[PySem.W.krv_pick];exact⟨.ref s.heap.objs.size,_,I.Bf (t':=s.toks) r.reverse (by rw[List.length_reverse]; exact hz),rfl,q _ I.fresh⟩
theorem KR:bz X (Qi .Add) (λx y H Q=>∃ a b ys,x = .ref a/\y = .ref b/\cq X.K H a []/\cq X.K H b ys/\Q (.ref b) H):=by
 intro pins s σ H x y v u Q I rx ry h;obtain⟨a,b,ys,rfl,rfl,ha,hb,q⟩:=h
 cases rx
 cases ry;obtain⟨ae,r1,p1,_⟩:=I.tuple ha;obtain⟨its2,r2,p2,_⟩:=I.tuple hb
 cases r1;obtain⟨⟨cls,dd,data,sl⟩,ho,hc,n,hd⟩:=id p1;obtain⟨⟨cls2,l7,data2,k8⟩,ho2,hc2,n2,hd2⟩:=id p2;simp only at hc hd hc2 hd2;subst hc hd hc2 hd2;exact concat_meets ⟨_,ho,rfl⟩ ⟨_,ho2,rfl⟩ noFill_tuple_add seq_tuple_add PySem.F.slot_tuple_add PySem.F.entry_tuple_add (PySem.F.args_tuple_add_2 _ _)
   (tuple_addW0 a b #[] its2.toArray n n2 dd l7 sl k8 rfl) ⟨ho,ho2,.ref b,H,I,rfl,q⟩
def BX(K:W1):R2:=λx y H Q=>∃ l b xs zs,x = .ref l/\y = .ref b/\cj K H l xs/\cj K H b zs/\xs.length + zs.length<=W6/\∀ p,H p=none->Q (.ref p) (upd H p (.lst (xs ++ zs)))
theorem KS:bz X (Qi .Add) (BX X.K):=by
 intro pins s σ H x y v u Q I rx ry h;obtain⟨l,b,xs,zs,rfl,rfl,hH,hB,hz,q⟩:=h
 cases rx
 cases ry;obtain⟨ae,r,⟨⟨cls,dd,data,sl⟩,n,e,hc,hdd,hd⟩,z⟩:=I.list hH;obtain⟨its2,r2,⟨⟨cls2,l7,data2,k8⟩,n2,e2,hc2,hdd2,hd2⟩,z2⟩:=I.list hB;simp only at hc hd hdd hc2 hd2 hdd2;subst hc hd hdd hc2 hd2 hdd2;have hl:=r.length;have nY:=r2.length;refine concat_meets ⟨_,e,rfl⟩ ⟨_,e2,rfl⟩ noFill_list_add seq_list_add PySem.F.slot_list_add PySem.F.entry_list_add (PySem.F.args_list_add_2 _ _)
   (list_addW l b ae.toArray its2.toArray n n2 none none sl k8 (by rw[Wo,Wo]; omega)) ⟨e,e2,?_⟩
 have ea:ae.toArray ++ its2.toArray=(ae ++ its2).toArray:=by simp
 rw[ea];exact⟨.ref _,_,I.Bf (t':=s.toks) (r.append r2) (by rw[Q2]; omega),rfl,q _ I.fresh⟩
theorem sx:∀ {ys:List Str} {us:List Value},Vals (ys.map V.str) us->StrsAre us ys
 | [],us,r=>by cases r; exact .nil
 | y :: ys,us,r=>by
  cases r with
  | cons r1 r2 =>
   obtain⟨t,rfl⟩:=r1;exact .cons y t (sx r2)
theorem pX:∀ {ys:List Str} {us:List Value},StrsAre us ys->Vals (ys.map V.str) us
 | _,_,.nil=>.nil
 | _,_,.cons y t h=>.cons ⟨t,rfl⟩ (pX h)
def sy(K:W1):V->List V->Hp->VK->Prop:=λx vs H Q=>∃ (z:Str) (a:Addr) (ys:List Str),x = .str z/\vs=[.ref a]/\(cj K H a (ys.map V.str)\/cq K H a (ys.map V.str)) /\
 (ys.map (·.length)).sum + ys.length * z.length<=16777216/\Q (.str (Txt.join z ys)) H
theorem KU:uT X "str.join" (sy X.K):=by
 intro pins s σ H x vs v us Q I rx rv h;obtain⟨z,a,ys,rfl,rfl,hq,hz,q⟩:=h;obtain⟨t,rfl⟩:=rx;obtain⟨u,rfl,ru⟩:=rv.one
 cases ru;rcases hq with hq | hq
 ·obtain⟨ae,r,p,_⟩:=I.list hq;exact join_list p.isList (by simpa using sx r) hz λt' k=>⟨.str _,H,I.tok _,⟨t',rfl⟩,q⟩
 ·obtain⟨ae,r,p,_⟩:=I.tuple hq;exact join_tuple p (by simpa using sx r) hz λt' k=>⟨.str _,H,I.tok _,⟨t',rfl⟩,q⟩
def kj(x:Tx):List Tx->List Tx
 | []=>[x]
 | y :: r=>if y < x then y :: kj x r else x :: y :: r
def eZ:List Tx->List Tx
 | []=>[]
 | x :: r=>kj x (eZ r)
theorem vF(x:Tx):∀ l:List Tx,(kj x l).Perm (x :: l)
 | []=>.refl _
 | y :: r=>by
  unfold kj;split
  ·exact((vF x r).cons y).trans (.swap x y r)
  ·exact .refl _
theorem sA:∀ l:List Tx,(eZ l).Perm l
 | []=>.refl _
 | x :: r=>(vF x _).trans ((sA r).cons x)
abbrev ip(a b:Tx):Prop:=¬ b < a
theorem BY(h1:ip a b)(h2:ip b c):ip a c:=List.not_lt.mpr (List.le_trans (List.not_lt.mp h1) (List.not_lt.mp h2))
theorem KW(h1:ip a b)(h2:ip b a):a=b:=List.le_antisymm (List.not_lt.mp h1) (List.not_lt.mp h2)
theorem BZ(x:Tx):∀ l:List Tx,l.Pairwise ip->(kj x l).Pairwise ip
 | [],_=>by simp[kj]
 | y :: r,h=>by
  unfold kj;obtain⟨h1,h2⟩:=Qn.mp h;split
  ·rename_i bx;refine Qn.mpr ⟨λz hz=>?_,BZ x r h2⟩;rcases We.mp ((vF x r).mem_iff.mp hz) with e | hz
   ·subst e;intro q;exact absurd (List.lt_trans bx q) (List.lt_irrefl _)
   ·exact h1 z hz
  ·rename_i my;refine Qn.mpr ⟨λz hz=>?_,h⟩;rcases We.mp hz with e | hz
   ·subst e; exact my
   ·exact BY my (h1 z hz)
theorem B0:∀ l:List Tx,(eZ l).Pairwise ip
 | []=>.nil
 | x :: r=>BZ x _ (B0 r)
theorem B1(hp:l'.Perm l)(hs:l'.Pairwise ip):l'=eZ l :=
 List.Perm.eq_of_pairwise (λ_ _ _ _ h1 h2=>KW h1 h2) hs (B0 l) (hp.trans (sA l).symm)
theorem vG:∀ (x:Str) (r:List Str),risingS x r=true->((x :: r).map λz:Str=>z.cps.toList).Pairwise ip
 | x,[],_=>by simp
 | x,y :: r,h=>by
  have h':(!ltCps y.cps.toList x.cps.toList && risingS y r)=true:=h;rw[Wk] at h';have ih:=vG y r h'.2;have sC:ip x.cps.toList y.cps.toList:=by
   have:=h'.1;rw[ltCps_eq] at this;simpa using this
  rw[Wn];refine Qn.mpr ⟨λz hz=>?_,ih⟩;rw[Wn] at hz ih;rcases We.mp hz with e | hz
  ·subst e; exact sC
  ·exact BY sC ((Qn.mp ih).1 z hz)
theorem KY:dM X (.builtin "sorted") (λxs H Q=>∃ (a:Addr) (ts:List Tx),xs=[.ref a]/\cj X.K H a (ts.map λz=>V.str (toS z))/\ts.length < 64/\∀ p,H p=none->Q (.ref p) (upd H p (.lst ((eZ ts).map λz=>V.str (toS z))))):=by
 intro pins s σ H xs us Q I r h;obtain⟨a,ts,rfl,hq,hz,q⟩:=h;obtain⟨u,rfl,ru⟩:=fW r
 cases ru;obtain⟨ae,r',p,_⟩:=I.list hq;have r2:Vals ((ts.map toS).map V.str) ae:=by rw[Wx]; exact r'
 have hlen:=r'.length;rw[WA] at hlen;refine sorted_strs p.isList (sx r2) (by omega) λout ss hS hp hs=>?_
 have e:ss=(eZ ts).map toS:=by
  have vH:(ss.map λz:Str=>z.cps.toList).Pairwise ip:=by
   cases ss with
   | nil=>simp
   | cons x r=>exact vG x r hs
  have pY:(ss.map λz:Str=>z.cps.toList).Perm ts:=by
   have:=hp.map λz:Str=>z.cps.toList
   rw[Wx] at this;have e2:ts.map ((λz:Str=>z.cps.toList) ∘ toS)=ts:=by
    rw[show((λz:Str=>z.cps.toList) ∘ toS)=id from funext λz=>pT z,List.map_id]
   rw[e2] at this;exact this
  rw[<- B1 pY vH,Wx];have:(toS ∘ λz:Str=>z.cps.toList)=id:=funext λz=>(vq z).symm
  rw[this,List.map_id]
 obtain⟨ep,he⟩:=sortedAll_at s.heap ae out;have hv:Vals ((eZ ts).map λz=>V.str (toS z)) out.toList:=by
  have:=pX hS;rw[e,Wx] at this;exact this
 have nY:((eZ ts).map λz=>V.str (toS z)).length<=W6:=by
  rw[WA,(sA ts).length_eq];exact WU (Jr hz) (by rw[J0]; decide)
 refine⟨.ref (s.heap.objs.size + 1),_,I.laid (a:=s.heap.objs.size + 1) (o:=.lst ((eZ ts).map λz=>V.str (toS z))) (t':=s.toks) (λb u e=>sortedAll_old e) (JO _) ?_,rfl,q _ (I.aD.fresh (JO _))⟩;exact⟨nY,out.toList,ep,hv,by simpa[seqObj] using he⟩
end
def p2(p:D->D->Option S)(x y:D)(δ:Dl):Rs S:=match p x y with
 | some s=>.ok s δ
 | none=>.stuck
def aE(p:D->D->Option S)(fa:DE)(fb:BE):DE:=λδ=>(fa δ).bind λx δ1=>(fb δ1).bind λy δ2=>p2 p x.d y δ2
def bb(p:D->D->Option S)(i:Nat)(fb:BE):DE:=λδ=>(fb δ).bind λy δ1=>(ah i δ1).bind λx δ2=>p2 p x y δ2
def cu(r:R2)(p:D->D->Option S):Prop:=∀ (c:Fc) (σ:St) (δ:Dl) (H:Hp) (x y:V) (d e:D) (s:S) (Q:VK),Ok c σ δ H->cS c σ δ H x d->cS c σ δ H y e->p d e=some s ->
 (∀ v H',aS c σ δ H σ δ H'->bp c σ δ H H' v s->Q v H')->r x y H Q
section
variable {X:Cx} {c:Fc} {a b:Expr} {fa:DE} {fb:BE} {r:R2} {p:D->D->Option S} {pos:Pos}
theorem vI(hp:cu r p)(k:Ok c σ δ H)(rx:cS c σ δ H x d)(ry:cS c σ δ H y e)
  (h:post c (p2 p d e δ) λs δ'=>∀ v H',aS c σ δ H σ δ' H'->bp c σ δ' H H' v s->Q v H'):r x y H Q:=by
 unfold p2 at h
 cases e1:p d e with
 | none=>rw[e1] at h; exact h.elim
 | some s=>rw[e1] at h; exact hp c σ δ H x y d e s Q k rx ry e1 h
theorem sD(hp:cu r p)(h:tD c (aE p fa fb) σ H Q):l5 r (tD c fa) (tB c fb) σ H Q:=by
 obtain⟨δ,k,q⟩:=h;refine⟨δ,k,?_⟩;unfold aE at q;rw[bw] at q;refine aW q λx δ1 q1 v H1 a1 r1=>⟨δ1,a1.ok,?_⟩
 rw[bw] at q1;refine aW q1 λy δ2 q2 u H2 a2 r2=>?_
 exact vI hp a2.ok (.inl (Rep.dZ r1.rep a2)) r2 (aW q2 λs δ3 q3 v' H3 a3 r3=>q3 v' H3 (a1.trans (a2.trans a3)) (bp.back r3 (a1.trans a2)))
theorem KZ(hp:cu r p)(h:tD c (bb p i fb) σ H Q)(hv:∀ δ,Ok c σ δ H->post c (fb δ) (λ_ _=>True)->∃ v,σ[i]? = some (some v)):l5 r (dW i) (tB c fb) σ H Q:=by
 obtain⟨δ,k,q⟩:=h;unfold bb at q;rw[bw] at q;obtain⟨v,ev⟩:=hv δ k (aW q λ_ _ _=>trivial);refine⟨v,ev,δ,k,aW q λy δ1 q1 u H1 a1 r1=>?_⟩;rw[bw] at q1;unfold ah at q1
 cases e:δ1[i]? with
 | none=>rw[e] at q1; exact q1.elim
 | some o =>
  cases o with
  | none=>rw[e] at q1; exact q1.elim
  | some w =>
   rw[e] at q1;have K0:post c (p2 p w.d y δ1) λs δ'=>∀ v H',aS c σ δ H σ δ' H'->bp c σ δ' H H' v s->Q v H':=q1
   have rb:cS c σ δ1 H1 v w.d:=by
    cases w with
    | pure d =>
     obtain⟨v',e1,r⟩:=a1.ok.slot i d e;rw[ev] at e1; cases e1
     exact .inl r
    | own d =>
     obtain⟨a,e1,r,_⟩:=a1.ok.own i d e;rw[ev] at e1; cases e1
     exact .inr ⟨a,rfl,r⟩
   exact vI hp a1.ok rb r1 (aW K0 λs δ3 q3 v' H3 a3 r3=>q3 v' H3 (a1.trans a3) (bp.back r3 a1))
theorem pZ{i:Nat}{σ:St}{δ:Dl}{H:Hp}(k:Ok c σ δ H){w:S}(e:δ[i]? = some (some w)):∃ v,σ[i]? = some (some v):=by
 cases w with
 | pure d=>obtain⟨v,e1,_⟩:=k.slot i d e; exact⟨v,e1⟩
 | own d=>obtain⟨a,e1,_⟩:=k.own i d e; exact⟨_,e1⟩
end
def ag(p:D->D->Option S)(i:Nat)(fb:BE):DE:=λδ=>match δ[i]? with
 | some (some _)=>bb p i fb δ
 | _=>.stuck
section
variable {X:Cx} {c:Fc} {a b:Expr} {fa:DE} {fb:BE} {r:R2} {p:D->D->Option S} {pos:Pos}
theorem sE(hp:cu r p){i:Nat}{σ:St}{H:Hp}{Q:VK}(h:tD c (ag p i fb) σ H Q):l5 r (dW i) (tB c fb) σ H Q:=by
 obtain⟨δ,k,q⟩:=h;unfold ag at q
 cases e:δ[i]? with
 | none=>rw[e] at q; exact q.elim
 | some o =>
  cases o with
  | none=>rw[e] at q; exact q.elim
  | some w =>
   rw[e] at q;obtain⟨v,ev⟩:=pZ k e;exact KZ hp (i:=i) ⟨δ,k,q⟩ λ_ _ _=>⟨v,ev⟩
theorem cn{op:Operator}(ho:bz X (Qi op) r)(hp:cu r p)(ha:SE X c a fa)(hb:SB X c b fb):SE X c (.BinOp a op b pos) (aE p fa fb):=PE.weak (As ho ha hb) λ_ _ _ h=>sD hp h
theorem dA{op:Operator}{i:Nat}(ho:bz X (Qi op) r)(hp:cu r p)(ha:PE X a (dW i))(hb:SB X c b fb):SE X c (.BinOp a op b pos) (ag p i fb):=PE.weak (As ho ha hb) λ_ _ _ h=>sE hp h
theorem sF{op:CmpOp}(ho:bz X (Wz op) r)(hp:cu r p)(ha:SE X c a fa)(hb:SB X c b fb)(hm:Qo op b=false):SE X c (.Compare a [op] [b] pos) (aE p fa fb):=PE.weak (AD ho ha hb hm) λ_ _ _ h=>sD hp h
theorem vJ{op:CmpOp}{i:Nat}(ho:bz X (Wz op) r)(hp:cu r p)(ha:PE X a (dW i))(hb:SB X c b fb)(hm:Qo op b=false):SE X c (.Compare a [op] [b] pos) (ag p i fb):=PE.weak (AD ho ha hb hm) λ_ _ _ h=>sE hp h
theorem vK(hr:ic X r)(hp:cu r p)(ha:SE X c a fa)(hb:SB X c b fb)(hs:uS b):SE X c (.Subscript a b pos) (aE p fa fb):=PE.weak (A5 hr ha hb hs) λ_ _ _ h=>sD hp h
theorem bF{i:Nat}(hr:ic X r)(hp:cu r p)(ha:PE X a (dW i))(hb:SB X c b fb)(hs:uS b):SE X c (.Subscript a b pos) (ag p i fb):=PE.weak (A5 hr ha hb hs) λ_ _ _ h=>sE hp h
end
abbrev DT:=Dl->Rs Bool
def tT(c:Fc)(f:DT):TT:=λσ H Q=>∃ δ,Ok c σ δ H/\post c (f δ) λb δ'=>∀ H',aS c σ δ H σ δ' H'->Q b H'
abbrev ST(X:Cx)(c:Fc)(e:Expr)(f:DT):Prop:=PT X e (tT c f)
theorem PT.weak(h:PT X e t)(w:∀ σ H Q,t' σ H Q->t σ H Q):PT X e t':=λpins s σ H Q I q=>h pins s σ H Q I (w σ H Q q)
def ay(f:DE):DT:=λδ=>(f δ).bind λr δ'=>match r with
 | .pure (.bl b)=>.ok b δ'
 | _=>.stuck
section
variable {X:Cx} {c:Fc} {a b:Expr} {fa f:DE} {fb:BE} {r:R2} {p:D->D->Option S} {pos:Pos}
theorem vL(h:tT c (ay f) σ H Q):tD c f σ H λx H'=>∃ k,x = .bl k/\Q k H':=by
 obtain⟨δ,k,q⟩:=h;refine⟨δ,k,?_⟩;unfold ay at q;rw[bw] at q;refine aW q λr δ1 q1 v H1 a1 r1=>?_
 cases r with
 | own d=>exact q1.elim
 | pure d =>
  cases d <;> first | exact q1.elim | skip
  rename_i b
  cases r1;exact⟨b,rfl,q1 H1 a1⟩
theorem cT{op:CmpOp}(ho:bz X (Wz op) r)(hp:cu r p)(ha:SE X c a fa)(hb:SB X c b fb)(hm:Qo op b=false):ST X c (.Compare a [op] [b] pos) (ay (aE p fa fb)) :=
 PT.weak (AE ho ha hb hm) λσ H Q h=>sD hp (vL h)
theorem km{op:CmpOp}{i:Nat}(ho:bz X (Wz op) r)(hp:cu r p)(ha:PE X a (dW i))(hb:SB X c b fb)(hm:Qo op b=false):ST X c (.Compare a [op] [b] pos) (ay (ag p i fb)) :=
 PT.weak (AE ho ha hb hm) λσ H Q h=>sE hp (vL h)
theorem jh{e:Expr}(h:SE X c e f)(he:∀ whole,isTrue e X.env whole=(do let v <- whole; standAt e.pos; holding [v] (truthy v)):=by intro _; rfl):ST X c e (ay f) :=
 PT.weak (GB h he) λσ H Q h=>vL h
def iP(t u:DT):DT:=λδ=>(t δ).bind λb δ1=>if b then u δ1 else .ok false δ1
def dH(t u:DT):DT:=λδ=>(t δ).bind λb δ1=>if b then .ok true δ1 else u δ1
def e7(t:DT):DT:=λδ=>(t δ).bind λb δ1=>.ok (!b) δ1
abbrev SW(X:Cx)(c:Fc)(e:Expr)(f:DT):Prop:=PW X e (tT c f)
theorem PW.weak(h:PW X e t)(w:∀ σ H Q,t' σ H Q->t σ H Q):PW X e t':=λwh pins s σ H Q I q=>h wh pins s σ H Q I (w σ H Q q)
variable {t u:DT} {rest:List Expr}
theorem p8(ha:ST X c a t):SW X c (.BoolOp .And [a] pos) t:=zev ha
theorem kn(ha:ST X c a t):SW X c (.BoolOp .Or [a] pos) t:=GG ha
theorem p9(ha:ST X c a t)(hb:SW X c (.BoolOp .And (b :: rest) pos) u):SW X c (.BoolOp .And (a :: b :: rest) pos) (iP t u):=PW.weak (GH ha hb) λσ H Q ⟨δ,k,q⟩=>by
 unfold iP at q;rw[bw] at q;refine⟨δ,k,aW q λx δ1 q1 H1 a1=>?_⟩
 cases x with
 | true=>exact⟨δ1,a1.ok,aW q1 λy δ2 q2 H2 a2=>q2 H2 (a1.trans a2)⟩
 | false=>exact q1 H1 a1
theorem iQ(ha:ST X c a t)(hb:SW X c (.BoolOp .Or (b :: rest) pos) u):SW X c (.BoolOp .Or (a :: b :: rest) pos) (dH t u):=PW.weak (pw_or ha hb) λσ H Q ⟨δ,k,q⟩=>by
 unfold dH at q;rw[bw] at q;refine⟨δ,k,aW q λx δ1 q1 H1 a1=>?_⟩
 cases x with
 | false=>exact⟨δ1,a1.ok,aW q1 λy δ2 q2 H2 a2=>q2 H2 (a1.trans a2)⟩
 | true=>exact q1 H1 a1
theorem gR(h:SW X c a t):ST X c a t:=PW.pt h
theorem jO(ha:ST X c a t):ST X c (.UnaryOp .Not a pos) (e7 t):=PT.weak (GI ha) λσ H Q ⟨δ,k,q⟩=>by
 unfold e7 at q;rw[bw] at q;exact⟨δ,k,q⟩
def d_(f g:DE):DE:=λδ=>(f δ).bind λr δ1=>match r with
 | .pure (.bl true)=>g δ1
 | .pure (.bl false)=>.ok (.pure (.bl false)) δ1
 | _=>.stuck
def mz(f:DE):DE:=λδ=>(f δ).bind λr δ1=>match r with
 | .pure (.bl b)=>.ok (.pure (.bl (!b))) δ1
 | _=>.stuck
def K1(t:DT)(f g:DE):DE:=λδ=>(t δ).bind λb δ1=>if b then f δ1 else g δ1
variable {g:DE}
theorem sG{op}(h:SE X c a f):SE X c (.BoolOp op [a] pos) f:=GL h
theorem mB(ha:SE X c a f)(hb:SE X c (.BoolOp .And (b :: rest) pos) g):SE X c (.BoolOp .And (a :: b :: rest) pos) (d_ f g):=PE.weak (GN ha hb) λσ H Q ⟨δ,k,q⟩=>by
 unfold d_ at q;rw[bw] at q;refine⟨δ,k,aW q λr δ1 q1 v H1 a1 r1=>?_⟩
 cases r with
 | own d=>exact q1.elim
 | pure d =>
  cases d <;> first | exact q1.elim | skip
  rename_i b
  cases r1;refine⟨b,rfl,?_⟩
  cases b with
  | true=>exact⟨δ1,a1.ok,aW q1 λy δ2 q2 v H2 a2 r2=>q2 v H2 (a1.trans a2) (bp.back r2 a1)⟩
  | false=>exact q1 _ H1 a1 (.bl false)
theorem B3(ha:SE X c a f):SE X c (.UnaryOp .Not a pos) (mz f):=PE.weak (GO ha) λσ H Q ⟨δ,k,q⟩=>by
 unfold mz at q;rw[bw] at q;refine⟨δ,k,aW q λr δ1 q1 v H1 a1 r1=>?_⟩
 cases r with
 | own d=>exact q1.elim
 | pure d =>
  cases d <;> first | exact q1.elim | skip
  rename_i b
  cases r1;exact⟨b,rfl,q1 _ H1 a1 (.bl _)⟩
end
section
variable {c:Fc} {σ:St} {δ:Dl} {H:Hp} {x:V}
theorem cS.int(h:cS c σ δ H x (.int i)):x = .int i:=by
 rcases h with h | ⟨_,_,h⟩
 ·cases h; rfl
 ·exact h.elim
theorem cS.bl(h:cS c σ δ H x (.bl b)):x = .bl b:=by
 rcases h with h | ⟨_,_,h⟩
 ·cases h; rfl
 ·exact h.elim
theorem cS.ax(h:cS c σ δ H x .ax):x = .ax:=by
 rcases h with h | ⟨_,_,h⟩
 ·cases h; rfl
 ·exact h.elim
theorem cS.str(h:cS c σ δ H x (.str z)):x = .str (toS z):=by
 rcases h with h | ⟨_,_,h⟩
 ·cases h; rfl
 ·exact h.elim
theorem cS.tup(h:cS c σ δ H x (.tup ds)):∃ a vs,x = .ref a/\H a=some (.tup vs)/\aI H (Av c σ δ) vs ds:=by
 rcases h with h | ⟨_,_,h⟩
 ·cases h with
  | tup h1 h2 h3 h4=>exact⟨_,_,rfl,h2,h3,h4⟩
 ·exact h.elim
theorem cS.lst(h:cS c σ δ H x (.lst ds)):∃ a vs,x = .ref a/\Rd H a (.lst vs)/\aI H (Av c σ δ) vs ds:=by
 rcases h with h | ⟨a,e,h⟩
 ·cases h with
  | lst h1 h2 h3 h4=>exact⟨_,_,rfl,h2,h3,h4⟩
 ·obtain⟨vs,h1,h2⟩:=h;exact⟨a,vs,e,.inl h1,h2⟩
theorem cS.aM(h:cS c σ δ H x (.aM ds)):∃ a ws,x = .ref a/\H a=some (.dK ws)/\ws.map (·.1)=ds.map (λp=>cL p.1)/\∀ (i:Nat) p q,ws[i]? = some p->ds[i]? = some q->Rep H (Av c σ δ) p.2 q.2:=by
 rcases h with h | ⟨a,e,h⟩
 ·cases h with
  | aM h1 h2 h3 h4=>exact⟨_,_,rfl,h2,h3,h4⟩
 ·obtain⟨ws,h1,h2,h3⟩:=h;exact⟨a,ws,e,h1,h2,h3⟩
end
theorem B4(h:z.length<=W6):(toS z).length<=W6:=by rw[jf]; exact h
theorem K2(x y:Tx):toS x ++ toS y=toS (x ++ y):=by
 show Str.append (toS x) (toS y)=_;simp[toS,Str.append]
def aT:D->D->Option S
 | .int i,.int j=>some (.pure (.int (i + j)))
 | .str x,.str y=>if x.length + y.length<=W6 then some (.pure (.str (x ++ y))) else none
 | .tup xs,.tup ys=>if xs.length + ys.length<=W6 then some (.pure (.tup (xs ++ ys))) else none
 | .lst xs,.lst ys=>if xs.length + ys.length<=W6 then some (.own (.lst (xs ++ ys))) else none
 | _,_=>none
def B5(K:W1):R2:=λx y H Q=>iM (λi j=>V.int (i + j)) x y H Q\/(∃ i j,x = .str i/\y = .str j/\i.length + j.length<=W6/\Q (.str (i ++ j)) H) \/
 (∃ a b ys,x = .ref a/\y = .ref b/\cq K H a []/\cq K H b ys/\Q (.ref b) H)\/A3 K x y H Q\/BX K x y H Q
theorem cU:bz X (Qi .Add) (B5 X.K):=Hk.or (Hz.or (KR.or (HY.or KS)))
theorem cV{K:W1}:cu (B5 K) aT:=by
 intro c σ δ H x y d e s Q k rx ry hp q
 cases d <;> cases e <;> first
  | (simp[aT] at hp; done)
  | skip
 ·rename_i i j;simp only[aT,W7] at hp;subst hp;exact .inl ⟨i,j,rx.int,ry.int,q _ H (.refl k) (.int _)⟩
 ·rename_i u w;simp only[aT] at hp;split at hp
  ·rename_i hz;simp only[W7] at hp;subst hp;refine .inr (.inl ⟨toS u,toS w,rx.str,ry.str,by rw[jf,jf]; exact hz,?_⟩);rw[K2];exact q _ H (.refl k) (.str _)
  ·cases hp
 ·rename_i us ws;simp only[aT] at hp;split at hp
  ·rename_i hz;simp only[W7] at hp;subst hp;obtain⟨a,vs,ea,ha,ra⟩:=rx.tup;obtain⟨b,zs,eb,hb,rb⟩:=ry.tup
   cases vs with
   | nil =>
    have:us=[]:=by have:=ra.1; simpa using this.symm
    subst this;refine .inr (.inr (.inl ⟨a,b,zs,ea,eb,.of ha,.of hb,?_⟩));rw[eb] at ry;rcases ry with ry | ⟨_,_,ry⟩
    ·exact q _ H (.refl k) ry
    ·exact ry.elim
   | cons v0 vr =>
    refine .inr (.inr (.inr (.inl ⟨a,b,_,zs,ea,eb,.of ha,.of hb,by simp,by rw[ra.1,rb.1]; exact hz,λe0=>?_,λ_ p hp=>?_⟩)))
    ·subst e0;have:ws=[]:=by have:=rb.1; simpa using this.symm
     subst this;rw[ea] at rx;rcases rx with rx | ⟨_,_,rx⟩
     ·rw[Qz] at q;exact q _ H (.refl k) rx
     ·exact rx.elim
    ·exact q _ _ (.alloc k hp _) (bp.mq k (ra.append rb) hp)
  ·cases hp
 ·rename_i us ws;simp only[aT] at hp;split at hp
  ·rename_i hz;simp only[W7] at hp;subst hp;obtain⟨a,vs,ea,ha,ra⟩:=rx.lst;obtain⟨b,zs,eb,hb,rb⟩:=ry.lst;exact .inr (.inr (.inr (.inr ⟨a,b,vs,zs,ea,eb,.inl ha,.inl hb,by rw[ra.1,rb.1]; exact hz,λp hp=>q _ _ (.alloc k hp _) (bp.jK k (ra.append rb) hp)⟩)))
  ·cases hp
def e8(C:Int->Int->Bool)(g:Int->Int->D):D->D->Option S
 | .int i,.int j=>if C i j then some (.pure (g i j)) else none
 | _,_=>none
theorem p_(hC:∀ i j,C' i j=true->C i j)(hg:∀ i j H O,Rep H O (g i j) (g' i j)):cu (rI C g) (e8 C' g'):=by
 intro c σ δ H x y d e s Q k rx ry hp q
 cases d <;> cases e <;> first
  | (simp[e8] at hp; done)
  | skip
 rename_i i j;simp only[e8] at hp;split at hp
 ·rename_i hc;simp only[W7] at hp;subst hp;exact⟨i,j,rx.int,ry.int,hC i j hc,q _ H (.refl k) (hg i j H _)⟩
 ·cases hp
theorem K3(hg:∀ i j H O,Rep H O (g i j) (g' i j)):cu (iM g) (e8 (λ_ _=>true) g'):=by
 intro c σ δ H x y d e s Q k rx ry hp q
 cases d <;> cases e <;> first
  | (simp[e8] at hp; done)
  | skip
 rename_i i j;simp only[e8,if_true,W7] at hp;subst hp;exact⟨i,j,rx.int,ry.int,q _ H (.refl k) (hg i j H _)⟩
def fz:=e8 (λ_ _=>true) λi j=>.int (i - j)
theorem ko:cu (iM λi j=>V.int (i - j)) fz:=K3 λ_ _ _ _=>.int _
def ji(i j:Int):Bool:=(decide (-(2 ^ 64) < i) && decide (i < 2 ^ 64)) || (decide (-(2 ^ 64) < j) && decide (j < 2 ^ 64))
def sH:=e8 ji λi j=>.int (i * j)
theorem K4:cu (rI pF λi j=>V.int (i * j)) sH:=p_ (λi j h=>by
 unfold ji at h;simp only[JU,Wk,decide_eq_true_eq] at h;exact h) λ_ _ _ _=>.int _
def qa(_ j:Int):Bool:=decide (0 < j) && decide (j < 1073741824)
def sI:=e8 qa λi j=>.int (i / j)
theorem K5:cu (rI Ax λi j=>V.int (i / j)) sI:=p_ (λi j h=>by
 unfold qa at h;simp only[Wk,decide_eq_true_eq] at h;exact h) λ_ _ _ _=>.int _
def cO:=e8 (λ_ j=>decide (0 < j)) λi j=>.int (i % j)
theorem ir:cu (rI (λ_ j=>0 < j) λi j=>V.int (i % j)) cO:=p_ (λi j h=>by simpa using h) λ_ _ _ _=>.int _
def vM(i j:Int):Bool:=decide (0<=j) && decide (j<=1000000) && decide (i.natAbs < 2 ^ 64)
def nZ:=e8 vM λi j=>.int (i ^ j.toNat)
theorem B6:cu (rI Ay λi j=>V.int (i ^ j.toNat)) nZ:=p_ (λi j h=>by
 unfold vM at h;simp only[Wk,decide_eq_true_eq] at h;exact⟨h.1.1,h.1.2,h.2⟩) λ_ _ _ _=>.int _
def bU(d e:D):Option S:=if flat 50 d && flat 50 e then some (.pure (.bl (aB d e))) else none
def fO(d e:D):Option S:=if flat 50 d && flat 50 e then some (.pure (.bl (!aB d e))) else none
theorem iu:cu BP bU:=by
 intro c σ δ H x y d e s Q k rx ry hp q;unfold bU at hp;split at hp
 ·rename_i hf;rw[Wk] at hf;simp only[W7] at hp;subst hp;exact⟨d,e,rx.un,ry.un,hf.1,hf.2,q _ H (.refl k) (.bl _)⟩
 ·cases hp
theorem qb:cu BQ fO:=by
 intro c σ δ H x y d e s Q k rx ry hp q;unfold fO at hp;split at hp
 ·rename_i hf;rw[Wk] at hf;simp only[W7] at hp;subst hp;exact⟨d,e,rx.un,ry.un,hf.1,hf.2,q _ H (.refl k) (.bl _)⟩
 ·cases hp
def iw(f:Int->Int->Bool)(g:Tx->Tx->Bool):D->D->Option S
 | .int i,.int j=>some (.pure (.bl (f i j)))
 | .str x,.str y=>some (.pure (.bl (g x y)))
 | _,_=>none
def n4(f:Int->Int->Bool)(g:List Nat->List Nat->Bool):R2:=λx y H Q=>iM (λi j=>V.bl (f i j)) x y H Q\/∃ i j,x = .str i/\y = .str j/\Q (.bl (g i.cps.toList j.cps.toList)) H
theorem mC:cu (n4 f g) (iw f g):=by
 intro c σ δ H x y d e s Q k rx ry hp q
 cases d <;> cases e <;> first
  | (simp[iw] at hp; done)
  | skip
 ·rename_i i j;simp only[iw,W7] at hp;subst hp;exact .inl ⟨i,j,rx.int,ry.int,q _ H (.refl k) (.bl _)⟩
 ·rename_i i j;simp only[iw,W7] at hp;subst hp;refine .inr ⟨toS i,toS j,rx.str,ry.str,?_⟩;rw[pT,pT];exact q _ H (.refl k) (.bl _)
theorem vN{X:Cx}{op:CmpOp}{g:List Nat->List Nat->Bool}(rule:∀ (i j:Str) (t u:Tok) (Q:Value->W2->Prop) (s:W2),Q (.bool (g i.cps.toList j.cps.toList)) s->W5 (model X.prog X.w) X.A (Wz op (.str i t) (.str j u)) Q X.xe s) :
  bz X (Wz op) (λx y H Q=>∃ i j,x = .str i/\y = .str j/\Q (.bl (g i.cps.toList j.cps.toList)) H):=by
 intro pins s σ H x y v u Q I rx ry h;obtain⟨i,j,rfl,rfl,q⟩:=h;obtain⟨t,rfl⟩:=rx;obtain⟨t',rfl⟩:=ry;exact rule i j t t' _ s ⟨.bl _,H,I,rfl,q⟩
def iz:=iw (λi j=>decide (i < j)) λx y=>decide (x < y)
theorem qc:bz X (Wz .Lt) (n4 (λi j=>decide (i < j)) λx y=>decide (x < y)):=Hq.or Hv
theorem qd:cu (n4 (λi j=>decide (i < j)) λx y=>decide (x < y)) iz:=mC
def az:D->D->Option S
 | .lst ds,.int i=>(cR ds i).map .pure
 | .tup ds,.int i=>(cR ds i).map .pure
 | .str x,.int i=>if x.length<=W6 then(cR x i).map λn=>.pure (.str [n]) else none
 | _,_=>none
theorem B7(r:aI H O vs ds)(h:cR ds i=some d):∃ v,cR vs i=some v/\Rep H O v d:=by
 unfold cR at h ⊢;rw[r.1]
 cases e:fw ds.length i with
 | none=>rw[e] at h; cases h
 | some j =>
  rw[e] at h;exact r.get h
theorem bD{K:W1}:cu (rQ K) az:=by
 intro c σ δ H x y d e s Q k rx ry hp q
 cases d <;> cases e <;> first
  | (simp[az] at hp; done)
  | skip
 ·rename_i z i;simp only[az] at hp;split at hp
  ·rename_i hz
   cases e1:cR z i with
   | none=>rw[e1] at hp; cases hp
   | some n =>
    rw[e1] at hp;simp only[WI,W7] at hp;subst hp;refine .inr (.inr ⟨toS z,i,n,rx.str,ry.int,B4 hz,by rw[pT]; exact e1,?_⟩);exact q (.str (toS [n])) H (.refl k) (.str [n])
  ·cases hp
 ·rename_i ds i;simp only[az] at hp
  cases e1:cR ds i with
  | none=>rw[e1] at hp; cases hp
  | some n =>
   rw[e1] at hp;simp only[WI,W7] at hp;subst hp;obtain⟨a,vs,ea,ha,ra⟩:=rx.tup;obtain⟨v,e2,r2⟩:=B7 ra e1;exact .inr (.inl ⟨a,vs,i,v,ea,ry.int,.of ha,e2,q v H (.refl k) r2⟩)
 ·rename_i ds i;simp only[az] at hp
  cases e1:cR ds i with
  | none=>rw[e1] at hp; cases hp
  | some n =>
   rw[e1] at hp;simp only[WI,W7] at hp;subst hp;obtain⟨a,vs,ea,ha,ra⟩:=rx.lst;obtain⟨v,e2,r2⟩:=B7 ra e1;exact .inl ⟨a,vs,i,v,ea,ry.int,.inl ha,e2,q v H (.refl k) r2⟩
def vO:=iw (λi j=>decide (i<=j)) λx y=>!decide (y < x)
def vP:=iw (λi j=>decide (j < i)) λx y=>decide (y < x)
def mD:=iw (λi j=>decide (j<=i)) λx y=>!decide (x < y)
theorem B8:bz X (Wz .LtE) (n4 (λi j=>decide (i<=j)) λx y=>!decide (y < x)):=Hr.or (vN (g:=λx y=>!decide (y < x)) λ_ _ _ _ _ _ h=>PySem.P.le_str h)
theorem K6:bz X (Wz .Gt) (n4 (λi j=>decide (j < i)) λx y=>decide (y < x)):=Ht.or (vN (g:=λx y=>decide (y < x)) λ_ _ _ _ _ _ h=>PySem.P.gt_str h)
theorem vQ:bz X (Wz .GtE) (n4 (λi j=>decide (j<=i)) λx y=>!decide (x < y)):=Hu.or (vN (g:=λx y=>!decide (x < y)) λ_ _ _ _ _ _ h=>PySem.P.ge_str h)
abbrev DA:=Dl->Rs (List D)
def K7(c:Fc)(f:DA):TA:=λσ H Q=>∃ δ,Ok c σ δ H/\post c (f δ) λds δ'=>∀ vs H',aS c σ δ H σ δ' H'->aI H' (Av c σ δ') vs ds->Q vs H'
structure SA(X:Cx)(c:Fc)(es:List Expr)(f:DA):Prop where
 pa:PA X es (K7 c f)
 len:∀ δ ds δ',f δ = .ok ds δ'->ds.length=es.length
theorem PA.weak(h:PA X es t)(w:∀ σ H Q,t' σ H Q->t σ H Q):PA X es t':=λpos pins s σ H Q I q=>h pos pins s σ H Q I (w σ H Q q)
def bL:DA:=λδ=>.ok [] δ
def aF(f:DE)(g:DA):DA:=λδ=>(f δ).bind λx δ1=>(g δ1).bind λxs δ2=>.ok (x.d :: xs) δ2
section
variable {X:Cx} {c:Fc} {e:Expr} {es:List Expr} {f:DE} {g:DA} {pos:Pos}
theorem cW:SA X c [] bL:=⟨PA.weak gI λσ H Q ⟨δ,k,q⟩=>q [] H (.refl k) .nil,λδ ds δ' h=>by cases h; rfl⟩
theorem B9(ha:SE X c e f)(hr:SA X c es g)(hs:Wb (e :: es) X.env=(false,eval e X.env) :: Wb es X.env:=by rfl):SA X c (e :: es) (aF f g):=by
 refine⟨PA.weak (fJ ha hr.pa hs) λσ H Q ⟨δ,k,q⟩=>?_,λδ ds δ' h=>?_⟩
 ·unfold aF at q;rw[bw] at q;refine⟨δ,k,aW q λx δ1 q1 v H1 a1 r1=>⟨δ1,a1.ok,?_⟩⟩;rw[bw] at q1;exact aW q1 λxs δ2 q2 vs H2 a2 r2=>q2 (v :: vs) H2 (a1.trans a2) (.cons (Rep.dZ r1.rep a2) r2)
 ·unfold aF at h
  cases h1:f δ with
  | ok x δ1 =>
   rw[h1] at h
   cases h2:g δ1 with
   | ok xs δ2 =>
    simp only[Rs.bind,h2] at h
    cases h;simp[hr.len _ _ _ h2]
   | exc x δx=>simp only[Rs.bind,h2] at h; cases h
   | stuck=>simp only[Rs.bind,h2] at h; cases h
  | exc x δx=>rw[h1] at h; cases h
  | stuck=>rw[h1] at h; cases h
def cP(f:DA):DE:=λδ=>(f δ).bind λds δ'=>.ok (.pure (.tup ds)) δ'
def dO(f:DA):DE:=λδ=>(f δ).bind λds δ'=>.ok (.own (.lst ds)) δ'
theorem B_(h:n<=1000):n<=W6:=Jr (I0 h)
theorem Ca(h:post c r k):post c r λa δ=>r = .ok a δ/\k a δ:=by
 cases r with
 | ok a δ=>exact⟨rfl,h⟩
 | exc x δx=>exact h
 | stuck=>exact h
theorem fY{x1}(h:SA X c es g)(hz:es.length<=1000:=by decide):SE X c (.Tuple es x1 pos) (cP g):=PE.weak (HH h.pa) λσ H Q ⟨δ,k,q⟩=>by
 unfold cP at q;rw[bw] at q;refine⟨δ,k,aW (Ca q) λds δ1 ⟨e1,q1⟩ vs H1 a1 r1=>?_⟩;have hl:=h.len _ _ _ e1;exact⟨by rw[r1.1,hl]; exact B_ hz,λp hp=>q1 _ _ (a1.trans (.alloc a1.ok hp _)) (bp.back (bp.mq a1.ok r1 hp) a1)⟩
theorem iA(h:SA X c es g)(hz:es.length<=1000:=by decide):SE X c (.List es pos) (dO g):=PE.weak (HI h.pa) λσ H Q ⟨δ,k,q⟩=>by
 unfold dO at q;rw[bw] at q;refine⟨δ,k,aW (Ca q) λds δ1 ⟨e1,q1⟩ vs H1 a1 r1=>?_⟩;have hl:=h.len _ _ _ e1;exact⟨by rw[r1.1,hl]; exact B_ hz,λp hp=>q1 _ _ (a1.trans (.alloc a1.ok hp _)) (bp.back (bp.jK a1.ok r1 hp) a1)⟩
end
def p1(p:D->Option S)(x:D)(δ:Dl):Rs S:=match p x with
 | some s=>.ok s δ
 | none=>.stuck
def aY(p:D->Option S)(fb:BE):DE:=λδ=>(fb δ).bind λx δ1=>p1 p x δ1
def lj(r:V->Hp->VK->Prop)(p:D->Option S):Prop:=∀ (c:Fc) (σ:St) (δ:Dl) (H:Hp) (x:V) (d:D) (s:S) (Q:VK),Ok c σ δ H->cS c σ δ H x d->p d=some s ->
 (∀ v H',aS c σ δ H σ δ H'->bp c σ δ H H' v s->Q v H')->r x H Q
section
variable {X:Cx} {c:Fc} {e:Expr} {fb:BE} {r:V->Hp->VK->Prop} {p:D->Option S} {x:Str} {id T:String} {pp pos:Pos}
theorem vR(hp:lj r p)(k:Ok c σ δ H)(rx:cS c σ δ H v d)
  (h:post c (p1 p d δ) λs δ'=>∀ v H',aS c σ δ H σ δ' H'->bp c σ δ' H H' v s->Q v H'):r v H Q:=by
 unfold p1 at h
 cases e1:p d with
 | none=>rw[e1] at h; exact h.elim
 | some s=>rw[e1] at h; exact hp c σ δ H v d s Q k rx e1 h
theorem qe(hp:lj r p)(h:tD c (aY p fb) σ H Q):uH r (tB c fb) σ H Q:=by
 obtain⟨δ,k,q⟩:=h;unfold aY at q;rw[bw] at q;exact⟨δ,k,aW q λy δ1 q1 v H1 a1 r1=>vR hp a1.ok r1 (aW q1 λs δ2 q2 w H2 a2 r2=>q2 w H2 (a1.trans a2) (bp.back r2 a1))⟩
theorem vS(hc:dM X (.builtin id) rl)(hl:∀ v H Q,r v H Q->rl [v] H Q)(hp:lj r p)(hg:Gl X x)(hm:X.mg x=none)(hv:Qu x=some (.builtin id))(he:SB X c e fb)
  (hn:x≠"__name__":=by decide) (gu:(x == ("__debug__" : Str))=false:=by decide) (hs:Wb [e] X.env=(false,eval e X.env) :: Wb [] X.env:=by rfl) (dE:(Q9 pos (Wb [] X.env)).any (·.1)=false:=by rfl) :
  SE X c (.Call (.Name x pp) [e] [] pos) (aY p fb):=PE.weak (rO hc hg hm hv (fJ he gI hs) hn gu hs dE) λσ H Q h=>by
 obtain⟨δ,k,q⟩:=qe hp h;exact⟨δ,k,aW q λy δ1 q1 v H1 a1 r1=>hl _ _ _ (q1 v H1 a1 r1)⟩
theorem qf(hc:dM X (.type T) rl)(hl:∀ v H Q,r v H Q->rl [v] H Q)(hp:lj r p)(hg:Gl X x)(hm:X.mg x=none)(hv:Qu x=some (.type T))(he:SB X c e fb)
  (hn:x≠"__name__":=by decide) (gu:(x == ("__debug__" : Str))=false:=by decide) (hs:Wb [e] X.env=(false,eval e X.env) :: Wb [] X.env:=by rfl) (dE:(Q9 pos (Wb [] X.env)).any (·.1)=false:=by rfl) :
  SE X c (.Call (.Name x pp) [e] [] pos) (aY p fb):=PE.weak (AX hc hg hm hv (fJ he gI hs) hn gu hs dE) λσ H Q h=>by
 obtain⟨δ,k,q⟩:=qe hp h;exact⟨δ,k,aW q λy δ1 q1 v H1 a1 r1=>hl _ _ _ (q1 v H1 a1 r1)⟩
def bI:D->Option S
 | .lst ds=>some (.pure (.int ds.length))
 | .tup ds=>some (.pure (.int ds.length))
 | .str z=>if z.length<=W6 then some (.pure (.int z.length)) else none
 | .aM ds=>some (.pure (.int ds.length))
 | _=>none
def K8(K:W1):V->Hp->VK->Prop:=λv H Q=>((∃ p ys,v = .ref p/\(cj K H p ys\/cq K H p ys)/\Q (.int ys.length) H)\/∃ z,v = .str z/\z.length<=W6/\Q (.int z.length) H)\/∃ a kvs,v=V.ref a/\H a=some (.dK kvs)/\Q (.int kvs.length) H
theorem K9{K:W1}:lj (K8 K) bI:=by
 intro c σ δ H x d s Q k rx hp q
 cases d with
 | lst ds =>
  simp only[bI,W7] at hp;subst hp;obtain⟨a,vs,ea,ha,ra⟩:=rx.lst;exact .inl (.inl ⟨a,vs,ea,.inl (.inl ha),by rw[ra.1]; exact q _ H (.refl k) (.int _)⟩)
 | tup ds =>
  simp only[bI,W7] at hp;subst hp;obtain⟨a,vs,ea,ha,ra⟩:=rx.tup;exact .inl (.inl ⟨a,vs,ea,.inr (.of ha),by rw[ra.1]; exact q _ H (.refl k) (.int _)⟩)
 | str z =>
  simp only[bI] at hp;split at hp
  ·rename_i hz;simp only[W7] at hp;subst hp;exact .inl (.inr ⟨toS z,rx.str,B4 hz,by rw[jf]; exact q _ H (.refl k) (.int _)⟩)
  ·cases hp
 | aM ds =>
  simp only[bI,W7] at hp;subst hp;obtain⟨a,ws,ea,ha,h1,h2⟩:=rx.aM;have hl:ws.length=ds.length:=by have:=congrArg Qx h1; simpa using this
  exact .inr ⟨a,ws,ea,ha,by rw[hl]; exact q _ H (.refl k) (.int _)⟩
 | _=>simp[bI] at hp
theorem gU (hg:Gl X "len") (hm:X.mg "len" = none) (he:SB X c e fb) (hs:Wb [e] X.env=(false,eval e X.env) :: Wb [] X.env:=by rfl):SE X c (.Call (.Name "len" pp) [e] [] pos) (aY bI fb) :=
 vS ((Il.or Im).or I_) (λv H Q h=>by
  rcases h with (⟨p,ys,e,h⟩ | ⟨z,e,h⟩) | ⟨a,kvs,e,h⟩
  ·exact .inl (.inl ⟨p,ys,by rw[e],h⟩)
  ·exact .inl (.inr ⟨z,by rw[e],h⟩)
  ·exact .inr ⟨a,kvs,by rw[e],h⟩) (K9 (K:=X.K)) hg hm PySem.boot_len he (by decide) (by decide) hs
def gW:D->Option S
 | .lst ds=>some (.pure (.tup ds))
 | .tup ds=>some (.pure (.tup ds))
 | _=>none
def K_(K:W1):V->Hp->VK->Prop:=λv H Q=>∃ p ys,v = .ref p/\((cj K H p ys/\∀ l,H l=none->Q (.ref l) (upd H l (.tup ys)))\/(cq K H p ys/\Q (.ref p) H))
theorem La{K:W1}:lj (K_ K) gW:=by
 intro c σ δ H x d s Q k rx hp q
 cases d with
 | lst ds =>
  simp only[gW,W7] at hp;subst hp;obtain⟨a,vs,ea,ha,ra⟩:=rx.lst;exact⟨a,vs,ea,.inl ⟨.inl ha,λl hl=>q _ _ (.alloc k hl _) (bp.mq k ra hl)⟩⟩
 | tup ds =>
  simp only[gW,W7] at hp;subst hp;obtain⟨a,vs,ea,ha,ra⟩:=rx.tup;refine⟨a,vs,ea,.inr ⟨.of ha,?_⟩⟩;rw[ea] at rx;rcases rx with rx | ⟨_,_,rx⟩
  ·exact q _ H (.refl k) rx
  ·exact rx.elim
 | _=>simp[gW] at hp
theorem vT (hg:Gl X "tuple") (hm:X.mg "tuple" = none) (he:SB X c e fb) (hs:Wb [e] X.env=(false,eval e X.env) :: Wb [] X.env:=by rfl):SE X c (.Call (.Name "tuple" pp) [e] [] pos) (aY gW fb) :=
 qf Ip (λv H Q ⟨p,ys,e,h⟩=>⟨p,ys,by rw[e],h⟩) (La (K:=X.K)) hg hm PyProof.Rows.boot_tuple he (by decide) (by decide) hs
def n5:D->Option S
 | .int i=>some (.pure (.int i))
 | .bl b=>some (.pure (.int (if b then 1 else 0)))
 | _=>none
theorem Lb (hg:Gl X "int") (hm:X.mg "int" = none) (he:SB X c e fb) (hs:Wb [e] X.env=(false,eval e X.env) :: Wb [] X.env:=by rfl):SE X c (.Call (.Name "int" pp) [e] [] pos) (aY n5 fb) :=
 qf (r:=λv H Q=>(∃ i,v = .int i/\Q (.int i) H)\/∃ k,v = .bl k/\Q (.int (if k then 1 else 0)) H) HC (λv H Q h=>by
  rcases h with ⟨i,e,q⟩ | ⟨k,e,q⟩
  ·exact .inl ⟨i,by rw[e],q⟩
  ·exact .inr ⟨k,by rw[e],q⟩) (λc σ δ H x d s Q k rx hp q=>by
  cases d with
  | int i =>
   simp only[n5,W7] at hp;subst hp;exact .inl ⟨i,rx.int,q _ H (.refl k) (.int _)⟩
  | bl b =>
   simp only[n5,W7] at hp;subst hp;exact .inr ⟨b,rx.bl,q _ H (.refl k) (.int _)⟩
  | _=>simp[n5] at hp) hg hm PyProof.Rows.boot_int he (by decide) (by decide) hs
def Cb:List D->Option (List Bool)
 | []=>some []
 | .bl b :: r=>(Cb r).map (b :: ·)
 | _ :: _=>none
def e9:List D->Option (List Tx)
 | []=>some []
 | .str x :: r=>(e9 r).map (x :: ·)
 | _ :: _=>none
theorem n8:∀ {ds:List D} {vs:List V} {bs:List Tx},e9 ds=some bs->aI H O vs ds->vs=bs.map λz=>V.str (toS z)
 | [],vs,bs,h,r=>by
  simp only[e9,W7] at h;subst h;have:=r.1;simpa using this
 | d :: ds,[],bs,h,r=>by have:=r.1; simp at this
 | d :: ds,v :: vs,bs,h,r=>by
  cases d with
  | str b =>
   simp only[e9] at h
   cases e:e9 ds with
   | none=>rw[e] at h; cases h
   | some kq =>
    rw[e] at h;simp only[WI,W7] at h;subst h;have:=r.head
    cases this;rw[n8 e r.tail];rfl
  | _=>simp[e9] at h
theorem vU:∀ ts:List Tx,aI H O (ts.map λz=>V.str (toS z)) (ts.map D.str)
 | []=>.nil
 | t :: ts=>.cons (.str t) (vU ts)
def Tr:D->Option S
 | .lst ds=>(Cb ds).map λbs=>.pure (.bl (bs.all (λb=>b)))
 | _=>none
def mE:D->Option S
 | .lst ds=>match e9 ds with
  | some ts=>if ts.length < 64 then some (.own (.lst ((eZ ts).map D.str))) else none
  | none=>none
 | _=>none
theorem Cc (hg:Gl X "sorted") (hm:X.mg "sorted" = none) (he:SB X c e fb) (hs:Wb [e] X.env=(false,eval e X.env) :: Wb [] X.env:=by rfl):SE X c (.Call (.Name "sorted" pp) [e] [] pos) (aY mE fb) :=
 vS (r:=λv H Q=>∃ (a:Addr) (ts:List Tx),v = .ref a/\cj X.K H a (ts.map λz=>V.str (toS z))/\ts.length < 64/\∀ p,H p=none->Q (.ref p) (upd H p (.lst ((eZ ts).map λz=>V.str (toS z))))) KY (λv H Q ⟨a,bs,e,h⟩=>⟨a,bs,by rw[e],h⟩) (λc σ δ H x d s Q k rx hp q=>by
  cases d with
  | lst ds =>
   simp only[mE] at hp
   cases e:e9 ds with
   | none=>rw[e] at hp; cases hp
   | some ts =>
    rw[e] at hp;simp only at hp;split at hp
    ·rename_i hz;simp only[W7] at hp;subst hp;obtain⟨a,vs,ea,ha,ra⟩:=rx.lst;have:=n8 e ra;subst this;exact⟨a,ts,ea,.inl ha,hz,λp hp=>q _ _ (.alloc k hp _) (bp.jK k (vU _) hp)⟩
    ·cases hp
  | _=>simp[mE] at hp) hg hm PyProof.Rows.boot_sorted he (by decide) (by decide) hs
def sJ:D->D->Option S
 | .int i,.int j=>some (.pure (.int (if j > i then j else i)))
 | _,_=>none
def mF(f g:DE):DE:=λδ=>(f δ).bind λx δ1=>(g δ1).bind λy δ2=>p2 sJ x.d y.d δ2
theorem Cd {a b:Expr} {f g:DE} (hc:X.calm=true) (hg:Gl X "max") (hm:X.mg "max" = none) (ha:SE X c a f) (hb:SE X c b g) (hs:Wb [a,b] X.env=(false,eval a X.env) :: Wb [b] X.env:=by rfl)
  (n9:Wb [b] X.env=(false,eval b X.env) :: Wb [] X.env:=by rfl) (dE:(Q9 pos (Wb [b] X.env)).any (·.1)=false:=by rfl):SE X c (.Call (.Name "max" pp) [a,b] [] pos) (mF f g) :=
 PE.weak (rO (HB hc) hg hm PyProof.Rows.boot_max (fJ ha (fJ hb gI n9) hs) (by decide) (by decide) hs dE) λσ H Q ⟨δ,k,q⟩=>by
  unfold mF at q;rw[bw] at q;refine⟨δ,k,aW q λx δ1 q1 v H1 a1 r1=>⟨δ1,a1.ok,?_⟩⟩;rw[bw] at q1;refine aW q1 λy δ2 q2 u H2 a2 r2=>?_
  unfold p2 at q2;have hx:cS c σ δ2 H2 v x.d:=.inl (Rep.dZ r1.rep a2);have hy:=r2.b;generalize x.d=dx at q2 hx;generalize y.d=dy at q2 hy
  cases dx <;> cases dy <;> first
   | exact q2.elim
   | skip
  rename_i i j;exact⟨i,j,by rw[hx.int,hy.int],q2 _ H2 (a1.trans a2) (.int _)⟩
def fP(T:String):D->Option Bool
 | .ax=>some (T == "NoneType")
 | .bl _=>some (T == "bool" || T == "int")
 | .int _=>some (T == "int")
 | .str _=>some (T == "str")
 | .tup _=>some (T == "tuple")
 | .lst _=>some (T == "list")
 | .aM _=>some (T == "dict")
 | .exc _ _=>none
 | .xd _=>none
 | .fn _=>none
 | .dic _=>none
structure jj(K:W1)(T:String):Prop where
 ax:QH K (.type "NoneType") (.type T)=some (T == "NoneType")
 bl:QH K (.type "bool") (.type T)=some (T == "bool" || T == "int")
 int:QH K (.type "int") (.type T)=some (T == "int")
 str:QH K (.type "str") (.type T)=some (T == "str")
 tup:QH K (.type "tuple") (.type T)=some (T == "tuple")
 lst:QH K (.type "list") (.type T)=some (T == "list")
 aM:QH K (.type "dict") (.type T)=some (T == "dict")
def dm(T:String)(fb:BE):DE:=λδ=>(fb δ).bind λd δ'=>match fP T d with
 | some b=>.ok (.pure (.bl b)) δ'
 | none=>.stuck
theorem Lc(ty:jj X.K T)(I:Inv X pins σ H s)(ru:RelV v u)(r:Rep H cE v d)(e:fP T d=some b)(q:Q (.bl b) H) :
  W5 (model X.prog X.w) X.A (call (.builtin "isinstance") [u,.type T]) (EP X pins σ Q) X.xe s:=by
 have fin:∀ tk,EP X pins σ Q (.bool b) { s with toks:=tk }:=λtk=>⟨.bl b,H,I.tok tk,rfl,q⟩
 cases r with
 | ax=>exact kZ I ru .ax (ty.ax.trans e) fin
 | bl x=>exact kZ I ru (.bl x) (ty.bl.trans e) fin
 | int x=>exact kZ I ru (.int x) (ty.int.trans e) fin
 | str x=>exact kZ I ru (.str _) (ty.str.trans e) fin
 | tup _ h2 _ _=>exact kZ I ru (.tup h2) (ty.tup.trans e) fin
 | lst _ h2 _ _ =>
  rcases h2 with h2 | ⟨o,h2⟩
  ·exact kZ I ru (.lst h2) (ty.lst.trans e) fin
  ·exact kZ I ru (.frz h2) (ty.lst.trans e) fin
 | aM _ h2 _ _=>exact kZ I ru (.dK h2) (ty.aM.trans e) fin
 | exc _ _=>cases e
 | xd _ _=>cases e
 | fn _=>cases e
 | dic _=>cases e
theorem Ld (ty:jj X.K T):dM X (.builtin "isinstance") (λxs H Q=>∃ v d b,xs=[v,.ty T]/\Rep H cE v d/\fP T d=some b/\Q (.bl b) H):=by
 intro pins s σ H xs us Q I r h;obtain⟨v,d,b,rfl,rp,e,q⟩:=h;obtain⟨u,w',rfl,r1,r2⟩:=AF r
 cases r2;exact Lc ty I r1 rp e q
theorem jP {y:Str} {py:Pos} (ty:jj X.K T) (hg:Gl X "isinstance") (hm:X.mg "isinstance" = none) (Lf:Gl X y) (Lg:X.mg y=none) (Lh:Qu y=some (.type T)) (he:SB X c e fb)
  (Li:y≠"__name__":=by decide) (Lj:(y == ("__debug__" : Str))=false:=by decide)
  (hs:Wb [e,.Name y py] X.env=(false,eval e X.env) :: Wb [.Name y py] X.env:=by rfl) (dE:(Q9 pos (Wb [.Name y py] X.env)).any (·.1)=false:=by rfl) :
  SE X c (.Call (.Name "isinstance" pp) [e,.Name y py] [] pos) (dm T fb) :=
 PE.weak (rO (Ld ty) hg hm PyProof.Rows.boot_isinstance (fJ he (fJ (Gz (v:=.ty T) Lf Lg Lh rfl Li Lj) gI) hs) (by decide) (by decide) hs dE) λσ H Q ⟨δ,k,q⟩=>by
  unfold dm at q;rw[bw] at q;refine⟨δ,k,aW q λd δ1 q1 v H1 a1 r1=>?_⟩
  cases e1:fP T d with
  | none=>rw[e1] at q1; exact q1.elim
  | some b =>
   rw[e1] at q1;exact⟨v,d,b,rfl,r1.un,e1,q1 _ H1 a1 (.bl _)⟩
end
abbrev ll:=Dl->Rs (Option Int)
def Lk(c:Fc)(f:ll):TO:=λσ H Q=>∃ δ,Ok c σ δ H/\post c (f δ) λo δ'=>∀ H',aS c σ δ H σ δ' H'->Q o H'
abbrev SO(X:Cx)(c:Fc)(e:Option Expr)(f:ll):Prop:=PO X e (Lk c f)
theorem PO.weak(h:PO X e t)(w:∀ σ H Q,t' σ H Q->t σ H Q):PO X e t':=λpins s σ H Q I q=>h pins s σ H Q I (w σ H Q q)
def gz:ll:=λδ=>.ok none δ
def eU(f:DE):ll:=λδ=>(f δ).bind λr δ'=>match r with
 | .pure (.int i)=>.ok (some i) δ'
 | _=>.stuck
section
variable {X:Cx} {c:Fc} {e:Expr} {f:DE} {fb:BE} {fl fh:ll} {lo hi:Option Expr} {pos p2:Pos}
theorem qg:SO X c none gz:=PO.weak HS λσ H Q ⟨δ,k,q⟩=>q H (.refl k)
theorem mG(h:SE X c e f):SO X c (some e) (eU f):=PO.weak (HU h) λσ H Q ⟨δ,k,q⟩=>by
 unfold eU at q;rw[bw] at q;refine⟨δ,k,aW q λr δ1 q1 v H1 a1 r1=>?_⟩
 cases r with
 | own d=>exact q1.elim
 | pure d =>
  cases d <;> first | exact q1.elim | skip
  rename_i i
  cases r1;exact⟨i,rfl,q1 H1 a1⟩
def fA(lo hi:Option Int):D->Option S
 | .str x=>if x.length<=W6 then some (.pure (.str (bY x lo hi))) else none
 | .tup ds=>some (.pure (.tup (bY ds lo hi)))
 | .lst ds=>some (.own (.lst (bY ds lo hi)))
 | _=>none
def Ce(K:W1):V->Option Int->Option Int->Hp->VK->Prop:=λx lo hi H Q=>BV x lo hi H Q\/BS K x lo hi H Q\/A9 K x lo hi H Q
theorem Cf:jH X (Ce X.K):=KJ.or (KG.or Ij)
theorem Cg{K:W1}(lo hi:Option Int):lj (λx H Q=>Ce K x lo hi H Q) (fA lo hi):=by
 intro c σ δ H x d s Q k rx hp q
 cases d with
 | str z =>
  simp only[fA] at hp;split at hp
  ·rename_i hz;simp only[W7] at hp;subst hp;exact .inl ⟨z,rx.str,hz,q _ H (.refl k) (.str _)⟩
  ·cases hp
 | tup ds =>
  simp only[fA,W7] at hp;subst hp;obtain⟨a,vs,ea,ha,ra⟩:=rx.tup;refine .inr (.inl ⟨a,vs,ea,.of ha,λhw=>?_,λ_ p hp=>?_⟩)
  ·rw[ra.1] at hw;rw[KC hw] at q;rw[ea] at rx;rcases rx with rx | ⟨_,_,rx⟩
   ·exact q _ H (.refl k) rx
   ·exact rx.elim
  ·rw[<- BR];exact q _ _ (.alloc k hp _) (bp.mq k (ra.cut lo hi) hp)
 | lst ds =>
  simp only[fA,W7] at hp;subst hp;obtain⟨a,vs,ea,ha,ra⟩:=rx.lst;refine .inr (.inr ⟨a,vs,ea,.inl ha,λp hp=>?_⟩);rw[<- BR];exact q _ _ (.alloc k hp _) (bp.jK k (ra.cut lo hi) hp)
 | _=>simp[fA] at hp
def kr(f:DE)(fl fh:ll):DE:=λδ=>(f δ).bind λx δ1=>(fl δ1).bind λl δ2=>(fh δ2).bind λh δ3=>p1 (fA l h) x.d δ3
theorem Ci(he:SE X c e f)(hl:SO X c lo fl)(hh:SO X c hi fh):SE X c (.Subscript e (.Slice lo hi none p2) pos) (kr f fl fh):=PE.weak (A1 Cf he hl hh) λσ H Q ⟨δ,k,q⟩=>by
 unfold kr at q;rw[bw] at q;refine⟨δ,k,aW q λx δ1 q1 v H1 a1 r1=>⟨δ1,a1.ok,?_⟩⟩;rw[bw] at q1;refine aW q1 λl δ2 q2 H2 a2=>⟨δ2,a2.ok,?_⟩
 rw[bw] at q2;refine aW q2 λh δ3 q3 H3 a3=>?_
 exact vR (Cg l h) a3.ok (.inl (Rep.dZ r1.rep (a2.trans a3))) (aW q3 λs δ4 q4 w H4 a4 r4=>q4 w H4 (a1.trans (a2.trans (a3.trans a4))) (bp.back r4 (a1.trans (a2.trans a3))))
def iR(i:Nat)(fl fh:ll):DE:=λδ=>match δ[i]? with
 | some (some _)=>(fl δ).bind λl δ2=>(fh δ2).bind λh δ3=>(ah i δ3).bind λx δ4=>p1 (fA l h) x δ4
 | _=>.stuck
theorem qh{i:Nat}{σ:St}{δ:Dl}{H:Hp}{v:V}{w:S}(k:Ok c σ δ H)(e:δ[i]? = some (some w))(ev:σ[i]? = some (some v)):cS c σ δ H v w.d:=by
 cases w with
 | pure d =>
  obtain⟨v',e1,r⟩:=k.slot i d e;rw[ev] at e1; cases e1
  exact .inl r
 | own d =>
  obtain⟨a,e1,r,_⟩:=k.own i d e;rw[ev] at e1; cases e1
  exact .inr ⟨a,rfl,r⟩
theorem Ll(h:post c ((ah i δ).bind g) kk):∃ w,δ[i]? = some (some w)/\post c (g w.d δ) kk:=by
 unfold ah at h
 cases e:δ[i]? with
 | none=>rw[e] at h; exact h.elim
 | some o =>
  cases o with
  | none=>rw[e] at h; exact h.elim
  | some w=>rw[e] at h; exact⟨w,rfl,h⟩
theorem sL{i:Nat}(he:PE X e (dW i))(hl:SO X c lo fl)(hh:SO X c hi fh):SE X c (.Subscript e (.Slice lo hi none p2) pos) (iR i fl fh):=PE.weak (A1 Cf he hl hh) λσ H Q ⟨δ,k,q⟩=>by
 unfold iR at q
 cases e:δ[i]? with
 | none=>rw[e] at q; exact q.elim
 | some o =>
  cases o with
  | none=>rw[e] at q; exact q.elim
  | some w =>
   rw[e] at q;obtain⟨v,ev⟩:=pZ k e;have q':post c ((fl δ).bind λl δ2=>(fh δ2).bind λh δ3=>(ah i δ3).bind λx δ4=>p1 (fA l h) x δ4) λr δ'=>∀ v H',aS c σ δ H σ δ' H'->bp c σ δ' H H' v r->Q v H':=q
   rw[bw] at q';refine⟨v,ev,δ,k,aW q' λl δ2 q2 H2 a2=>⟨δ2,a2.ok,?_⟩⟩;rw[bw] at q2;refine aW q2 λh δ3 q3 H3 a3=>?_
   obtain⟨w3,e3,q4⟩:=Ll q3;exact vR (Cg l h) a3.ok (qh a3.ok e3 ev) (aW q4 λs δ4 q4 w H4 a4 r4=>q4 w H4 (a2.trans (a3.trans a4)) (bp.back r4 (a2.trans a3)))
def sM:D->Option S
 | .str x=>if x.length<=W6 then some (.pure (.str x.reverse)) else none
 | .lst ds=>some (.own (.lst ds.reverse))
 | _=>none
def Lm(K:W1):V->Hp->VK->Prop:=λx H Q=>(∃ z:Tx,x = .str (toS z)/\z.length<=W6/\Q (.str (toS z.reverse)) H)\/∃ a xs,x = .ref a/\cj K H a xs/\∀ p,H p=none->Q (.ref p) (upd H p (.lst xs.reverse))
def jk(z:Tx):List Tx->Tx
 | []=>[]
 | [x]=>x
 | x :: y :: r=>x ++ z ++ jk z (y :: r)
theorem Cj(z:Tx):∀ (r:List Tx) (acc:Tx),((r.map toS).foldl (λ(acc:Array Nat) p=>acc ++ (toS z).cps ++ p.cps) acc.toArray)=(match r with | []=>acc | x :: r'=>acc ++ z ++ jk z (x :: r')).toArray
 | [],acc=>rfl
 | x :: r,acc=>by
  rw[Wn,QO];have e:acc.toArray ++ (toS z).cps ++ (toS x).cps=(acc ++ z ++ x).toArray:=by simp[toS]
  rw[e,Cj z r (acc ++ z ++ x)]
  cases r with
  | nil=>simp[jk]
  | cons y r'=>simp[jk]
theorem Ln(z:Tx)(ts:List Tx):Txt.join (toS z) (ts.map toS)=toS (jk z ts):=by
 show Builtin.Str.glued _ _=_;unfold Builtin.Str.glued
 cases ts with
 | nil=>rfl
 | cons x r =>
  rw[Wn];show(⟨(List.foldl _ (toS x).cps (r.map toS))⟩:Str)=_;have:=Cj z r x;have e:(toS x).cps=x.toArray:=rfl;rw[e,this]
  cases r with
  | nil=>rfl
  | cons y r'=>rfl
def gX(ts:List Tx):Nat:=(ts.map (·.length)).sum
def dP(z:Tx):D->Option S
 | .lst ds=>match e9 ds with
  | some ts=>if gX ts + ts.length * z.length<=16777216 then some (.pure (.str (jk z ts))) else none
  | none=>none
 | .tup ds=>match e9 ds with
  | some ts=>if gX ts + ts.length * z.length<=16777216 then some (.pure (.str (jk z ts))) else none
  | none=>none
 | _=>none
theorem Lo{K:W1}(z:Tx):lj (λx H Q=>sy K (.str (toS z)) [x] H Q) (dP z):=by
 intro c σ δ H x d s Q k rx hp q;have key:∀ (a:Addr) (vs:List V) (ds:List D),x = .ref a->(cj K H a vs\/cq K H a vs)->aI H (Av c σ δ) vs ds->(match e9 ds with | some ts=>if gX ts + ts.length * z.length<=16777216 then some (S.pure (.str (jk z ts))) else none | none=>none)=some s->sy K (.str (toS z)) [x] H Q:=by
  intro a vs ds ea ha ra hp
  cases e:e9 ds with
  | none=>rw[e] at hp; cases hp
  | some ts =>
   rw[e] at hp;simp only at hp;split at hp
   ·rename_i hz;simp only[W7] at hp;subst hp;have:=n8 e ra;subst this;refine⟨toS z,a,ts.map toS,rfl,by rw[ea],?_,?_,?_⟩
    ·rw[Wx]; exact ha
    ·rw[Wx,WA,jf];have:((λx:Str=>x.length) ∘ toS)=λx:Tx=>x.length:=funext λx=>jf x
     rw[this];exact hz
    ·rw[Ln];exact q _ H (.refl k) (.str _)
   ·cases hp
 cases d with
 | lst ds =>
  obtain⟨a,vs,ea,ha,ra⟩:=rx.lst;exact key a vs ds ea (.inl (.inl ha)) ra hp
 | tup ds =>
  obtain⟨a,vs,ea,ha,ra⟩:=rx.tup;exact key a vs ds ea (.inr (.of ha)) ra hp
 | _=>simp[dP] at hp
theorem qj{x:Str}{j}{p0 apos bE:Pos}(z:Tx)(he:SB X c e fb)(hx:x=toS z:=by decide +kernel)
  (l8:Jg (.Constant (.str x) j p0) "join" X.env (eval (.Constant (.str x) j p0) X.env)=eval (.Constant (.str x) j p0) X.env:=by rfl)
  (l9:((Q9 bE (Wb [e] X.env)).all (λx=>!x.1) && (backToKw bE (Jm [] X.env)).all (λx=>x.1.isSome)
   && decide ([e].length + ([]:List Keyword).length + (if ([]:List Keyword).isEmpty then 0 else 1) < 30))=true:=by rfl)
  (gK:(apos.endLine == bE.line)=true:=by rfl) (hs:Wb [e] X.env=(false,eval e X.env) :: Wb [] X.env:=by rfl) :
  SE X c (.Call (.Attribute (.Constant (.str x) j p0) "join" apos) [e] [] bE) (aY (dP z) fb):=by
 subst hx;refine PE.weak (uV PySem.F.plainAttrs_str PySem.F.slot_str_join PySem.F.type_str_join KU Ae (fJ he gI hs) l8 l9 gK hs rfl) λσ H Q h=>?_
 obtain⟨δ,k,q⟩:=qe (r:=λx H Q=>sy X.K (.str (toS z)) [x] H Q) (Lo z) h;refine⟨?_,δ,k,q⟩;show("str" : String) = "str";rfl
end
inductive Fl where
 | next | ret (r:S) | brk | cont
abbrev DS:=Dl->Rs Fl
def fin(c:Fc)(D:Ends)(σ:St)(δ:Dl)(H:Hp):Fl->Prop
 | .next=>D.nx σ H
 | .ret r=>∀ v,bp c σ δ c.H₀ H v r->D.rt v H
 | .brk=>D.bk σ H
 | .cont=>D.ct σ H
def eF(c:Fc)(D:Ends)(σ:St)(δ:Dl)(H:Hp)(r:Rs Fl):Prop:=post c r λfl δ'=>∀ σ' H',aS c σ δ H σ' δ' H'->fin c D σ' δ' H' fl
def n_(c:Fc)(f:DS):TS:=λD σ H=>∃ δ,Ok c σ δ H/\eF c D σ δ H (f δ)
abbrev SS(X:Cx)(c:Fc)(st:Stmt)(f:DS):Prop:=PS X st (n_ c f)
abbrev iB(X:Cx)(c:Fc)(st:List Stmt)(f:DS):Prop:=dU X st (n_ c f)
theorem PS.weak{X:Cx}{st:Stmt}{t t':TS}(h:PS X st t)(w:∀ D σ H,t' D σ H->t D σ H):PS X st t':=λpins s σ H D I q=>h pins s σ H D I (w D σ H q)
theorem dU.weak{X:Cx}{st:List Stmt}{t t':TS}(h:dU X st t)(w:∀ D σ H,t' D σ H->t D σ H):dU X st t':=λpins s σ H D I q=>h pins s σ H D I (w D σ H q)
def bO:DS:=λδ=>.ok .next δ
def au(f g:DS):DS:=λδ=>(f δ).bind λfl δ1=>match fl with
 | .next=>g δ1
 | .ret r=>.ok (.ret r) δ1
 | .brk=>.ok .brk δ1
 | .cont=>.ok .cont δ1
def og(f:DE):DS:=λδ=>(f δ).bind λ_ δ1=>.ok .next δ1
def a_(f:DE):DS:=λδ=>(f δ).bind λr δ1=>.ok (.ret r) δ1
def bN(t:DT)(f g:DS):DS:=λδ=>(t δ).bind λb δ1=>if b then f δ1 else g δ1
def Ck:DS:=λ_=>.stuck
def Ts(np:List Nat)(i:Nat):DE:=λδ=>match δ[i]? with
 | some (some (.own d))=>if np.contains i then .ok (.pure d) (δ.set i (some (.pure d))) else .ok (.own d) (δ.set i none)
 | some (some (.pure d))=>.ok (.pure d) δ
 | _=>.stuck
section
variable {X:Cx} {c:Fc} {st:Stmt} {Cm:List Stmt} {e a:Expr} {f g:DS} {fe:DE} {t:DT} {pos pos':Pos}
theorem cX:iB X c [] bO:=dU.weak GS λD σ H ⟨δ,k,q⟩=>q σ H (.refl k)
theorem aN(h1:SS X c st f)(h2:iB X c Cm g):iB X c (st :: Cm) (au f g):=dU.weak (GU h1 h2) λD σ H ⟨δ,k,q⟩=>by
 unfold au eF at q;rw[bw] at q;refine⟨δ,k,aW q λfl δ1 q1 σ1 H1 a1=>?_⟩
 cases fl with
 | next=>exact⟨δ1,a1.ok,aW q1 λTt δ2 q2 σ2 H2 a2=>q2 σ2 H2 (a1.trans a2)⟩
 | ret r=>exact q1 σ1 H1 a1
 | brk=>exact q1 σ1 H1 a1
 | cont=>exact q1 σ1 H1 a1
theorem a0(h1:SS X c st f):iB X c [st] f:=dU.weak (GV h1) λD σ H h=>h
theorem Lp:SS X c st Ck:=PS.weak G1 λD σ H ⟨δ,k,q⟩=>q
theorem bQ(he:SE X c e fe):SS X c (.Return (some e) pos) (a_ fe):=PS.weak (GX he) λD σ H ⟨δ,k,q⟩=>by
 unfold a_ eF at q;rw[bw] at q;exact⟨δ,k,aW q λr δ1 q1 v H1 a1 r1=>q1 σ H1 a1 v r1.Kt⟩
theorem cY{b1 b2:List Stmt}(ht:ST X c e t)(h1:iB X c b1 f)(h2:iB X c b2 g):SS X c (.If e b1 b2 pos) (bN t f g):=PS.weak (GZ ht h1 h2) λD σ H ⟨δ,k,q⟩=>by
 unfold bN eF at q;rw[bw] at q;refine⟨δ,k,aW q λb δ1 q1 H1 a1=>?_⟩
 cases b with
 | true=>exact⟨δ1,a1.ok,aW q1 λfl δ2 q2 σ2 H2 a2=>q2 σ2 H2 (a1.trans a2)⟩
 | false=>exact⟨δ1,a1.ok,aW q1 λfl δ2 q2 σ2 H2 a2=>q2 σ2 H2 (a1.trans a2)⟩
theorem Own.qk(h:Own (σ.set i (some v)) (δ.set i (some r)) b):Own σ δ b\/(v = .ref b/\∃ d,r = .own d):=by
 obtain⟨j,d,e1,e2⟩:=h;by_cases hj:i=j
 ·subst hj;right
  rw[Q7] at e1 e2;simp at e1 e2;obtain⟨_,h1⟩:=e1;obtain⟨_,h2⟩:=e2;exact⟨h2,d,h1⟩
 ·rw[Wa hj] at e1 e2;exact .inl ⟨j,d,e1,e2⟩
theorem Ok.set(x:aS c σ₀ δ₀ H₁ σ δ H)(hr:bp c σ δ H₁ H v r)(hp:∀ p ∈ c.pin,p.1≠i):aS c σ₀ δ₀ H₁ (σ.set i (some v)) (δ.set i (some r)) H:=by
 have k:=x.ok;-- all slots avoid the new address,too
 have all:∃ c':Fc,c'.H₀=c.H₀/\c'.pin=c.pin/\Ok c' σ δ H/\(∀ b,Av c (σ.set i (some v)) (δ.set i (some r)) b->Av c' σ δ b):=by
  cases r with
  | pure d =>
   refine⟨c,rfl,rfl,k,λb z=>?_⟩;rcases z with z | z
   ·exact .inl z
   ·rcases z.qk with z | ⟨_,d',e⟩
    ·exact .inr z
    ·cases e
  | own d =>
   obtain⟨a,ea,o,n,f,k2,_⟩:=hr;refine⟨c.plus a,rfl,rfl,k2,λb z=>?_⟩;rcases z with z | z
   ·exact .inl (.inl z)
   ·rcases z.qk with z | ⟨e,_⟩
    ·exact .inr z
    ·rw[ea] at e; cases e
     exact .inl (.inr rfl)
 obtain⟨c',eH,eP,k2,sub⟩:=all;have eI:∀ a,c'.I a ↔ c.I a:=λa=>by unfold Fc.I; rw[eP]
 have Lq:Rep H (Av c (σ.set i (some v)) (δ.set i (some r))) v r.d\/∃ d,r = .own d:=by
  cases r with
  | pure d =>
   left
   refine Rep.bf hr λb z=>?_
   rcases z with z | z
   ·exact .inl (.inl z)
   ·rcases z.qk with z | ⟨_,d',e⟩
    ·exact .inl (.inr z)
    ·cases e
  | own d=>exact .inr ⟨d,rfl⟩
 refine⟨⟨k.keep,k.bd,k.fN,by rw[Ji,Ji]; exact k.len,λj d e=>?_,λj d e=>?_,λj l a d d' e1 e2 e3 e4=>?_,λp hm=>?_⟩,x.keep,λb z=>?_,x.there⟩
 ·by_cases hj:i=j
  ·subst hj;rw[Q7] at e;simp at e;obtain⟨hi,rfl⟩:=e;have gN:i < σ.length:=by rw[<- k.len]; exact hi
   rcases Lq with h | ⟨_,h⟩
   ·exact⟨v,by rw[Wu gN],h⟩
   ·cases h
  ·rw[Wa hj] at e;obtain⟨w,e1,q⟩:=k2.slot j d e;exact⟨w,by rw[Wa hj]; exact e1,q.bf λb z=>.inl (sub b z)⟩
 ·by_cases hj:i=j
  ·subst hj;rw[Q7] at e;simp at e;obtain⟨hi,rfl⟩:=e;have gN:i < σ.length:=by rw[<- k.len]; exact hi
   obtain⟨a,ea,o,n,f,k3,_⟩:=hr;refine⟨a,by rw[Wu gN,ea],o.bf λb z=>.inl ?_,.inr f,n⟩;rcases z with z | z
   ·exact .inl (.inl z)
   ·rcases z.qk with z | ⟨e,_⟩
    ·exact .inr z
    ·rw[ea] at e; cases e
     exact .inl (.inr rfl)
  ·rw[Wa hj] at e;obtain⟨a,e1,q,q2,q3⟩:=k.own j d e;obtain⟨a',vV,q',_,_⟩:=k2.own j d e;rw[e1] at vV; cases vV
   exact⟨a,by rw[Wa hj]; exact e1,q'.bf λb z=>.inl (sub b z),q2,q3⟩
 ·by_cases hj:i=j
  ·subst hj;by_cases hl:i=l
   ·exact hl
   ·rw[Wa hl] at e2 e4;rw[Q7] at e1 e3;simp at e1 e3;obtain⟨_,rfl⟩:=e1;obtain⟨_,rfl⟩:=e3;obtain⟨a',ea,o,n,f,k3,_⟩:=hr
    cases ea;exact absurd ⟨l,d',e2,e4⟩ (sg k3)
  ·rw[Wa hj] at e1 e3;by_cases hl:i=l
   ·subst hl;rw[Q7] at e2 e4;simp at e2 e4;obtain⟨_,rfl⟩:=e2;obtain⟨_,rfl⟩:=e4;obtain⟨a',ea,o,n,f,k3,_⟩:=hr
    cases ea;exact absurd ⟨j,d,e1,e3⟩ (sg k3)
   ·rw[Wa hl] at e2 e4;exact k.inj j l a d d' e1 e2 e3 e4
 ·rw[Wa (Ne.symm (hp p hm))];exact k.pinned p hm
 ·rcases z.qk with z | ⟨e,d,ed⟩
  ·exact x.own b z
  ·subst ed;obtain⟨a,ea,_,_,_,_,hs⟩:=hr;rw[ea] at e; cases e
   exact .inr hs
abbrev DG:=S->Dl->Option Dl
def vW(c:Fc)(g:DG):TG:=λv σ H Q=>∃ σ₀ δ₀ H₁ δ r δ',aS c σ₀ δ₀ H₁ σ δ H/\bp c σ δ H₁ H v r/\g r δ=some δ'/\∀ σ',aS c σ₀ δ₀ H₁ σ' δ' H->Q σ' H
abbrev SG(X:Cx)(c:Fc)(tg:Expr)(g:DG):Prop:=PG X tg (vW c g)
def ao(np:List Nat)(i:Nat):DG:=λr δ=>if np.contains i then none else some (δ.set i (some r))
def Np(c:Fc)(np:List Nat):Prop:=∀ p ∈ c.pin,np.contains p.1=true
theorem vX(hp:Np c np)(h:vW c (ao np i) v σ H Q):rE i v σ H Q:=by
 obtain⟨σ₀,δ₀,H₁,δ,r,δ',x,rr,e,q⟩:=h;unfold ao at e;split at e
 ·cases e
 ·rename_i hn
  cases e;exact q _ (Ok.set x rr λp hm e=>hn (by rw[<- e]; exact hp p hm))
theorem PG.weak{tg:Expr}{t t':TG}(h:PG X tg t)(w:∀ v σ H Q,t' v σ H Q->t v σ H Q):PG X tg t':=λpins s σ H v u Q I r q=>h pins s σ H v u Q I r (w v σ H Q q)
theorem h_.weak{tg:List Expr}{t t':kX}(h:h_ X tg t)(w:∀ v σ H Q,t' v σ H Q->t v σ H Q):h_ X tg t':=λpins s σ H v u Q I r q=>h pins s σ H v u Q I r (w v σ H Q q)
theorem cf{np:List Nat}{i:Nat}{x:Str}(hp:Np c np)(hN:X.N.Nodup)(hi:X.N[i]? = some x)(hx:Loc X.env.scope x)(hf:X.fn x=true\/X.env.scope.names.lookup x=some .local):SG X c (.Name x pos) (ao np i) :=
 PG.weak (Al hN hi hx hf) λv σ H Q h=>vX hp h
abbrev iS:=List D->Dl->Option Dl
def Lr(c:Fc)(g:iS):kX:=λvs σ H Q=>∃ δ ds δ',Ok c σ δ H/\aI H (Av c σ δ) vs ds/\g ds δ=some δ'/\∀ σ',aS c σ δ H σ' δ' H->Q σ' H
abbrev sN(X:Cx)(c:Fc)(tg:List Expr)(g:iS):Prop:=h_ X tg (Lr c g)
def bW:iS:=λds δ=>match ds with
 | []=>some δ
 | _=>none
def aU(g:DG)(gs:iS):iS:=λds δ=>match ds with
 | []=>none
 | d :: r=>(g (.pure d) δ).bind λδ1=>gs r δ1
theorem iT:sN X c [] bW:=h_.weak Am λvs σ H Q ⟨δ,ds,δ',k,r,e,q⟩=>by
 cases ds with
 | nil =>
  cases e;have:vs=[]:=by have:=r.1; simpa using this
  exact⟨this,q σ (.refl k)⟩
 | cons d r=>cases e
theorem dh{es:List Expr}{g:DG}{gs:iS}(h1:SG X c e g)(h2:sN X c es gs)(hs:(Qa (e :: es) X.env).map (·.2)=assign e X.env :: (Qa es X.env).map (·.2):=by rfl):sN X c (e :: es) (aU g gs) :=
 h_.weak (An h1 h2 hs) λvs σ H Q ⟨δ,ds,δ',k,r,e,q⟩=>by
  cases ds with
  | nil=>cases e
  | cons d ds =>
   cases vs with
   | nil=>have:=r.1; simp at this
   | cons v vs =>
    simp only[aU] at e
    cases e1:g (.pure d) δ with
    | none=>rw[e1] at e; cases e
    | some δ1 =>
     rw[e1] at e;refine⟨v,vs,rfl,σ,δ,H,δ,.pure d,δ1,.refl k,r.head,e1,λσ1 a1=>?_⟩;exact⟨δ1,ds,δ',a1.ok,aI.dZ r.tail a1,e,λσ2 a2=>q σ2 (a1.trans a2)⟩
def bT(n:Nat)(gs:iS):DG:=λr δ=>match r.d with
 | .tup ds=>if ds.length=n then gs ds δ else none
 | _=>none
theorem iU{es:List Expr}{k:Nat}{gs:iS}{n:Nat}(hc:X.calm=true)(h:sN X c es gs)(hn:(Qa es X.env).length=n:=by rfl)(dX:(Qa es X.env).findIdx? (·.1)=none:=by rfl) :
  SG X c (.Tuple es k pos) (bT n gs):=PG.weak (Ao hc h hn dX) λv σ H Q hw=>by
 obtain⟨σ₀,δ₀,H₁,δ,r,δ',x,rr,e,q⟩:=hw;have hb:=rr.b;unfold bT at e;generalize r.d=d at e hb
 cases d <;> first | (cases e; done) | skip
 rename_i ds;simp only at e;split at e
 ·rename_i hl;obtain⟨a,vs,ea,ha,ra⟩:=hb.tup;exact⟨a,vs,ea,.of ha,by rw[ra.1]; exact hl,δ,ds,δ',x.ok,ra,e,λσ' a1=>q σ' (x.trans a1)⟩
 ·cases e
def aw(f:DE)(g:DG):DS:=λδ=>(f δ).bind λr δ1=>match g r δ1 with
 | some δ2=>.ok .next δ2
 | none=>.stuck
theorem vY{g:DG}{D:Ends}{σ:St}{H:Hp}{te:TE}{tg:TG}(he:∀ σ H Q,tD c fe σ H Q->te σ H Q)(hg:∀ v σ H Q,vW c g v σ H Q->tg v σ H Q)(h:n_ c (aw fe g) D σ H):rF te tg D σ H:=by
 obtain⟨δ,k,q⟩:=h;unfold aw eF at q;rw[bw] at q;refine he _ _ _ ⟨δ,k,aW q λr δ1 q1 v H1 a1 r1=>hg _ _ _ _ ?_⟩
 cases e:g r δ1 with
 | none=>rw[e] at q1; exact q1.elim
 | some δ2 =>
  rw[e] at q1;exact⟨σ,δ,H,δ1,r,δ2,a1,r1,e,λσ' a2=>q1 σ' H1 a2⟩
theorem ku{tg:Expr}{g:DG}(he:SE X c e fe)(hg:SG X c tg g)(hs:swapsWithSole [tg] e pos.line X.env=pure false:=by rfl)(hw:swappedStores [tg] e X.env=pure none:=by rfl)
  (h1:(Qa [tg] X.env).map (·.2)=[assign tg X.env]:=by rfl):SS X c (.Assign [tg] e pos) (aw fe g):=PS.weak (Ap he hg hs hw h1) λD σ H h=>vY (λ_ _ _ h=>h) (λ_ _ _ _ h=>h) h
theorem bP{np:List Nat}{i:Nat}{x:Str}(hp:Np c np)(hN:X.N.Nodup)(hi:X.N[i]? = some x)(hx:Loc X.env.scope x)(he:SE X c e fe)(hs:QZ e (some (.Name x pos')) pos.line X.env=pure false)(hf:X.fn x=true\/X.env.scope.names.lookup x=some .local) :
  SS X c (.Assign [.Name x pos'] e pos) (aw fe (ao np i)):=PS.weak (G7 hN hi hx he hs hf) λD σ H h=>vY (λ_ _ _ h=>h) (λ_ _ _ _ h=>vX hp h) h
theorem Ls(he:SE X c e fe)(hs:∀ (x:Value),QZ e none pos.line X.env=pure false:=by intro _; rfl)(hd:True:=trivial)(h:PS X (.Expr e pos) (uA (tD c fe))):SS X c (.Expr e pos) (og fe):=PS.weak h λD σ H ⟨δ,k,q⟩=>by
 unfold og eF at q;rw[bw] at q;exact⟨δ,k,aW q λr δ1 q1 v H1 a1 r1=>q1 σ H1 a1⟩
theorem Ok.Cn{σ:St}{δ:Dl}{H:Hp}{i:Nat}{ds cM:List D}{a:Addr}{ij:List V}(k:Ok c σ δ H)(e:δ[i]? = some (some (.own (.lst ds))))(ea:σ[i]? = some (some (.ref a)))(r:aI H (Av c σ δ) ij cM) :
  aS c σ δ H σ (δ.set i (some (.own (.lst cM)))) (upd H a (.lst ij)):=by
 have hi:i < δ.length:=(Wd.mp e).1;obtain⟨a',e_,oa,ia,nb⟩:=k.own i _ e;rw[ea] at e_; cases e_
 obtain⟨vs,ha,_⟩:=oa;have ql:Own σ δ a:=⟨i,_,e,ea⟩
 have vZ:Av c σ δ a:=.inr ql;have qm:∀ b,Own σ (δ.set i (some (.own (.lst cM)))) b ↔ Own σ δ b:=λb=>by
  constructor
  ·rintro ⟨j,d,e1,e2⟩;by_cases hj:i=j
   ·subst hj;exact⟨i,_,e,e2⟩
   ·rw[Wa hj] at e1;exact⟨j,d,e1,e2⟩
  ·rintro ⟨j,d,e1,e2⟩;by_cases hj:i=j
   ·subst hj;exact⟨i,_,by rw[Wu hi],e2⟩
   ·exact⟨j,d,by rw[Wa hj]; exact e1,e2⟩
 have mH:∀ b,Av c σ (δ.set i (some (.own (.lst cM)))) b->Av c σ δ b:=λb z=>z.elim .inl λz=>.inr ((qm b).mp z)
 have ne:∀ b,¬ Av c σ δ b->b≠a:=λb n z=>n (by rw[z]; exact vZ)
 have kp:∀ b o,H b=some o->¬ Av c σ δ b->upd H a (.lst ij) b=some o:=λb o h n=>by rw[bq (ne b n)]; exact h
 have jQ:∀ b o,H b=some o->∃ o',upd H a (.lst ij) b=some o':=λb o h=>by
  by_cases hb:b=a
  ·exact⟨_,by rw[hb]; exact dw⟩
  ·exact⟨o,by rw[bq hb]; exact h⟩
 refine⟨⟨λb o h n=>?_,λb z=>?_,λb z=>?_,by rw[Ji]; exact k.len,λj d h=>?_,λj d h=>?_,λj l b d d' h1 h2 h3 h4=>?_,k.pinned⟩,λb o h n=>?_,λb z=>.inl ((qm b).mp z),jQ⟩
 ·have hb:b≠a:=λz=>by
   subst z;rcases ia with z | z
   ·exact n z
   ·rw[z] at h; cases h
  rw[bq hb];exact k.keep b o h n
 ·obtain⟨o,h⟩:=k.bd b z;exact jQ b o h
 ·obtain⟨o,h⟩:=k.fN b z;exact jQ b o h
 ·have hj:i≠j:=λz=>by subst z; rw[Wu hi] at h; cases h
  rw[Wa hj] at h;obtain⟨v,h1,h2⟩:=k.slot j d h;exact⟨v,h1,(h2.keep kp).bf λb z=>.inl (mH b z)⟩
 ·by_cases hj:i=j
  ·subst hj;rw[Wu hi] at h
   cases h;exact⟨a,ea,⟨ij,dw,aI.bf (aI.keep r kp) λb z=>.inl (mH b z)⟩,ia,nb⟩
  ·rw[Wa hj] at h;obtain⟨b,h1,h2,h3,h4⟩:=k.own j d h;have hb:b≠a:=λz=>by subst z; exact hj (k.inj i j b _ d e h ea h1)
   exact⟨b,h1,(h2.keep kp λo q=>by rw[bq hb]; exact q).bf λb z=>.inl (mH b z),h3,h4⟩
 ·have f1:∃ d,δ[j]? = some (some (.own d)):=by
   by_cases hj:i=j
   ·subst hj; exact⟨_,e⟩
   ·rw[Wa hj] at h1; exact⟨d,h1⟩
  have f2:∃ d,δ[l]? = some (some (.own d)):=by
   by_cases hj:i=l
   ·subst hj; exact⟨_,e⟩
   ·rw[Wa hj] at h2; exact⟨d',h2⟩
  obtain⟨_,f1⟩:=f1;obtain⟨_,f2⟩:=f2;exact k.inj j l b _ _ f1 f2 h3 h4
 ·have hb:b≠a:=λz=>n (by rw[z]; exact ql)
  rw[bq hb]; exact h
def jl(δ:Dl)(i:Nat):Bool:=match δ[i]? with
 | some (some (.own (.lst _)))=>true
 | _=>false
def putL(δ:Dl)(i:Nat)(f:List D->Option (List D)):Rs Fl:=match δ[i]? with
 | some (some (.own (.lst ds)))=>match f ds with
  | some cM=>.ok .next (δ.set i (some (.own (.lst cM))))
  | none=>.stuck
 | _=>.stuck
theorem Co(h:jl δ i=true):∃ ds,δ[i]? = some (some (.own (.lst ds))):=by
 unfold jl at h;split at h
 ·rename_i ds e; exact⟨ds,e⟩
 ·cases h
theorem Cp{δ:Dl}{i:Nat}{g:List D->Option (List D)}{kk:Fl->Dl->Prop}(h:post c (putL δ i g) kk):∃ ds cM,δ[i]? = some (some (.own (.lst ds)))/\g ds=some cM/\kk .next (δ.set i (some (.own (.lst cM)))):=by
 unfold putL at h;split at h
 ·rename_i ds e;split at h
  ·rename_i cM e2;exact⟨ds,cM,e,e2,h⟩
  ·exact h.elim
 ·exact h.elim
def fB(i:Nat)(f:DE):DS:=λδ=>if jl δ i then(f δ).bind λr δ1=>putL δ1 i λds=>if ds.length < W6 then some (ds ++ [r.d]) else none else .stuck
theorem Lu{i:Nat}{o:Expr}{p0 apos bE:Pos}(ho:PE X o (dW i))(he:SE X c e fe)
  (h:PS X (.Expr (.Call (.Attribute o "append" apos) [e] [] bE) pos) (uA (Bc X.K "list" Bg (dW i) (AI (tD c fe) AH)))):SS X c (.Expr (.Call (.Attribute o "append" apos) [e] [] bE) pos) (fB i fe) :=
 PS.weak h λD σ H ⟨δ,k,q⟩=>by
  unfold fB eF at q;split at q
  ·rename_i hown;obtain⟨ds0,e0⟩:=Co hown;rw[bw] at q;obtain⟨a,ea,oa,_⟩:=k.own i _ e0;refine⟨.ref a,ea,?_,δ,k,aW q λr δ1 q1 v H1 a1 r1=>?_⟩
   ·obtain⟨vs,ha,_⟩:=oa;exact .inl ⟨rfl,vs,.of ha⟩
   ·obtain⟨ds,cM,e1,e2,q2⟩:=Cp q1;split at e2
    ·rename_i hz
     cases e2;obtain⟨a',e_,oa1,_⟩:=a1.ok.own i _ e1;rw[ea] at e_; cases e_
     obtain⟨vs,ha,ra⟩:=id oa1;refine⟨a,vs,v,rfl,rfl,ha,by rw[ra.1]; exact hz,?_⟩;exact q2 σ _ (a1.trans (Ok.Cn a1.ok e1 ea (ra.append (.cons r1.rep .nil))))
    ·cases e2
  ·exact q.elim
def oh(i:Nat)(fi:DE)(fe:DE):DS:=λδ=>if jl δ i then(fe δ).bind λr δ1=>(fi δ1).bind λk δ2=>match k with
 | .pure (.int j)=>putL δ2 i λds=>(fw ds.length j).map λn=>ds.set n r.d
 | _=>.stuck else .stuck
theorem Cq{i:Nat}{o ix:Expr}{fi:DE}{sp:Pos}(ho:PE X o (dW i))(hi:SE X c ix fi)(he:SE X c e fe)
  (ha:∀ v,assign (.Subscript o ix sp) X.env v=(do
   let ov <- holding [v] (eval o X.env)
   let iv <- holding [v,ov] (eval ix X.env)
   standAt sp
   holding [v,ov,iv] (setItem ov iv v)
   release [v,ov,iv] []):=by intro _; rfl)
  (hs:swapsWithSole [.Subscript o ix sp] e pos.line X.env=pure false:=by rfl) (hw:swappedStores [.Subscript o ix sp] e X.env=pure none:=by rfl)
  (h1:(Qa [.Subscript o ix sp] X.env).map (·.2)=[assign (.Subscript o ix sp) X.env]:=by rfl):SS X c (.Assign [.Subscript o ix sp] e pos) (oh i fi fe) :=
 PS.weak (Ap he (G6 ho hi Ig ha) hs hw h1) λD σ H ⟨δ,k,q⟩=>by
  unfold oh eF at q;split at q
  ·rename_i hown;obtain⟨ds0,e0⟩:=Co hown;rw[bw] at q;obtain⟨a,ea,_,_⟩:=k.own i _ e0;refine⟨δ,k,aW q λr δ1 q1 v H1 a1 r1=>⟨.ref a,ea,δ1,a1.ok,?_⟩⟩;rw[bw] at q1;refine aW q1 λkx δ2 q2 u H2 a2 r2=>?_
   cases kx with
   | own d=>exact q2.elim
   | pure d =>
    cases d <;> first | exact q2.elim | skip
    rename_i j
    cases r2;obtain⟨ds,cM,e1,e2,q3⟩:=Cp q2
    cases e3:fw ds.length j with
    | none=>rw[e3] at e2; cases e2
    | some n =>
     rw[e3] at e2
     cases e2;obtain⟨a',e_,oa1,_⟩:=a2.ok.own i _ e1;rw[ea] at e_; cases e_
     obtain⟨vs,ha,ra⟩:=id oa1;refine⟨a,vs,j,n,rfl,rfl,ha,by rw[ra.1]; exact e3,?_⟩;exact q3 σ _ (a1.trans (a2.trans (Ok.Cn a2.ok e1 ea (ra.set (Rep.dZ r1.rep a2) n))))
  ·exact q.elim
end
abbrev DI:=Dl->Rs (List D)
def oi(c:Fc)(σ:St)(δ:Dl)(H:Hp)(J:It)(ds:List D):Prop:=∀ H2,(∀ a o,H a=some o->¬ Own σ δ a->H2 a=some o)->J.stop ds.length H2 /\
 ∀ (i:Nat) d,ds[i]? = some d->J.go i H2/\∀ x H3,J.pC i H2 x H3->(H3=H2/\Rep H (Av c σ δ) x d) \/
  ∃ p vs es,H2 p=none/\H3=upd H2 p (.tup vs)/\x = .ref p/\d = .tup es/\aI H (Av c σ δ) vs es
def tI(c:Fc)(f:DI):TI:=λσ H R=>∃ δ,Ok c σ δ H/\post c (f δ) λds δ'=>∀ J H',aS c σ δ H σ δ' H'->oi c σ δ' H' J ds->R J H'
abbrev SI(X:Cx)(c:Fc)(tg iter:Expr)(f:DI):Prop:=PI X tg iter (tI c f)
theorem PI.weak(h:PI X tg iter t)(w:∀ σ H R,t' σ H R->t σ H R):PI X tg iter t':=λpins s σ H R I q=>h pins s σ H R I (w σ H R q)
section
variable {X:Cx} {c:Fc} {tg e:Expr} {fe:DE} {pos pp:Pos}
theorem Lv(K:W1)(h:H a=some (.tup vs))(n:¬ Own σ δ a)(r:aI H (Av c σ δ) vs ds):oi c σ δ H (rJ K a) ds:=by
 intro H2 kp;have h2:=kp a _ h n;refine⟨⟨vs,.of h2,by rw[r.1]; exact W8 _⟩,λi d e=>?_⟩;obtain⟨v,ev,rv⟩:=r.get e;refine⟨⟨vs,v,.of h2,ev⟩,λx H3 ⟨e3,y⟩=>.inl ⟨e3,?_⟩⟩;have:=y vs (.of h2);rw[ev] at this
 cases this;exact rv
def cF(lo:Int)(n:Nat):List D:=(Wf n).map λk:Nat=>D.int (lo + k)
theorem Cr{lo:Int}{n i:Nat}{d:D}(h:(cF lo n)[i]? = some d):i < n/\d = .int (lo + i):=by
 unfold cF at h;rw[Wv] at h;by_cases hi:i < n
 ·rw[Qj hi] at h;simp at h;exact⟨hi,h.symm⟩
 ·rw[WK (by simpa using hi)] at h
  cases h
theorem Lw(lo:Int)(n:Nat):oi c σ δ H (rK lo n) (cF lo n):=by
 intro H2 kp;refine⟨by show n<=(cF lo n).length; simp[cF],λi d e=>?_⟩;obtain⟨hi,rfl⟩:=Cr e;exact⟨hi,λx H3 ⟨e3,ex⟩=>.inl ⟨e3,by rw[ex]; exact .int _⟩⟩
def oj(j:Int):Bool:=decide (-(2 ^ 62)<=j) && decide (j < 2 ^ 62)
def dQ(f:DE):DI:=λδ=>(f δ).bind λr δ1=>match r with
 | .pure (.int j)=>if oj j then .ok (cF 0 j.toNat) δ1 else .stuck
 | _=>.stuck
theorem lq (hg:Gl X "range") (hm:X.mg "range" = none) (he:SE X c e fe) (hs:Wb [e] X.env=[(false,eval e X.env)]:=by rfl):SI X c tg (.Call (.Name "range" pp) [e] [] pos) (dQ fe) :=
 PI.weak (Hf hg hm (fJ he gI hs) hs) λσ H R ⟨δ,k,q⟩=>by
  unfold dQ at q;rw[bw] at q;refine⟨δ,k,aW q λr δ1 q1 v H1 a1 r1=>?_⟩
  cases r with
  | own d=>exact q1.elim
  | pure d =>
   cases d <;> first | exact q1.elim | skip
   rename_i j
   cases r1;simp only at q1;split at q1
   ·rename_i hj;unfold oj at hj;simp only[Wk,decide_eq_true_eq] at hj;exact⟨j,rfl,hj.1,hj.2,q1 _ H1 a1 (Lw 0 j.toNat)⟩
   ·exact q1.elim
def forL(g:DG)(b:DS):List D->DS
 | [],δ=>.ok .next δ
 | d :: r,δ=>match g (.pure d) δ with
  | none=>.stuck
  | some δ1=>(b δ1).bind λfl δ2=>match fl with
   | .next=>forL g b r δ2
   | .cont=>forL g b r δ2
   | .brk=>.ok .next δ2
   | .ret v=>.ok (.ret v) δ2
def cG(it:DI)(g:DG)(b:DS):DS:=λδ=>(it δ).bind λds δ1=>forL g b ds δ1
theorem Cs(io:oi c σ δ H J ds)(a:aS c σ δ H σ2 δ2 H2)(e:ds[i]? = some d)(y:J.pC i H2 x H3):aS c σ2 δ2 H2 σ2 δ2 H3/\Rep H3 (Av c σ2 δ2) x d:=by
 obtain⟨_,t⟩:=io H2 a.keep;rcases (t i d e).2 x H3 y with ⟨e3,r⟩ | ⟨p,vs,es,hp,e3,ex,ed,r⟩
 ·subst e3;exact⟨.refl a.ok,Rep.dZ r a⟩
 ·subst e3 ex ed;have:=bp.mq a.ok (aI.dZ r a) hp;exact⟨.alloc a.ok hp _,this⟩
theorem gA{iter:Expr}{body:List Stmt}{it:DI}{g:DG}{b:DS}(hp:PassesOwn (model X.prog X.w) X.A X.env X.xe)(hc:X.calm=true)(hi:SI X c tg iter it)(hg:SG X c tg g)(hb:iB X c body b)
  (hs:∀ x,QU iter X.env x=pure x:=by intro _; rfl):SS X c (.For tg iter body [] pos) (cG it g b):=PS.weak (Hi hp hc hi hg hb hs) λD σ H ⟨δ,k,q⟩=>by
 unfold cG eF at q;rw[bw] at q;refine⟨δ,k,aW q λds δ1 q1 J H1 a1 io=>?_⟩;refine⟨λi m σ2 H2=>∃ δ2,m=ds.length - i/\i<=ds.length/\aS c σ δ1 H1 σ2 δ2 H2/\eF c D σ2 δ2 H2 (forL g b (ds.drop i) δ2),⟨ds.length,δ1,by simp,Qf _,.refl a1.ok,?_⟩,?_⟩
 ·rw[List.drop_zero];exact aW q1 λfl δ2 q2 σ2 H2 a2=>q2 σ2 H2 (a1.trans a2)
 ·rintro i m σ2 H2 ⟨δ2,rfl,v3,a2,p2⟩;by_cases bx:i < ds.length
  ·right
   have e:ds[i]? = some ds[i]:=by simp[bx]
   rw[List.drop_eq_getElem_cons bx] at p2;refine⟨((io H2 a2.keep).2 i _ e).1,λσ4 H4=>∃ δ4,aS c σ δ1 H1 σ4 δ4 H4/\eF c D σ4 δ4 H4 (forL g b (ds.drop (i + 1)) δ4),λσ4 H4 ⟨δ4,a4,p4⟩=>⟨ds.length - (i + 1),by omega,δ4,rfl,bx,a4,p4⟩,λx H3 y=>?_⟩;obtain⟨a3,r3⟩:=Cs io a2 e y;simp only[forL,eF] at p2
   cases eg:g (.pure ds[i]) δ2 with
   | none=>rw[eg] at p2; exact p2.elim
   | some δ3 =>
    rw[eg] at p2;refine⟨σ2,δ2,H3,δ2,.pure ds[i],δ3,.refl a3.ok,r3,eg,λσ3 a3'=>?_⟩;have p3:post c ((b δ3).bind λfl δ2=>match fl with
     | .next=>forL g b (ds.drop (i + 1)) δ2
     | .cont=>forL g b (ds.drop (i + 1)) δ2
     | .brk=>.ok .next δ2
     | .ret v=>.ok (.ret v) δ2) λfl δ'=>∀ σ' H',aS c σ2 δ2 H2 σ' δ' H'->fin c D σ' δ' H' fl:=p2
    rw[bw] at p3;have Lx:aS c σ2 δ2 H2 σ3 δ3 H3:=a3.trans a3';refine⟨δ3,a3'.ok,aW p3 λfl δ4 p4 σ4 H4 a4=>?_⟩;have iC:=Lx.trans a4
    cases fl with
    | next=>exact⟨δ4,a2.trans iC,aW p4 λfl δ5 p5 σ5 H5 a5=>p5 σ5 H5 (iC.trans a5)⟩
    | cont=>exact⟨δ4,a2.trans iC,aW p4 λfl δ5 p5 σ5 H5 a5=>p5 σ5 H5 (iC.trans a5)⟩
    | brk=>exact p4 σ4 H4 iC
    | ret r=>exact p4 σ4 H4 iC
  ·left
   have v5:i=ds.length:=by omega
   subst v5;rw[List.drop_length] at p2;exact⟨(io H2 a2.keep).1,p2 σ2 H2 (.refl a2.ok)⟩
def dB(t:DT)(b:DS):Nat->DS
 | 0,_=>.stuck
 | n + 1,δ=>(t δ).bind λx δ1=>if x then(b δ1).bind λfl δ2=>match fl with
   | .next=>dB t b n δ2
   | .cont=>dB t b n δ2
   | .brk=>.ok .next δ2
   | .ret v=>.ok (.ret v) δ2
  else .ok .next δ1
theorem v7{e:Expr}{body:List Stmt}{t:DT}{b:DS}(n:Nat)(hw:∀ {tt:TT} {tb:TS},PT X e tt->dU X body tb->PS X (.While e body [] pos) (Aq tt tb))(ht:ST X c e t)(hb:iB X c body b):SS X c (.While e body [] pos) (dB t b n) :=
 PS.weak (hw ht hb) λD σ H ⟨δ,k,q⟩=>by
  refine⟨λm σ2 H2=>∃ δ2,Ok c σ2 δ2 H2/\eF c D σ2 δ2 H2 (dB t b m δ2),⟨n,δ,k,q⟩,?_⟩;rintro m σ2 H2 ⟨δ2,k2,q2⟩
  cases m with
  | zero=>exact q2.elim
  | succ m =>
   simp only[dB,eF] at q2;rw[bw] at q2;refine⟨δ2,k2,aW q2 λx δ3 q3 H3 a3=>?_⟩
   cases x with
   | false=>exact q3 σ2 H3 a3
   | true =>
    have p3:post c ((b δ3).bind λfl δ2=>match fl with
     | .next=>dB t b m δ2
     | .cont=>dB t b m δ2
     | .brk=>.ok .next δ2
     | .ret v=>.ok (.ret v) δ2) λfl δ'=>∀ σ' H',aS c σ2 δ2 H2 σ' δ' H'->fin c D σ' δ' H' fl:=q3
    rw[bw] at p3;refine⟨λσ4 H4=>∃ δ4,Ok c σ4 δ4 H4/\eF c D σ4 δ4 H4 (dB t b m δ4),λσ4 H4 w=>⟨m,JQ _,w⟩,δ3,a3.ok,aW p3 λfl δ4 p4 σ4 H4 a4=>?_⟩;have iC:=a3.trans a4
    cases fl with
    | next=>exact⟨δ4,a4.ok,aW p4 λfl δ5 p5 σ5 H5 a5=>p5 σ5 H5 (iC.trans a5)⟩
    | cont=>exact⟨δ4,a4.ok,aW p4 λfl δ5 p5 σ5 H5 a5=>p5 σ5 H5 (iC.trans a5)⟩
    | brk=>exact p4 σ4 H4 iC
    | ret r=>exact p4 σ4 H4 iC
end
def bR(cs:List Nat)(δ:Dl):Dl:=cs.foldl (λδ i=>δ.set i none) δ
def dC(cs:List Nat)(δ₁ δ:Dl):Dl:=cs.foldl (λδ i=>match δ₁[i]? with | some o=>δ.set i o | none=>δ) δ
def bG(δ:Dl)(i:Nat):Bool:=match δ[i]? with
 | some (some (.own _))=>true
 | _=>false
theorem Ct(cs:List Nat):∀ δ:Dl,(bR cs δ).length=δ.length:=by
 induction cs with
 | nil=>intro δ; rfl
 | cons i r ih =>
  intro δ;show(bR r (δ.set i none)).length=_;rw[ih]; simp
theorem iV:∀ (cs:List Nat) (δ:Dl) (i:Nat) (v:S),(bR cs δ)[i]? = some (some v)->δ[i]? = some (some v)/\i ∉ cs:=by
 intro cs;induction cs with
 | nil=>intro δ i v h; exact⟨h,by simp⟩
 | cons j r ih =>
  intro δ i v h;have h':(bR r (δ.set j none))[i]? = some (some v):=h;obtain⟨h1,h2⟩:=ih _ i v h';by_cases e:j=i
  ·subst e;rw[Q7] at h1;simp at h1
  ·rw[Wa e] at h1;exact⟨h1,by simp only[We,not_or]; exact⟨Ne.symm e,h2⟩⟩
theorem ky:∀ (cs:List Nat) (σ:St) (i:Nat),i ∉ cs->(bJ cs σ)[i]? = σ[i]?:=by
 intro cs;induction cs with
 | nil=>intro σ i _; rfl
 | cons j r ih =>
  intro σ i h;simp only[We,not_or] at h;show(bJ r (σ.set j none))[i]? = _;rw[ih _ _ h.2,Wa (Ne.symm h.1)]
theorem Ly:∀ (cs:List Nat) (δ:Dl) (i:Nat),i ∉ cs->(bR cs δ)[i]? = δ[i]?:=by
 intro cs;induction cs with
 | nil=>intro σ i _; rfl
 | cons j r ih =>
  intro σ i h;simp only[We,not_or] at h;show(bR r (σ.set j none))[i]? = _;rw[ih _ _ h.2,Wa (Ne.symm h.1)]
theorem Lz(cs:List Nat)(δ₁:Dl):∀ δ:Dl,(dC cs δ₁ δ).length=δ.length:=by
 induction cs with
 | nil=>intro δ; rfl
 | cons i r ih =>
  intro δ;unfold dC;rw[QO];have:=ih (match δ₁[i]? with | some o=>δ.set i o | none=>δ);unfold dC at this;rw[this]
  cases δ₁[i]? <;> simp
theorem sO:∀ (cs:List Nat) (δ₁ δ:Dl) (i:Nat),i ∉ cs->(dC cs δ₁ δ)[i]? = δ[i]?:=by
 intro cs δ₁;induction cs with
 | nil=>intro δ i _; rfl
 | cons j r ih =>
  intro δ i h;simp only[We,not_or] at h;unfold dC;rw[QO];have:=ih (match δ₁[j]? with | some o=>δ.set j o | none=>δ) i h.2;unfold dC at this;rw[this]
  cases δ₁[j]? with
  | none=>rfl
  | some o=>simp only; rw[Wa (Ne.symm h.1)]
theorem v8:∀ (cs:List Nat) (δ₁ δ:Dl) (i:Nat),δ₁.length=δ.length->i ∈ cs->(dC cs δ₁ δ)[i]? = δ₁[i]?:=by
 intro cs δ₁;induction cs with
 | nil=>intro δ i _ h; simp at h
 | cons j r ih =>
  intro δ i hl h;unfold dC;rw[QO];have nY:δ₁.length=(match δ₁[j]? with | some o=>δ.set j o | none=>δ).length:=by cases δ₁[j]? <;> simp[hl]
  by_cases hr:i ∈ r
  ·have:=ih (match δ₁[j]? with | some o=>δ.set j o | none=>δ) i nY hr;unfold dC at this;exact this
  ·have e:i=j:=by
    rcases We.mp h with e | e
    ·exact e
    ·exact absurd e hr
   subst e;have:=sO r δ₁ (match δ₁[i]? with | some o=>δ.set i o | none=>δ) i hr;unfold dC at this;rw[this]
   cases e:δ₁[i]? with
   | none =>
    simp only;have:=List.getElem?_eq_none_iff.mp e;exact WK (by omega)
   | some o =>
    simp only;have:=(Wd.mp e).1;rw[Wu (by omega)]
section
variable {c:Fc} {σ:St} {δ δ':Dl} {H H':Hp} {l:Addr} {cs:List Nat}
theorem Ok.less(k:Ok (c.plus l) σ δ H):Ok c σ δ H:=by
 have sub:∀ b,Av c σ δ b->Av (c.plus l) σ δ b:=λb z=>z.elim (λz=>.inl (.inl z)) .inr
 refine⟨k.keep,λa z=>k.bd a (.inl z),k.fN,k.len,λi d e=>?_,λi d e=>?_,k.inj,k.pinned⟩
 ·obtain⟨v,h1,h2⟩:=k.slot i d e;exact⟨v,h1,h2.bf λb z=>.inl (sub b z)⟩
 ·obtain⟨a,h1,h2,h3,h4⟩:=k.own i d e;exact⟨a,h1,h2.bf λb z=>.inl (sub b z),h3,λz=>h4 (.inl z)⟩
theorem Ok.LB(k:Ok c σ δ H)(hb:c.B l)(h0:c.H₀ l=none)(o:HO):Ok c σ δ (upd H l o):=by
 have kp:∀ b w,H b=some w->¬ Av c σ δ b->upd H l o b=some w:=λb w e n=>by
  rw[bq (λz=>n (by rw[z]; exact .inl hb))]; exact e
 have jQ:∀ b w,H b=some w->∃ w',upd H l o b=some w':=λb w h=>by
  by_cases hb:b=l
  ·exact⟨_,by rw[hb]; exact dw⟩
  ·exact⟨w,by rw[bq hb]; exact h⟩
 refine⟨λa w e n=>?_,λa z=>?_,λa z=>?_,k.len,λi d e=>?_,λi d e=>?_,k.inj,k.pinned⟩
 ·have:a≠l:=λz=>by rw[z,h0] at e; cases e
  rw[bq this]; exact k.keep a w e n
 ·obtain⟨w,e⟩:=k.bd a z; exact jQ a w e
 ·obtain⟨w,e⟩:=k.fN a z; exact jQ a w e
 ·obtain⟨v,h1,h2⟩:=k.slot i d e;exact⟨v,h1,h2.keep kp⟩
 ·obtain⟨a,h1,h2,h3,h4⟩:=k.own i d e;have:a≠l:=λz=>h4 (by rw[z]; exact hb)
  exact⟨a,h1,h2.keep kp λw q=>by rw[bq this]; exact q,h3,h4⟩
theorem Own.bJ(h:Own (bJ cs σ) (bR cs δ) l):Own σ δ l:=by
 obtain⟨i,d,e1,e2⟩:=h;exact⟨i,d,(iV cs δ i _ e1).1,(lg cs σ i _ e2).1⟩
theorem Ok.bJ(k:Ok c σ δ H)(hp:∀ p ∈ c.pin,p.1 ∉ cs):Ok c (L2.bJ cs σ) (bR cs δ) H:=by
 have sub:∀ b,Av c (L2.bJ cs σ) (bR cs δ) b->Av c σ δ b:=λb z=>z.elim .inl λz=>.inr z.bJ
 refine⟨k.keep,k.bd,k.fN,by rw[Ct,r8]; exact k.len,λi d e=>?_,λi d e=>?_,λi j a d d' e1 e2 e3 e4=>?_,λp hm=>?_⟩
 ·obtain⟨e',hi⟩:=iV cs δ i _ e;obtain⟨v,h1,h2⟩:=k.slot i d e';exact⟨v,by rw[ky cs σ i hi]; exact h1,h2.bf λb z=>.inl (sub b z)⟩
 ·obtain⟨e',hi⟩:=iV cs δ i _ e;obtain⟨a,h1,h2,h3⟩:=k.own i d e';exact⟨a,by rw[ky cs σ i hi]; exact h1,h2.bf λb z=>.inl (sub b z),h3⟩
 ·exact k.inj i j a d d' (iV cs δ i _ e1).1 (iV cs δ j _ e2).1 (lg cs σ i _ e3).1 (lg cs σ j _ e4).1
 ·rw[ky cs σ _ (hp p hm)]; exact k.pinned p hm
theorem aS.back(k:Ok c₀ σ δ H)(sP:c.pin=c₀.pin)(hB:∀ b,c.B b->c₀.B b\/H b=none)(j_:cs.any (bG δ)=false)(x:aS c (L2.bJ cs σ) (bR cs δ) H (L2.bJ cs σ) δ' H'):aS c σ δ H σ (dC cs δ δ') H':=by
 have len:δ.length=δ'.length:=by
  have:=x.ok.len;rw[r8] at this;rw[this]; exact k.len
 have hV:∀ i d,i ∈ cs->δ[i]?≠some (some (.own d)):=λi d hi e=>by
  have:=Jp.mp j_ i hi;unfold bG at this;rw[e] at this;simp at this
 have ownOut:∀ i d,(dC cs δ δ')[i]? = some (some (.own d))->i ∉ cs/\δ'[i]? = some (some (.own d)):=λi d e=>by
  by_cases hi:i ∈ cs
  ·rw[v8 cs δ δ' i len hi] at e;exact absurd e (hV i d hi)
  ·rw[sO cs δ δ' i hi] at e;exact⟨hi,e⟩
 have sub:∀ b,Own σ (dC cs δ δ') b->Own (L2.bJ cs σ) δ' b:=λb ⟨i,d,e1,e2⟩=>by
  obtain⟨hi,e⟩:=ownOut i d e1;exact⟨i,d,e,by rw[ky cs σ i hi]; exact e2⟩
 have mI:∀ b,Av c σ (dC cs δ δ') b->Av c (L2.bJ cs σ) δ' b:=λb z=>z.elim .inl λz=>.inr (sub b z)
 have ownEq:∀ b,Own σ δ b->Own (L2.bJ cs σ) (bR cs δ) b:=λb ⟨i,d,e1,e2⟩=>by
  have hi:i ∉ cs:=λz=>hV i d z e1
  exact⟨i,d,by rw[Ly cs δ i hi]; exact e1,by rw[ky cs σ i hi]; exact e2⟩
 refine⟨⟨x.ok.keep,x.ok.bd,x.ok.fN,by rw[Lz,<- len]; exact k.len,λi d e=>?_,λi d e=>?_,λi j a d d' e1 e2 e3 e4=>?_,by rw[sP]; exact k.pinned⟩,λa o e n=>?_,λa z=>?_,x.there⟩
 ·by_cases hi:i ∈ cs
  ·rw[v8 cs δ δ' i len hi] at e;obtain⟨v,h1,h2⟩:=k.slot i d e;have h3:Rep H (Av c (L2.bJ cs σ) (bR cs δ)) v d:=h2.bf λb z=>by
    rcases z with z | z
    ·exact(hB b z).elim (λz=>.inl (.inl z)) .inr
    ·exact .inl (.inr z.bJ)
   exact⟨v,h1,(Rep.dZ h3 x).bf λb z=>.inl (mI b z)⟩
  ·rw[sO cs δ δ' i hi] at e;obtain⟨v,h1,h2⟩:=x.ok.slot i d e;exact⟨v,(lg cs σ i v h1).1,h2.bf λb z=>.inl (mI b z)⟩
 ·obtain⟨hi,e'⟩:=ownOut i d e;obtain⟨a,h1,h2,h3⟩:=x.ok.own i d e';exact⟨a,(lg cs σ i _ h1).1,h2.bf λb z=>.inl (mI b z),h3⟩
 ·obtain⟨hi,f1⟩:=ownOut i d e1;obtain⟨hj,f2⟩:=ownOut j d' e2;exact x.ok.inj i j a d d' f1 f2 (by rw[ky cs σ i hi]; exact e3) (by rw[ky cs σ j hj]; exact e4)
 ·exact x.keep a o e λz=>n z.bJ
 ·rcases x.own a (sub a z) with q | q
  ·exact .inl q.bJ
  ·exact .inr q
end
def eG(cs:List Nat)(g:DG)(t:DT)(el:DE):List D->Dl->List D->Rs (List D)
 | [],δ,acc=>.ok acc δ
 | d :: r,δ,acc=>match g (.pure d) δ with
  | none=>.stuck
  | some δ1=>(t δ1).bind λb δ2=>if b then(el δ2).bind λx δ3=>if acc.length < W6 then eG cs g t el r (bR cs δ3) (acc ++ [x.d]) else .stuck
   else eG cs g t el r (bR cs δ2) acc
def fc(cs:List Nat)(it:DI)(g:DG)(t:DT)(el:DE):DE:=λδ=>(it δ).bind λds δ1=>if cs.any (bG δ1) then .stuck else
 (eG cs g t el ds (bR cs δ1) []).bind λacc δ2=>.ok (.own (.lst acc)) (dC cs δ1 δ2)
def dI:DT:=λδ=>.ok true δ
abbrev v9(X:Cx)(c:Fc)(ifs:List Expr)(t:DT):Prop:=pS X ifs (tT c t)
theorem lr{X:Cx}{c:Fc}:v9 X c [] dI:=λpins s σ H Q I ⟨δ,k,q⟩=>Ki pins s σ H Q I (q H (.refl k))
section
variable {X:Cx} {c:Fc} {cs:List Nat} {tg iter elt:Expr} {ifs:List Expr} {scope:Scope} {pos:Pos} {it:DI} {g:DG} {t:DT} {el:DE}
theorem aS.clear(x:aS c (L2.bJ cs σ) δ H σ4 δ4 H4)(le:Le (L2.bJ cs σ) σ4)(hp:∀ p ∈ c.pin,p.1 ∉ cs)(hs:∀ (i:Nat) v,σ4[i]? = some (some v)->i ∉ cs->σ[i]? = some (some v)):aS c (L2.bJ cs σ) δ H (L2.bJ cs σ) (bR cs δ4) H4:=by
 have eq:∀ i,i ∉ cs->∀ v,σ4[i]? = some (some v)->(L2.bJ cs σ)[i]? = some (some v):=λi hi v e=>by rw[ky cs σ i hi]; exact hs i v e hi
 have own:∀ b,Own (L2.bJ cs σ) (bR cs δ4) b->Own σ4 δ4 b:=λb ⟨i,d,e1,e2⟩=>by
  exact⟨i,d,(iV cs δ4 i _ e1).1,le.2 i _ e2⟩
 have sub:∀ b,Av c (L2.bJ cs σ) (bR cs δ4) b->Av c σ4 δ4 b:=λb z=>z.elim .inl λz=>.inr (own b z)
 have k:=x.ok;refine⟨⟨k.keep,k.bd,k.fN,by rw[Ct,k.len]; exact le.1,λi d e=>?_,λi d e=>?_,λi j a d d' e1 e2 e3 e4=>?_,λp hm=>?_⟩,x.keep,λa z=>x.own a (own a z),x.there⟩
 ·obtain⟨e',hi⟩:=iV cs δ4 i _ e;obtain⟨v,h1,h2⟩:=k.slot i d e';exact⟨v,eq i hi v h1,h2.bf λb z=>.inl (sub b z)⟩
 ·obtain⟨e',hi⟩:=iV cs δ4 i _ e;obtain⟨a,h1,h2,h3⟩:=k.own i d e';exact⟨a,eq i hi _ h1,h2.bf λb z=>.inl (sub b z),h3⟩
 ·exact k.inj i j a d d' (iV cs δ4 i _ e1).1 (iV cs δ4 j _ e2).1 (le.2 i _ e3) (le.2 j _ e4)
 ·exact eq p.1 (hp p hm) _ (k.pinned p hm)
def Out(cs:List Nat)(σ σ':St):Prop:=σ'.length=σ.length/\∀ i,i ∉ cs->σ'[i]? = σ[i]?
theorem Out.trans(a:Out cs σ σ')(b:Out cs σ' σ''):Out cs σ σ'':=⟨b.1.trans a.1,λi h=>(b.2 i h).trans (a.2 i h)⟩
def sQ(cs:List Nat)(c:Fc)(g:DG):TG:=λv σ H Q=>∃ σ₀ δ₀ H₁ δ r δ',aS c σ₀ δ₀ H₁ σ δ H/\bp c σ δ H₁ H v r/\g r δ=some δ'/\∀ σ',aS c σ₀ δ₀ H₁ σ' δ' H->Out cs σ σ'->Q σ' H
abbrev qo(X:Cx)(c:Fc)(cs:List Nat)(tg:Expr)(g:DG):Prop:=PG X tg (sQ cs c g)
theorem jR{np:List Nat}{i:Nat}{x:Str}(hp:Np c np)(hN:X.N.Nodup)(hi:X.N[i]? = some x)(hx:Loc X.env.scope x)(hf:X.fn x=true\/X.env.scope.names.lookup x=some .local)(hc:i ∈ cs):qo X c cs (.Name x pos) (ao np i) :=
 PG.weak (Al hN hi hx hf) λv σ H Q ⟨σ₀,δ₀,H₁,δ,r,δ',x,rr,e,q⟩=>by
  unfold ao at e;split at e
  ·cases e
  ·rename_i hn
   cases e;refine q _ (Ok.set x rr λp hm e=>hn (by rw[<- e]; exact hp p hm)) ⟨by simp,λj hj=>?_⟩;rw[Wa (λz=>hj (by rw[<- z]; exact hc))]
def LC(cs:List Nat)(c:Fc)(g:iS):kX:=λvs σ H Q=>∃ δ ds δ',Ok c σ δ H/\aI H (Av c σ δ) vs ds/\g ds δ=some δ'/\∀ σ',aS c σ δ H σ' δ' H->Out cs σ σ'->Q σ' H
abbrev sR(X:Cx)(c:Fc)(cs:List Nat)(tg:List Expr)(g:iS):Prop:=h_ X tg (LC cs c g)
theorem Cu:sR X c cs [] bW:=h_.weak Am λvs σ H Q ⟨δ,ds,δ',k,r,e,q⟩=>by
 cases ds with
 | nil =>
  cases e;have:vs=[]:=by have:=r.1; simpa using this
  exact⟨this,q σ (.refl k) ⟨rfl,λ_ _=>rfl⟩⟩
 | cons d r=>cases e
theorem sS{e:Expr}{es:List Expr}{g:DG}{gs:iS}(h1:qo X c cs e g)(h2:sR X c cs es gs)(hs:(Qa (e :: es) X.env).map (·.2)=assign e X.env :: (Qa es X.env).map (·.2):=by rfl):sR X c cs (e :: es) (aU g gs) :=
 h_.weak (An h1 h2 hs) λvs σ H Q ⟨δ,ds,δ',k,r,e,q⟩=>by
  cases ds with
  | nil=>cases e
  | cons d ds =>
   cases vs with
   | nil=>have:=r.1; simp at this
   | cons v vs =>
    simp only[aU] at e
    cases e1:g (.pure d) δ with
    | none=>rw[e1] at e; cases e
    | some δ1 =>
     rw[e1] at e;refine⟨v,vs,rfl,σ,δ,H,δ,.pure d,δ1,.refl k,r.head,e1,λσ1 a1 o1=>?_⟩;exact⟨δ1,ds,δ',a1.ok,aI.dZ r.tail a1,e,λσ2 a2 o2=>q σ2 (a1.trans a2) (o1.trans o2)⟩
theorem Cv{es:List Expr}{k:Nat}{gs:iS}{n:Nat}(hc:X.calm=true)(h:sR X c cs es gs)(hn:(Qa es X.env).length=n:=by rfl)(dX:(Qa es X.env).findIdx? (·.1)=none:=by rfl) :
  qo X c cs (.Tuple es k pos) (bT n gs):=PG.weak (Ao hc h hn dX) λv σ H Q hw=>by
 obtain⟨σ₀,δ₀,H₁,δ,r,δ',x,rr,e,q⟩:=hw;have hb:=rr.b;unfold bT at e;generalize r.d=d at e hb
 cases d <;> first | (cases e; done) | skip
 rename_i ds;simp only at e;split at e
 ·rename_i hl;obtain⟨a,vs,ea,ha,ra⟩:=hb.tup;exact⟨a,vs,ea,.of ha,by rw[ra.1]; exact hl,δ,ds,δ',x.ok,ra,e,λσ' a1 o1=>q σ' (x.trans a1) o1⟩
 ·cases e
theorem aS.less(x:aS (c.plus l) σ δ H σ' δ' H'):aS c σ δ H σ' δ' H':=⟨x.ok.less,x.keep,x.own,x.there⟩
theorem Cw(LD:∀ σ H R,tI c it σ H R->wi σ H R)(hg:∀ l v σ H Q,sQ cs (c.plus l) g v σ H Q->gt v σ H Q)(ht:∀ l σ H Q,tT (c.plus l) t σ H Q->tt σ H Q)(he:∀ l σ H Q,tD (c.plus l) el σ H Q->te σ H Q)
  (hp:∀ p ∈ c.pin,p.1 ∉ cs) (h:tD c (fc cs it g t el) σ H Q):vm cs wi gt tt te σ H Q:=by
 obtain⟨δ,k,q⟩:=h;unfold fc at q;rw[bw] at q;refine LD _ _ _ ⟨δ,k,aW q λds δ1 q1 J H1 a1 io=>?_⟩;intro l hl;split at q1
 ·exact q1.elim
 ·rename_i j_;have Cy:cs.any (bG δ1)=false:=by simpa using j_
  rw[bw] at q1;have k1:=a1.ok;have kp:=k1.plus hl (.lst []);have k0:Ok (c.plus l) (L2.bJ cs σ) (bR cs δ1) (upd H1 l (.lst [])):=kp.bJ hp;have up:∀ a w,H1 a=some w->upd H1 l (.lst []) a=some w:=λa w e=>by
   rw[bq (fT e hl)]; exact e
  have h0:c.H₀ l=none:=k1.nW hl;-- the walked things,as the block sees them
  have v_:oi (c.plus l) (L2.bJ cs σ) (bR cs δ1) H1 J ds:=by
   intro H2 wa;obtain⟨s1,s2⟩:=io H2 λa o e n=>wa a o e λz=>n z.bJ
   have cv:∀ {x:V} {d:D},Rep H1 (Av c σ δ1) x d->Rep H1 (Av (c.plus l) (L2.bJ cs σ) (bR cs δ1)) x d:=λ{x d} r =>
    r.bf λb z=>by
     rcases z with (z | z) | z
     ·exact .inl (.inl z)
     ·exact .inr (by rw[z]; exact hl)
     ·exact .inl (.inr z.bJ)
   refine⟨s1,λi d e=>⟨(s2 i d e).1,λx H3 y=>?_⟩⟩;rcases (s2 i d e).2 x H3 y with ⟨e3,r⟩ | ⟨p,vs,es,hp,e3,ex,ed,r⟩
   ·exact .inl ⟨e3,cv r⟩
   ·exact .inr ⟨p,vs,es,hp,e3,ex,ed,r.1,λi v d e1 e2=>cv (r.2 i v d e1 e2)⟩
  let Fin:List D->Dl->Prop:=λacc δ'=>∀ H' vs,aS (c.plus l) (L2.bJ cs σ) (bR cs δ1) H1 (L2.bJ cs σ) δ' H'->H' l=some (.lst vs)->aI H' (Av (c.plus l) (L2.bJ cs σ) δ') vs acc->Q (.ref l) H'
  have q2:post c (eG cs g t el ds (bR cs δ1) []) Fin:=aW q1 λacc δ2 q2 H' vs x hv r=>by
   have b1:aS (c.plus l) σ δ1 H1 σ (dC cs δ1 δ2) H':=aS.back k1 rfl (λb z=>z.elim .inl λz=>.inr (by rw[z]; exact hl)) Cy x;have b2:aS c σ δ1 H1 σ (dC cs δ1 δ2) H':=b1.less;have len:δ1.length=δ2.length:=by
    have:=x.ok.len;rw[r8] at this;rw[this]; exact k1.len
   have LF:H l=none:=by
    cases e:H l with
    | none=>rfl
    | some o =>
     obtain⟨o',e'⟩:=a1.there l o e;rw[hl] at e'; cases e'
   refine q2 _ H' (a1.trans b2) ⟨l,rfl,⟨vs,hv,aI.bf r λb z=>.inl ?_⟩,λz=>k1.jJ hl (.inl z),h0,b1.ok,LF⟩;rcases z with z | ⟨i,d,e1,e2⟩
   ·exact .inl z
   ·have hi:i ∉ cs:=λhi=>by
     rw[v8 cs δ1 δ2 i len hi] at e1;have:=Jp.mp Cy i hi;unfold bG at this;rw[e1] at this;simp at this
    rw[sO cs δ1 δ2 i hi] at e1;exact .inr ⟨i,d,e1,by rw[ky cs σ i hi]; exact e2⟩
  refine⟨λi m H2=>∃ δ2 acc vs,m=ds.length - i/\i<=ds.length/\aS (c.plus l) (L2.bJ cs σ) (bR cs δ1) H1 (L2.bJ cs σ) δ2 H2/\H2 l=some (.lst vs)/\aI H2 (Av (c.plus l) (L2.bJ cs σ) δ2) vs acc /\
   post c (eG cs g t el (ds.drop i) δ2 acc) Fin,⟨ds.length,bR cs δ1,[],[],by simp,Qf _,⟨k0,λa w e _=>up a w e,λa z=>.inl z,λa w e=>⟨w,up a w e⟩⟩,dw,.nil,by rw[List.drop_zero]; exact q2⟩,?_⟩
  rintro i m H2 ⟨δ2,acc,vs,rfl,v3,a2,hv,rv,p2⟩;by_cases bx:i < ds.length
  ·right
   have e:ds[i]? = some ds[i]:=by simp[bx]
   rw[List.drop_eq_getElem_cons bx] at p2;refine⟨((v_ H2 a2.keep).2 i _ e).1,λx H3 y=>hg l _ _ _ _ ?_⟩;obtain⟨a3,r3⟩:=Cs v_ a2 e y;simp only[eG] at p2
   cases eg:g (.pure ds[i]) δ2 with
   | none=>rw[eg] at p2; exact p2.elim
   | some δ3 =>
    rw[eg] at p2;have p3:post c ((t δ3).bind λb δ2=>if b then(el δ2).bind λx δ3=>if acc.length < W6 then eG cs g t el (ds.drop (i + 1)) (bR cs δ3) (acc ++ [x.d]) else .stuck
     else eG cs g t el (ds.drop (i + 1)) (bR cs δ2) acc) Fin:=p2
    refine⟨L2.bJ cs σ,δ2,H3,δ2,.pure ds[i],δ3,.refl a3.ok,r3,eg,λσ4 a4 o4=>?_⟩;have le:Le (L2.bJ cs σ) σ4:=⟨o4.1,λj v ej=>by
     rw[o4.2 j (lg cs σ j v ej).2]; exact ej⟩
    have hs:∀ (j:Nat) v,σ4[j]? = some (some v)->j ∉ cs->σ[j]? = some (some v):=λj v ej hj=>by
     rw[o4.2 j hj] at ej;exact(lg cs σ j v ej).1
    refine⟨le,ht l _ _ _ ⟨δ3,a4.ok,?_⟩⟩;rw[bw] at p3;have Cz:∀ p ∈ (c.plus l).pin,p.1 ∉ cs:=hp;have iC:=a2.trans (a3.trans a4);have ln:∀ {σ':St} {δ':Dl} {H':Hp},Ok (c.plus l) σ' δ' H'->¬ Own σ' δ' l:=λ{σ' δ' H'} k=>sg k
    have LG:post (c.plus l) (t δ3) λb δ5=>post c (if b then(el δ5).bind λx δ3=>if acc.length < W6 then eG cs g t el (ds.drop (i + 1)) (bR cs δ3) (acc ++ [x.d]) else .stuck
     else eG cs g t el (ds.drop (i + 1)) (bR cs δ5) acc) Fin:=p3
    refine aW LG λb δ5 p5 H5 a5=>?_
    have CA:=iC.trans a5;have LH:H3 l=some (.lst vs):=a3.keep l _ hv (ln a2.ok);have CB:H5 l=some (.lst vs):=a5.keep l _ LH (ln a4.ok);have CD:=aI.dZ (aI.dZ (aI.dZ rv a3) a4) a5
    cases b with
    | false =>
     have c5:=CA.clear le Cz hs;refine⟨ds.length - (i + 1),by omega,bR cs δ5,acc,vs,rfl,bx,c5,CB,aI.bf CD λb z=>.inl ?_,p5⟩;exact z.elim .inl λ⟨j,d,e1,e2⟩=>.inr ⟨j,d,(iV cs δ5 j _ e1).1,le.2 j _ e2⟩
    | true =>
     have CF:post c ((el δ5).bind λx δ3=>if acc.length < W6 then eG cs g t el (ds.drop (i + 1)) (bR cs δ3) (acc ++ [x.d]) else .stuck) Fin:=p5;rw[bw] at CF;refine he l _ _ _ ⟨δ5,a5.ok,?_⟩;have p6:post (c.plus l) (el δ5) λx δ6=>post c (if acc.length < W6 then eG cs g t el (ds.drop (i + 1)) (bR cs δ6) (acc ++ [x.d]) else .stuck) Fin:=CF
     refine aW p6 λx δ6 p7 v H6 a6 r6=>?_
     split at p7
     ·rename_i hz;have LI:=CA.trans a6;have LJ:H6 l=some (.lst vs):=a6.keep l _ CB (ln a5.ok);have CG:=aI.dZ CD a6;have rr:aI H6 (Av (c.plus l) σ4 δ6) (vs ++ [v]) (acc ++ [x.d]):=CG.append (.cons r6.rep .nil);have c6:=LI.clear le Cz hs;have sU:∀ b o,H6 b=some o->¬ Av (c.plus l) σ4 δ6 b->upd H6 l (.lst (vs ++ [v])) b=some o:=λb o e n=>by
       rw[bq (λz=>n (by rw[z]; exact .inl (.inr rfl)))]; exact e
      have LK:∀ b,Av (c.plus l) (L2.bJ cs σ) (bR cs δ6) b->Av (c.plus l) σ4 δ6 b:=λb z=>z.elim .inl λ⟨j,d,e1,e2⟩=>.inr ⟨j,d,(iV cs δ6 j _ e1).1,le.2 j _ e2⟩
      refine⟨vs,ds.length - (i + 1),LJ,by rw[CG.1]; exact hz,by omega,bR cs δ6,acc ++ [x.d],vs ++ [v],rfl,bx,?_,dw,aI.bf (aI.keep rr sU) λb z=>.inl (LK b z),p7⟩;-- the list that is built has grown
      refine⟨c6.ok.LB (.inr rfl) h0 _,λa o ea n=>?_,λa z=>c6.own a z,λa o ea=>?_⟩
      ·have sV:a≠l:=λz=>by rw[z,hl] at ea; cases ea
       rw[bq sV]; exact c6.keep a o ea n
      ·by_cases sV:a=l
       ·exact⟨_,by rw[sV]; exact dw⟩
       ·obtain⟨o',e'⟩:=c6.there a o ea;exact⟨o',by rw[bq sV]; exact e'⟩
     ·exact p7.elim
  ·left
   have v5:i=ds.length:=by omega
   subst v5;rw[List.drop_length] at p2;exact⟨(v_ H2 a2.keep).1,p2 H2 vs a2 hv rv⟩
theorem om(hc:X.calm=true)(S:mj X scope cs)(hi:SI X c tg iter it)(hg:∀ l s₀ H₀ ex,qo (eY X scope s₀ H₀ ex) (c.plus l) cs tg g)(ht:∀ l s₀ H₀ ex,v9 (eY X scope s₀ H₀ ex) (c.plus l) ifs t)
  (he:∀ l s₀ H₀ ex,SE (eY X scope s₀ H₀ ex) (c.plus l) elt el) (hp:∀ p ∈ c.pin,p.1 ∉ cs) (hs:∀ x,QU iter X.env x=pure x:=by intro _; rfl) :
  SE X c (.ListComp elt [⟨tg,iter,ifs,0⟩] scope pos) (fc cs it g t el) :=
 PE.weak (Kp (g:=λv σ H Q=>∃ l,sQ cs (c.plus l) g v σ H Q) (tt:=λσ H Q=>∃ l,tT (c.plus l) t σ H Q) (te:=λσ H Q=>∃ l,tD (c.plus l) el σ H Q) hc S hi
  (λs₀ H₀ ex pins s σ H v u Q I r ⟨l,q⟩=>hg l s₀ H₀ ex pins s σ H v u Q I r q) (λs₀ H₀ ex pins s σ H Q I ⟨l,q⟩=>ht l s₀ H₀ ex pins s σ H Q I q) (λs₀ H₀ ex pins s σ H Q I ⟨l,q⟩=>he l s₀ H₀ ex pins s σ H Q I q) hs)
  λσ H Q h=>Cw (λ_ _ _ h=>h) (λl _ _ _ _ h=>⟨l,h⟩) (λl _ _ _ h=>⟨l,h⟩) (λl _ _ _ h=>⟨l,h⟩) hp h
theorem CI{np:List Nat}{i:Nat}{y:Str}{py sd:Pos}(aA:Np c np)(hc:X.calm=true)(S:mj X scope cs)(hN:X.N.Nodup)(gN:X.N[i]? = some y)(hy:X.env.scope.names.lookup y=some .local)
  (hi:SI X c tg iter it) (hg:∀ l s₀ H₀ ex,qo (eY X scope s₀ H₀ ex) (c.plus l) cs tg g) (ht:∀ l s₀ H₀ ex,v9 (eY X scope s₀ H₀ ex) (c.plus l) ifs t)
  (he:∀ l s₀ H₀ ex,SE (eY X scope s₀ H₀ ex) (c.plus l) elt el) (hp:∀ p ∈ c.pin,p.1 ∉ cs)
  (mn:QZ (.ListComp elt [⟨tg,iter,ifs,0⟩] scope pos) (some (.Name y py)) sd.line X.env=pure true:=by rfl) (hs:∀ x,QU iter X.env x=pure x:=by intro _; rfl) :
  SS X c (.Assign [.Name y py] (.ListComp elt [⟨tg,iter,ifs,0⟩] scope pos) sd) (aw (fc cs it g t el) (ao np i)) :=
 PS.weak (Kq (g:=λv σ H Q=>∃ l,sQ cs (c.plus l) g v σ H Q) (tt:=λσ H Q=>∃ l,tT (c.plus l) t σ H Q) (te:=λσ H Q=>∃ l,tD (c.plus l) el σ H Q) hc S hN gN hy hi
  (λs₀ H₀ ex pins s σ H v u Q I r ⟨l,q⟩=>hg l s₀ H₀ ex pins s σ H v u Q I r q) (λs₀ H₀ ex pins s σ H Q I ⟨l,q⟩=>ht l s₀ H₀ ex pins s σ H Q I q) (λs₀ H₀ ex pins s σ H Q I ⟨l,q⟩=>he l s₀ H₀ ex pins s σ H Q I q) mn hs)
  λD σ H h=>vY (λσ H Q h=>Cw (λ_ _ _ h=>h) (λl _ _ _ _ h=>⟨l,h⟩) (λl _ _ _ h=>⟨l,h⟩) (λl _ _ _ h=>⟨l,h⟩) hp h) (λ_ _ _ _ h=>vX aA h) h
end
abbrev DF:=List S->Option (S×List S)
def cN:Nat->List S->List V->List (Nat×Addr)
 | n,.own _ :: ss,.ref a :: vs=>(n,a) :: cN (n + 1) ss vs
 | n,_ :: ss,_ :: vs=>cN (n + 1) ss vs
 | _,_,_=>[]
theorem mJ:∀ {n:Nat} {ss:List S} {vs:List V} {i:Nat} {a:Addr},(i,a) ∈ cN n ss vs->∃ j d,i=n + j/\ss[j]? = some (.own d)/\vs[j]? = some (.ref a)
 | n,[],vs,i,a,h=>by simp[cN] at h
 | n,s :: ss,[],i,a,h=>by cases s <;> simp[cN] at h
 | n,s :: ss,v :: vs,i,a,h=>by
  have wb:(i,a) ∈ cN (n + 1) ss vs->∃ j d,i=n + j/\(s :: ss)[j]? = some (.own d)/\(v :: vs)[j]? = some (.ref a):=λh=>by
   obtain⟨j,d,e,h1,h2⟩:=mJ h;exact⟨j + 1,d,by omega,by simpa using h1,by simpa using h2⟩
  cases s with
  | pure d=>exact wb h
  | own d =>
   cases v with
   | ref b =>
    rcases We.mp h with e | h
    ·cases e;exact⟨0,d,rfl,rfl,rfl⟩
    ·exact wb h
   | _=>exact wb h
theorem sW:∀ {n:Nat} {ss:List S} {vs:List V} {j:Nat} {d:D} {a:Addr},ss[j]? = some (.own d)->vs[j]? = some (.ref a)->(n + j,a) ∈ cN n ss vs
 | n,[],vs,j,d,a,h,_=>by simp at h
 | n,s :: ss,[],j,d,a,_,h=>by simp at h
 | n,s :: ss,v :: vs,0,d,a,h1,h2=>by
  simp at h1 h2;subst h1 h2;exact Wl
 | n,s :: ss,v :: vs,j + 1,d,a,h1,h2=>by
  have ih:=sW (n:=n + 1) (ss:=ss) (vs:=vs) (j:=j) (d:=d) (a:=a) (by simpa using h1) (by simpa using h2);have e:n + 1 + j=n + (j + 1):=by omega
  rw[e] at ih
  cases s with
  | pure d=>exact ih
  | own d =>
   cases v with
   | ref b=>exact Wh _ ih
   | _=>exact ih
abbrev cH(vs:List V):St:=vs.map some
abbrev cI(ss:List S):Dl:=ss.map some
theorem fg{ss:List S}{i:Nat}{r:S}:(cI ss)[i]? = some (some r) ↔ ss[i]? = some r:=by
 rw[Wv]
 cases ss[i]? <;> simp
theorem fD{vs:List V}{i:Nat}{v:V}:(cH vs)[i]? = some (some v) ↔ vs[i]? = some v:=by
 rw[Wv]
 cases vs[i]? <;> simp
def sX(n:Nat)(G:DF):Sp:=λvs H Q _=>∃ ss B,vs.length=n/\Ok ⟨H,B,cN 0 ss vs,λ_ _=>False⟩ (cH vs) (cI ss) H/\∃ r aR,G ss=some (r,aR) /\
 ∀ v H',aS ⟨H,B,cN 0 ss vs,λ_ _=>False⟩ (cH vs) (cI ss) H (cH vs) (cI aR) H'->bp ⟨H,B,cN 0 ss vs,λ_ _=>False⟩ (cH vs) (cI aR) H H' v r->Q v H'
def bH(P:Wj)(w:Wp)(K:W1)(mg:Str->Option Value)(base:Heap)(k:Nat)(x:Str)(n:Nat)(G:DF):Prop :=
 ∃ (f:Addr) (fd:WM) (ps:List Str),mg x=some (.ref f)/\J1 K (.ref f)=true/\Binds K fd ps []/\gJ P w K mg base dG k f fd ps (sX n G)
def bo(n:Nat)(ss:List S):Dl:=cI ss ++ Wg (n - ss.length) none
def b8:Nat->List S->Dl->Option (List S)
 | _,[],_=>some []
 | n,.pure d :: ss,δ=>(b8 (n + 1) ss δ).map (.pure d :: ·)
 | n,.own _ :: ss,δ=>match δ[n]? with
  | some (some (.own d'))=>(b8 (n + 1) ss δ).map (.own d' :: ·)
  | _=>none
def cJ:Fl->Option S
 | .next=>some (.pure .ax)
 | .ret r=>some r
 | _=>none
def ef(f:DS)(n:Nat)(ss:List S):Option (S×List S):=match f (bo n ss) with
 | .ok fl δ=>(cJ fl).bind λr=>(b8 0 ss δ).map λaR=>(r,aR)
 | _=>none
def cw(np:List Nat):Nat->List S->Bool
 | _,[]=>true
 | n,.own _ :: ss=>np.contains n && cw np (n + 1) ss
 | n,.pure _ :: ss=>cw np (n + 1) ss
theorem wc:∀ {n:Nat} {ss:List S} {j:Nat} {d:D},cw np n ss=true->ss[j]? = some (.own d)->np.contains (n + j)=true
 | n,[],j,d,_,h=>by simp at h
 | n,s :: ss,0,d,h,e=>by
  simp at e;subst e;simp only[cw,Wk] at h;exact h.1
 | n,s :: ss,j + 1,d,h,e=>by
  have h':cw np (n + 1) ss=true:=by
   cases s with
   | pure d=>exact h
   | own d=>simp only[cw,Wk] at h; exact h.2
  have:=wc (n:=n + 1) (j:=j) h' (by simpa using e);rw[show n + (j + 1)=n + 1 + j by omega];exact this
theorem sY:∀ {n:Nat} {ss aR:List S} {δ:Dl},b8 n ss δ=some aR->aR.length=ss.length/\∀ (i:Nat) s,ss[i]? = some s->(∃ d,s = .pure d/\aR[i]? = some (.pure d))\/∃ d d',s = .own d/\δ[n + i]? = some (some (.own d'))/\aR[i]? = some (.own d')
 | n,[],aR,δ,h=>by
  simp only[b8,W7] at h;subst h;exact⟨rfl,λi s e=>by simp at e⟩
 | n,.pure d :: ss,aR,δ,h=>by
  simp only[b8] at h
  cases e:b8 (n + 1) ss δ with
  | none=>rw[e] at h; cases h
  | some os =>
   rw[e] at h;simp only[WI,W7] at h;subst h;obtain⟨h1,h2⟩:=sY e;refine⟨by simp[h1],λi s es=>?_⟩
   cases i with
   | zero=>simp at es; subst es; exact .inl ⟨d,rfl,rfl⟩
   | succ i =>
    rcases h2 i s (by simpa using es) with ⟨d,z1,z2⟩ | ⟨d,d',z1,z2,z3⟩
    ·exact .inl ⟨d,z1,by simpa using z2⟩
    ·exact .inr ⟨d,d',z1,by rw[show n + (i + 1)=n + 1 + i by omega]; exact z2,by simpa using z3⟩
 | n,.own d :: ss,aR,δ,h=>by
  simp only[b8] at h;split at h
  ·rename_i d' ed
   cases e:b8 (n + 1) ss δ with
   | none=>rw[e] at h; cases h
   | some os =>
    rw[e] at h;simp only[WI,W7] at h;subst h;obtain⟨h1,h2⟩:=sY e;refine⟨by simp[h1],λi s es=>?_⟩
    cases i with
    | zero=>simp at es; subst es; exact .inr ⟨d,d',rfl,ed,rfl⟩
    | succ i =>
     rcases h2 i s (by simpa using es) with ⟨d,z1,z2⟩ | ⟨d,d',z1,z2,z3⟩
     ·exact .inl ⟨d,z1,by simpa using z2⟩
     ·exact .inr ⟨d,d',z1,by rw[show n + (i + 1)=n + 1 + i by omega]; exact z2,by simpa using z3⟩
  ·cases h
section
variable {c:Fc} {H H':Hp} {vs:List V} {ss aR:List S} {σ':St} {δ':Dl}
theorem lu{α:Type}{l:List (Option α)}{k i:Nat}{v:α}(h:(l ++ Wg k none)[i]? = some (some v)):l[i]? = some (some v):=by
 by_cases hi:i < l.length
 ·rw[List.getElem?_append_left hi] at h; exact h
 ·rw[List.getElem?_append_right (by omega),List.getElem?_replicate] at h;split at h <;> cases h
theorem kz{α:Type}{l:List (Option α)}{k i:Nat}{v:α}(h:l[i]? = some (some v)):(l ++ Wg k none)[i]? = some (some v):=by
 have hi:i < l.length:=(Wd.mp h).1;rw[List.getElem?_append_left hi]; exact h
theorem Own.ext{σ:St}{δ:Dl}{k:Nat}{a:Addr}:Own (σ ++ Wg k none) (δ ++ Wg k none) a ↔ Own σ δ a :=
 ⟨λ⟨i,d,e1,e2⟩=>⟨i,d,lu e1,lu e2⟩,λ⟨i,d,e1,e2⟩=>⟨i,d,kz e1,kz e2⟩⟩
theorem Ok.ext{σ:St}{δ:Dl}(k:Ok c σ δ H)(n:Nat):Ok c (σ ++ Wg n none) (δ ++ Wg n none) H:=by
 have sub:∀ b,Av c (σ ++ Wg n none) (δ ++ Wg n none) b->Av c σ δ b:=λb z=>z.elim .inl λz=>.inr (Own.ext.mp z)
 refine⟨k.keep,k.bd,k.fN,by simp[k.len],λi d e=>?_,λi d e=>?_,λi j a d d' e1 e2 e3 e4=>k.inj i j a d d' (lu e1) (lu e2) (lu e3) (lu e4),λp hm=>kz (k.pinned p hm)⟩
 ·obtain⟨v,h1,h2⟩:=k.slot i d (lu e);exact⟨v,kz h1,h2.bf λb z=>.inl (sub b z)⟩
 ·obtain⟨a,h1,h2,h3⟩:=k.own i d (lu e);exact⟨a,kz h1,h2.bf λb z=>.inl (sub b z),h3⟩
theorem oo{B:Addr->Prop}{n:Nat}(hc:c = ⟨H,B,cN 0 ss vs,λ_ _=>False⟩)(k:Ok c (cH vs) (cI ss) H)(x:aS c (cH vs ++ Wg n none) (cI ss ++ Wg n none) H σ' δ' H')(ho:b8 0 ss δ'=some aR) :
  aS c (cH vs) (cI ss) H (cH vs) (cI aR) H'/\∀ v r,bp c σ' δ' H H' v r->bp c (cH vs) (cI aR) H H' v r:=by
 obtain⟨hlen,hat⟩:=sY ho;have mK:ss.length=vs.length:=by have:=k.len; simpa using this
 have pin:∀ (i:Nat) (a:Addr) (d:D),ss[i]? = some (.own d)->vs[i]? = some (.ref a)->σ'[i]? = some (some (.ref a)):=λi a d h1 h2=>by
  have:=sW (n:=0) h1 h2;rw[J7] at this;exact x.ok.pinned (i,a) (by rw[hc]; exact this)
 have sZ:∀ (i:Nat) (d:D),aR[i]? = some (.own d)->(∃ d₀,ss[i]? = some (.own d₀))/\δ'[i]? = some (some (.own d)):=λi d e=>by
  have hi:i < ss.length:=by rw[<- hlen]; exact(Wd.mp e).1
  rcases hat i ss[i] (by simp[hi]) with ⟨d₁,z1,z2⟩ | ⟨d₁,d',z1,z2,z3⟩
  ·rw[e] at z2; cases z2
  ·rw[e] at z3; cases z3
   rw[J7] at z2;exact⟨⟨d₁,by rw[Wc hi,z1]⟩,z2⟩
 have sub:∀ b,Own (cH vs) (cI aR) b->Own σ' δ' b:=λb ⟨i,d,e1,e2⟩=>by
  obtain⟨⟨d₀,h0⟩,h1⟩:=sZ i d (fg.mp e1);exact⟨i,d,h1,pin i b d₀ h0 (fD.mp e2)⟩
 have mI:∀ b,Av c (cH vs) (cI aR) b->Av c σ' δ' b:=λb z=>z.elim .inl λz=>.inr (sub b z)
 have CJ:∀ {c':Fc},c'.pin=c.pin->Ok c' σ' δ' H'->(∀ b,c.B b->c'.B b)->(∀ (i:Nat) d v,ss[i]? = some (.pure d)->vs[i]? = some v->Rep H' (Av c' σ' δ') v d)->Ok c' (cH vs) (cI aR) H':=λ{c'} ep k' hB hsl=>by
  have CK:∀ b,Av c' (cH vs) (cI aR) b->Av c' σ' δ' b:=λb z=>z.elim .inl λz=>.inr (sub b z)
  refine⟨k'.keep,k'.bd,k'.fN,by simp[hlen,mK],λi d e=>?_,λi d e=>?_,λi j a d d' e1 e2 e3 e4=>?_,λp hm=>?_⟩
  ·have e':=fg.mp e;have hi:i < ss.length:=by rw[<- hlen]; exact(Wd.mp e').1
   have hv:i < vs.length:=by omega
   rcases hat i ss[i] (by simp[hi]) with ⟨d₁,z1,z2⟩ | ⟨d₁,d',z1,z2,z3⟩
   ·rw[e'] at z2; cases z2
    exact⟨vs[i],by simp[hv],(hsl i d vs[i] (by rw[Wc hi,z1]) (by simp[hv])).bf λb z=>.inl (CK b z)⟩
   ·rw[e'] at z3; cases z3
  ·have e':=fg.mp e;obtain⟨⟨d₀,h0⟩,h1⟩:=sZ i d e';obtain⟨a₀,h2,_⟩:=k.own i d₀ (fg.mpr h0);obtain⟨a,h3,h4,h5⟩:=k'.own i d h1;rw[pin i a₀ d₀ h0 (fD.mp h2)] at h3
   cases h3;exact⟨a₀,h2,h4.bf λb z=>.inl (CK b z),h5⟩
  ·obtain⟨⟨d₀,h0⟩,h1⟩:=sZ i d (fg.mp e1);obtain⟨⟨d₁,h2⟩,h3⟩:=sZ j d' (fg.mp e2);exact k'.inj i j a d d' h1 h3 (pin i a d₀ h0 (fD.mp e3)) (pin j a d₁ h2 (fD.mp e4))
  ·exact k.pinned p (by rw[<- ep]; exact hm)
 have slots:∀ (i:Nat) d v,ss[i]? = some (.pure d)->vs[i]? = some v->Rep H' (Av c σ' δ') v d:=λi d v h1 h2=>by
  obtain⟨w,e1,r⟩:=(k.ext n).slot i d (kz (fg.mpr h1));rw[kz (fD.mpr h2)] at e1
  cases e1;exact Rep.dZ r x
 refine⟨⟨CJ rfl x.ok (λ_ z=>z) slots,λa o e m=>x.keep a o e λz=>m (Own.ext.mp z),λa z=>(x.own a (sub a z)).elim (λz=>.inl (Own.ext.mp z)) .inr,x.there⟩,λv r hr=>?_⟩
 cases r with
 | pure d=>exact Rep.bf hr λb z=>.inl (mI b z)
 | own d =>
  obtain⟨a,ea,o,nb,h0,kp,hs⟩:=hr;refine⟨a,ea,o.bf λb z=>.inl (z.elim .inl λz=>.inr (sub b z)),nb,h0,CJ rfl kp (λ_ z=>.inl z) λi d v h1 h2=>?_,hs⟩;obtain⟨w,e1,r⟩:=(k.ext n).slot i d (kz (fg.mpr h1));rw[kz (fD.mpr h2)] at e1
  cases e1;have oq:H a=none:=hs;have r1:Rep H (Av c (cH vs ++ Wg n none) (cI ss ++ Wg n none)) v d:=r;have r2:Rep H (λb=>Av c (cH vs ++ Wg n none) (cI ss ++ Wg n none) b\/Av (c.plus a) σ' δ' b) v d:=r1.bf λb z=>by
   rcases z with z | (z | z) | z
   ·exact .inl z
   ·exact .inl (.inl z)
   ·exact .inr (by rw[z]; exact oq)
   ·rcases x.own b z with q | q
    ·exact .inl (.inr q)
    ·exact .inr q
  exact(r2.keep λb o e m=>x.keep b o e λz=>m (.inl (.inr z))).bf λb z=>.inl (.inr z)
end
section
variable {P:Wj} {w:Wp} {K:W1} {mg:Str->Option Value} {base:Heap}
theorem LN{x qual:Str}{st:Stmt}{f:Addr}{fd:WM}{N ps:List Str}{k:Nat}{np:List Nat}{fb:DS}{G:DF}(F:bS K x qual st f fd)(S:ck N ps (bc st))
  (eE:∀ (c:Fc) (aJ:Value) (A:Wq) (outer:List Env) (s:W2) (H:Hp) (E:XK),cC k (A.deeper (J5 qual (bc st) s.heap.objs.size f aJ))->Np c np->iB (fK dG P w K mg base N qual (bc st) f aJ A outer s H E).gp c (dY st) fb)
  (hG:∀ ss y,G ss=some y->cw np 0 ss=true/\ef fb N.length ss=some y):gJ P w K mg base dG (k + 1) f fd ps (sX ps.length G):=by
 refine F.ok S (λvs H Q E h=>?_) λaJ A outer s H vs Q E hr h=>?_
 ·obtain⟨ss,B,hl,_⟩:=h;exact hl
 ·obtain⟨ss,B,hl,ok,r,aR,hg,q⟩:=h;obtain⟨gC,hrun⟩:=hG ss _ hg;have mK:ss.length=vs.length:=by have:=ok.len; simpa using this
  have we:Np ⟨H,B,cN 0 ss vs,λ_ _=>False⟩ np:=λp hp=>by
   obtain⟨j,d,e,h1,_⟩:=mJ (i:=p.1) (a:=p.2) hp;rw[e];exact wc gC h1
  refine⟨n_ ⟨H,B,cN 0 ss vs,λ_ _=>False⟩ fb,eE ⟨H,B,cN 0 ss vs,λ_ _=>False⟩ aJ A outer s H E hr we,?_⟩;have dX:b7 N vs=cH vs ++ Wg (N.length - ss.length) none:=by rw[mK]; rfl
  refine⟨bo N.length ss,by rw[dX]; exact ok.ext _,?_⟩;unfold ef at hrun;unfold eF
  cases e:fb (bo N.length ss) with
  | exc x δx=>rw[e] at hrun; cases hrun
  | stuck=>rw[e] at hrun; cases hrun
  | ok fl δ' =>
   rw[e] at hrun;show ∀ σ' H',aS _ (b7 N vs) (bo N.length ss) H σ' δ' H'->fin _ _ σ' δ' H' fl;intro σ' H' a;rw[dX] at a;simp only at hrun
   cases fl with
   | brk=>cases hrun
   | cont=>cases hrun
   | next =>
    simp only[cJ,WF] at hrun
    cases eo:b8 0 ss δ' with
    | none=>rw[eo] at hrun; cases hrun
    | some os =>
     rw[eo] at hrun
     cases hrun;obtain⟨l1,l2⟩:=oo rfl ok a eo;exact q .ax H' l1 .ax
   | ret r' =>
    simp only[cJ,WF] at hrun
    cases eo:b8 0 ss δ' with
    | none=>rw[eo] at hrun; cases hrun
    | some os =>
     rw[eo] at hrun
     cases hrun;obtain⟨l1,l2⟩:=oo rfl ok a eo;exactλv rv=>q v H' l1 (l2 v _ rv)
theorem eJ{x qual:Str}{st:Stmt}{f:Addr}{fd:WM}{N ps:List Str}{k:Nat}{np:List Nat}{fb:DS}{G:DF}(F:bS K x qual st f fd)(hm:mg x=some (.ref f))(hb:Binds K fd ps [])(S:ck N ps (bc st))
  (eE:∀ (c:Fc) (aJ:Value) (A:Wq) (outer:List Env) (s:W2) (H:Hp) (E:XK),cC k (A.deeper (J5 qual (bc st) s.heap.objs.size f aJ))->Np c np->iB (fK dG P w K mg base N qual (bc st) f aJ A outer s H E).gp c (dY st) fb)
  (hG:∀ ss y,G ss=some y->cw np 0 ss=true/\ef fb N.length ss=some y):bH P w K mg base (k + 1) x ps.length G:=⟨f,fd,ps,hm,F.kp,hb,LN F S eE hG⟩
end
inductive Ak where
 | val (f:DE)
 | io (i:Nat)
def ba:List Ak->Dl->Rs (List (Option D))
 | [],δ=>.ok [] δ
 | .val f :: r,δ=>(f δ).bind λx δ1=>(ba r δ1).bind λxs δ2=>.ok (some x.d :: xs) δ2
 | .io _ :: r,δ=>(ba r δ).bind λxs δ2=>.ok (none :: xs) δ2
inductive kA (c:Fc) (σ:St) (δ:Dl) (H:Hp):List V->List Ak->List (Option D)->Prop
 | nil:kA c σ δ H [] [] []
 | val {v:V} {d:D} {f:DE} {vs:List V} {as:List Ak} {ds:List (Option D)}:Rep H (Av c σ δ) v d->kA c σ δ H vs as ds->kA c σ δ H (v :: vs) (.val f :: as) (some d :: ds)
 | io {v:V} {i:Nat} {vs:List V} {as:List Ak} {ds:List (Option D)}:σ[i]? = some (some v)->kA c σ δ H vs as ds->kA c σ δ H (v :: vs) (.io i :: as) (none :: ds)
def tX(c:Fc)(as:List Ak):TA:=λσ H Q=>∃ δ,Ok c σ δ H/\(∀ i,Ak.io i ∈ as->∃ v,σ[i]? = some (some v))/\post c (ba as δ) λds δ'=>∀ vs H',aS c σ δ H σ δ' H'->kA c σ δ' H' vs as ds->Q vs H'
abbrev SX(X:Cx)(c:Fc)(es:List Expr)(as:List Ak):Prop:=PA X es (tX c as)
section
variable {X:Cx} {c:Fc} {e:Expr} {es:List Expr} {fe:DE} {as:List Ak} {pos pp:Pos}
theorem bu:SX X c [] []:=PA.weak gI λσ H Q ⟨δ,k,_,q⟩=>q [] H (.refl k) .nil
theorem LO(ha:SE X c e fe)(hr:SX X c es as)(hs:Wb (e :: es) X.env=(false,eval e X.env) :: Wb es X.env:=by rfl):SX X c (e :: es) (.val fe :: as):=PA.weak (fJ ha hr hs) λσ H Q ⟨δ,k,gC,q⟩=>by
 unfold ba at q;rw[bw] at q;refine⟨δ,k,aW q λx δ1 q1 v H1 a1 r1=>⟨δ1,a1.ok,λi hi=>gC i (Wh _ hi),?_⟩⟩;rw[bw] at q1;exact aW q1 λxs δ2 q2 vs H2 a2 r2=>q2 (v :: vs) H2 (a1.trans a2) (.val (Rep.dZ r1.rep a2) r2)
theorem LP(ha:PE X e (dW i))(hr:SX X c es as)(hs:Wb (e :: es) X.env=(false,eval e X.env) :: Wb es X.env:=by rfl):SX X c (e :: es) (.io i :: as):=PA.weak (fJ ha hr hs) λσ H Q ⟨δ,k,gC,q⟩=>by
 obtain⟨v,ev⟩:=gC i Wl;unfold ba at q;rw[bw] at q;exact⟨v,ev,δ,k,λi hi=>gC i (Wh _ hi),aW q λxs δ2 q2 vs H2 a2 r2=>q2 (v :: vs) H2 a2 (.io ev r2)⟩
end
def aV:List Ak->List (Option D)->Dl->Option (List S)
 | [],[],_=>some []
 | .val _ :: as,some d :: ds,δ=>(aV as ds δ).map (.pure d :: ·)
 | .io i :: as,none :: ds,δ=>match δ[i]? with
  | some (some (.own d))=>(aV as ds δ).map (.own d :: ·)
  | _=>none
 | _,_,_=>none
def aO:List Ak->List Nat
 | []=>[]
 | .val _ :: as=>aO as
 | .io i :: as=>i :: aO as
def aK:List Ak->List S->Dl->Dl
 | .io i :: as,r :: rs,δ=>aK as rs (δ.set i (some r))
 | .val _ :: as,_ :: rs,δ=>aK as rs δ
 | _,_,δ=>δ
def bh:List Nat->Bool
 | []=>true
 | i :: r=>!r.contains i && bh r
def ar(G:DF)(as:List Ak):DE:=λδ=>if (aO as).all (bG δ) && bh (aO as) then(ba as δ).bind λds δ1=>match aV as ds δ1 with
  | none=>.stuck
  | some ss=>match G ss with
   | none=>.stuck
   | some (r,aR)=>.ok r (aK as aR δ1)
 else .stuck
theorem CL:∀ {l:List Nat},bh l=true->l.Nodup
 | [],_=>.nil
 | i :: r,h=>by
  simp only[bh,Wk,Bool.not_eq_true'] at h;exact WP.mpr ⟨λhm=>by have:=h.1; simp at this; exact this hm,CL h.2⟩
theorem mL:∀ {as:List Ak} {i:Nat},i ∈ aO as ↔ Ak.io i ∈ as
 | [],i=>by simp[aO]
 | .val f :: as,i=>by simp[aO,mL (as:=as)]
 | .io j :: as,i=>by simp[aO,mL (as:=as)]
theorem wg:∀ {as:List Ak} {i j k:Nat},(aO as).Nodup->as[j]? = some (.io i)->as[k]? = some (.io i)->j=k
 | [],i,j,k,_,h,_=>by simp at h
 | .val f :: as,i,j,k,nd,h1,h2=>by
  cases j with
  | zero=>simp at h1
  | succ j =>
   cases k with
   | zero=>simp at h2
   | succ k=>exact congrArg (· + 1) (wg (as:=as) nd (by simpa using h1) (by simpa using h2))
 | .io n :: as,i,j,k,nd,h1,h2=>by
  have fZ:=WP.mp nd
  cases j with
  | zero =>
   simp at h1;subst h1
   cases k with
   | zero=>rfl
   | succ k=>exact absurd (mL.mpr (WC (by simpa using h2))) fZ.1
  | succ j =>
   cases k with
   | zero =>
    simp at h2;subst h2;exact absurd (mL.mpr (WC (by simpa using h1))) fZ.1
   | succ k=>exact congrArg (· + 1) (wg (as:=as) fZ.2 (by simpa using h1) (by simpa using h2))
section
variable {c:Fc} {σ:St} {δ:Dl} {H:Hp} {vs:List V} {as:List Ak} {ds:List (Option D)} {ss:List S}
theorem wj(h:kA c σ δ H vs as ds):∀ {ss:List S},aV as ds δ=some ss->ss.length=vs.length/\as.length=vs.length/\∀ (j:Nat) s v,ss[j]? = some s->vs[j]? = some v ->
  (∃ d f,s = .pure d/\as[j]? = some (.val f)/\Rep H (Av c σ δ) v d)\/∃ d i,s = .own d/\as[j]? = some (.io i)/\σ[i]? = some (some v)/\δ[i]? = some (some (.own d)):=by
 induction h with
 | nil =>
  intro ss h;simp only[aV,W7] at h;subst h;exact⟨rfl,rfl,λj s v e _=>by simp at e⟩
 | @val v d f vs as ds r _ ih =>
  intro ss h;simp only[aV] at h
  cases e:aV as ds δ with
  | none=>rw[e] at h; cases h
  | some rs =>
   rw[e] at h;simp only[WI,W7] at h;subst h;obtain⟨h1,h2,h3⟩:=ih e;refine⟨by simp[h1],by simp[h2],λj s v' e1 e2=>?_⟩
   cases j with
   | zero=>simp at e1 e2; subst e1 e2; exact .inl ⟨d,f,rfl,rfl,r⟩
   | succ j=>simpa using h3 j s v' (by simpa using e1) (by simpa using e2)
 | @io v i vs as ds ev _ ih =>
  intro ss h;simp only[aV] at h;split at h
  ·rename_i d ed
   cases e:aV as ds δ with
   | none=>rw[e] at h; cases h
   | some rs =>
    rw[e] at h;simp only[WI,W7] at h;subst h;obtain⟨h1,h2,h3⟩:=ih e;refine⟨by simp[h1],by simp[h2],λj s v' e1 e2=>?_⟩
    cases j with
    | zero=>simp at e1 e2; subst e1 e2; exact .inr ⟨d,i,rfl,rfl,ev,ed⟩
    | succ j=>simpa using h3 j s v' (by simpa using e1) (by simpa using e2)
  ·cases h
theorem wm:∀ (as:List Ak) (rs:List S) (δ:Dl),(aK as rs δ).length=δ.length
 | [],rs,δ=>by simp[aK]
 | .val f :: as,[],δ=>by simp[aK]
 | .io i :: as,[],δ=>by simp[aK]
 | .val f :: as,r :: rs,δ=>by simp[aK,wm as rs δ]
 | .io i :: as,r :: rs,δ=>by simp[aK,wm as rs]
theorem qp:∀ (as:List Ak) (rs:List S) (δ:Dl) (i:Nat),i ∉ aO as->(aK as rs δ)[i]? = δ[i]?
 | [],rs,δ,i,_=>by simp[aK]
 | .val f :: as,[],δ,i,_=>by simp[aK]
 | .io j :: as,[],δ,i,_=>by simp[aK]
 | .val f :: as,r :: rs,δ,i,h=>by rw[aK]; exact qp as rs δ i h
 | .io j :: as,r :: rs,δ,i,h=>by
  simp only[aO,We,not_or] at h;rw[aK,qp as rs _ i h.2,Wa (Ne.symm h.1)]
theorem s_:∀ (as:List Ak) (rs:List S) (δ:Dl) (i j:Nat) (r:S),(aO as).Nodup->as[j]? = some (.io i)->rs[j]? = some r->i < δ.length->(aK as rs δ)[i]? = some (some r)
 | [],rs,δ,i,j,r,_,h,_,_=>by simp at h
 | a :: as,[],δ,i,j,r,_,_,h,_=>by simp at h
 | .val f :: as,r0 :: rs,δ,i,j,r,nd,h1,h2,hi=>by
  cases j with
  | zero=>simp at h1
  | succ j=>rw[aK]; exact s_ as rs δ i j r nd (by simpa using h1) (by simpa using h2) hi
 | .io k :: as,r0 :: rs,δ,i,j,r,nd,h1,h2,hi=>by
  have fZ:=WP.mp nd
  cases j with
  | zero =>
   simp at h1 h2;subst h1 h2;rw[aK,qp as rs _ k fZ.1,Wu hi]
  | succ j=>rw[aK]; exact s_ as rs _ i j r fZ.2 (by simpa using h1) (by simpa using h2) (by simpa using hi)
theorem LQ(k:Ok c σ δ H)(hr:kA c σ δ H vs as ds)(hm:aV as ds δ=some ss)(nd:(aO as).Nodup) :
  Ok ⟨H,λa=>Av c σ δ a/\¬ ∃ (j:Nat) (d:D),ss[j]? = some (S.own d)/\vs[j]? = some (V.ref a),cN 0 ss vs,λ_ _=>False⟩ (cH vs) (cI ss) H:=by
 obtain⟨h1,h2,h3⟩:=wj hr hm;have at':∀ (j:Nat) s,ss[j]? = some s->∃ v,vs[j]? = some v:=λj s e=>by
  have:j < vs.length:=by rw[<- h1]; exact(Wd.mp e).1
  exact⟨vs[j],by simp[this]⟩
 have CM:∀ a,Own (cH vs) (cI ss) a ↔ ∃ (j:Nat) (d:D),ss[j]? = some (S.own d)/\vs[j]? = some (V.ref a):=λa =>
  ⟨λ⟨j,d,e1,e2⟩=>⟨j,d,fg.mp e1,fD.mp e2⟩,λ⟨j,d,e1,e2⟩=>⟨j,d,fg.mpr e1,fD.mpr e2⟩⟩
 have CN:∀ a,Own (cH vs) (cI ss) a->Own σ δ a:=λa z=>by
  obtain⟨j,d,e1,e2⟩:=(CM a).mp z;rcases h3 j _ _ e1 e2 with ⟨d',f,e,_⟩ | ⟨d',i,e,_,es,ed⟩
  ·cases e
  ·exact⟨i,d',ed,es⟩
 have sub:∀ a,Av ⟨H,λa=>Av c σ δ a/\¬ ∃ (j:Nat) (d:D),ss[j]? = some (S.own d)/\vs[j]? = some (V.ref a),cN 0 ss vs,λ_ _=>False⟩ (cH vs) (cI ss) a->Av c σ δ a:=λa z=>z.elim (λz=>z.1) λz=>.inr (CN a z)
 refine⟨λa o e _=>e,λa z=>k.sf z.1,λa ⟨i,hi⟩=>?_,by simp[h1],λj d e=>?_,λj d e=>?_,λi j a d d' e1 e2 e3 e4=>?_,λp hp=>?_⟩
 ·obtain⟨j,d,_,e1,e2⟩:=mJ hi;exact k.BL (CN a ((CM a).mpr ⟨j,d,e1,e2⟩))
 ·have e':=fg.mp e;obtain⟨v,ev⟩:=at' j _ e';rcases h3 j _ v e' ev with ⟨d',f,e,_,r⟩ | ⟨d',i,e,_⟩
  ·cases e;exact⟨v,fD.mpr ev,r.bf λb z=>.inl (sub b z)⟩
  ·cases e
 ·have e':=fg.mp e;obtain⟨v,ev⟩:=at' j _ e';rcases h3 j _ v e' ev with ⟨d',f,e,_,r⟩ | ⟨d',i,e,_,es,ed⟩
  ·cases e
  ·cases e;obtain⟨a,g1,g2,g3⟩:=k.own i d ed;rw[es] at g1
   cases g1;refine⟨a,fD.mpr ev,g2.bf λb z=>.inl (sub b z),.inl ⟨0 + j,sW e' ev⟩,λz=>z.2 ⟨j,d,e',ev⟩⟩
 ·have f1:=fg.mp e1;have f2:=fg.mp e2;rcases h3 i _ _ f1 (fD.mp e3) with ⟨_,_,e,_⟩ | ⟨d1,i1,e,a1,s1,x1⟩
  ·cases e
  ·rcases h3 j _ _ f2 (fD.mp e4) with ⟨_,_,e',_⟩ | ⟨d2,i2,e',a2,s2,x2⟩
   ·cases e'
   ·have:=k.inj i1 i2 a d1 d2 x1 x2 s1 s2;subst this;exact wg nd a1 a2
 ·obtain⟨j,d,e,e1,e2⟩:=mJ (i:=p.1) (a:=p.2) hp;rw[J7] at e;rw[e];exact fD.mpr e2
theorem LR(k:Ok c σ δ H)(hr:kA c σ δ H vs as ds)(hm:aV as ds δ=some ss)(nd:(aO as).Nodup)(hB:B=λa=>Av c σ δ a/\¬ ∃ (j:Nat) (d:D),ss[j]? = some (S.own d)/\vs[j]? = some (V.ref a))
  (x:aS ⟨H,B,cN 0 ss vs,λ_ _=>False⟩ (cH vs) (cI ss) H (cH vs) (cI aR) H') (gC:∀ (j:Nat) d,ss[j]? = some (.own d)->∃ d',aR[j]? = some (.own d')) (Tu:∀ (j:Nat) d,ss[j]? = some (.pure d)->∃ d',aR[j]? = some (.pure d')) :
  aS c σ δ H σ (aK as aR δ) H'/\∀ v r,bp ⟨H,B,cN 0 ss vs,λ_ _=>False⟩ (cH vs) (cI aR) H H' v r->bp c σ (aK as aR δ) H H' v r:=by
 obtain⟨h1,h2,h3⟩:=wj hr hm;have tf:∀ i,i ∈ aO as->∃ (j:Nat) (d:D) (a:Addr),as[j]? = some (.io i)/\ss[j]? = some (.own d)/\vs[j]? = some (.ref a)/\σ[i]? = some (some (.ref a))/\δ[i]? = some (some (.own d)):=λi hi=>by
  obtain⟨j,hj,ej⟩:=List.mem_iff_getElem.mp (mL.mp hi);have hv:j < vs.length:=by omega
  have hs:j < ss.length:=by omega
  have wo:as[j]? = some (.io i):=by rw[Wc hj,ej]
  rcases h3 j ss[j] vs[j] (by simp[hs]) (by simp[hv]) with ⟨d,f,e,a1,_⟩ | ⟨d,i',e,a1,s1,x1⟩
  ·rw[wo] at a1; cases a1
  ·rw[wo] at a1; cases a1
   obtain⟨a,g1,_⟩:=k.own i d x1;rw[s1] at g1;have g2:vs[j] = .ref a:=by
    have:=Wy g1;exact Wy this
   exact⟨j,d,a,wo,by rw[Wc hs,e],by rw[Wc hv,g2],by rw[s1,g2],x1⟩
 have qq:∀ a,(∃ (j:Nat) (d:D),ss[j]? = some (S.own d)/\vs[j]? = some (V.ref a))->Own σ δ a:=λa ⟨j,d,e1,e2⟩=>by
  rcases h3 j _ _ e1 e2 with ⟨d',f,e,_⟩ | ⟨d',i,e,_,es,ed⟩
  ·cases e
  ·exact⟨i,d',ed,es⟩
 have Tv:∀ a,(⟨H,B,cN 0 ss vs,λ_ _=>False⟩:Fc).I a ↔ ∃ (j:Nat) (d:D),ss[j]? = some (S.own d)/\vs[j]? = some (V.ref a):=λa =>
  ⟨λ⟨i,hi⟩=>by obtain⟨j,d,_,e1,e2⟩:=mJ hi; exact⟨j,d,e1,e2⟩,λ⟨j,d,e1,e2⟩=>⟨0 + j,sW e1 e2⟩⟩
 have ownIn:∀ a,Own (cH vs) (cI ss) a->∃ (j:Nat) (d:D),ss[j]? = some (S.own d)/\vs[j]? = some (V.ref a):=λa ⟨j,d,e1,e2⟩=>⟨j,d,fg.mp e1,fD.mp e2⟩
 -- the owned addresses are the same
 have tj:∀ (i:Nat) (d:D),(aK as aR δ)[i]? = some (some (.own d))->(i ∉ aO as/\δ[i]? = some (some (.own d)))\/(i ∈ aO as/\∃ (j:Nat) (d0:D) (a:Addr),as[j]? = some (.io i)/\ss[j]? = some (.own d0)/\vs[j]? = some (.ref a)/\σ[i]? = some (some (.ref a))/\aR[j]? = some (.own d)):=λi d e=>by
  by_cases hi:i ∈ aO as
  ·right
   obtain⟨j,d0,a,a1,a2,a3,a4,a5⟩:=tf i hi;obtain⟨d',ed'⟩:=gC j d0 a2;have bx:i < δ.length:=(Wd.mp a5).1;have:=s_ as aR δ i j (.own d') nd a1 ed' bx;rw[e] at this
   cases this;exact⟨hi,j,d0,a,a1,a2,a3,a4,ed'⟩
  ·rw[qp as aR δ i hi] at e;exact .inl ⟨hi,e⟩
 have qr:∀ b,Own σ (aK as aR δ) b->Own σ δ b:=λb ⟨i,d,e1,e2⟩=>by
  rcases tj i d e1 with ⟨_,e⟩ | ⟨hi,j,d0,a,_,a2,a3,a4,_⟩
  ·exact⟨i,d,e,e2⟩
  ·rw[e2] at a4;have:b=a:=by injection (Wy (Wy a4))
   subst this;exact qq b ⟨j,d0,a2,a3⟩
 have LS:∀ (i:Nat) (d:D),(aK as aR δ)[i]? = some (some (.pure d))->i ∉ aO as/\δ[i]? = some (some (.pure d)):=λi d e=>by
  by_cases hi:i ∈ aO as
  ·obtain⟨j,d0,a,a1,a2,a3,a4,a5⟩:=tf i hi;obtain⟨d',ed'⟩:=gC j d0 a2;have bx:i < δ.length:=(Wd.mp a5).1;have:=s_ as aR δ i j (.own d') nd a1 ed' bx;rw[e] at this
   cases this
  ·rw[qp as aR δ i hi] at e;exact⟨hi,e⟩
 have CO:∀ a o,H a=some o->¬ Av c σ δ a->H' a=some o:=λa o e n=>x.keep a o e λz=>n (.inr (qq a (ownIn a z)))
 have mI:∀ b,Av c σ (aK as aR δ) b->Av c σ δ b:=λb z=>z.elim .inl λz=>.inr (qr b z)
 -- the callee's set holds ours
 have big:∀ {c':Fc},c'.B=B->∀ b,Av c σ δ b->Av c' (cH vs) (cI aR) b:=λ{c'} hB' b z=>by
  by_cases hp:∃ (j:Nat) (d:D),ss[j]? = some (S.own d)/\vs[j]? = some (V.ref b)
  ·obtain⟨j,d,e1,e2⟩:=hp;obtain⟨d',ed'⟩:=gC j d e1;exact .inr ⟨j,d',fg.mpr ed',fD.mpr e2⟩
  ·exact .inl (by rw[hB',hB]; exact⟨z,hp⟩)
 have CP:∀ (c1 c2:Fc),c1.H₀=c.H₀->c1.pin=c.pin->(∀ b,c1.B b->c.B b\/(c2.B b/\H b=none))->c2.pin=cN 0 ss vs->(∀ b,B b->c2.B b)->Ok c2 (cH vs) (cI aR) H'->(∀ b,c1.B b->∃ o,H' b=some o)->Ok c1 σ (aK as aR δ) H':=λc1 c2 e0 e1 e2 e3 e4 k2 hex=>by
  have CQ:∀ b,Av c1 σ (aK as aR δ) b->Av c σ δ b\/H b=none:=λb z=>by
   rcases z with z | z
   ·rcases e2 b z with z | ⟨_,z⟩
    ·exact .inl (.inl z)
    ·exact .inr z
   ·exact .inl (.inr (qr b z))
  have si:∀ b,Av c1 σ (aK as aR δ) b->Av c2 (cH vs) (cI aR) b:=λb z=>by
   have bg:∀ b,Av c σ δ b->Av c2 (cH vs) (cI aR) b:=λb z=>by
    by_cases hp:∃ (j:Nat) (d:D),ss[j]? = some (S.own d)/\vs[j]? = some (V.ref b)
    ·obtain⟨j,d,e1,e2⟩:=hp;obtain⟨d',ed'⟩:=gC j d e1;exact .inr ⟨j,d',fg.mpr ed',fD.mpr e2⟩
    ·exact .inl (e4 b (by rw[hB]; exact⟨z,hp⟩))
   rcases z with z | z
   ·rcases e2 b z with z | ⟨z,_⟩
    ·exact bg b (.inl z)
    ·exact .inl z
   ·exact bg b (.inr (qr b z))
  have LU:∀ {v:V} {d:D},Rep H (Av c σ δ) v d->Rep H' (Av c1 σ (aK as aR δ)) v d:=λ{v d} r=>by
   have r1:Rep H (λb=>Av c σ δ b\/Av c1 σ (aK as aR δ) b) v d:=r.bf λb z=>z.elim .inl (CQ b)
   exact(r1.keep λb o e n=>CO b o e λz=>n (.inl z)).bf λb z=>.inl (.inr z)
  refine⟨λa o e n=>?_,hex,λa z=>?_,by rw[wm]; exact k.len,λi d e=>?_,λi d e=>?_,λi j a d d' f1 f2 f3 f4=>?_,by rw[e1]; exact k.pinned⟩
  ·rw[e0] at e;have n':¬ c.I a:=λz=>n (by unfold Fc.I at z ⊢; rw[e1]; exact z)
   refine x.keep a o (k.keep a o e n') λz=>?_
   obtain⟨i,d,g1,g2⟩:=qq a (ownIn a z);obtain⟨a',g3,_,g4,_⟩:=k.own i d g1;rw[g2] at g3; cases g3
   rcases g4 with g4 | g4
   ·exact n' g4
   ·rw[g4] at e; cases e
  ·have z':c.I a:=by unfold Fc.I at z ⊢; rw[<- e1]; exact z
   obtain⟨o,e⟩:=k.fN a z';exact x.there a o e
  ·obtain⟨hi,e'⟩:=LS i d e;obtain⟨v,g1,g2⟩:=k.slot i d e';exact⟨v,g1,LU g2⟩
  ·rcases tj i d e with ⟨hi,e'⟩ | ⟨hi,j,d0,a,b1,b2,b3,b4,b5⟩
   ·obtain⟨a,g1,g2,g3,g4⟩:=k.own i d e';have na:¬ Own (cH vs) (cI ss) a:=λz=>by
     obtain⟨j,d1,q1,q2⟩:=ownIn a z;rcases h3 j _ _ q1 q2 with ⟨d',f,ee,_⟩ | ⟨d',i',ee,ai,es,ed⟩
     ·cases ee
     ·have:=k.inj i i' a d d' e' ed g1 es;subst this;exact hi (mL.mpr (WC ai))
    have LV:gy H' (Av c1 σ (aK as aR δ)) a d:=by
     have o1:gy H (λb=>Av c σ δ b\/Av c1 σ (aK as aR δ) b) a d:=g2.bf λb z=>z.elim .inl (CQ b)
     exact(o1.keep (λb o e n=>CO b o e λz=>n (.inl z)) λo e=>x.keep a o e na).bf λb z=>.inl (.inr z)
    refine⟨a,g1,LV,by unfold Fc.I at g3 ⊢; rw[e0,e1]; exact g3,λz=>?_⟩;rcases e2 a z with z | ⟨_,z⟩
    ·exact g4 z
    ·obtain⟨o,eo⟩:=g2.some;rw[z] at eo; cases eo
   ·obtain⟨a',g1,g2,g3,g4⟩:=k2.own j d (fg.mpr b5);rw[fD.mpr b3] at g1
    cases g1;obtain⟨i0,d1,q1,q2⟩:=qq a ⟨j,d0,b2,b3⟩;obtain⟨a'',q3,q4,q5,q6⟩:=k.own i0 d1 q1;rw[q2] at q3; cases q3
    refine⟨a,b4,g2.bf λb z=>.inl (si b z),by unfold Fc.I at q5 ⊢; rw[e0,e1]; exact q5,λz=>?_⟩;rcases e2 a z with z | ⟨_,z⟩
    ·exact q6 z
    ·obtain⟨o,eo⟩:=q4.some;rw[z] at eo; cases eo
  ·obtain⟨d1,g1⟩:∃ d1,δ[i]? = some (some (.own d1)):=by
    rcases tj i d f1 with ⟨_,e'⟩ | ⟨hi,_⟩
    ·exact⟨d,e'⟩
    ·obtain⟨_,d1,_,_,_,_,_,a5⟩:=tf i hi;exact⟨d1,a5⟩
   obtain⟨d2,g2⟩:∃ d2,δ[j]? = some (some (.own d2)):=by
    rcases tj j d' f2 with ⟨_,e'⟩ | ⟨hi,_⟩
    ·exact⟨d',e'⟩
    ·obtain⟨_,d1,_,_,_,_,_,a5⟩:=tf j hi;exact⟨d1,a5⟩
   exact k.inj i j a d1 d2 g1 g2 f3 f4
 have LW:Ok c σ (aK as aR δ) H':=CP c ⟨H,B,cN 0 ss vs,λ_ _=>False⟩ rfl rfl (λb z=>.inl z) rfl (λb z=>z) x.ok λb z=>by
  obtain⟨o,e⟩:=k.bd b z;exact x.there b o e
 refine⟨⟨LW,λa o e n=>x.keep a o e λz=>n (qq a (ownIn a z)),λa z=>.inl (qr a z),x.there⟩,λv r hr=>?_⟩
 cases r with
 | pure d=>exact Rep.bf hr λb z=>.inl (big rfl b (mI b z))
 | own d =>
  obtain⟨a,ea,o,nb,h0,kp,hs⟩:=hr;have oq:H a=none:=hs;have jJ:¬ Av c σ δ a:=k.jJ oq;refine⟨a,ea,o.bf λb z=>.inl ?_,λz=>jJ (.inl z),k.nW oq,?_,oq⟩
  ·rcases z with (z | z) | z
   ·exact(big rfl b (.inl z)).elim (λz=>.inl (.inl z)) .inr
   ·exact .inl (.inr z)
   ·exact(big rfl b (.inr (qr b z))).elim (λz=>.inl (.inl z)) .inr
  ·refine CP (c.plus a) (Fc.plus ⟨H,B,cN 0 ss vs,λ_ _=>False⟩ a) rfl rfl (λb z=>?_) rfl (λb z=>.inl z) kp λb z=>?_
   ·rcases z with z | z
    ·exact .inl z
    ·exact .inr ⟨.inr z,by rw[z]; exact oq⟩
   ·rcases z with z | z
    ·obtain⟨o,e⟩:=k.bd b z;exact x.there b o e
    ·rw[z]; exact o.some
end
def cK(G:DF):Prop:=∀ ss r aR,G ss=some (r,aR)->aR.length=ss.length/\∀ (j:Nat),(∀ d,ss[j]? = some (.own d)->∃ d',aR[j]? = some (.own d'))/\∀ d,ss[j]? = some (.pure d)->∃ d',aR[j]? = some (.pure d')
theorem LX(hG:∀ ss y,G ss=some y->ef fb n ss=some y):cK G:=λss r aR h=>by
 have:=hG ss _ h;unfold ef at this
 cases e:fb (bo n ss) with
 | exc x δx=>rw[e] at this; cases this
 | stuck=>rw[e] at this; cases this
 | ok fl δ =>
  rw[e] at this;simp only at this
  cases e1:cJ fl with
  | none=>rw[e1] at this; cases this
  | some r' =>
   rw[e1] at this;simp only[WF] at this
   cases e2:b8 0 ss δ with
   | none=>rw[e2] at this; cases this
   | some os =>
    rw[e2] at this
    cases this;obtain⟨h1,h2⟩:=sY e2;refine⟨h1,λj=>⟨λd ed=>?_,λd ed=>?_⟩⟩
    ·rcases h2 j _ ed with ⟨d',z,_⟩ | ⟨d',d'',_,_,z⟩
     ·cases z
     ·exact⟨d'',z⟩
    ·rcases h2 j _ ed with ⟨d',z,z'⟩ | ⟨d',d'',z,_⟩
     ·exact⟨d',z'⟩
     ·cases z
section
variable {X:Cx} {c:Fc} {e:Expr} {es:List Expr} {as:List Ak} {k n:Nat} {x:Str} {G:DF} {pp pos:Pos}
theorem CS{ps:List Str}(hK:cK G){σ:St}{H:Hp}{Q:VK}(hl:as.length=n)(h:tD c (ar G as) σ H Q):AJ (sX n G) [] E0 (tX c as) σ H Q:=by
 obtain⟨δ,kk,q⟩:=h;unfold ar at q;split at q
 ·rename_i hc;rw[Wk] at hc;have nd:=CL hc.2;rw[bw] at q;refine⟨δ,kk,λi hi=>?_,aW q λds δ1 q1 vs H1 a1 r1=>?_⟩
  ·have:=J8.mp hc.1 i (mL.mpr hi);unfold bG at this;split at this
   ·rename_i d ed;exact pZ kk ed
   ·cases this
  ·cases em:aV as ds δ1 with
   | none=>rw[em] at q1; exact q1.elim
   | some ss =>
    rw[em] at q1;simp only at q1
    cases eg:G ss with
    | none=>rw[eg] at q1; exact q1.elim
    | some y =>
     obtain⟨r,aR⟩:=y;rw[eg] at q1;have jm:=LQ a1.ok r1 em nd;obtain⟨m1,m2,_⟩:=wj r1 em;obtain⟨g1,g2⟩:=hK ss r aR eg;refine⟨ss,_,by rw[Qz,<- m2]; exact hl,by rw[Qz]; exact jm,r,aR,eg,λv H2 a2 r2=>?_⟩;rw[Qz] at a2 r2;obtain⟨o1,o2⟩:=LR a1.ok r1 em nd rfl a2 (λj d ed=>(g2 j).1 d ed) λj d ed=>(g2 j).2 d ed
     exact q1 v H2 (a1.trans o1) (bp.back (o2 v r r2) a1)
 ·exact q.elim
theorem bM (F:bH X.prog X.w X.K X.mg X.base k x n G) (hK:cK G) (hr:cC k X.A) (hg:Gl X x) (ha:SX X c (e :: es) as) (hl:as.length=n) (gu:(x == ("__debug__" : Str))=false:=by decide)
  (he:Wb (e :: es) X.env=(false,eval e X.env) :: Wb es X.env:=by rfl) (dE:(Q9 pos (Wb es X.env)).any (·.1)=false:=by rfl):SE X c (.Call (.Name x pp) (e :: es) [] pos) (ar G as):=by
 obtain⟨f,fd,ps,hm,hk,hb,ok⟩:=F;exact PE.weak (AK ok hr hg hm hk hb .nil Bq ha gu he dE) λσ H Q h=>CS (ps:=ps) hK hl h
end
def bX(np:List Nat)(n:Nat)(b:DS):DF:=λss=>if cw np 0 ss then ef b n ss else none
theorem di(h:bX np n b ss=some y):cw np 0 ss=true/\ef b n ss=some y:=by
 unfold bX at h;split at h
 ·rename_i hi; exact⟨hi,h⟩
 ·cases h
theorem dq:cK (bX np n b):=LX λ_ _ h=>(di h).2
theorem cZ(r:cC k A):A.units + 64 < WO:=by have:=r.un; omega
theorem ly{c:Fc}{np cs:List Nat}(h:Np c np)(hc:cs.all (λi=>!np.contains i)=true):∀ p ∈ c.pin,p.1 ∉ cs:=λp hp z=>by
 have h1:=h p hp;have h2:=J8.mp hc p.1 z;rw[h1] at h2
 cases h2
def tm:List Str->Bool
 | []=>true
 | x :: r=>!r.contains x && tm r
theorem CT:∀ {l:List Str},tm l=true->l.Nodup
 | [],_=>.nil
 | x :: r,h=>by
  simp only[tm,Wk,Bool.not_eq_true'] at h;exact WP.mpr ⟨λhm=>by have:=h.1; simp at this; exact this hm,CT h.2⟩
def iE(names:List (Str×NameKind))(x:Str)(k:NameKind):Bool:=match names.lookup x with
 | some j=>j == k
 | none=>false
theorem wq(h:iE names x k=true):names.lookup x=some k:=by
 unfold iE at h;split at h
 ·rename_i j e; rw[e,JD h]
 ·cases h
def CU(names:List (Str×NameKind))(N:List Str)(sc:List (Str×NameKind))(cs:List Nat):Bool :=
 sc.all (λx=>!(x.2 == .local) || iE sc x.1 .local) && sc.all (λx=>!(x.2 == .free) || (iE names x.1 .cell || iE names x.1 .free)) && tm (sc.map (·.1)) &&
 (Wf N.length).all λi=>match N[i]? with
  | some x=>!(iE sc x .local || iE sc x .cell) || cs.contains i
  | none=>true
theorem CV(h:names.lookup x=some k):iE names x k=true:=by
 unfold iE; rw[h]; simp
theorem lA{X:Cx}{scope:Scope}{cs:List Nat}(hk:scope.kind = .function)(h:CU X.env.scope.names X.N scope.names cs=true):mj X scope cs:=by
 unfold CU at h;simp only[Wk] at h;obtain⟨⟨⟨h1,h2⟩,h3⟩,h4⟩:=h;refine⟨hk,λx hx hl=>?_,λx hx hf=>?_,CT h3,λi x hi hl=>?_⟩
 ·have:=J8.mp h1 x hx;rw[hl] at this;exact wq (by simpa using this)
 ·have:=J8.mp h2 x hx;rw[hf] at this;have:iE X.env.scope.names x.1 .cell=true\/iE X.env.scope.names x.1 .free=true:=by simpa using this
  exact this.elim (λz=>.inl (wq z)) λz=>.inr (wq z)
 ·have v3:i < X.N.length:=(Wd.mp hi).1;have:=J8.mp h4 i (WL.mpr v3);rw[hi] at this;have kU:(iE scope.names x .local || iE scope.names x .cell)=true:=by
   rcases hl with z | z
   ·rw[CV z]; rfl
   ·rw[CV z]; simp
  simp only[kU,Bool.not_true,Bool.false_or] at this;simpa using this
theorem LY {K:W1}:jj K "int":=⟨rfl,rfl,rfl,rfl,rfl,rfl,rfl⟩
theorem LZ {K:W1}:jj K "bool":=⟨rfl,rfl,rfl,rfl,rfl,rfl,rfl⟩
theorem L4 {K:W1}:jj K "str":=⟨rfl,rfl,rfl,rfl,rfl,rfl,rfl⟩
theorem L5 {K:W1}:jj K "tuple":=⟨rfl,rfl,rfl,rfl,rfl,rfl,rfl⟩
def lB:Expr->Bool
 | .Starred ..=>false
 | _=>true
theorem mM(h:lB e=true):Wb (e :: es) env=(false,eval e env) :: Wb es env:=by
 cases e <;> first | (cases h; done) | rw[Wb] | rfl
 all_goals (intros; contradiction)
section
variable {X:Cx} {c:Fc} {e:Expr} {es:List Expr} {f fe:DE} {g:DA} {as:List Ak}
theorem br(ha:SE X c e f)(hr:SA X c es g)(hs:lB e=true:=by rfl):SA X c (e :: es) (aF f g):=B9 ha hr (mM hs)
theorem aP(ha:SE X c e fe)(hr:SX X c es as)(hs:lB e=true:=by rfl):SX X c (e :: es) (.val fe :: as):=LO ha hr (mM hs)
theorem dj{i:Nat}(ha:PE X e (dW i))(hr:SX X c es as)(hs:lB e=true:=by rfl):SX X c (e :: es) (.io i :: as):=LP ha hr (mM hs)
end
mutual
def jn:Nat->Expr->Option D
 | _,.Constant (.int i) _ _=>some (.int i)
 | _,.Constant (.bool b) _ _=>some (.bl b)
 | _,.Constant .none _ _=>some .ax
 | _,.Constant (.str x) _ _=>some (.str x.cps.toList)
 | n + 1,.Tuple es _ _=>if es.length<=1000 then(mN n es).map .tup else none
 | _,_=>none
def mN:Nat->List Expr->Option (List D)
 | _,[]=>some []
 | n,e :: es=>match jn n e,mN n es with
  | some d,some ds=>some (d :: ds)
  | _,_=>none
end
theorem L7:∀ {n:Nat} {e:Expr} {d:D},jn n e=some d->lB e=true:=λ{n e d} h=>by
 cases e <;> first | rfl | (cases n <;> simp[jn] at h)
mutual
theorem CW:∀ {n:Nat} {e:Expr} {d:D},jn n e=some d->SE X c e (eD d)
 | _,.Constant (.int i) _ _,d,h=>by
  simp only[jn,W7] at h; subst h; exact aG
 | _,.Constant (.bool b) _ _,d,h=>by
  simp only[jn,W7] at h; subst h; exact eS
 | _,.Constant .none _ _,d,h=>by
  simp only[jn,W7] at h; subst h; exact jL
 | _,.Constant (.str x) _ _,d,h=>by
  simp only[jn,W7] at h; subst h; exact nX _ (vq x)
 | 0,.Tuple es k pos,d,h=>by simp[jn] at h
 | n + 1,.Tuple es k pos,d,h=>by
  simp only[jn] at h;split at h
  ·rename_i hl
   cases e:mN n es with
   | none=>rw[e] at h; cases h
   | some ds =>
    rw[e] at h;simp only[WI,W7] at h;subst h;exact fY (wt e) hl
  ·cases h
theorem wt:∀ {n:Nat} {es:List Expr} {ds:List D},mN n es=some ds->SA X c es (λδ=>.ok ds δ)
 | _,[],ds,h=>by
  simp only[mN,W7] at h; subst h; exact cW
 | n,e :: es,ds,h=>by
  simp only[mN] at h;split at h
  ·rename_i d cM h1 h2
   cases h;exact B9 (CW h1) (wt h2) (mM (L7 h1))
  ·cases h
end
def wu(ds:List D):DE:=λδ=>.ok (.own (.lst ds)) δ
theorem L8{X:Cx}{c:Fc}{e:Expr}{d:D}(h:jn 9 e=some d):SE X c e (eD d):=CW h
theorem L9{X:Cx}{c:Fc}{es:List Expr}{ds:List D}{pos:Pos}(h:mN 9 es=some ds)(hl:es.length<=1000):SE X c (.List es pos) (wu ds):=iA (wt h) hl
section
variable {X:Cx} {c:Fc} {e:Expr} {fe:DE} {pos:Pos} {tg:Expr}
theorem L_(he:SE X c e fe)(hs:QZ e none pos.line X.env=pure false:=by rfl):SS X c (.Expr e pos) (og fe) :=
 Ls he (λ_=>hs) trivial (uB he hs)
theorem tu{i:Nat}{o:Expr}{apos bE:Pos}(ho:PE X o (dW i))(he:SE X c e fe)
  (l8:Jg o "append" X.env (eval o X.env)=eval o X.env:=by rfl)
  (l9:((Q9 bE (Wb [e] X.env)).all (λx=>!x.1) && (backToKw bE (Jm [] X.env)).all (λx=>x.1.isSome)
   && decide ([e].length + ([]:List Keyword).length + (if ([]:List Keyword).isEmpty then 0 else 1) < 30))=true:=by rfl)
  (gK:(apos.endLine == bE.line)=true:=by rfl) (hs:Wb [e] X.env=(false,eval e X.env) :: Wb [] X.env:=by rfl)
  (mn:QZ (.Call (.Attribute o "append" apos) [e] [] bE) none pos.line X.env=pure false:=by rfl):SS X c (.Expr (.Call (.Attribute o "append" apos) [e] [] bE) pos) (fB i fe) :=
 Lu (p0:=apos) ho he (uB (uV PySem.F.plainAttrs_list PySem.F.slot_list_append PySem.F.type_list_append Bh ho (fJ he gI hs) l8 l9 gK hs rfl) mn)
end
def wx(K:W1):Bool:=K.all λp=>match p.2.cls with
 | .type t=>!(t == "list")
 | _=>true
theorem CY[BEq α][LawfulBEq α]:∀ {K:List (α×β)} {a:α} {o:β},K.lookup a=some o->(a,o) ∈ K
 | [],a,o,e=>by simp at e
 | (b,o') :: r,a,o,e=>by
  rw[Qb] at e
  cases hb:a == b with
  | true =>
   rw[hb] at e;have h1:o'=o:=Wy e;have h2:a=b:=JD hb;rw[h1,h2];exact Wl
  | false =>
   rw[hb] at e;exact Wh _ (CY e)
theorem Ma {K:W1} {a:Addr} {o:Obj} (h:wx K=true) (e:K.lookup a=some o) (hc:o.cls = .type "list"):False:=by
 have hm:(a,o) ∈ (K:List (Addr×Obj)):=CY e;have h1:=J8.mp h (a,o) hm;have h2:(match o.cls with | .type t=>!(t == "list") | _=>true)=true:=h1;rw[hc] at h2;have h3:(!(("list" : String) == "list"))=true:=h2;rw[beq_self_eq_true] at h3
 cases h3
end DV
set_option maxHeartbeats 400000
namespace L2
open PySem PySem.Spec PyProof.Rows
def wz(x:Str):It:=⟨λi _=>i < x.cps.size,λi H y H'=>H'=H/\∃ c,x.cps[i]? = some c/\y = .str ⟨#[c]⟩,λi _=>i=x.cps.size⟩
theorem Mb {P:Wj} {w:Wp} {K:W1} {tg:Expr} (x:Str) (t:Tok) (it:Addr) (T:String) (hT:T = "str_ascii_iterator"\/T = "str_iterator"):Turn P w K tg (wz x) [it] it (λi h=>h.IsStrIter it T x t i):=by
 have W:∀ A:Wq,A.handled=none->Walks P w A it [it] [it] x.cps.size (SignAt x) (λi h=>h.IsStrIter it T x t i):=λA hh=>by
  rcases hT with rfl | rfl
  ·exact Walks.strAscii hh it x t
  ·exact Walks.strWide hh it x t
 refine⟨by simp,λi h st b hb=>?_,λi h h' st k=>?_,?_,?_,λA i s Q E st h=>?_⟩
 ·have e:b=it:=by simpa using hb
  subst e;obtain⟨o,e,c,d⟩:=st;exact⟨o,e,λv z=>by rw[d] at z; cases z⟩
 ·obtain⟨o,e,r⟩:=st;exact⟨o,k it (by simp) o e,r⟩
 ·intro X hP hw hK hc i pins s σ H E I hf st hg;subst hP hw hK;obtain⟨f0,f1,f2,f3,f4,f5⟩:=hf it (by simp);refine(W X.A (I.ok.hd hc)).item i s _ _ hg st λv h' tk hv eQ kk=>?_
  obtain⟨c,u,hx,rfl⟩:=hv;have I1:Inv X pins σ H { s with heap:=h',toks:=tk }:=I.turned (λb o hb e=>kk b o (by simpa using hb) e) f0 f1 f3 f4 f5;obtain⟨o,e,c',d⟩:=id eQ;refine⟨_,rfl,rH (s:={ s with heap:=h',toks:=tk }) e c' d (by rcases hT with rfl | rfl <;> decide) ⟨.str ⟨#[c]⟩,H,I1,⟨u,rfl⟩,⟨rfl,c,hx,rfl⟩,eQ,λb hb=>(hf b hb).1⟩⟩
 ·intro X hP hw hK hc i pins s σ H E I hf st hg;subst hP hw hK;have nS:i=x.cps.size:=hg;subst nS;obtain⟨f0,f1,f2,f3,f4,f5⟩:=hf it (by simp);exact(W X.A (I.ok.hd hc)).done s _ _ st λh' tk eb=>⟨rfl,I.turned (λb o hb e=>eb b o (by simpa using hb) e) f0 f1 f3 f4 f5⟩
 ·rcases hT with rfl | rfl
  ·exact wpAny_pyIter_striter_ascii st h
  ·exact wpAny_pyIter_striter_wide st h
end L2
namespace DV
open PySem PySem.Spec PyProof.Rows L2
section
variable {X:Cx} {c:Fc} {tg e:Expr} {fe:DE} {pos pp:Pos}
def Mc(K:W1)(tl:TE):TI:=λσ H R=>tl σ H λx H1=>(∃ a,x = .ref a/\(∃ xs,cj K H1 a xs)/\R (uE K a) H1)\/(∃ a,x = .ref a/\(∃ xs,cq K H1 a xs)/\R (rJ K a) H1)\/∃ z,x = .str z/\R (wz z) H1
theorem Md{l:Expr}{tl:TE}(hl:PE X l tl):PI X tg l (Mc X.K tl):=by
 intro pins s σ H R I h;refine aQ (hl pins s σ H _ I h) λv s1 ⟨x,H1,I1,r1,q1⟩=>?_
 rcases q1 with q1 | q1 | ⟨z,e,q⟩
 ·obtain⟨a,e,⟨xs,hq⟩,q⟩:=q1;subst e
  cases r1;obtain⟨ae,rv,p,hz⟩:=I1.list hq;refine wpAny_pyIter_list p.isList ?_;refine⟨s1.heap.objs.size,[s1.heap.objs.size],_,_,H1,rfl,I1.kept (t':=s1.toks) λb o e=>W4 _ e,G_ a _,⟨_,Wm _ rfl,rfl,rfl⟩,λb hb=>?_,q⟩;have e:b=s1.heap.objs.size:=by simpa using hb
  subst e;exact I1.j7 (W8 _) (I1.aD.fresh (W8 _))
 ·obtain⟨a,e,⟨xs,hq⟩,q⟩:=q1;subst e
  cases r1;obtain⟨ae,rv,p,hz⟩:=I1.tuple hq;refine Jl (show s1.heap.IsTuple a ae.toArray from p) ?_;refine⟨s1.heap.objs.size,[s1.heap.objs.size],_,_,H1,rfl,I1.kept (t':=s1.toks) λb o e=>W4 _ e,Hb a _,⟨_,Wm _ rfl,rfl,rfl⟩,λb hb=>?_,q⟩;have e:b=s1.heap.objs.size:=by simpa using hb
  subst e;exact I1.j7 (W8 _) (I1.aD.fresh (W8 _))
 ·subst e;obtain⟨t,rfl⟩:=r1;refine wpAny_pyIter_strU ?_;have hT:strIterType z = "str_ascii_iterator"\/strIterType z = "str_iterator":=by
   unfold strIterType;split
   ·exact .inl rfl
   ·exact .inr rfl
  refine⟨s1.heap.objs.size,[s1.heap.objs.size],_,_,H1,rfl,I1.kept (t':=s1.toks) λb o e=>W4 _ e,Mb z t _ _ hT,⟨_,Wm _ rfl,rfl,rfl⟩,λb hb=>?_,q⟩;have e:b=s1.heap.objs.size:=by simpa using hb
  subst e;exact I1.j7 (W8 _) (I1.aD.fresh (W8 _))
theorem Me(z:Tx):oi c σ δ H (wz (toS z)) (z.map λn=>D.str [n]):=by
 intro H2 kp;have hsz:(toS z).cps.size=z.length:=by simp[toS]
 refine⟨by show(z.map _).length=_; rw[hsz]; simp,λi d e=>?_⟩;rw[Wv] at e
 cases ez:z[i]? with
 | none=>rw[ez] at e; cases e
 | some n =>
  rw[ez] at e
  cases e;have hi:i < z.length:=(Wd.mp ez).1;refine⟨by show i < _; rw[hsz]; exact hi,λx H3 ⟨e3,cc,hc,hx⟩=>.inl ⟨e3,?_⟩⟩;have:(toS z).cps[i]? = z[i]?:=by simp[toS]
  rw[this,ez] at hc
  cases hc;rw[hx];exact .str [n]
def cp(f:DE):DI:=λδ=>(f δ).bind λr δ1=>match r.d with
 | .lst ds=>.ok ds δ1
 | .tup ds=>.ok ds δ1
 | .str x=>.ok (x.map λn=>.str [n]) δ1
 | _=>.stuck
theorem iF(he:SE X c e fe):SI X c tg e (cp fe):=PI.weak (Md he) λσ H R ⟨δ,k,q⟩=>by
 unfold cp at q;rw[bw] at q;refine⟨δ,k,aW q λr δ1 q1 v H1 a1 r1=>?_⟩;have rr:=r1.rep;generalize r.d=d at q1 rr
 cases d <;> first | exact q1.elim | skip
 ·cases rr;exact .inr (.inr ⟨_,rfl,q1 _ H1 a1 (Me _)⟩)
 ·cases rr with
  | tup h1 h2 h3 h4=>exact .inr (.inl ⟨_,rfl,⟨_,.of h2⟩,q1 _ H1 a1 (Lv _ h2 (λz=>h1 (.inr z)) ⟨h3,h4⟩)⟩)
 ·cases rr with
  | lst h1 h2 h3 h4 =>
   refine .inl ⟨_,rfl,⟨_,.inl h2⟩,q1 _ H1 a1 ?_⟩;intro H2 kp;rename_i a vs;have h5:Rd H2 a (.lst vs):=Rd.keep h2 λo e=>kp a o e λz=>h1 (.inr z)
   have r':aI H1 (Av c σ δ1) vs _:=⟨h3,h4⟩
   refine⟨⟨vs,.inl h5,by rw[r'.1]; exact W8 _⟩,λi d e=>?_⟩;obtain⟨v,ev,rv⟩:=r'.get e;refine⟨⟨vs,v,.inl h5,ev⟩,λx H3 ⟨e3,y⟩=>.inl ⟨e3,?_⟩⟩;have:=y vs (.inl h5);rw[ev] at this
   cases this;exact rv
end
end DV
namespace L2
open PySem PySem.Spec PyProof.Rows
theorem Mf(a:Int)(t:Tok)(l:Addr)(dd:Option Addr)(items:Array Value)(n:Nat)(sl:Array (Option Value)) :
  Meets (Builtin.«int.__rmul__» ⟨[.int a t,.ref l],[]⟩) (λ_ R s=>s.heap.get? l=some { cls:=.type "tuple",dict:=dd,data:=.seq items n,slots:=sl }/\R (.ok (.ret Value.notImplemented)) s) :=
 .of_wp λprog w A R s h=>by obtain⟨hp,g,d,tk,os⟩:=s; obtain⟨hl,h⟩:=h; wp_walk; exact⟨_,rfl,h⟩
theorem Mg:fillsNumberSlot (.type "tuple") "mul" = pure false :=
 PySem.fillsNumberSlot_seq (id:="tuple.__mul__") (r:=some (.builtin "tuple.__rmul__")) F.slot_tuple_mul.lookup (by decide +kernel) F.slot_tuple_rmul.lookup (by decide +kernel)
theorem Mh:seqRepeat? (.type "tuple")=pure (some (.builtin "tuple.__mul__")):=by
 unfold seqRepeat?;rw[PySem.seqSlot_of (T:="tuple") (name:="__mul__") (id:="tuple.__mul__") F.slot_tuple_mul.lookup (by decide +kernel),PySem.seqSlot_of (T:="tuple") (name:="__rmul__") (id:="tuple.__rmul__") F.slot_tuple_rmul.lookup (by decide +kernel)];rfl
theorem Mi(l:Addr)(dd:Option Addr)(items:Array Value)(n:Nat)(sl:Array (Option Value))(x:Int)(u:Tok)(h1:¬ (decide (x < -(2 ^ 63)) || decide (x ≥ 2 ^ 63))=true)(h2:¬ (items.isEmpty || x == 1)=true)(h3:¬ (decide (x<=0) || items.isEmpty)=true)(h4:¬ items.size * x > (2 ^ 63 - 1) / 8)(h5:¬ Builtin.Tuple.tupleTooMany (items.size * x)=true)(h6:((Wg x.toNat items).foldl (· ++ ·) #[]).size<=W6) :
  Meets (Builtin.«tuple.__mul__» ⟨[.ref l,.int x u],[]⟩) (λ_ R s=>s.heap.get? l=some { cls:=.type "tuple",dict:=dd,data:=.seq items n,slots:=sl } /\
   R (.ok (.ret (.ref s.heap.objs.size))) { s with heap:=s.heap.push { cls:=.type "tuple",data:=.seq ((Wg x.toNat items).foldl (· ++ ·) #[]) } }) :=
 .of_wp λprog w A R s h=>by
  obtain⟨hp,g,d,tk,os⟩:=s; obtain⟨hl,h⟩:=h
  wp_walk
  rw[if_neg h1];wp_walk
  try rw[if_neg h2]
  try wp_walk
  try rw[if_neg h3]
  try wp_walk
  try rw[if_neg h4]
  try wp_walk
  try rw[if_neg h5]
  try wp_walk
  exact⟨_,rfl,h⟩
theorem wA(ae:List α):∀ (k:Nat) (acc:List α),List.foldl (λx1 x2:Array α=>x1 ++ x2) acc.toArray (Wg k ae.toArray)=(acc ++ (Wg k ae).flatten).toArray
 | 0,acc=>by simp
 | k + 1,acc=>by
  rw[Q6,QO,show acc.toArray ++ ae.toArray=(acc ++ ae).toArray by simp,wA ae k];simp[Q6]
section
variable {X:Cx}
def CZ(K:W1):R2:=λx y H Q=>∃ l k xs,x = .ref l/\y = .int k/\cq K H l xs/\xs≠[]/\2<=k/\k<=1000000/\xs.length * k.toNat<=W6/\∀ p,H p=none->Q (.ref p) (upd H p (.tup (Wg k.toNat xs).flatten))
theorem Mj:bz X (Qi .Mult) (CZ X.K):=by
 intro pins s σ H x y v u Q I rx ry h;obtain⟨l,k,xs,rfl,rfl,hH,fM,h1,h2,hz,q⟩:=h
 cases rx;obtain⟨t,rfl⟩:=ry;obtain⟨ae,r,pl,hl⟩:=I.tuple hH;obtain⟨⟨cls,dd,data,sl⟩,ho,hc,n,hd⟩:=id pl;simp only at hc hd;subst hc hd;have hlen:ae.toArray.size=xs.length:=by rw[Wo]; exact r.length.symm
 have C0:ae.toArray.isEmpty=false:=by
  cases ae with
  | nil=>exact absurd (r.rP.mp rfl) fM
  | cons a b=>rfl
 have gK:W6=16777216:=rfl;have hk:(k.toNat:Int)=k:=by omega
 have hmul:((ae.toArray.size:Nat):Int) * k=((xs.length * k.toNat:Nat):Int):=by rw[hlen,JA,hk]
 have C1:List.foldl (λx1 x2=>x1 ++ x2) #[] (Wg k.toNat ae.toArray)=(Wg k.toNat ae).flatten.toArray:=by
  have:=Be ae k.toNat [];rw[QA] at this;exact this
 refine wpAny_binaryOp_repeat_ref (T:="tuple") (U:="int") (by decide) ⟨_,ho,rfl⟩ (λs'=>JJ s' k t) Mg F.fills_int_mul F.slot_int_rmul Mh F.slot_int_index.lookup
  (Jv F.slot_int_rmul (JJ s k t) F.entry_int_rmul (F.args_int_rmul_2 _ _) (Mf k t l dd ae.toArray n sl)
   ⟨ho,rfl,⟨_,ho,rfl⟩,Jv F.slot_tuple_mul ⟨_,ho,rfl⟩ F.entry_tuple_mul (F.args_tuple_mul_2 _ _) (Mi l dd ae.toArray n sl k t ?_ ?_ ?_ ?_ ?_ ?_) ⟨ho,?_⟩⟩)
 ·simp; omega
 ·rw[C0]; simp; omega
 ·rw[C0]; simp; omega
 ·rw[hmul]; omega
 ·rw[hmul];unfold Builtin.Tuple.tupleTooMany;rw[gK] at hz;generalize xs.length * k.toNat=m at hz;simp only[gK,decide_eq_true_eq];omega
 ·rw[C1,Wo,uX,<- r.length,J9]; exact hz
 ·rw[C1];have I1:Inv X pins σ (upd H s.heap.objs.size (.tup (Wg k.toNat xs).flatten)) { s with heap:=s.heap.push { cls:=.type "tuple",data:=.seq (Wg k.toNat ae).flatten.toArray } } :=
   I.laid (t':=s.toks) (λb o e=>W4 _ e) (W8 _) (show bZ X.prog X.w _ _ _ (.tup (Wg k.toNat xs).flatten) from⟨by rw[uX,J9]; exact hz,(Wg k.toNat ae).flatten,r.rep k.toNat,hU.new _ _⟩)
  exact⟨.ref _,_,I1,rfl,q _ (I.aD.fresh (W8 _))⟩
def C2:R2:=λx y H Q=>∃ z k,x = .str z/\y = .int k/\2<=k/\k<=1000000/\0 < z.length/\z.length * k.toNat<=W6/\Q (.str ⟨(Wg k.toNat z.cps).foldl (· ++ ·) #[]⟩) H
theorem Mk:bz X (Qi .Mult) C2:=by
 intro pins s σ H x y v u Q I rx ry h;obtain⟨z,k,rfl,rfl,h1,h2,h0,hz,q⟩:=h;obtain⟨t,rfl⟩:=rx;obtain⟨t',rfl⟩:=ry;have gK:W6=16777216:=rfl;have c1:¬ k < 1:=by omega
 have c2:(k == 1 || z.length == 0)=false:=by
  simp;omega
 refine PySem.P.mul_str (by simp; omega) (λ_ _=>?_) (λ_ _=>?_) ?_
 ·have hm:(z.length:Int) * k<=16777216:=by
   have:(z.length:Int) * k=((z.length * k.toNat:Nat):Int):=by rw[JA,show(k.toNat:Int)=k by omega]
   rw[this];rw[gK] at hz;omega
  have:(z.length:Int)<=(2 ^ 63 - 1) / k:=(Int.le_ediv_iff_mul_le (by omega)).mpr (by omega);omega
 ·unfold Builtin.Str.tooLong;rw[gK] at hz;generalize z.length * k.toNat=m at hz;simp only[gK,decide_eq_false_iff_not];omega
 ·rw[if_neg c1,if_neg (by rw[c2]; simp)];have hsz:((Wg k.toNat z.cps).foldl (· ++ ·) #[]).size=k.toNat * z.length:=by
   have h:=wA z.cps.toList k.toNat [];simp only[QA,Array.toArray_toList] at h;rw[h,Wo,uX];simp[Str.length]
  exact⟨by show((Wg k.toNat z.cps).foldl (· ++ ·) #[]).size<=_; rw[hsz,J9]; exact hz,.str _,H,I.tok _,⟨_,rfl⟩,q⟩
theorem C3:∀ {xs:List Nat} {us:List Value},us.length=xs.length->(∀ (j n:Nat) (v:Value),xs[j]? = some n->us[j]? = some v->∃ w,v = .str ⟨#[n]⟩ w)->Vals (xs.map λn=>V.str ⟨#[n]⟩) us
 | [],[],_,_=>.nil
 | [],u :: us,h,_=>by simp at h
 | x :: xs,[],h,_=>by simp at h
 | x :: xs,u :: us,h,k=>.cons (by obtain⟨w,e⟩:=k 0 x u rfl rfl; exact⟨w,e⟩) (C3 (by simpa using h) λj n v h1 h2=>k (j + 1) n v (by simpa using h1) (by simpa using h2))
theorem Ml (hc:X.calm=true):dM X (.type "list") (λxs H Q=>∃ z:Str,xs=[.str z]/\z.cps.size<=W6/\∀ l,H l=none->Q (.ref l) (upd H l (.lst (z.cps.toList.map λn=>V.str ⟨#[n]⟩)))):=by
 intro pins s σ H xs us Q I r h;obtain⟨z,rfl,hz,q⟩:=h;obtain⟨u,rfl,t,rfl⟩:=fW r;refine call_list_str (hn:=hz) (I.ok.hd hc) z t λh' tk acc c' kp e qt=>?_
 have hv:Vals (z.cps.toList.map λn=>V.str ⟨#[n]⟩) acc.toList:=C3 (by simp[qt.1]) λj n v h1 h2=>by
  obtain⟨c,w,h3,h4⟩:=qt.2 j v (by simpa using h2);rw[show z.cps[j]? = some n by simpa using h1] at h3
  cases h3;exact⟨w,h4⟩
 exact⟨.ref s.heap.objs.size,_,I.laid (t':=tk) kp (W8 _) (show bZ X.prog X.w _ h' _ (.lst _) from⟨by simpa using hz,acc.toList,c',hv,by simpa using e⟩),rfl,q _ (I.aD.fresh (W8 _))⟩
end
end L2
namespace DV
open PySem PySem.Spec PyProof.Rows L2
def f_:D->D->Option S
 | .int i,.int j=>sH (.int i) (.int j)
 | .str x,.int k=>if 2<=k/\k<=1000000/\0 < x.length/\x.length * k.toNat<=W6 then some (.pure (.str (Wg k.toNat x).flatten)) else none
 | .tup xs,.int k=>if 2<=k/\k<=1000000/\0 < xs.length/\xs.length * k.toNat<=W6 then some (.pure (.tup (Wg k.toNat xs).flatten)) else none
 | _,_=>none
def C4(K:W1):R2:=λx y H Q=>rI pF (λi j=>V.int (i * j)) x y H Q\/C2 x y H Q\/CZ K x y H Q
theorem qu:bz X (Qi .Mult) (C4 X.K):=Hl.or (Mk.or Mj)
theorem aI.rep(h:aI H O vs ds):∀ k:Nat,aI H O (Wg k vs).flatten (Wg k ds).flatten
 | 0=>.nil
 | k + 1=>by rw[Q6,Q6,QC,QC]; exact h.append (aI.rep h k)
theorem qv{K:W1}:cu (C4 K) f_:=by
 intro c σ δ H x y d e s Q k rx ry hp q
 cases d <;> cases e <;> first | (simp[f_] at hp; done) | skip
 ·exact .inl (K4 c σ δ H x y _ _ s Q k rx ry hp q)
 ·rename_i z n;simp only[f_] at hp;split at hp
  ·rename_i h
   cases hp;refine .inr (.inl ⟨toS z,n,rx.str,ry.int,h.1,h.2.1,by rw[jf]; exact h.2.2.1,by rw[jf]; exact h.2.2.2,?_⟩);have e:(⟨(Wg n.toNat (toS z).cps).foldl (· ++ ·) #[]⟩:Str)=toS (Wg n.toNat z).flatten:=by
    unfold toS;congr 1
    have:=wA z n.toNat [];rw[QA] at this;exact this
   rw[e];exact q _ H (.refl k) (.str _)
  ·cases hp
 ·rename_i ds n;simp only[f_] at hp;split at hp
  ·rename_i h
   cases hp;obtain⟨a,vs,ex,ha,r⟩:=rx.tup;refine .inr (.inr ⟨a,n,vs,ex,ry.int,.of ha,?_,h.1,h.2.1,by rw[r.1]; exact h.2.2.2,λp tw=>?_⟩)
   ·intro z;rw[z] at r;have:=r.1;simp at this;omega
   ·exact q _ _ (.alloc k tw _) (bp.mq k (aI.rep r _) tw)
  ·cases hp
theorem bp.newD(k:Ok c σ δ H)(hp:H p=none):bp c σ δ H (upd H p (.dK [])) (.ref p) (.own (.aM [])):=by
 refine⟨p,rfl,⟨[],dw,rfl,λi p q e=>by simp at e⟩,λz=>k.jJ hp (.inl z),k.nW hp,k.plus hp _,hp⟩
def mO:DE:=λδ=>.ok (.own (.aM [])) δ
theorem wC{X:Cx}{c:Fc}{pos:Pos}:SE X c (.Dict [] [] pos) mO:=PE.weak II λσ H Q ⟨δ,k,q⟩=>λp hp=>q _ _ (.alloc k hp _) (bp.newD k hp)
def ot:D->Option S
 | .lst ds=>some (.own (.lst ds))
 | .tup ds=>some (.own (.lst ds))
 | .str x=>if x.length<=W6 then some (.own (.lst (x.map λn=>.str [n]))) else none
 | _=>none
section
variable {X:Cx} {c:Fc} {e a x y:Expr} {fb:BE} {f g fa:DE} {pos pp p p2:Pos}
theorem C5:∀ z:Tx,aI H O (z.map λn=>V.str ⟨#[n]⟩) (z.map λn=>D.str [n])
 | []=>.nil
 | n :: r=>.cons (.str [n]) (C5 r)
theorem Mm (hc:X.calm=true) (hg:Gl X "list") (hm:X.mg "list" = none) (he:SB X c e fb) (hs:lB e=true:=by rfl):SE X c (.Call (.Name "list" pp) [e] [] pos) (aY ot fb) :=
 qf (r:=λv H Q=>(∃ p ys,v = .ref p/\(cj X.K H p ys\/cq X.K H p ys)/\∀ l,H l=none->Q (.ref l) (upd H l (.lst ys)))\/∃ z:Str,v = .str z/\z.cps.size<=W6/\∀ l,H l=none->Q (.ref l) (upd H l (.lst (z.cps.toList.map λn=>V.str ⟨#[n]⟩))))
  (Io.or (Ml hc)) (λv H Q h=>by
   rcases h with ⟨p,ys,e,h⟩ | ⟨z,e,h⟩
   ·exact .inl ⟨p,ys,by rw[e],h⟩
   ·exact .inr ⟨z,by rw[e],h⟩)
  (λc σ δ H x d s Q k rx hp q=>by
   cases d with
   | lst ds =>
    cases hp;obtain⟨a,vs,ex,ha,r⟩:=rx.lst;exact .inl ⟨a,vs,ex,.inl (.inl ha),λl hl=>q _ _ (.alloc k hl _) (bp.jK k r hl)⟩
   | tup ds =>
    cases hp;obtain⟨a,vs,ex,ha,r⟩:=rx.tup;exact .inl ⟨a,vs,ex,.inr (.of ha),λl hl=>q _ _ (.alloc k hl _) (bp.jK k r hl)⟩
   | str z =>
    simp only[ot] at hp;split at hp
    ·rename_i hz
     cases hp;refine .inr ⟨toS z,rx.str,by simpa[toS] using hz,λl hl=>?_⟩;have:(toS z).cps.toList=z:=by simp[toS]
     rw[this];exact q _ _ (.alloc k hl _) (bp.jK k (C5 z) hl)
    ·cases hp
   | _=>simp[ot] at hp) hg hm PyProof.Rows.boot_list he (by decide) (by decide) (mM hs)
def Mn(neg:Bool)(fa f g:DE):DE:=λδ=>(fa δ).bind λv δ1=>(f δ1).bind λlo δ2=>(g δ2).bind λhi δ3=>match v.d,lo.d,hi.d with
 | .int i,.int l,.int h=>.ok (.pure (.bl (if neg then !(decide (l<=i) && decide (i < h)) else(decide (l<=i) && decide (i < h))))) δ3
 | _,_,_=>.stuck
end
end DV
set_option maxHeartbeats 1000000
namespace L2
open PySem PySem.Spec PyProof.Rows
theorem C6:entryFor table "dict.update.loop" = some Builtin.«dict.update.loop»:=entryFor_of_tree (by kernel_rfl)
theorem qw:plainId "dict.update.loop" = true:=by decide +kernel
theorem Mo:typeLookup (.type "tuple") "keys" = pure none:=by rw[typeLookup_type,Js]; kernel_rfl
theorem Mp:typeLookup (.type "list") "keys" = pure none:=by rw[typeLookup_type,Js]; kernel_rfl
set_option maxRecDepth 8000 in
theorem Mq
  (hx:s.heap.get? a=some o) (hc:o.cls = .type "tuple") (qx:o.data = .seq xs k) (hd:o.dict=none) (hA:A.handled=none)
  (h:∀ h' tk,(∀ b ob,s.heap.get? b=some ob->h'.get? b=some ob)->Q none { s with heap:=h',toks:=tk }) :
  W5 (model prog w) A (getAttr? (.ref a) "keys") Q E s:=by
 obtain⟨c,aM,dat,sl⟩:=o;simp only at hc qx hd;subst hc qx hd;obtain⟨hp,g,d,tk,os⟩:=s;have hT:∀ mP,(⟨hp,g,d,mP,os⟩:W2).TypeIs (.ref a) "tuple":=λ_=>⟨_,hx,rfl⟩
 have f1:=sub_AttributeError;have f3:=F.slot_tuple_getattribute.lookup;have f4:=F.slot_tuple_getattribute.bind (.ref a);have f5:=am_tuple_getattr_none;have wD:=Mo;unfold getAttr? getAttrBy? getAttrBy;repeat (any_goals (first | assumption | exact hT _ | ((with_reducible show W5 _ _ (call (Value.builtin "tuple.__getattribute__") _ _) _ _ _); refine Jv F.slot_tuple_getattribute (hT _) am_entry_tuple_getattribute (F.args_tuple_getattribute_2 _ _) (meets_getattribute_miss_tuple a xs k sl "keys" _ wD (by decide +kernel)) ⟨hx,hA,λh' mP e j6=>?_⟩) | wp_step))
 obtain⟨t',u',he⟩:=j6.there;show W5 _ _ (JF _ _ _ _ _ _ _) _ _ _;unfold JF;repeat (any_goals (first | assumption | wp_step))
 exact h _ _ j6.keeps
set_option maxRecDepth 8000 in
theorem Mr
  (hx:s.heap.get? a=some o) (hc:o.cls = .type "list") (qx:o.data = .seq xs k) (hd:o.dict=none) (hA:A.handled=none)
  (h:∀ h' tk,(∀ b ob,s.heap.get? b=some ob->h'.get? b=some ob)->Q none { s with heap:=h',toks:=tk }) :
  W5 (model prog w) A (getAttr? (.ref a) "keys") Q E s:=by
 obtain⟨c,aM,dat,sl⟩:=o;simp only at hc qx hd;subst hc qx hd;obtain⟨hp,g,d,tk,os⟩:=s;have hT:∀ mP,(⟨hp,g,d,mP,os⟩:W2).TypeIs (.ref a) "list":=λ_=>⟨_,hx,rfl⟩
 have f1:=sub_AttributeError;have f3:=F.slot_list_getattribute.lookup;have f4:=F.slot_list_getattribute.bind (.ref a);have f5:=am_list_getattr_none;have wD:=Mp;unfold getAttr? getAttrBy? getAttrBy;repeat (any_goals (first | assumption | exact hT _ | ((with_reducible show W5 _ _ (call (Value.builtin "list.__getattribute__") _ _) _ _ _); refine Jv F.slot_list_getattribute (hT _) am_entry_list_getattribute (F.args_list_getattribute_2 _ _) (meets_getattribute_miss_list a xs k sl "keys" _ wD (by decide +kernel)) ⟨hx,hA,λh' mP e j6=>?_⟩) | wp_step))
 obtain⟨t',u',he⟩:=j6.there;show W5 _ _ (JF _ _ _ _ _ _ _) _ _ _;unfold JF;repeat (any_goals (first | assumption | wp_step))
 exact h _ _ j6.keeps
def fQ(kps:List (Key×V))(acc:List (Key×V)):List (Key×V):=kps.foldl (λa kv=>putK a kv.1 kv.2) acc
theorem Ms{prog:Wj}{w:Wp}{A:Wq}{R:Result->W2->Prop}{s:W2}{dl it:Addr}{i:Int}{t0:Tok}
  (hn:W5 (model prog w) A.in1 (Qp (.ref it)) (λr s1=>∃ (q:Addr) (k v:Value) (n:Nat),r=some (.ref q)/\s1.heap.get? q=some { cls:=.type "tuple",dict:=none,data:=.seq #[k,v] n,slots:=#[] } /\
   W5 (model prog w) A.in1 (dictSet dl k v) (λ_ s2=>Qe (model prog w) A (.builtin "dict.update.loop" ⟨[.ref dl,.ref it,Qy (i + 1),.none],[]⟩) R s2) (λ_ _=>False) s1) (λ_ _=>False) s) :
  Qe (model prog w) A (.builtin "dict.update.loop" ⟨[.ref dl,.ref it,.int i t0,.none],[]⟩) R s:=by
 refine Qm C6 ?_;rw[Around.under_plainId qw _];show W5 _ A.in1 (Qp (.ref it) >>= _) _ _ s;refine W0 (WE hn (λr s1 hr=>?_) λ_ _ z=>z.elim);obtain⟨q,k,v,n,rfl,hq,hd⟩:=hr;dsimp only;refine W0 ?_;try with_reducible refine WR ?_
 refine W0 (wpAny_tryCatch ?_);have hT:s1.TypeIs (.ref q) "tuple":=⟨_,hq,rfl⟩
 unfold Builtin.Dict.pairItems;refine W0 (QM hT ?_);rw[if_pos (by decide)];refine W0 ?_;unfold seqItems?;refine W0 (wpAny_load hq (W3 ?_));refine W3 ?_;show W5 _ A.in1 (holding [k,v] (dictSet dl k v)) _ _ s1;try with_reducible refine WR ?_
 refine WE hd (λ_ s2 h2=>?_) λ_ _ z=>z.elim
 exact W3 ⟨QD qw _,h2⟩
theorem Mt{prog:Wj}{w:Wp}{A:Wq}{R:Result->W2->Prop}{s:W2}{dl it:Addr}{i:Int}{t0:Tok}
  (hn:W5 (model prog w) A.in1 (Qp (.ref it)) (λr s1=>r=none/\R (.ok (.ret .none)) s1) (λ_ _=>False) s) :
  Qe (model prog w) A (.builtin "dict.update.loop" ⟨[.ref dl,.ref it,.int i t0,.none],[]⟩) R s:=by
 refine Qm C6 ?_;rw[Around.under_plainId qw _];show W5 _ A.in1 (Qp (.ref it) >>= _) _ _ s;refine W0 (WE hn (λr s1 hr=>?_) λ_ _ z=>z.elim);obtain⟨rfl,hd⟩:=hr;dsimp only;show W5 _ A.in1 (Builtin.Dict.addKeywords dl [] >>= _) _ _ s1;exact W0 (W3 (W3 hd))
section
variable {X:Cx} {pins:List (Addr×Obj)} {σ:St} {H:Hp}
theorem Rd.sub(h:Rd H a u)(k:∀ b o,H b=some o->H' b=some o):Rd H' a u:=by
 rcases h with h | ⟨o,h⟩
 ·exact .inl (k _ _ h)
 ·exact .inr ⟨o,k _ _ h⟩
def tE(H:Hp)(ys:List V)(kps:List (Key×V)):Prop:=ys.length=kps.length/\∀ (i:Nat) y kv,ys[i]? = some y->kps[i]? = some kv->∃ q,y = .ref q/\H q=some (.tup [kV kv.1,kv.2])
theorem C7:∀ (kps acc:List (Key×V)),(fQ kps acc).length<=acc.length + kps.length
 | [],acc=>W8 _
 | kv :: r,acc=>by
  have h1:=C7 r (putK acc kv.1 kv.2);have h2:=nM acc kv.1 kv.2;show(fQ r (putK acc kv.1 kv.2)).length<=_;simp only[WS];omega
theorem Mu(kps:List (Key×V))(kv:Key×V)(acc:List (Key×V)):fQ (kps ++ [kv]) acc=putK (fQ kps acc) kv.1 kv.2:=by
 unfold fQ;rw[List.foldl_append];rfl
theorem C8{A:Wq}{R:Result->W2->Prop}{dl it:Addr}{ys:List V}{kps:List (Key×V)}{tn:Nat->Heap->Prop}(hP:tE H ys kps)(jo:H dl=none)(hz:kps.length<=W6)
  (item:∀ (i:Nat) (y:V) (H':Hp) (s:W2) (Q:Option Value->W2->Prop),(∀ b o,H b=some o->H' b=some o)->H' it=none->Inv X pins σ H' s->tn i s.heap->ys[i]? = some y->(∀ u s',RelV y u->Inv X pins σ H' s'->tn (i + 1) s'.heap->Q (some u) s')->W5 (model X.prog X.w) A.in1 (Qp (.ref it)) Q (λ_ _=>False) s)
  (done:∀ (H':Hp) (s:W2) (Q:Option Value->W2->Prop),(∀ b o,H b=some o->H' b=some o)->H' it=none->Inv X pins σ H' s->tn ys.length s.heap->(∀ s',Inv X pins σ H' s'->Q none s')->W5 (model X.prog X.w) A.in1 (Qp (.ref it)) Q (λ_ _=>False) s)
  (keep:∀ (i:Nat) (h h':Heap),tn i h->(∀ o,h.get? it=some o->h'.get? it=some o)->tn i h') (hit:H it=none) (fM:it≠dl) (hR:∀ s',Inv X pins σ (upd H dl (.dK (fQ kps []))) s'->R (.ok (.ret .none)) s') :
  ∀ (k i:Nat) (s:W2) (j:Int) (t0:Tok),ys.length - i=k->i<=ys.length->Inv X pins σ (upd H dl (.dK (fQ (kps.take i) []))) s->tn i s.heap ->
   Qe (model X.prog X.w) A (.builtin "dict.update.loop" ⟨[.ref dl,.ref it,.int j t0,.none],[]⟩) R s:=by
 have up:∀ (acc:List (Key×V)) b o,H b=some o->upd H dl (.dK acc) b=some o:=λacc b o e=>by rw[bq (fT e jo)]; exact e
 have kT:∀ acc:List (Key×V),upd H dl (.dK acc) it=none:=λacc=>by rw[bq fM]; exact hit
 intro k;induction k with
 | zero =>
  intro i s j t0 hk hi I st;have e:i=ys.length:=by omega
  subst e;rw[hP.1,List.take_of_length_le (W8 _)] at I;refine Mt (done _ s _ (up _) (kT _) I st λs' I'=>⟨rfl,hR s' I'⟩)
 | succ k ih =>
  intro i s j t0 hk hi I st;have bx:i < ys.length:=by omega
  have kB:i < kps.length:=by rw[<- hP.1]; exact bx
  obtain⟨q,ey,hq⟩:=hP.2 i ys[i] kps[i] (by simp[bx]) (by simp[kB]);-- the item is a tuple of two
  have main:∀ s1,Inv X pins σ (upd H dl (.dK (fQ (kps.take i) []))) s1->tn (i + 1) s1.heap->∃ (kk vv:Value) (n:Nat),s1.heap.get? q=some { cls:=.type "tuple",dict:=none,data:=.seq #[kk,vv] n,slots:=#[] }/\RelV (kV kps[i].1) kk/\RelV kps[i].2 vv:=λs1 I1 _=>by
   obtain⟨_,ae,r,n,e⟩:=(show bZ X.prog X.w _ s1.heap q (.tup [kV kps[i].1,kps[i].2]) from I1.aD q _ (up _ q _ hq))
   obtain⟨u,v,rfl,r1,r2⟩:=Vals.two r;exact⟨u,v,n,e,r1,r2⟩
  refine Ms (item i ys[i] _ s _ (up _) (kT _) I st (by simp[bx]) λu s' ru I' eQ=>?_);rw[ey] at ru
  cases ru;obtain⟨kk,vv,n,e,r1,r2⟩:=main s' I' eQ;refine⟨q,kk,vv,n,rfl,e,?_⟩;obtain⟨z,hd,vs,rel,dd⟩:=nN I'.aD dw;have mK:vs.length<=W6:=by rw[<- rel.length]; exact z
  have hl:(putK (fQ (kps.take i) []) kps[i].1 kps[i].2).length<=W6:=by
   have h1:=nM (fQ (kps.take i) []) kps[i].1 kps[i].2;have h2:=C7 (kps.take i) [];simp at h2;omega
  refine wpAny_dictSet_pairs (hsz:=mK) (kb r1) dd λh' ig hs=>?_
  have he:∃ q,h'.get? dl=some q:=let ⟨q,_,_,hq,_⟩:=ig; ⟨q,hq⟩
  have I2:=pL (t':=s'.toks + 1) I' (by rw[dw]; exact True.intro) hs he (rX hl hd (rel.put kps[i].1 r2) ig);rw[Gk] at I2;have et:kps.take (i + 1)=kps.take i ++ [kps[i]]:=by rw[List.take_add_one]; simp[kB]
  rw[show putK (fQ (kps.take i) []) kps[i].1 kps[i].2=fQ (kps.take (i + 1)) [] by rw[et,Mu]] at I2;exact ih (i + 1) _ (j + 1) _ (by omega) bx I2 (keep (i + 1) _ _ eQ λo eo=>(hs.2 it fM).trans eo)
theorem Mv (hc:X.calm=true):dM X (.type "dict") (λxs H Q=>∃ p ys kps,xs=[.ref p]/\(H p=some (.tup ys)\/Rd H p (.lst ys))/\tE H ys kps/\kps.length<=W6/\∀ l,H l=none->Q (.ref l) (upd H l (.dK (fQ kps [])))):=by
 intro pins s σ H xs us Q I r h;obtain⟨p,ys,kps,rfl,hp,hP,hz,q⟩:=h;obtain⟨u,rfl,rx⟩:=fW r
 cases rx;have hA:X.A.handled=none:=I.ok.hd hc;refine callType_codes (Q₁:=λobj s₁=>obj = .ref s.heap.objs.size/\s₁ = { s with heap:=s.heap.push { cls:=.type "dict",data:=.dict #[] } }) F.kt_called_dict (F.kt_typeCall_dict_1 _) F.entry_dict_init (kt_code_dict_new _ ⟨rfl,rfl⟩) ?_;rintro obj s₁ ⟨rfl,rfl⟩;have jo:H s.heap.objs.size=none:=I.aD.fresh (W8 _);have I1:Inv X pins σ (upd H s.heap.objs.size (.dK [])) { s with heap:=s.heap.push { cls:=.type "dict",data:=.dict #[] } }:=I.laid (t':=s.toks) (λ_ _ q=>W4 _ q) (W8 _) (u0 s.heap I.big);generalize hdd:s.heap.objs.size=dl at jo I1;have up:∀ (acc:List (Key×V)) b o,H b=some o->upd H dl (.dK acc) b=some o:=λacc b o e=>by rw[bq (fT e jo)]; exact e
 have C9:({ s with heap:=s.heap.push { cls:=.type "dict",data:=.dict #[] } }:W2).TypeIs (.ref dl) "dict":=⟨_,by rw[<- hdd]; exact Wm _ rfl,rfl⟩
 refine⟨C9,F.args_dict_init_2 _ _,?_⟩;unfold Builtin.«dict.__init__»;refine W0 ?_;unfold Builtin.Dict.selfAndRest;refine W0 (wpAny_notOrdered_dict C9 ?_);show W5 _ _ (pure (dl,[Value.ref p])) _ _ _;refine W3 ?_;show W5 _ _ (Builtin.Dict.updateFrom "dict.__init__" dl (.ref p) [] .none) _ _ _;unfold Builtin.Dict.updateFrom;have fin:∀ s',Inv X pins σ (upd H dl (.dK (fQ kps []))) s'->EP X pins σ Q (.ref dl) s':=λs' I'=>⟨.ref dl,_,I',rfl,q dl jo⟩
 rcases hp with hp | hp
 ·obtain⟨_,ae,r,n,e⟩:=(show bZ X.prog X.w _ (s.heap.push { cls:=.type "dict",data:=.dict #[] }) p (.tup ys) from I1.aD p _ (up _ p _ hp))
  refine W0 (QM ⟨_,e,rfl⟩ ?_);rw[if_pos (by decide)];refine W0 (Mq e rfl rfl rfl hA λh' tk kp=>?_);rw[if_pos (show(none:Option Value).isNone=true from rfl)];refine W0 (Qv ?_);have I2:Inv X pins σ (upd H dl (.dK [])) { s with heap:=h',toks:=tk }:=I1.kept kp;have ei:h'.IsTuple p ae.toArray:=⟨_,kp _ _ e,rfl,n,rfl⟩
  refine W0 (Jl (s:={ s with heap:=h',toks:=tk }) ei ?_);refine W3 ⟨QD qw _,?_⟩;have gM:upd H dl (.dK []) h'.objs.size=none:=I2.aD.fresh (W8 _);have fM:h'.objs.size≠dl:=λz=>by rw[z,dw] at gM; cases gM
  have hit:H h'.objs.size=none:=by rw[bq fM] at gM; exact gM
  have fp:∀ H':Hp,H' h'.objs.size=none->gq X pins H' h'.objs.size:=λH' hn=>I2.j7 (W8 _) hn
  refine C8 (X:=X) (pins:=pins) (σ:=σ) (H:=H) (dl:=dl) (it:=h'.objs.size) (ys:=ys) (kps:=kps) (tn:=λi h=>h.IsTupleIter h'.objs.size p i) hP jo hz ?_ ?_ (λi h h2 st k=>st.at k) hit fM (λs' I'=>⟨rfl,fin s' I'⟩) ys.length 0 _ 0 _ (Nat.sub_zero _) (Qf _) ?_ ?_
  ·intro i y H' s' Q' sub hn I' st hy k;obtain⟨_,its2,r2,n2,e2⟩:=(show bZ X.prog X.w _ s'.heap p (.tup ys) from I'.aD p _ (sub p _ hp))
   obtain⟨v,hv,rv⟩:=r2.get hy;obtain⟨f0,f1,f2,f3,f4,f5⟩:=fp H' hn;refine wpAny_pyNext_tuple_item st (items:=its2.toArray) ⟨_,e2,rfl,n2,rfl⟩ (x:=v) (by simpa using hv) λh3 kY sb=>?_
   exact k v { s' with heap:=h3 } rv (I'.turned (t':=s'.toks) (λb o hb e=>(sb.2 b hb).trans e) f0 f1 f3 f4 f5) kY
  ·intro H' s' Q' sub hn I' st k;obtain⟨_,its2,r2,n2,e2⟩:=(show bZ X.prog X.w _ s'.heap p (.tup ys) from I'.aD p _ (sub p _ hp))
   obtain⟨f0,f1,f2,f3,f4,f5⟩:=fp H' hn;have nY:=r2.length;exact wpAny_pyNext_tuple_end (show X.A.in1.in1.handled=none from hA) st (items:=its2.toArray) ⟨_,e2,rfl,n2,rfl⟩ (by simp; omega) λh3 eb=>k { s' with heap:=h3 } (I'.turned (t':=s'.toks) (λb o hb e=>eb b o hb e) f0 f1 f3 f4 f5)
  ·exact I2.kept (t':=tk) λb o e=>W4 _ e
  ·exact⟨_,Wm _ rfl,rfl,rfl⟩
 ·obtain⟨_,ae,n,r,e⟩:=(show bZ X.prog X.w _ (s.heap.push { cls:=.type "dict",data:=.dict #[] }) p (.lst ys) from(Rd.sub hp (up _)).ok I1.aD)
  refine W0 (QM ⟨_,e,rfl⟩ ?_);rw[if_pos (by decide)];refine W0 (Mr e rfl rfl rfl hA λh' tk kp=>?_);rw[if_pos (show(none:Option Value).isNone=true from rfl)];refine W0 (Qv ?_);have I2:Inv X pins σ (upd H dl (.dK [])) { s with heap:=h',toks:=tk }:=I1.kept kp;have ei:h'.IsList p ae.toArray:=⟨_,kp _ _ e,rfl,n,rfl⟩
  refine W0 (wpAny_pyIter_list (s:={ s with heap:=h',toks:=tk }) ei ?_);refine W3 ⟨QD qw _,?_⟩;have gM:upd H dl (.dK []) h'.objs.size=none:=I2.aD.fresh (W8 _);have fM:h'.objs.size≠dl:=λz=>by rw[z,dw] at gM; cases gM
  have hit:H h'.objs.size=none:=by rw[bq fM] at gM; exact gM
  have fp:∀ H':Hp,H' h'.objs.size=none->gq X pins H' h'.objs.size:=λH' hn=>I2.j7 (W8 _) hn
  refine C8 (X:=X) (pins:=pins) (σ:=σ) (H:=H) (dl:=dl) (it:=h'.objs.size) (ys:=ys) (kps:=kps) (tn:=λi h=>h.IsListIter h'.objs.size p i) hP jo hz ?_ ?_ (λi h h2 st k=>st.at k) hit fM (λs' I'=>⟨rfl,fin s' I'⟩) ys.length 0 _ 0 _ (Nat.sub_zero _) (Qf _) ?_ ?_
  ·intro i y H' s' Q' sub hn I' st hy k;obtain⟨_,its2,n2,r2,e2⟩:=(show bZ X.prog X.w _ s'.heap p (.lst ys) from(Rd.sub hp sub).ok I'.aD)
   obtain⟨v,hv,rv⟩:=r2.get hy;obtain⟨f0,f1,f2,f3,f4,f5⟩:=fp H' hn;refine wpAny_pyNext_list_item st (items:=its2.toArray) ⟨_,e2,rfl,n2,rfl⟩ (x:=v) (by simpa using hv) λh3 kY sb=>?_
   exact k v { s' with heap:=h3 } rv (I'.turned (t':=s'.toks) (λb o hb e=>(sb.2 b hb).trans e) f0 f1 f3 f4 f5) kY
  ·intro H' s' Q' sub hn I' st k;obtain⟨_,its2,n2,r2,e2⟩:=(show bZ X.prog X.w _ s'.heap p (.lst ys) from(Rd.sub hp sub).ok I'.aD)
   obtain⟨f0,f1,f2,f3,f4,f5⟩:=fp H' hn;have nY:=r2.length;exact wpAny_pyNext_list_end (show X.A.in1.in1.handled=none from hA) st (items:=its2.toArray) ⟨_,e2,rfl,n2,rfl⟩ (by simp; omega) λh3 eb=>k { s' with heap:=h3 } (I'.turned (t':=s'.toks) (λb o hb e=>eb b o hb e) f0 f1 f3 f4 f5)
  ·exact I2.kept (t':=tk) λb o e=>W4 _ e
  ·exact⟨_,Wm _ rfl,rfl,rfl⟩
end
end L2
set_option maxHeartbeats 400000
namespace DV
open PySem PySem.Spec PyProof.Rows L2
def b_(kvs:List (bA×D))(k:bA):Option D:=(kvs.find? λkv=>decide (kv.1=k)).map (·.2)
def putD(kvs:List (bA×D))(k:bA)(v:D):List (bA×D) :=
 if (kvs.any λkv=>decide (kv.1=k))=true then kvs.map (λkv=>if kv.1=k then(kv.1,v) else kv) else kvs ++ [(k,v)]
def mQ(kps acc:List (bA×D)):List (bA×D):=kps.foldl (λa kv=>putD a kv.1 kv.2) acc
theorem Mw(h:cL k=cL j):k=j:=by
 cases k <;> cases j <;> simp[cL] at h
 ·rw[h]
 ·rw[se h]
def DR(H:Hp)(O:Addr->Prop):List (Key×V)->List (bA×D)->Prop
 | [],[]=>True
 | p :: ws,q :: ds=>p.1=cL q.1/\Rep H O p.2 q.2/\DR H O ws ds
 | _,_=>False
section
variable {H H':Hp} {O O':Addr->Prop}
theorem DR.of:∀ {ws:List (Key×V)} {ds:List (bA×D)},ws.map (·.1)=ds.map (λp=>cL p.1)->(∀ (i:Nat) p q,ws[i]? = some p->ds[i]? = some q->Rep H O p.2 q.2)->DR H O ws ds
 | [],[],_,_=>trivial
 | [],_ :: _,h,_=>by simp at h
 | _ :: _,[],h,_=>by simp at h
 | p :: ws,q :: ds,h,k=>by
  simp only[Wn,List.cons.injEq] at h;exact⟨h.1,k 0 p q rfl rfl,DR.of h.2 λi p' q' e1 e2=>k (i + 1) p' q' (by simpa using e1) (by simpa using e2)⟩
theorem DR.keys:∀ {ws:List (Key×V)} {ds:List (bA×D)},DR H O ws ds->ws.map (·.1)=ds.map (λp=>cL p.1)
 | [],[],_=>rfl
 | [],_ :: _,h=>h.elim
 | _ :: _,[],h=>h.elim
 | p :: ws,q :: ds,h=>by simp only[Wn,h.1,DR.keys h.2.2]
theorem DR.vals:∀ {ws:List (Key×V)} {ds:List (bA×D)},DR H O ws ds->∀ (i:Nat) p q,ws[i]? = some p->ds[i]? = some q->Rep H O p.2 q.2
 | [],[],_,i,p,q,e,_=>by simp at e
 | [],_ :: _,h,_,_,_,_,_=>h.elim
 | _ :: _,[],h,_,_,_,_,_=>h.elim
 | p :: ws,q :: ds,h,i,p',q',e1,e2=>by
  cases i with
  | zero=>simp at e1 e2; subst e1 e2; exact h.2.1
  | succ i=>exact DR.vals h.2.2 i p' q' (by simpa using e1) (by simpa using e2)
theorem DR.map:∀ {ws:List (Key×V)} {ds:List (bA×D)},DR H O ws ds->(∀ v d,Rep H O v d->Rep H' O' v d)->DR H' O' ws ds
 | [],[],_,_=>trivial
 | [],_ :: _,h,_=>h.elim
 | _ :: _,[],h,_=>h.elim
 | p :: ws,q :: ds,h,k=>⟨h.1,k _ _ h.2.1,DR.map h.2.2 k⟩
theorem mR(h:p=cL q):(p=cL k) ↔ q=k:=⟨λe=>Mw (by rw[<- h]; exact e),λe=>by rw[h,e]⟩
theorem DR.any:∀ {ws:List (Key×V)} {ds:List (bA×D)} (k:bA),DR H O ws ds->(ws.any λkv=>decide (kv.1=cL k))=ds.any λkv=>decide (kv.1=k)
 | [],[],_,_=>rfl
 | [],_ :: _,_,h=>h.elim
 | _ :: _,[],_,h=>h.elim
 | p :: ws,q :: ds,k,h=>by
  rw[QS,QS,DR.any k h.2.2];congr 1
  exact decide_eq_decide.mpr (mR h.1)
theorem DR.val:∀ {ws:List (Key×V)} {ds:List (bA×D)} (k:bA),DR H O ws ds->(b_ ds k=none/\dF ws (cL k)=none)\/∃ v d,b_ ds k=some d/\dF ws (cL k)=some v/\Rep H O v d
 | [],[],_,_=>.inl ⟨rfl,rfl⟩
 | [],_ :: _,_,h=>h.elim
 | _ :: _,[],_,h=>h.elim
 | p :: ws,q :: ds,k,h=>by
  by_cases e:q.1=k
  ·have e':=(mR h.1).mpr e;exact .inr ⟨p.2,q.2,by simp[b_,Q4,e],rV e',h.2.1⟩
  ·have e':¬ p.1=cL k:=λz=>e ((mR h.1).mp z)
   have ev:b_ (q :: ds) k=b_ ds k:=by simp[b_,Q4,e]
   rw[ev,rW e'];exact DR.val k h.2.2
theorem DR.append:∀ {ws C_:List (Key×V)} {ds cM:List (bA×D)},DR H O ws ds->DR H O C_ cM->DR H O (ws ++ C_) (ds ++ cM)
 | [],_,[],_,_,h'=>h'
 | [],_,_ :: _,_,h,_=>h.elim
 | _ :: _,_,[],_,h,_=>h.elim
 | p :: ws,_,q :: ds,_,h,h'=>⟨h.1,h.2.1,DR.append h.2.2 h'⟩
theorem DR.store:∀ {ws:List (Key×V)} {ds:List (bA×D)} {k:bA} {v:V} {d:D},DR H O ws ds->Rep H O v d->DR H O (ws.map λkv=>if kv.1=cL k then(kv.1,v) else kv) (ds.map λkv=>if kv.1=k then(kv.1,d) else kv)
 | [],[],_,_,_,_,_=>trivial
 | [],_ :: _,_,_,_,h,_=>h.elim
 | _ :: _,[],_,_,_,h,_=>h.elim
 | p :: ws,q :: ds,k,v,d,h,r=>by
  refine⟨?_,?_,DR.store h.2.2 r⟩
  ·by_cases e:q.1=k
   ·dsimp only; rw[if_pos ((mR h.1).mpr e),if_pos e]; exact h.1
   ·dsimp only; rw[if_neg λz=>e ((mR h.1).mp z),if_neg e]; exact h.1
  ·by_cases e:q.1=k
   ·dsimp only; rw[if_pos ((mR h.1).mpr e),if_pos e]; exact r
   ·dsimp only; rw[if_neg λz=>e ((mR h.1).mp z),if_neg e]; exact h.2.1
theorem DR.put(h:DR H O ws ds)(r:Rep H O v d):DR H O (putK ws (cL k) v) (putD ds k d):=by
 unfold putK putD;rw[DR.any k h];split
 ·exact DR.store h r
 ·exact DR.append h ⟨rfl,r,trivial⟩
theorem DR.wF:∀ {kps:List (Key×V)} {tF:List (bA×D)} {ws:List (Key×V)} {ds:List (bA×D)},DR H O kps tF->DR H O ws ds->DR H O (fQ kps ws) (mQ tF ds)
 | [],[],_,_,_,h=>h
 | [],_ :: _,_,_,h,_=>h.elim
 | _ :: _,[],_,_,h,_=>h.elim
 | p :: kps,q :: tF,ws,ds,h,h'=>by
  show DR H O (fQ kps (putK ws p.1 p.2)) (mQ tF (putD ds q.1 q.2));rw[h.1];exact DR.wF h.2.2 (DR.put h' h.2.1)
end
def cD:D->Option bA
 | .int i=>some (.inl i)
 | .str x=>some (.inr x)
 | _=>none
theorem Dc(h:cD d=some k)(r:Rep H O v d):v=kV (cL k):=by
 cases d <;> simp[cD] at h <;> subst h <;> cases r <;> rfl
theorem ou(h:cD d=some k)(r:cS c σ δ H v d):v=kV (cL k):=by
 rcases r with r | ⟨a,rfl,r⟩
 ·exact Dc h r
 ·cases d <;> simp[cD] at h <;> exact r.elim
def iW:List D->Option (List (bA×D))
 | []=>some []
 | .tup [k,v] :: r=>match cD k,iW r with
  | some k',some r'=>some ((k',v) :: r')
  | _,_=>none
 | _ :: _=>none
def jq:D->Option S
 | .lst ds=>(iW ds).bind λps=>if ps.length<=W6 then some (.own (.aM (mQ ps []))) else none
 | .tup ds=>(iW ds).bind λps=>if ps.length<=W6 then some (.own (.aM (mQ ps []))) else none
 | _=>none
theorem wG:∀ {ds:List D} {vs:List V} {ps:List (bA×D)},iW ds=some ps->aI H O vs ds->∃ kps,tE H vs kps/\DR H O kps ps/\kps.length=ps.length
 | [],[],ps,h,_=>by
  simp[iW] at h;subst h;exact⟨[],⟨rfl,λi y kv e=>by simp at e⟩,trivial,rfl⟩
 | [],_ :: _,_,_,r=>by have:=r.1; simp at this
 | _ :: _,[],_,_,r=>by have:=r.1; simp at this
 | d :: ds,v :: vs,ps,h,r=>by
  unfold iW at h;split at h
  ·rename_i heq; cases heq
  ·rename_i k w r' heq
   cases heq;split at h
   ·rename_i k' r'' hk hr
    cases h;obtain⟨kps,hP,hD,hL⟩:=wG hr r.tail;have rp:=r.head
    cases rp with
    | tup h1 h2 h3 h4 =>
     rename_i a us;match us,h3,h4,h2 with
     | [x,y],_,h4,h2 =>
      have rk:=h4 0 x k rfl rfl;have rv:=h4 1 y w rfl rfl;have ek:=Dc hk rk;subst ek;refine⟨(cL k',y) :: kps,⟨by simp[hP.1],λi z kv e1 e2=>?_⟩,⟨rfl,rv,hD⟩,by simp[hL]⟩
      cases i with
      | zero=>simp at e1 e2; subst e1 e2; exact⟨a,rfl,h2⟩
      | succ i=>exact hP.2 i z kv (by simpa using e1) (by simpa using e2)
   ·cases h
  ·cases h
theorem bp.Dd(k:Ok c σ δ H)(hp:H p=none)(r:DR H (Av c σ δ) ws ds):bp c σ δ H (upd H p (.dK ws)) (.ref p) (.own (.aM ds)):=by
 have up:∀ a w,H a=some w->upd H p (.dK ws) a=some w:=λa w e=>by rw[bq (fT e hp)]; exact e
 have r1:DR (upd H p (.dK ws)) (Av (c.plus p) σ δ) ws ds:=r.map λv d h=>(h.bf λb z=>by
  rcases z with (z | z) | z
  ·exact .inl (.inl z)
  ·exact .inr (by rw[z]; exact hp)
  ·exact .inl (.inr z)).keep λb w e _=>up b w e
 exact⟨p,rfl,⟨ws,dw,r1.keys,r1.vals⟩,λz=>k.jJ hp (.inl z),k.nW hp,k.plus hp _,hp⟩
section
variable {X:Cx} {c:Fc} {e:Expr} {fb:BE} {pos pp:Pos}
theorem Mx:Qu "dict" = some (.type "dict"):=by decide +kernel
theorem wH (hc:X.calm=true) (hg:Gl X "dict") (hm:X.mg "dict" = none) (he:SB X c e fb) (hs:lB e=true:=by rfl):SE X c (.Call (.Name "dict" pp) [e] [] pos) (aY jq fb) :=
 qf (r:=λv H Q=>∃ p ys kps,v = .ref p/\(H p=some (.tup ys)\/Rd H p (.lst ys))/\tE H ys kps/\kps.length<=W6/\∀ l,H l=none->Q (.ref l) (upd H l (.dK (fQ kps []))))
  (Mv hc) (λv H Q ⟨p,ys,kps,e,h⟩=>⟨p,ys,kps,by rw[e],h⟩)
  (λc σ δ H x d s Q k rx hp q=>by
   cases d with
   | lst ds =>
    simp only[jq] at hp
    cases lC:iW ds with
    | none=>rw[lC] at hp; cases hp
    | some ps =>
     rw[lC] at hp;simp only[WF] at hp;split at hp
     ·rename_i hz
      cases hp;obtain⟨a,vs,ex,ha,r⟩:=rx.lst;obtain⟨kps,hP,hD,hL⟩:=wG lC r;exact⟨a,vs,kps,ex,.inr ha,hP,by rw[hL]; exact hz,λl hl=>q _ _ (.alloc k hl _) (bp.Dd k hl (DR.wF hD (ws:=[]) (ds:=[]) trivial))⟩
     ·cases hp
   | tup ds =>
    simp only[jq] at hp
    cases lC:iW ds with
    | none=>rw[lC] at hp; cases hp
    | some ps =>
     rw[lC] at hp;simp only[WF] at hp;split at hp
     ·rename_i hz
      cases hp;obtain⟨a,vs,ex,ha,r⟩:=rx.tup;obtain⟨kps,hP,hD,hL⟩:=wG lC r;exact⟨a,vs,kps,ex,.inl ha,hP,by rw[hL]; exact hz,λl hl=>q _ _ (.alloc k hl _) (bp.Dd k hl (DR.wF hD (ws:=[]) (ds:=[]) trivial))⟩
     ·cases hp
   | _=>simp[jq] at hp) hg hm Mx he (by decide) (by decide) (mM hs)
end
theorem tG(r:cS c σ δ H v (.aM ds)):∃ a ws,v = .ref a/\H a=some (.dK ws)/\DR H (Av c σ δ) ws ds:=by
 obtain⟨a,ws,e,h,k1,k2⟩:=r.aM;exact⟨a,ws,e,h,DR.of k1 k2⟩
def wI(neg:Bool):R2:=λx y H Q=>∃ a kvs k,y = .ref a/\H a=some (.dK kvs)/\x=kV k/\Q (.bl (if neg then !(dF kvs k).isSome else(dF kvs k).isSome)) H
theorem My(hu:X.A.units + 64 < WO):bz X (Wz .In) (wI false):=by
 intro pins s σ H x y v u Q I rx ry h;obtain⟨a,kvs,k,rfl,ha,rfl,q⟩:=h
 cases ry;exact IB (by omega) I (jI.k ha) rx λs' I'=>⟨.bl _,H,I',rfl,q⟩
theorem Mz(hu:X.A.units + 64 < WO):bz X (Wz .NotIn) (wI true):=by
 intro pins s σ H x y v u Q I rx ry h;obtain⟨a,kvs,k,rfl,ha,rfl,q⟩:=h
 cases ry;exact IC (by omega) I (jI.k ha) rx λs' I'=>⟨.bl _,H,I',rfl,q⟩
def wJ(K:W1)(neg:Bool):R2:=λx y H Q=>wI neg x y H Q\/rS K neg x y H Q\/∃ i j,x = .str i/\y = .str j/\Q (.bl (if neg then !(!(Je j i 0 j.length 1).isEmpty) else !(Je j i 0 j.length 1).isEmpty)) H
theorem wK{X:Cx}(hu:X.A.units + 64 < WO):bz X (Wz .In) (wJ X.K false):=(My hu).or (Ba.or Hw)
theorem De{X:Cx}(hu:X.A.units + 64 < WO):bz X (Wz .NotIn) (wJ X.K true):=(Mz hu).or (Bb.or Hx)
def eK(neg:Bool)(x y:D):Option S:=match y with
 | .aM ds=>(cD x).map λk=>.pure (.bl (if neg then !(b_ ds k).isSome else(b_ ds k).isSome))
 | .str y=>match x with
  | .str [n]=>some (.pure (.bl (if neg then !decide (n ∈ y) else decide (n ∈ y))))
  | _=>none
 | .lst ds=>match x,e9 ds with
  | .str z,some ts=>some (.pure (.bl (if neg then !ts.contains z else ts.contains z)))
  | _,_=>none
 | .tup ds=>match x,e9 ds with
  | .str z,some ts=>some (.pure (.bl (if neg then !ts.contains z else ts.contains z)))
  | _,_=>none
 | _=>none
theorem wL(z:Tx)(ts:List Tx):rR (V.str (toS z)) (ts.map λz=>V.str (toS z))=ts.contains z:=by
 unfold rR;rw[List.any_map];induction ts with
 | nil=>rfl
 | cons t r ih =>
  rw[QS,List.contains_cons,ih];congr 1
  show(toS t == toS z)=(z == t);rw[vz,Bool.beq_comm]
theorem wM(ts:List Tx):(ts.map λz=>V.str (toS z)).all ka=true:=by
 rw[List.all_map];exact List.all_eq_true.mpr λ_ _=>rfl
theorem qy{K:W1}(neg:Bool):cu (wJ K neg) (eK neg):=by
 intro c σ δ H x y d e s Q k rx ry hp q
 cases e <;> first | (simp[eK] at hp; done) | skip
 ·rename_i z;simp only[eK] at hp;split at hp <;> first | (cases hp; done) | skip
  rename_i n
  cases hp;refine .inr (.inr ⟨toS [n],toS z,rx.str,ry.str,?_⟩);rw[show toS [n] = ⟨#[n]⟩ from rfl,PySem.StrLaws.found_one,show(toS z).cps.toList=z by simp[toS]];exact q _ H (.refl k) (.bl _)
 ·rename_i ds;simp only[eK] at hp;split at hp <;> first | (cases hp; done) | skip
  rename_i z ts ht
  cases hp;obtain⟨a,vs,ea,ha,r⟩:=ry.tup;have ev:=n8 ht r;refine .inr (.inl ⟨a,vs,ea,.inr (.of ha),by rw[rx.str]; rfl,by rw[ev]; exact wM ts,?_⟩);rw[rx.str,ev,wL];exact q _ H (.refl k) (.bl _)
 ·rename_i ds;simp only[eK] at hp;split at hp <;> first | (cases hp; done) | skip
  rename_i z ts ht
  cases hp;obtain⟨a,vs,ea,ha,r⟩:=ry.lst;have ev:=n8 ht r;refine .inr (.inl ⟨a,vs,ea,.inl (.inl ha),by rw[rx.str]; rfl,by rw[ev]; exact wM ts,?_⟩);rw[rx.str,ev,wL];exact q _ H (.refl k) (.bl _)
 ·rename_i ds;simp only[eK] at hp
  cases hk:cD d with
  | none=>rw[hk] at hp; cases hp
  | some kk =>
   rw[hk] at hp
   cases hp;obtain⟨a,ws,ea,ha,dr⟩:=tG ry;refine .inl ⟨a,ws,cL kk,ea,ha,ou hk rx,?_⟩;have:(dF ws (cL kk)).isSome=(b_ ds kk).isSome:=by
    rcases dr.val kk with ⟨e1,e2⟩ | ⟨v,d,e1,e2,_⟩
    ·rw[e1,e2]; rfl
    ·rw[e1,e2]; rfl
   rw[this];exact q _ H (.refl k) (.bl _)
def wN:R2:=λx y H Q=>∃ a kvs k v,x = .ref a/\H a=some (.dK kvs)/\y=kV k/\dF kvs k=some v/\Q v H
def jr:D->D->Option S
 | .aM ds,k=>(cD k).bind λk=>(b_ ds k).map .pure
 | x,y=>az x y
theorem MA(hu:X.A.units + 64 < WO):ic X wN:=by
 intro value slice pins s σ H x y v u Q I rx ry h hs;obtain⟨a,kvs,k,w,rfl,ha,rfl,hv,q⟩:=h
 cases rx;obtain⟨_,_,vs,_,dd⟩:=nN I.aD ha;have hT:s.TypeIs (.ref a) "dict":=dd.typeIs;exact tail_any hT F.slot_dict_getitem.lookup (IA (v:=w) (by omega) I (by rw[<- hv]; exact jI.k ha) ry λw' s' I' aL=>⟨w,H,I',aL,q⟩) hs
theorem wO{K:W1}:cu (λx y H Q=>wN x y H Q\/rQ K x y H Q) jr:=by
 intro c σ δ H x y d e s Q k rx ry hp q
 cases d with
 | aM ds =>
  simp only[jr] at hp
  cases hk:cD e with
  | none=>rw[hk] at hp; cases hp
  | some kk =>
   rw[hk] at hp;simp only[WF,Option.map_eq_some_iff] at hp;obtain⟨dv,hv,rfl⟩:=hp;obtain⟨a,ws,ea,ha,dr⟩:=tG rx;rcases dr.val kk with ⟨e1,e2⟩ | ⟨v,d',e1,e2,r⟩
   ·rw[e1] at hv; cases hv
   ·rw[e1] at hv; cases hv
    exact .inl ⟨a,ws,cL kk,v,ea,ha,ou hk ry,e2,q v H (.refl k) r⟩
 | _=>exact .inr (bD c σ δ H x y _ e s Q k rx ry hp q)
end DV
namespace PySem
open Sem (wp)
open AutoSeq1 (wpAny_loadPart')
section
variable {prog:Wj} {w:Wp} {A:Wq} {E:Value->W2->Prop} {s:W2}
theorem MB{items}(hit:s.heap.IsTupleIter it l i)(hl:s.heap.IsTuple l items)(hx:items[i]? = some x)
  (hQ:∀ h',h'.IsTupleIter it l (i + 1)->J3 it s.heap h'->Q x { s with heap:=h' }):W5 (model prog w) A (QX (.ref it)) Q E s:=by
 obtain⟨o,ho,hc,hd⟩:=id hit;obtain⟨ol,hol,_,nl,jo⟩:=hl;unfold QX;refine W0 (WT (name:=Str.ofString "__next__") hit.typeIs QT
  (Q5 QT hit.typeIs F.entry_tuple_iterator_next ?_ (F.args_tuple_iterator_next_1 _)))
 show W5 _ _ (field (.ref it) 0 >>= _) _ _ s;refine W0 (QK ho hd (x:=.ref l) rfl ?_);show W5 _ _ (if (Value.ref l == Value.none)=true then _ else _) _ _ s;rw[if_neg (show ¬ ((Value.ref l == Value.none)=true) from WW)];show W5 _ _ (field (.ref it) 1 >>= _) _ _ s;refine W0 (QK ho hd (x:=.int i 0) rfl ?_);show W5 _ _ (seqItems? (.ref l) >>= _) _ _ s;refine W0 (wpAny_seqItems hol jo ?_);simp only[Qq,hx];refine W0 (J2 ho hd (by simp) (W3 ⟨x,rfl,W3 (hQ _ ?_ (QG ..))⟩));exact⟨_,WG _ ho (Obj.isFreed_of_fields (Obj.data_mapFields hd _)),(Obj.cls_mapFields ..).trans hc,by
  rw[Obj.data_mapFields hd]; simp[Qy]⟩
theorem MC{items}(hh:A.handled=none)(hit:s.heap.IsTupleIter it l i)(hl:s.heap.IsTuple l items)(hx:items[i]? = none)
  (hE:∀ h' e,Heap.ExtBut it s.heap h'->(∃ o,h'.get? e=some o/\o.cls = .type "StopIteration")->E (.ref e) { s with heap:=h' }):W5 (model prog w) A (QX (.ref it)) Q E s:=by
 obtain⟨o,ho,hc,hd⟩:=id hit;obtain⟨ol,hol,_,nl,jo⟩:=hl;unfold QX;refine W0 (WT (name:=Str.ofString "__next__") hit.typeIs QT
  (Q5 QT hit.typeIs F.entry_tuple_iterator_next ?_ (F.args_tuple_iterator_next_1 _)))
 show W5 _ _ (field (.ref it) 0 >>= _) _ _ s;refine W0 (QK ho hd (x:=.ref l) rfl ?_);show W5 _ _ (if (Value.ref l == Value.none)=true then _ else _) _ _ s;rw[if_neg (show ¬ ((Value.ref l == Value.none)=true) from WW)];show W5 _ _ (field (.ref it) 1 >>= _) _ _ s;refine W0 (QK ho hd (x:=.int i 0) rfl ?_);show W5 _ _ (seqItems? (.ref l) >>= _) _ _ s;refine W0 (wpAny_seqItems hol jo ?_);simp only[Qq,hx];refine W0 (Qv (W0 (J2 ho hd (by simp) ?_)));show W5 _ _ (newExc (.type "StopIteration") [] >>= _) _ _ _;refine W0 ?_;simp only[newExc,newTuple];refine W0 (WB ?_ (by size_fits));refine W0 (m:=firstArgMember _ _) (wpAny_of_eq (a:=Value.none) (by first | rfl | (simp only[firstArgMember]; rfl)) ?_);refine WB ?_ (by size_fits);simp only[raiseNew];refine W0 (wpAny_handled ?_);first | rw[show A.in1.handled=none from hh] | rw[hh]
 refine W0 (W3 (wpAny_throw ?_));exact hE _ _ (((QG ..).extBut.push _).push _) ⟨_,Wm _ rfl,rfl⟩
end
theorem IsTuple.at'{h h':Heap}{l:Addr}{items:Array Value}(x:h.IsTuple l items)(k:∀ o,h.get? l=some o->h'.get? l=some o):h'.IsTuple l items:=by
 obtain⟨o,ho,r⟩:=x;exact⟨o,k o ho,r⟩
theorem Draws.tuple'{prog:Wj}{w:Wp}{A:Wq}(hh:A.handled=none)(it l:Addr)(fM:l≠it)(items:Array Value) :
  Draws prog w A it [it,l] items.size (λi v=>items[i]? = some v) (λi h=>h.IsTupleIter it l i/\h.IsTuple l items) where
 live:=λ_ _ st=>let ⟨o,ho,_⟩:=st.1; ⟨o,ho⟩
 frame:=λ_ _ _ st hk=>⟨st.1.at λo e=>hk it (by simp) o e,IsTuple.at' st.2 λo e=>hk l (by simp) o e⟩
 item:=λi s Q E hi st hQ=>by
  refine MB st.1 st.2 (x:=items[i]) (by simp[hi]) λh' MD iO=>?_
  exact hQ _ h' s.toks (by simp[hi]) ⟨MD,IsTuple.at' st.2 λo e=>(iO.2 l fM).trans e⟩ iO
 done:=λs Q E st hE=>MC hh st.1 st.2 (by simp) hE
theorem ME(l:Addr)(items:Array Value)(n:Nat)(aM:Option Addr)(sl:Array (Option Value)) :
  Meets (Builtin.«enumerate.__new__» ⟨[.type "enumerate",.ref l],[]⟩) (λ_ R s=>s.heap.get? l=some { cls:=.type "tuple",dict:=aM,data:=.seq items n,slots:=sl } /\
   R (.ok (.ret (.ref (s.heap.push { cls:=.type "tuple_iterator",data:=.fields #[.ref l,.int 0 0] }).objs.size)))
    { s with heap:=(s.heap.push { cls:=.type "tuple_iterator",data:=.fields #[.ref l,.int 0 0] }).push { cls:=.type "enumerate",data:=.fields #[.none,.bool false,.ref s.heap.objs.size,Qy 0,.none,.none] } }) :=
 .of_wp λprog w A R s h=>by
  obtain⟨hp,g,d,tk,os⟩:=s; obtain⟨hl,h⟩:=h
  have kC:=sub_enumerate;have hL:Heap.IsTuple (Shared.heap ⟨hp,g,d,tk,os⟩) l items:=⟨_,hl,rfl,n,rfl⟩
  wp_walk using Q3 hl
  refine wpAny_stack_any λst=>W3 ?_
  split
  ·rename_i c _ _ _ _ _
   cases (c == Value.type "enumerate")
   ·wp_walk using Q3 hl,Jl hL
    exact⟨_,rfl,h⟩
   ·wp_walk using Q3 hl,Jl hL
    exact⟨_,rfl,h⟩
  ·wp_walk using Q3 hl,Jl hL
   exact⟨_,rfl,h⟩
theorem MF(hL:s.heap.IsTuple l items)
  (h:∀ h',IsEnum h' (s.heap.objs.size + 1) s.heap.objs.size 0 .none->h'.IsTupleIter s.heap.objs.size l 0->h'.objs.size=s.heap.objs.size + 2 ->
   (∀ b o,s.heap.get? b=some o->h'.get? b=some o)->Q (.ref (s.heap.objs.size + 1)) { s with heap:=h' }) :
  W5 (model prog w) A (call (.type "enumerate") [.ref l]) Q E s:=by
 obtain⟨⟨c,aM,dt,sl⟩,hl,hc,n,hd⟩:=hL;replace hc:c = .type "tuple":=hc;replace hd:dt = .seq items n:=hd;subst hc hd;refine callType_new F.called_enumerate (by decide) (F.typeCall_enumerate_1 _) (F.newCall_enumerate_1 _) (λobj=>F.args_object_init_2 obj _) F.entry_enumerate_new
  (ME l items n aM sl) ⟨hl,?_⟩
 have hz:(s.heap.push { cls:=.type "tuple_iterator",data:=.fields #[.ref l,.int 0 0] }).objs.size=s.heap.objs.size + 1:=QI ..;show _/\_;rw[hz];have he:IsEnum ((s.heap.push { cls:=.type "tuple_iterator",data:=.fields #[.ref l,.int 0 0] }).push
   { cls:=.type "enumerate",data:=.fields #[.none,.bool false,.ref s.heap.objs.size,Qy 0,.none,.none] }) (s.heap.objs.size + 1) s.heap.objs.size 0 .none:=by
  have:=Wm (s.heap.push { cls:=.type "tuple_iterator",data:=.fields #[.ref l,.int 0 0] })
   (o:={ cls:=.type "enumerate",data:=.fields #[.none,.bool false,.ref s.heap.objs.size,Qy 0,.none,.none] }) rfl
  rw[hz] at this; exact this
 refine⟨⟨_,he,rfl⟩,h _ he ⟨_,W4 _ (Wm _ rfl),rfl,rfl⟩ (by rw[QI,hz]) λb o x=>W4 _ (W4 _ x)⟩
end PySem
namespace L2
open PySem PySem.Spec PyProof.Rows
section
variable {X:Cx} {pins:List (Addr×Obj)} {σ:St} {H:Hp} {s:W2} {h':Heap}
theorem Inv.MG(fp:List Addr)(I:Inv X pins σ H s)(k:∀ b o,b ∉ fp->s.heap.get? b=some o->h'.get? b=some o)(hf:∀ b ∈ fp,gq X pins H b):Inv X pins σ H { s with heap:=h',toks:=t' }:=by
 have kT:∀ b u,H b=some u->b ∉ fp:=λb u e z=>by rw[(hf b z).1] at e; cases e
 refine I.step (g':=s.gens) (d':=s.drawn) (ch:=fp) (λb hb=>?_) (λb o _ _ hc e _=>k b o hc e) (λb o _ _ hc e _=>⟨o.slots,k b o hc e⟩) (λ_ _ _ _ n=>n)
  (λb o hc e=>⟨o,k b o hc e⟩) (λ_ _ e=>e) (λ_ _ _ e=>e) (λb ps e=>⟨#[],by rw[e]; simp⟩) (λm hm=>?_) (λb u e=>?_) I.bare
 ·obtain⟨f0,f1,f2,f3,f4,f5⟩:=hf b hb;exact⟨f3,f1,f4,f5⟩
 ·obtain⟨o,es,ep,ho,r⟩:=hm;exact⟨o,es,ep,k _ o (λz=>(hf _ z).2.1 rfl) ho,r⟩
 ·refine(I.aD b u e).lX (λc v hc q=>k c v ?_ q) (λ_ q=>q) (λ_ _ q=>q) λ_ _ _ q=>q
  rcases hc with z | z
  ·rw[z]; exact kT b u e
  ·exact kT c _ z
theorem Inv.Df(I:Inv X pins σ H s)(hf:∀ b ∈ [e,it],gq X pins H b)(bx:∀ b ∈ [e,it],b < s.heap.objs.size)(ru:RelV y u)
  (hT:h'.get? s.heap.objs.size=some { cls:=.type "tuple",data:=.seq #[.int i tk,u] }) (k:∀ b o,b≠e->b≠it->s.heap.get? b=some o->h'.get? b=some o) :
  Inv X pins σ (upd H s.heap.objs.size (.tup [.int i,y])) { s with heap:=h',toks:=t' }:=by
 have I1:Inv X pins σ (upd H s.heap.objs.size (.tup [.int i,y])) { s with heap:=s.heap.push { cls:=.type "tuple",data:=.seq #[.int i tk,u] },toks:=t' } :=
  I.laid (t':=t') (λb o e=>W4 _ e) (W8 _) (show bZ X.prog X.w _ _ _ (.tup [.int i,y]) from
   ⟨by simp only[WS,List.length_nil]; rw[J0]; decide,[.int i tk,u],.cons ⟨_,rfl⟩ (.cons ru .nil),hU.new _ _⟩)
 have:=Inv.MG (t':=t') (h':=h') [e,it] I1 (λb o hb eb=>?_) λb hb=>?_
 ·exact this
 ·have he:b≠e:=λz=>hb (by simp[z])
  have hi:b≠it:=λz=>hb (by simp[z])
  rcases Heap.get?_push_cases eb with ⟨z,z'⟩ | eb
  ·subst z z';exact hT
  ·exact k b o he hi eb
 ·obtain⟨f0,r⟩:=hf b hb;refine⟨?_,r⟩;have hl:=bx b hb;rw[bq (Wr hl)];exact f0
def Dg(K:W1)(a:Addr):It :=
 ⟨(uE K a).go,λi H x H'=>∃ p y,H p=none/\(∀ xs,cj K H a xs->xs[i]? = some y)/\H'=upd H p (.tup [.int i,y])/\x = .ref p,λi H=>∃ xs,cj K H a xs/\xs.length=i⟩
def Dh(K:W1)(a:Addr):It :=
 ⟨(rJ K a).go,λi H x H'=>∃ p y,H p=none/\(∀ xs,cq K H a xs->xs[i]? = some y)/\H'=upd H p (.tup [.int i,y])/\x = .ref p,λi H=>∃ xs,cq K H a xs/\xs.length=i⟩
theorem MH{P:Wj}{w:Wp}{K:W1}{elts:List Expr}{ctx}{pos:Pos}(a e it:Addr)(mS:e≠it)(wQ:a≠e)(jS:a≠it):Turn P w K (.Tuple elts ctx pos) (Dg K a) [e,it] e (λi h=>(∃ old,IsEnum h e it i old)/\h.IsListIter it a i) where
 mem:=by simp
 obj:=λi h st b hb=>by
  obtain⟨⟨old,he⟩,hi⟩:=st;have hb:b=e\/b=it:=by simpa using hb
  rcases hb with z | z
  ·subst z;exact⟨_,he,λv z=>by
    have z':Data.fields _=Data.cell v:=z
    cases z'⟩
  ·subst z;obtain⟨o,e,c,d⟩:=hi;exact⟨o,e,λv z=>by rw[d] at z; cases z⟩
 keep:=λi h h' st k=>⟨let ⟨old,he⟩:=st.1; ⟨old,k e (by simp) _ he⟩,st.2.at λo q=>k it (by simp) o q⟩
 item:=by
  intro X hP hw hK hc i pins s σ H E I hf st hg;subst hP hw hK;obtain⟨xs,x,hq,hx⟩:=hg;obtain⟨ae,rv,p,hz⟩:=I.list hq;obtain⟨u,hu,ru⟩:=rv.get hx;obtain⟨⟨old,he⟩,hi⟩:=st;have hL:s.heap.IsList a ae.toArray:=p.isList;have D:=Draws.list (prog:=X.prog) (w:=X.w) (A:=X.A.in1) (I.ok.hd hc) it a jS ae.toArray;have wR:i < ae.length:=(Wd.mp hu).1;have bx:∀ b ∈ [e,it],b < s.heap.objs.size:=λb hb=>by
   have hb:b=e\/b=it:=by simpa using hb
   rcases hb with z | z
   ·subst z; exact Wi he
   ·subst z; obtain⟨o,q,_⟩:=hi; exact Wi q
  refine wpAny_pyNext_enum_itemD D he ⟨hi,hL⟩ (by simpa using wR) mS (by simp[mS,Ne.symm wQ]) λx' h' tk hP ho iO hT hsz hk=>?_
  have ex:x'=u:=by
   have:ae.toArray[i]? = some x':=hP;rw[List.getElem?_toArray,hu] at this
   cases this;rfl
  subst ex;refine⟨_,rfl,wpAny_letOwnedTupleGo_enum ho λh2 wU sb=>?_⟩;have k2:∀ b o,b≠e->b≠it->s.heap.get? b=some o->h2.get? b=some o:=λb o q1 q2 q=>(sb.2 b q1).trans (hk b o q1 q2 q)
  have wV:h2.get? s.heap.objs.size=some { cls:=.type "tuple",data:=.seq #[.int i tk,x'] }:=(sb.2 _ (J4 (bx e (by simp)))).trans hT;have I2:Inv X pins σ (upd H s.heap.objs.size (.tup [.int i,x])) { s with heap:=h2,toks:=tk + 1 }:=Inv.Df (t':=tk + 1) I hf bx ru wV k2;refine⟨.ref s.heap.objs.size,_,I2,rfl,⟨s.heap.objs.size,x,I.aD.fresh (W8 _),λys hy=>by rw[I.Ag hy hq]; exact hx,rfl,rfl⟩,⟨⟨x',by simpa using wU⟩,iO.1.at λo q=>(sb.2 it (Ne.symm mS)).trans q⟩,λb hb=>?_⟩;rw[bq (Wr (bx b hb))];exact(hf b hb).1
 done:=by
  intro X hP hw hK hc i pins s σ H E I hf st hg;subst hP hw hK;obtain⟨xs,hq,hx⟩:=hg;obtain⟨ae,rv,p,hz⟩:=I.list hq;obtain⟨⟨old,he⟩,hi⟩:=st;have hL:s.heap.IsList a ae.toArray:=p.isList;have hl:=rv.length;have D:=Draws.list (prog:=X.prog) (w:=X.w) (A:=X.A.in1) (I.ok.hd hc) it a jS ae.toArray;have hn:ae.toArray.size=i:=by simp; omega
  obtain⟨f0,f1,f2,f3,f4,f5⟩:=hf it (by simp);exact wpAny_pyNext_enum_endD D he ⟨by rw[hn]; exact hi,hL⟩ λh' eb=>⟨rfl,I.turned (t':=s.toks) (λb o hb q=>eb b o hb q) f0 f1 f3 f4 f5⟩
 self:=λ_ _ _ _ _ st h=>by
  obtain⟨⟨old,he⟩,_⟩:=st;exact JN he h
theorem MI{P:Wj}{w:Wp}{K:W1}{elts:List Expr}{ctx}{pos:Pos}(a e it:Addr)(mS:e≠it)(wQ:a≠e)(jS:a≠it):Turn P w K (.Tuple elts ctx pos) (Dh K a) [e,it] e (λi h=>(∃ old,IsEnum h e it i old)/\h.IsTupleIter it a i) where
 mem:=by simp
 obj:=λi h st b hb=>by
  obtain⟨⟨old,he⟩,hi⟩:=st;have hb:b=e\/b=it:=by simpa using hb
  rcases hb with z | z
  ·subst z;exact⟨_,he,λv z=>by
    have z':Data.fields _=Data.cell v:=z
    cases z'⟩
  ·subst z;obtain⟨o,e,c,d⟩:=hi;exact⟨o,e,λv z=>by rw[d] at z; cases z⟩
 keep:=λi h h' st k=>⟨let ⟨old,he⟩:=st.1; ⟨old,k e (by simp) _ he⟩,st.2.at λo q=>k it (by simp) o q⟩
 item:=by
  intro X hP hw hK hc i pins s σ H E I hf st hg;subst hP hw hK;obtain⟨xs,x,hq,hx⟩:=hg;obtain⟨ae,rv,p,hz⟩:=I.tuple hq;obtain⟨u,hu,ru⟩:=rv.get hx;obtain⟨⟨old,he⟩,hi⟩:=st;have hL:s.heap.IsTuple a ae.toArray:=p;have D:=Draws.tuple' (prog:=X.prog) (w:=X.w) (A:=X.A.in1) (I.ok.hd hc) it a jS ae.toArray;have wR:i < ae.length:=(Wd.mp hu).1;have bx:∀ b ∈ [e,it],b < s.heap.objs.size:=λb hb=>by
   have hb:b=e\/b=it:=by simpa using hb
   rcases hb with z | z
   ·subst z; exact Wi he
   ·subst z; obtain⟨o,q,_⟩:=hi; exact Wi q
  refine wpAny_pyNext_enum_itemD D he ⟨hi,hL⟩ (by simpa using wR) mS (by simp[mS,Ne.symm wQ]) λx' h' tk hP ho iO hT hsz hk=>?_
  have ex:x'=u:=by
   have:ae.toArray[i]? = some x':=hP;rw[List.getElem?_toArray,hu] at this
   cases this;rfl
  subst ex;refine⟨_,rfl,wpAny_letOwnedTupleGo_enum ho λh2 wU sb=>?_⟩;have k2:∀ b o,b≠e->b≠it->s.heap.get? b=some o->h2.get? b=some o:=λb o q1 q2 q=>(sb.2 b q1).trans (hk b o q1 q2 q)
  have wV:h2.get? s.heap.objs.size=some { cls:=.type "tuple",data:=.seq #[.int i tk,x'] }:=(sb.2 _ (J4 (bx e (by simp)))).trans hT;have I2:Inv X pins σ (upd H s.heap.objs.size (.tup [.int i,x])) { s with heap:=h2,toks:=tk + 1 }:=Inv.Df (t':=tk + 1) I hf bx ru wV k2;refine⟨.ref s.heap.objs.size,_,I2,rfl,⟨s.heap.objs.size,x,I.aD.fresh (W8 _),λys hy=>by rw[I.Ah hy hq]; exact hx,rfl,rfl⟩,⟨⟨x',by simpa using wU⟩,iO.1.at λo q=>(sb.2 it (Ne.symm mS)).trans q⟩,λb hb=>?_⟩;rw[bq (Wr (bx b hb))];exact(hf b hb).1
 done:=by
  intro X hP hw hK hc i pins s σ H E I hf st hg;subst hP hw hK;obtain⟨xs,hq,hx⟩:=hg;obtain⟨ae,rv,p,hz⟩:=I.tuple hq;obtain⟨⟨old,he⟩,hi⟩:=st;have hL:s.heap.IsTuple a ae.toArray:=p;have hl:=rv.length;have D:=Draws.tuple' (prog:=X.prog) (w:=X.w) (A:=X.A.in1) (I.ok.hd hc) it a jS ae.toArray;have hn:ae.toArray.size=i:=by simp; omega
  obtain⟨f0,f1,f2,f3,f4,f5⟩:=hf it (by simp);exact wpAny_pyNext_enum_endD D he ⟨by rw[hn]; exact hi,hL⟩ λh' eb=>⟨rfl,I.turned (t':=s.toks) (λb o hb q=>eb b o hb q) f0 f1 f3 f4 f5⟩
 self:=λ_ _ _ _ _ st h=>by
  obtain⟨⟨old,he⟩,_⟩:=st;exact JN he h
end
end L2
namespace DV
open PySem PySem.Spec PyProof.Rows L2
section
variable {X:Cx} {c:Fc} {tg e:Expr} {fe:DE} {pos pp:Pos}
def MJ(K:W1)(ta:TA):TI:=λσ H R=>ta σ H λvs H1=>(∃ a,vs=[.ref a]/\(∃ xs,cj K H1 a xs)/\R (Dg K a) H1)\/(∃ a,vs=[.ref a]/\(∃ xs,cq K H1 a xs)/\R (Dh K a) H1)
theorem MK {ctx} (hg:Gl X "enumerate") (hm:X.mg "enumerate" = none) (ha:PA X [a] ta) (hs:Wb [a] X.env=[(false,eval a X.env)]:=by rfl):PI X (.Tuple elts ctx tp) (.Call (.Name "enumerate" pp) [a] [] pos) (MJ X.K ta):=by
 intro pins s σ H R I h;refine Call_ (pB I hg hm boot_enumerate (PyProof.Rows.callWith_type1 (aQ (ha pos pins s σ H _ I h) λus s1 ⟨vs,H1,I1,r1,q1⟩=>?_) hs rfl));rcases q1 with ⟨a,ev,⟨xs,hq⟩,q⟩ | ⟨a,ev,⟨xs,hq⟩,q⟩
 ·subst ev
  cases r1 with
  | cons r rr =>
   cases rr
   cases r;obtain⟨ae,rv,p,hz⟩:=I1.list hq;have hL:s1.heap.IsList a ae.toArray:=p.isList;have bx:a < s1.heap.objs.size:=by obtain⟨o,q,_⟩:=hL; exact Wi q
   refine call_enumerate_list hL λh' he hi hsz kp=>JN he ?_
   refine⟨s1.heap.objs.size + 1,[s1.heap.objs.size + 1,s1.heap.objs.size],_,_,H1,rfl,I1.kept (t':=s1.toks) kp,MH a _ _ (Nat.succ_ne_self _) (Wr (Qg bx)) (Wr bx),⟨⟨_,he⟩,hi⟩,λb hb=>?_,q⟩;have hb:b=s1.heap.objs.size + 1\/b=s1.heap.objs.size:=by simpa using hb
   have hle:s1.heap.objs.size<=b:=by rcases hb with z | z <;> subst z <;> first | exact W8 _ | exact JO _
   exact I1.j7 hle (I1.aD.fresh hle)
 ·subst ev
  cases r1 with
  | cons r rr =>
   cases rr
   cases r;obtain⟨ae,rv,p,hz⟩:=I1.tuple hq;have hL:s1.heap.IsTuple a ae.toArray:=p;have bx:a < s1.heap.objs.size:=by obtain⟨o,q,_⟩:=hL; exact Wi q
   refine MF hL λh' he hi hsz kp=>JN he ?_
   refine⟨s1.heap.objs.size + 1,[s1.heap.objs.size + 1,s1.heap.objs.size],_,_,H1,rfl,I1.kept (t':=s1.toks) kp,MI a _ _ (Nat.succ_ne_self _) (Wr (Qg bx)) (Wr bx),⟨⟨_,he⟩,hi⟩,λb hb=>?_,q⟩;have hb:b=s1.heap.objs.size + 1\/b=s1.heap.objs.size:=by simpa using hb
   have hle:s1.heap.objs.size<=b:=by rcases hb with z | z <;> subst z <;> first | exact W8 _ | exact JO _
   exact I1.j7 hle (I1.aD.fresh hle)
def gY(ds:List D):List D:=ds.mapIdx λi d=>D.tup [.int (i:Nat),d]
theorem wW{ds:List D}{i:Nat}{d:D}(h:(gY ds)[i]? = some d):∃ d',ds[i]? = some d'/\d = .tup [.int i,d']:=by
 unfold gY at h;rw[List.getElem?_mapIdx] at h
 cases e:ds[i]? with
 | none=>rw[e] at h; cases h
 | some d' =>
  rw[e] at h
  cases h;exact⟨d',rfl,rfl⟩
theorem aI.pair(r:Rep H O v d):aI H O [.int i,v] [.int i,d]:=by
 refine⟨rfl,λj v' d' e1 e2=>?_⟩;match j with
 | 0=>simp at e1 e2; subst e1 e2; exact .int _
 | 1=>simp at e1 e2; subst e1 e2; exact r
 | j + 2=>simp at e1
def kD(f:DE):DI:=λδ=>(f δ).bind λr δ1=>match r.d with
 | .lst ds=>.ok (gY ds) δ1
 | .tup ds=>.ok (gY ds) δ1
 | _=>.stuck
theorem Di {elts:List Expr} {ctx} {tp:Pos} (hg:Gl X "enumerate") (hm:X.mg "enumerate" = none) (he:SE X c e fe) (hs:Wb [e] X.env=[(false,eval e X.env)]:=by rfl):SI X c (.Tuple elts ctx tp) (.Call (.Name "enumerate" pp) [e] [] pos) (kD fe) :=
 PI.weak (MK hg hm (fJ he gI hs) hs) λσ H R ⟨δ,k,q⟩=>by
  unfold kD at q;rw[bw] at q;refine⟨δ,k,aW q λr δ1 q1 v H1 a1 r1=>?_⟩;have rr:=r1.rep;generalize r.d=d at q1 rr
  cases d <;> first | exact q1.elim | skip
  ·cases rr with
   | tup h1 h2 h3 h4 =>
    rename_i a vs;refine .inr ⟨_,rfl,⟨_,.of h2⟩,q1 _ H1 a1 ?_⟩;intro H2 kp;have h5:=kp _ _ h2 λz=>h1 (.inr z)
    have r':aI H1 (Av c σ δ1) vs _:=⟨h3,h4⟩
    refine⟨⟨vs,.of h5,by rw[r'.1]; simp[gY]⟩,λi d e=>?_⟩;obtain⟨d',e',rfl⟩:=wW e;obtain⟨v,ev,rv⟩:=r'.get e';refine⟨⟨vs,v,.of h5,ev⟩,λx H3 ⟨p,y,hp,hy,e3,ex⟩=>.inr ⟨p,_,_,hp,e3,ex,rfl,?_⟩⟩;have:=hy vs (.of h5);rw[ev] at this
    cases this;exact aI.pair rv
  ·cases rr with
   | lst h1 h2 h3 h4 =>
    rename_i a vs;refine .inl ⟨_,rfl,⟨_,.inl h2⟩,q1 _ H1 a1 ?_⟩;intro H2 kp;have h5:Rd H2 a (.lst vs):=Rd.keep h2 λo e=>kp a o e λz=>h1 (.inr z)
    have r':aI H1 (Av c σ δ1) vs _:=⟨h3,h4⟩
    refine⟨⟨vs,.inl h5,by rw[r'.1]; simp[gY]⟩,λi d e=>?_⟩;obtain⟨d',e',rfl⟩:=wW e;obtain⟨v,ev,rv⟩:=r'.get e';refine⟨⟨vs,v,.inl h5,ev⟩,λx H3 ⟨p,y,hp,hy,e3,ex⟩=>.inr ⟨p,_,_,hp,e3,ex,rfl,?_⟩⟩;have:=hy vs (.inl h5);rw[ev] at this
    cases this;exact aI.pair rv
end
end DV
namespace HT
open PySem PySem.Spec PyProof.Rows
section
variable {prog:Wj} {w:Wp} {A:Wq} {E:Value->W2->Prop} {s:W2}
theorem ML(n:Nat):Qk none none (-1) (n:Int)=((n:Int) - 1,-1):=by
 unfold Qk;simp
theorem MM(n:Nat):WV ((n:Int) - 1) (-1) (-1)=n:=by
 unfold WV;simp;try omega
theorem MN{sl:Addr}{t:Tok}{n:Nat}{Q:Int×Int×Nat->W2->Prop}(hs:s.heap.IsSliceOf sl .none .none (.int (-1) t))
  (h:Q ((n:Int) - 1,-1,n) s):W5 (model prog w) A (QR (.ref sl) (pure (n:Int))) Q E s:=by
 obtain⟨os,hos,hcs,hds⟩:=id hs;unfold QR Builtin.Slice.sliceFields;refine W0 (W0 (QK hos hds (x:=.none) rfl (W0 (QK hos hds (x:=.none) rfl (W0 (QK hos hds (x:=.int (-1) t) rfl (W3 ?_)))))));refine W0 (slicePart_int ?_);show W5 _ _ (if ((-1:Int) == 0)=true then _ else _) _ _ s;rw[if_neg (by decide)];refine W0 (slicePart_none (W0 (slicePart_none (W0 (W3 ?_)))));show W5 _ _ (match Qk none none (-1) (n:Int) with | (lo,hi)=>pure (lo,(-1:Int),WV lo hi (-1))) _ _ s;rw[ML n];show W5 _ _ (pure ((n:Int) - 1,(-1:Int),WV ((n:Int) - 1) (-1) (-1))) _ _ s;rw[MM];exact W3 h
theorem Dj:∀ {l:List α},(∀ x ∈ l,f x=g x)->l.filterMap f=l.filterMap g
 | [],_=>rfl
 | x :: l,h=>by
  rw[Jc,Jc,h x (by simp),Dj λy hy=>h y (by simp[hy])]
theorem MO(xs:Array Value):((Wf xs.size).filterMap λ(m:Nat)=>xs[(((xs.size:Int) - 1) + (m:Int) * -1).toNat]?).toArray=xs.toList.reverse.toArray:=by
 have e:((Wf xs.size).filterMap λ(m:Nat)=>xs[(((xs.size:Int) - 1) + (m:Int) * -1).toNat]?)=((Wf xs.size).map λk=>xs.size - 1 - k).filterMap (xs[·]?):=by
  rw[List.filterMap_map];refine Dj λm hm=>?_
  have:(((xs.size:Int) - 1) + (m:Int) * -1).toNat=xs.size - 1 - m:=by
   have:=WL.mp hm;omega
  simp only[this,Function.comp]
 rw[e,PySem.W.krv_range,List.filterMap_reverse,PySem.W.krv_all]
theorem MP(ht:IsTup s.heap t items)(hs:s.heap.IsSliceOf sl .none .none (.int (-1) tk))
  (h:Q (.ref s.heap.objs.size) { s with heap:=s.heap.push { cls:=.type "tuple",data:=.seq items.toList.reverse.toArray } })
  (hsz:items.size<=W6):W5 (model prog w) A (Jy (.ref t) (.ref sl)) Q E s:=by
 have j9:sizeOk (.seq items.toList.reverse.toArray):=by
  show items.toList.reverse.toArray.size<=W6;simpa using hsz
 obtain⟨os,hos,hcs,hds⟩:=id hs;have pG:s.TypeIs (.ref sl) "slice":=⟨os,hos,hcs⟩
 unfold Jy;try with_reducible refine WR ?_
 first | refine W0 (W3 ?_) | skip
 refine W0 (wpAny_sequenceKey ht.typeIs (by decide) ?_);refine W0 (WT (name:=Str.ofString "__getitem__") ht.typeIs Q1
  (Q5 Q1 ht.typeIs entry_tuple_getitem ?_ (args_tuple_getitem _ _)))
 show W5 _ _ (Builtin.Tuple.tupleItemsOf (.ref t) >>= _) _ _ s;refine W0 (tupleItemsOf_ ht ?_);refine W0 (QM pG ?_);rw[if_pos (by decide)];refine W0 (MN hs ?_);have j_:¬ ((((items.size:Int) - 1) == 0 && (-1:Int) == 1 && items.size == items.size)=true):=by
  intro q;rw[Wk,Wk] at q;exact absurd q.1.2 (by decide)
 show W5 _ _ (if (((items.size:Int) - 1) == 0 && (-1:Int) == 1 && items.size == items.size)=true then _ else _) _ _ s;rw[if_neg j_,MO];first
  | exact W0 (m:=Q0 _) (WB (W3 ⟨_,rfl,W3 h⟩) j9)
  | exact W0 (m:=Q0 _) (WB (W0 (W3 (W3 ⟨_,rfl,W3 h⟩))) j9)
  | exact W0 (W0 (m:=Q0 _) (WB (W3 (W3 ⟨_,rfl,W3 h⟩)) j9))
  | exact W0 (W0 (m:=Q0 _) (WB (W3 ⟨_,rfl,W3 h⟩) j9))
end
end HT
namespace DV
open PySem PySem.Spec PyProof.Rows L2
theorem MQ:lh X (λx H Q=>∃ a xs,x = .ref a/\cq X.K H a xs/\∀ p,H p=none->Q (.ref p) (upd H p (.tup xs.reverse))):=by
 intro pins s σ H x v t sl Q I rx hs h;obtain⟨a,xs,rfl,hx,q⟩:=h
 cases rx;obtain⟨ae,r,ht,hz⟩:=I.tuple hx;have hlen:=r.length;refine⟨"tuple",_,PyProof.Rows.slot_tuple_getitem.lookup,ht.typeIs,?_⟩;refine HT.MP ht hs ?_ (by rw[Wo]; omega);refine⟨.ref s.heap.objs.size,_,I.laid (t':=s.toks) (o:=.tup xs.reverse) (λb ob q=>W4 _ q) (W8 _) ?_,rfl,q _ (I.aD.fresh (W8 _))⟩;exact⟨by rw[List.length_reverse]; exact hz,_,r.reverse,hU.new _ _⟩
section
variable {X:Cx} {c:Fc} {e:Expr} {fb:BE} {pos p2:Pos}
def lD:D->Option S
 | .tup ds=>some (.pure (.tup ds.reverse))
 | d=>sM d
def MR(K:W1):V->Hp->VK->Prop:=λx H Q=>(∃ a xs,x = .ref a/\cq K H a xs/\∀ p,H p=none->Q (.ref p) (upd H p (.tup xs.reverse)))\/Lm K x H Q
theorem MS{st:Expr}(he:SB X c e fb)(dX:PE X st (tC (.int (-1)))):SE X c (.Subscript e (.Slice none none (some st) p2) pos) (aY lD fb) :=
 PE.weak (KL (r:=MR X.K) (MQ.or (KP.or KQ)) he dX) λσ H Q h=>qe (λc σ δ H x d s Q k rx hp q=>by
  cases d with
  | tup ds =>
   simp only[lD,W7] at hp;subst hp;obtain⟨a,vs,ea,ha,ra⟩:=rx.tup;exact .inl ⟨a,vs,ea,.of ha,λp hp=>q _ _ (.alloc k hp _) (bp.mq k ra.reverse hp)⟩
  | str z =>
   simp only[lD,sM] at hp;split at hp
   ·rename_i hz;simp only[W7] at hp;subst hp;exact .inr (.inl ⟨z,rx.str,hz,q _ H (.refl k) (.str _)⟩)
   ·cases hp
  | lst ds =>
   simp only[lD,sM,W7] at hp;subst hp;obtain⟨a,vs,ea,ha,ra⟩:=rx.lst;exact .inr (.inr ⟨a,vs,ea,.inl ha,λp hp=>q _ _ (.alloc k hp _) (bp.jK k ra.reverse hp)⟩)
  | _=>simp[lD,sM] at hp) h
def jT:D->Option S
 | .int i=>some (.pure (.int (-i)))
 | _=>none
theorem Dk(he:SB X c e fb):SE X c (.UnaryOp .USub e pos) (aY jT fb) :=
 PE.weak (Au AA he) λσ H Q h=>qe (λc σ δ H x d s Q k rx hp q=>by
  cases d with
  | int i =>
   simp only[jT,W7] at hp;subst hp;exact⟨i,rx.int,q _ H (.refl k) (.int _)⟩
  | _=>simp[jT] at hp) h
def iG:D->Bool
 | .ax=>true
 | _=>false
def dJ(neg:Bool)(d e:D):Option S:=match e with
 | .ax=>some (.pure (.bl (neg != iG d)))
 | _=>none
theorem Dm:cu (λx y H Q=>y = .ax/\Q (.bl (decide (x = .ax))) H) (dJ false):=by
 intro c σ δ H x y d e s Q k rx ry hp q
 cases e with
 | ax =>
  simp only[dJ,W7] at hp;subst hp;have ey:y = .ax:=by
   rcases ry with r | ⟨a,e,o⟩
   ·cases r; rfl
   ·exact o.elim
  have:decide (x=V.ax)=(false != iG d):=by
   rcases rx with r | ⟨a,e,o⟩
   ·cases r <;> simp[iG]
   ·subst e
    cases d <;> first | exact o.elim | simp[iG]
  exact⟨ey,by rw[this]; exact q _ H (.refl k) (.bl _)⟩
 | _=>simp[dJ] at hp
theorem wX:cu (λx y H Q=>y = .ax/\Q (.bl (!decide (x = .ax))) H) (dJ true):=by
 intro c σ δ H x y d e s Q k rx ry hp q
 cases e with
 | ax =>
  simp only[dJ,W7] at hp;subst hp;have ey:y = .ax:=by
   rcases ry with r | ⟨a,e,o⟩
   ·cases r; rfl
   ·exact o.elim
  have:(!decide (x=V.ax))=(true != iG d):=by
   rcases rx with r | ⟨a,e,o⟩
   ·cases r <;> simp[iG]
   ·subst e
    cases d <;> first | exact o.elim | simp[iG]
  exact⟨ey,by rw[this]; exact q _ H (.refl k) (.bl _)⟩
 | _=>simp[dJ] at hp
end
section
variable {c:Fc} {σ σ':St} {δ δ':Dl} {H H':Hp} {i:Nat} {a:Addr} {ds:List D}
end
section
variable {X:Cx} {c:Fc} {tg iter:Expr} {body:List Stmt} {g:DG} {b:DS} {i:Nat} {pos:Pos}
end
theorem wY(hu:X.A.units + 64 < WO):ic X (λx y H Q=>wN x y H Q\/rQ X.K x y H Q):=(MA hu).or bC
end DV
namespace L2
open PySem PySem.Spec PyProof.Rows
section
variable {X:Cx}
end
end L2
namespace DV
open PySem PySem.Spec PyProof.Rows L2
section
variable {X:Cx} {c:Fc} {e:Expr} {fe:DE} {pos:Pos}
end
section
variable {c:Fc} {σ:St} {δ δ':Dl} {H H':Hp} {i:Nat} {a p:Addr} {ds:List D}
end
open Classical in
noncomputable def itAt (δ₀:Dl) (ds:List D):DI:=λδ=>if δ=δ₀ then .ok ds δ else .stuck
section
variable {X:Cx} {c:Fc} {cs:List Nat} {tg iter elt:Expr} {ifs:List Expr} {scope:Scope} {pos:Pos} {g:DG} {t:DT} {el:DE} {i:Nat}
end
section
variable {X:Cx} {c:Fc} {e:Expr} {fe:DE} {pos pos':Pos}
end
section
variable {X:Cx} {c:Fc} {pp pos:Pos}
end
section
variable {c:Fc} {σ:St} {δ:Dl} {H:Hp} {a:Addr} {d:D}
end
section
variable {X:Cx} {c:Fc} {e:Expr} {es:List Expr} {as:List Ak} {f0:DE} {k n:Nat} {x:Str} {G:DF} {pp pos:Pos}
end
section
variable {X:Cx} {c:Fc} {e:Expr} {fe:DE} {pos:Pos}
theorem Ok.Dn(k:Ok c σ δ H)(e:δ[i]? = some (some (.own (.aM ds))))(ea:σ[i]? = some (some (.ref a)))(r:DR H (Av c σ δ) ij cM) :
  aS c σ δ H σ (δ.set i (some (.own (.aM cM)))) (upd H a (.dK ij)):=by
 have hi:i < δ.length:=(Wd.mp e).1;obtain⟨a',e_,oa,ia,nb⟩:=k.own i _ e;rw[ea] at e_; cases e_
 obtain⟨vs,ha,_⟩:=oa;have ql:Own σ δ a:=⟨i,_,e,ea⟩
 have vZ:Av c σ δ a:=.inr ql;have qm:∀ b,Own σ (δ.set i (some (.own (.aM cM)))) b ↔ Own σ δ b:=λb=>by
  constructor
  ·rintro ⟨j,d,e1,e2⟩;by_cases hj:i=j
   ·subst hj;exact⟨i,_,e,e2⟩
   ·rw[Wa hj] at e1;exact⟨j,d,e1,e2⟩
  ·rintro ⟨j,d,e1,e2⟩;by_cases hj:i=j
   ·subst hj;exact⟨i,_,by rw[Wu hi],e2⟩
   ·exact⟨j,d,by rw[Wa hj]; exact e1,e2⟩
 have mH:∀ b,Av c σ (δ.set i (some (.own (.aM cM)))) b->Av c σ δ b:=λb z=>z.elim .inl λz=>.inr ((qm b).mp z)
 have ne:∀ b,¬ Av c σ δ b->b≠a:=λb n z=>n (by rw[z]; exact vZ)
 have kp:∀ b o,H b=some o->¬ Av c σ δ b->upd H a (.dK ij) b=some o:=λb o h n=>by rw[bq (ne b n)]; exact h
 have jQ:∀ b o,H b=some o->∃ o',upd H a (.dK ij) b=some o':=λb o h=>by
  by_cases hb:b=a
  ·exact⟨_,by rw[hb]; exact dw⟩
  ·exact⟨o,by rw[bq hb]; exact h⟩
 refine⟨⟨λb o h n=>?_,λb z=>?_,λb z=>?_,by rw[Ji]; exact k.len,λj d h=>?_,λj d h=>?_,λj l b d d' h1 h2 h3 h4=>?_,k.pinned⟩,λb o h n=>?_,λb z=>.inl ((qm b).mp z),jQ⟩
 ·have hb:b≠a:=λz=>by
   subst z;rcases ia with z | z
   ·exact n z
   ·rw[z] at h; cases h
  rw[bq hb];exact k.keep b o h n
 ·obtain⟨o,h⟩:=k.bd b z;exact jQ b o h
 ·obtain⟨o,h⟩:=k.fN b z;exact jQ b o h
 ·have hj:i≠j:=λz=>by subst z; rw[Wu hi] at h; cases h
  rw[Wa hj] at h;obtain⟨v,h1,h2⟩:=k.slot j d h;exact⟨v,h1,(h2.keep kp).bf λb z=>.inl (mH b z)⟩
 ·by_cases hj:i=j
  ·subst hj;rw[Wu hi] at h
   cases h;exact⟨a,ea,(let r':=r.map λv d h=>(Rep.keep h kp).bf λb z=>.inl (mH b z); ⟨ij,dw,r'.keys,r'.vals⟩),ia,nb⟩
  ·rw[Wa hj] at h;obtain⟨b,h1,h2,h3,h4⟩:=k.own j d h;have hb:b≠a:=λz=>by subst z; exact hj (k.inj i j b _ d e h ea h1)
   exact⟨b,h1,(h2.keep kp λo q=>by rw[bq hb]; exact q).bf λb z=>.inl (mH b z),h3,h4⟩
 ·have f1:∃ d,δ[j]? = some (some (.own d)):=by
   by_cases hj:i=j
   ·subst hj; exact⟨_,e⟩
   ·rw[Wa hj] at h1; exact⟨d,h1⟩
  have f2:∃ d,δ[l]? = some (some (.own d)):=by
   by_cases hj:i=l
   ·subst hj; exact⟨_,e⟩
   ·rw[Wa hj] at h2; exact⟨d',h2⟩
  obtain⟨_,f1⟩:=f1;obtain⟨_,f2⟩:=f2;exact k.inj j l b _ _ f1 f2 h3 h4
 ·have hb:b≠a:=λz=>n (by rw[z]; exact ql)
  rw[bq hb]; exact h
def kE(δ:Dl)(i:Nat):Bool:=match δ[i]? with
 | some (some (.own (.aM _)))=>true
 | _=>false
def jt(i:Nat)(fi fe:DE):DS:=λδ=>if kE δ i then(fe δ).bind λr δ1=>if kE δ1 i then(fi δ1).bind λk δ2=>match δ2[i]? with
  | some (some (.own (.aM ds)))=>match cD k.d with
   | some kk=>if ds.length < W6 then .ok .next (δ2.set i (some (.own (.aM (putD ds kk r.d))))) else .stuck
   | none=>.stuck
  | _=>.stuck else .stuck else .stuck
theorem Dp(h:kE δ i=true):∃ ds,δ[i]? = some (some (.own (.aM ds))):=by
 unfold kE at h;split at h
 ·rename_i ds e; exact⟨ds,e⟩
 ·cases h
theorem Dq{i:Nat}{o ix:Expr}{fi:DE}{sp:Pos}(hu:X.A.units + 64 < WO)(ho:PE X o (dW i))(hi:SE X c ix fi)(he:SE X c e fe)
  (hs:QZ e (some (.Subscript o ix sp)) pos.line X.env=pure false:=by rfl):SS X c (.Assign [.Subscript o ix sp] e pos) (jt i fi fe) :=
 PS.weak (IG (by omega) ho hi he hs) λD σ H ⟨δ,k,q⟩=>by
  unfold jt eF at q;split at q
  case isFalse=>exact q.elim
  rename_i hown;rw[bw] at q;refine⟨δ,k,aW q λr δ1 q1 v H1 a1 r1=>?_⟩;split at q1
  case isFalse=>exact q1.elim
  rename_i hown1;obtain⟨ds1,e1⟩:=Dp hown1;obtain⟨a,ea,_,_⟩:=a1.ok.own i _ e1;refine⟨.ref a,ea,δ1,a1.ok,?_⟩;rw[bw] at q1;refine aW q1 λkx δ2 q2 u H2 a2 r2=>?_
  split at q2
  ·rename_i ds e2;split at q2
   ·rename_i kk hk;split at q2
    ·rename_i hz;obtain⟨a',e_,oa,_⟩:=a2.ok.own i _ e2;rw[ea] at e_; cases e_
     obtain⟨ws,ha,hk1,hk2⟩:=id oa;have dr:DR H2 (Av c σ δ2) ws ds:=DR.of hk1 hk2;have pV:=ou hk r2.b;subst pV;have hlen:ws.length=ds.length:=by have:=congrArg Qx hk1; simpa using this
     have rv:Rep H2 (Av c σ δ2) v r.d:=Rep.dZ r1.rep a2;refine⟨a,_,rfl,pK.k ha (by rw[hlen]; exact hz),?_⟩;exact q2 σ _ (a1.trans (a2.trans (Ok.Dn a2.ok e2 ea (dr.put rv))))
    ·exact q2.elim
   ·exact q2.elim
  ·exact q2.elim
end
section
variable {X:Cx} {c:Fc} {o e f:Expr} {fe ff:DE} {i:Nat} {apos bE:Pos}
def tH(δ:Dl)(i:Nat):Bool:=match δ[i]? with
 | some (some s)=>match s.d with
  | .aM _=>true
  | _=>false
 | _=>false
theorem MT(k:Ok c σ δ H)(h:tH δ i=true):∃ a ws ds s,δ[i]? = some (some s)/\s.d = .aM ds/\σ[i]? = some (some (.ref a))/\H a=some (.dK ws)/\DR H (Av c σ δ) ws ds:=by
 unfold tH at h;split at h
 ·rename_i s e;split at h
  ·rename_i ds hs;obtain⟨v,ev⟩:=pZ k e;have rb:=qh k e ev;rw[hs] at rb;obtain⟨a,ws,rfl,ha,dr⟩:=tG rb;exact⟨a,ws,ds,s,e,hs,ev,ha,dr⟩
  ·cases h
 ·cases h
def qz(i:Nat)(fe:DE):DE:=λδ=>if tH δ i then(fe δ).bind λk δ1=>match δ1[i]? with
  | some (some s)=>match s.d,cD k.d with
   | .aM ds,some kk=>.ok (.pure ((b_ ds kk).getD .ax)) δ1
   | _,_=>.stuck
  | _=>.stuck else .stuck
theorem MU (hu:X.A.units + 64 < WO) (ho:PE X o (dW i)) (he:SE X c e fe) (hb:Jg o "get" X.env (eval o X.env)=eval o X.env:=by rfl)
  (hf:((Q9 bE (Wb [e] X.env)).all (λx=>!x.1) && (backToKw bE (Jm [] X.env)).all (λx=>x.1.isSome)
   && decide (([e]:List Expr).length + ([]:List Keyword).length + (if ([]:List Keyword).isEmpty then 0 else 1) < 30))=true:=by rfl) (hl:(apos.endLine == bE.line)=true:=by rfl)
  (ht:Q9 bE (Wb [e] X.env)=[(false,eval e X.env)]:=by rfl):SE X c (.Call (.Attribute o "get" apos) [e] [] bE) (qz i fe) :=
 PE.weak (IT (by omega) ho he ⟨hb,hf,hl,ht⟩) λσ H Q ⟨δ,k,q⟩=>by
  unfold qz at q;split at q
  case isFalse=>exact q.elim
  rename_i hd;obtain⟨a,ws,ds,s,e1,e2,e3,e4,_⟩:=MT k hd;rw[bw] at q;refine⟨.ref a,e3,a,rfl,.inl ⟨ws,.inl e4⟩,δ,k,aW q λkx δ1 q1 v H1 a1 r1=>?_⟩;split at q1
  ·rename_i s1 es1;split at q1
   ·rename_i ds1 kk hs1 hk;have rb:=qh a1.ok es1 e3;rw[hs1] at rb;obtain⟨a',ws1,ea,ha1,dr1⟩:=tG rb
    cases ea;have hv:=ou hk r1.b;subst hv;refine⟨_,.inl ⟨ws1,_,.inl ha1,rfl,rfl⟩,?_⟩;rcases dr1.val kk with ⟨z1,z2⟩ | ⟨v,d,z1,z2,z3⟩
    ·rw[z1] at q1; rw[z2]
     exact q1 _ H1 a1 .ax
    ·rw[z1] at q1; rw[z2]
     exact q1 _ H1 a1 z3
   ·exact q1.elim
  ·exact q1.elim
end
def mT:Int:=2 ^ 1000
def Dr(_ j:Int):Prop:=0 < j/\j < mT
theorem MV(h0:0 < j)(h1:j < mT):j.natAbs.log2 < 9000:=by
 have e:j.natAbs < 2 ^ 1000:=by
  unfold mT at h1;have:((2 ^ 1000:Nat):Int)=(2:Int) ^ 1000:=by exact_mod_cast rfl
  omega
 have:=(Nat.log2_lt (by omega:j.natAbs≠0)).mpr e;omega
section
variable {X:Cx}
theorem Ds:bz X (Qi .FloorDiv) (rI Dr λi j=>.int (i / j)):=pE λi j _ _ _ _ _ hc q=>by
 have h1:(0:Int) < j:=hc.1;exact floordiv_int (by omega) (by rw[Int.fdiv_eq_ediv_of_nonneg i (by omega)]; exact q) (.inl (PyProof.noPylong_of_log2 (MV h1 hc.2)))
end
def qA(_ j:Int):Bool:=decide (0 < j) && decide (j < mT)
def qB:=e8 qA λi j=>.int (i / j)
theorem Dt:cu (rI Dr λi j=>V.int (i / j)) qB:=p_ (λi j h=>by
 unfold qA at h;simp only[Wk,decide_eq_true_eq] at h;exact h) λ_ _ _ _=>.int _
theorem Du(i j:Int)(h0:0 < j)(h1:j < mT):qB (.int i) (.int j)=some (.pure (.int (i / j))):=by
 show(if qA i j then some (S.pure (.int (i / j))) else none)=_;have:qA i j=true:=by unfold qA; simp only[h0,h1,decide_true,Bool.and_self]
 rw[this]; rfl
end DV
namespace L2
open PySem PySem.Spec PyProof.Rows
section
variable {X:Cx} {tg:Expr}
end
end L2
namespace DV
open PySem PySem.Spec PyProof.Rows L2
variable {X:Cx} {c:Fc} {tg e:Expr} {fe:DE} {pp pos:Pos}
def Dv(neg:Bool):R2:=λx y H Q=>∃ c d:Bool,x = .bl c/\y = .bl d/\Q (.bl (if neg then c != d else c == d)) H
section
variable {X:Cx}
theorem MW:bz X (Wz .IsNot) (Dv true):=by
 intro pins s σ H x y v u Q I rx ry h;obtain⟨c,d,rfl,rfl,q⟩:=h
 cases rx
 cases ry;exact isnot_bool (nJ I q rfl)
end
def ox(neg:Bool):D->D->Option S
 | .bl c,.bl d=>some (.pure (.bl (if neg then c != d else c == d)))
 | _,_=>none
theorem MX(neg:Bool):cu (Dv neg) (ox neg):=by
 intro c σ δ H x y d e s Q k rx ry hp q
 cases d <;> cases e <;> first
  | (simp[ox] at hp; done)
  | skip
 rename_i i j;simp only[ox,W7] at hp;subst hp;have ex:x = .bl i:=by
  rcases rx with r | ⟨a,e,o⟩
  ·cases r; rfl
  ·exact o.elim
 have ey:y = .bl j:=by
  rcases ry with r | ⟨a,e,o⟩
  ·cases r; rfl
  ·exact o.elim
 exact⟨i,j,ex,ey,q _ H (.refl k) (.bl _)⟩
section
variable {X:Cx}
end
section
variable {X:Cx} {c:Fc} {e:Expr} {fb:BE} {pos pp:Pos}
end
end DV
namespace L2
open PySem PySem.Spec PyProof.Rows
section
variable {prog:Wj} {w:Wp} {A:Wq} {E:Value->W2->Prop} {s:W2}
end
section
variable {X:Cx} {pos:Pos}
end
end L2
namespace DV
open PySem PySem.Spec PyProof.Rows L2
section
variable {X:Cx} {c:Fc} {pos:Pos}
end
open PySem PySem.Builtin PySem.Builtin.Str PySem.StrLaws
section
variable {X:Cx}
end
section
variable {X:Cx} {c:Fc} {e:Expr} {fb:BE}
end
end DV
set_option maxHeartbeats 1000000
namespace PySem
open Sem (wp)
open AutoSeq1 (wpAny_loadPart')
section
variable {prog:Wj} {w:Wp} {A:Wq} {E:Value->W2->Prop} {s:W2}
end
end PySem
namespace PyProof.Rows
open PySem
section
variable {M:Model} {A:Wq} {E:Value->W2->Prop} {s:W2} {env:Env}
end
end PyProof.Rows
set_option maxHeartbeats 400000
namespace L2
open PySem PySem.Spec PyProof.Rows
end L2
namespace DV
open PySem PySem.Spec PyProof.Rows L2
section
variable {X:Cx} {c:Fc} {tg e:Expr} {fe:DE} {pos pp:Pos}
end
end DV
namespace L2
open PySem PySem.Spec PyProof.Rows
section
variable {M:Model} {A:Wq} {E:Value->W2->Prop} {s:W2}
end
section
variable {X:Cx} {x:Str} {C:Addr} {np bE pos:Pos}
end
section
variable {X:Cx} {pins:List (Addr×Obj)} {σ:St} {H:Hp} {s:W2} {h':Heap}
end
section
variable {X:Cx} {pins:List (Addr×Obj)} {σ:St} {H:Hp} {s:W2} {h':Heap} {a T:Addr}
end
section
variable {prog:Wj} {w:Wp} {A:Wq} {E:Value->W2->Prop} {K:W1}
end
section
variable {X:Cx} {pins ps:List (Addr×Obj)} {σ:St} {H:Hp} {s:W2} {a:Addr} {xe:Value->W2->Prop} {pn:List (Addr×Obj)}
section
variable {M:Model} {E:Value->W2->Prop} {C L:Addr} {dx:Option Addr} {Q:Unit->W2->Prop}
end
end
section
variable {X:Cx} {pins:List (Addr×Obj)} {σ:St} {H:Hp} {s:W2} {b:Addr}
end
section
variable {X:Cx} {k:Nat} {f:Addr} {fd:WM} {ps:List Str} {sp:Sp} {x:Str} {p pos:Pos} {e:Expr} {es:List Expr} {t:TA} {W:Addr->Option Addr->St->Hp->Prop}
end
section
variable {P:Wj} {w:Wp} {K:W1} {mg:Str->Option Value} {base:Heap} {N:List Str} {qual:Str} {scope:Scope} {f:Addr} {cd:Value} {A:Wq} {outer:List Env} {s₀:W2} {H₀:Hp} {E:XK}
end
def Cx.loop(X:Cx):Cx:={ X with xe:=notedBy (model X.prog X.w) X.A X.env (cameBackBy (model X.prog X.w) X.A X.env X.xe) }
section
variable {X:Cx} {pins ps:List (Addr×Obj)} {σ:St} {H:Hp} {s:W2}
end
end L2
namespace DV
open PySem PySem.Spec PyProof.Rows L2
section
variable {c:Fc} {σ σ':St} {δ δ':Dl} {H H':Hp} {g:Xc->Dl->Prop}
end
abbrev DX:=List S->Option ((S×List S) ⊕ (Xc×List S))
section
variable {P:Wj} {w:Wp} {K:W1} {mg:Str->Option Value} {base:Heap}
end
section
variable {X:Cx} {c:Fc} {e:Expr} {es:List Expr} {as:List Ak} {k n:Nat} {x:Str} {G:DX} {pp pos:Pos}
end
section
variable {c:Fc} {σ σ':St} {δ δ':Dl} {H H':Hp}
end
section
variable {c:Fc} {σ σ':St} {δ δ':Dl} {H H':Hp} {B':Addr->Prop} {g:Xc->Dl->Prop}
end
end DV
namespace L2
open PySem PySem.Spec PyProof.Rows PySem.W Builtin Builtin.ObjectAttr Builtin.Getset_descriptor
section
variable {prog:Wj} {w:Wp} {A:Wq} {E:Value->W2->Prop} {K:W1} {C e:Addr} {oe:Obj} {h:Heap} {g:Array GenState} {d:Drawn} {t:Nat} {os:OsState}
end
section
variable {X:Cx} {y:Str} {D:Addr} {pos:Pos}
end
section
variable {P:Wj} {w:Wp} {K:W1} {mg:Str->Option Value} {base:Heap} {k:Nat} {f:Addr}
end
section
variable {X:Cx} {k:Nat} {f:Addr} {fd:WM} {ps:List Str} {sp:Sp} {x:Str} {p pos:Pos} {e:Expr} {es:List Expr} {t:TA}
end
end L2
namespace DV
open PySem PySem.Spec PyProof.Rows L2
section
variable {X:Cx} {c:Fc} {e:Expr} {fb:BE} {pp py pos:Pos} {y:Str} {ce:Tx->Nat} {ys:List Tx} {tab:Tx->Bool}
end
section
variable {P:Wj} {w:Wp} {K:W1} {mg:Str->Option Value} {base:Heap}
end
section
variable {X:Cx} {c:Fc} {e:Expr} {es:List Expr} {as:List Ak} {k n:Nat} {x:Str} {G:DF} {pp pos:Pos}
end
end DV
namespace L2
open PySem PySem.Spec PyProof.Rows PySem.SeqAt
section
variable {X:Cx}
end
end L2
namespace DV
open PySem PySem.Spec PyProof.Rows L2
section
variable {X:Cx} {c:Fc} {e:Expr} {fb:BE}
end
end DV
namespace L2
open PySem PySem.Spec PyProof.Rows
section
variable {X:Cx}
end
end L2
namespace DV
open PySem PySem.Spec PyProof.Rows L2
end DV
namespace PySem
open Sem (wp)
section
variable {prog:Wj} {w:Wp} {A:Wq} {E:Value->W2->Prop} {s:W2}
end
end PySem
namespace L2
open PySem PySem.Spec PyProof.Rows
section
variable {X:Cx} {pins:List (Addr×Obj)} {σ:St} {H:Hp} {s:W2} {h':Heap}
end
end L2
namespace DV
open PySem PySem.Spec PyProof.Rows L2
section
variable {X:Cx} {c:Fc} {tg e:Expr} {fe:DE} {pos pp:Pos}
end
section
variable {X:Cx} {c:Fc} {e:Expr} {es:List Expr} {as:List Ak} {k n:Nat} {x:Str} {G:DX} {pp pos:Pos}
end
end DV
namespace PySem
open Sem (wp)
section
variable {prog:Wj} {w:Wp} {A:Wq} {E:Value->W2->Prop} {hp:Heap} {g:Array GenState} {d:Drawn} {t:Nat} {os:OsState}
variable {nm qn:Str} {C N:Addr} {bs bm Tw:List Value} {Tz:Bool} {sn:List Str} {sub:List Value} {ab:Bool} {col:Option Bool} {dd:Option Addr} {k0 k1 k2 k3 k5:Option Value} {B newId TB:String}
end
end PySem
namespace L2
open PySem PySem.Spec PyProof.Rows PySem.W PySem.Builtin PySem.Builtin.ObjectAttr
section
variable {prog:Wj} {w:Wp} {A:Wq} {E:Value->W2->Prop} {s:W2} {K:W1} {x C:Addr} {name:Str} {v:Value} {R:Result->W2->Prop}
end
section
variable {P:Wj} {w:Wp} {H:Hp} {h:Heap} {C a:Addr}
end
section
variable {X:Cx} {o value:Expr} {f:Str} {ta tv:TE} {pos pos':Pos}
end
section
variable {X:Cx} {k:Nat} {f C:Addr} {fd:WM} {ps:List Str} {sp:Sp} {x:Str} {p pos:Pos} {e:Expr} {es:List Expr} {t:TA}
end
section
variable {P:Wj} {w:Wp} {K:W1} {mg:Str->Option Value} {base:Heap} {x qual f1 f2:Str} {st:Stmt} {f:Addr} {fd:WM} {N ps:List Str} {k:Nat}
end
section
variable {X:Cx} {C f:Addr} {call:Expr} {te:TE} {pos:Pos}
end
end L2
namespace DV
open PySem PySem.Spec PyProof.Rows L2 PySem.W
section
variable {X:Cx} {c:Fc} {e:Expr} {fb:BE}
end
end DV
namespace L2
open PySem PySem.Spec PyProof.Rows
section
variable {X:Cx} {tg:Expr}
end
end L2
namespace DV
open PySem PySem.Spec PyProof.Rows L2
section
variable {X:Cx} {c:Fc} {tg e:Expr} {fe:DE} {pos pp:Pos}
end
end DV
namespace PySem.SeqAt
open AutoSeq1 (wpAny_loadPart')
open MeetsSeq
theorem MY(b:Str)(u:Tok)(l:Addr)(c:Value)(es:Array DictEntry)(ep:Nat)(dd:Option Addr)(sl:Array (Option Value)) :
  Meets (Builtin.«str.__eq__» ⟨[.str b u,.ref l],[]⟩) (λ_ R s=>s.heap.get? l=some { cls:=c,dict:=dd,data:=.dict es ep,slots:=sl }/\R (.ok (.ret .notImplemented)) s) :=
 .of_wp λprog w A R s h=>by obtain⟨hp,g,d,tk,os⟩:=s; obtain⟨hl,h⟩:=h; wp_walk using Q3 hl,wpAny_load hl; exact⟨_,rfl,h⟩
theorem MZ(l:Addr)(o:Obj)(b:Str)(u:Tok) :
  Meets (Builtin.«dict.__eq__» ⟨[.ref l,.str b u],[]⟩) (λ_ R s=>s.heap.get? l=some o/\o.cls = .type "dict"/\R (.ok (.ret .notImplemented)) s) :=
 .of_wp λprog w A R s h=>by
  obtain⟨hl,hc,h⟩:=h;have hT:s.TypeIs (.ref l) "dict":=⟨o,hl,hc⟩
  show W5 _ _ (Builtin.Dict.dictSlotArgs "__eq__" ⟨[.ref l,.str b u],[]⟩ >>= _) _ _ s;refine W0 ?_;unfold Builtin.Dict.dictSlotArgs;refine W0 (wpAny_notOrdered_dict hT ?_);show W5 _ _ (pure (Value.ref l,Value.str b u)) _ _ s;refine W3 ?_;refine W0 (wpAny_isInstance (T:="str") (JI s b u) PySem.F.sub_str_dict ?_);show W5 _ _ (if (!false)=true then _ else _) _ _ s;rw[if_pos (by decide)];refine W0 (Qv ?_);exact W3 ⟨_,rfl,h⟩
section
variable {A:Wq} {s:W2}
theorem M0 (b:Str) (u:Tok) (hl:s.heap.get? l=some o) (hc:o.cls = .type "dict") (hd:o.data = .dict es ep) (hu:A.units < WO):RcAt A s (.str b u) (.ref l) false:=λprog w E Q h=>by
 obtain⟨cls,dd,data,sl⟩:=o;simp only at hc hd;subst hc hd;exact rc_eq_decline_or (k:=false) (JI s b u) ⟨_,hl,rfl⟩ (by decide) PySem.F.sub_dict_str PySem.F.slot_str_eq PySem.F.slot_dict_eq_refl
  (λ_ hq=>Jv PySem.F.slot_str_eq (JI s b u) PySem.F.entry_str_eq (PySem.F.args_str_eq_2 _ _) (MY b u l (.type "dict") es ep dd sl) ⟨hl,hq⟩)
  (λ_ hq=>Jv PySem.F.slot_dict_eq_refl ⟨_,hl,rfl⟩ PySem.F.entry_dict_eq (PySem.F.args_dict_eq_2 _ _) (MZ l _ b u) ⟨hl,rfl,hq⟩)
  (λ_ hq=>wpAny_of_eq (rfl:isSame (.str b u) (.ref l)=pure false) hq) (.inr hu) h
theorem M3 (b:Str) (u:Tok) (hl:s.heap.get? l=some o) (hc:o.cls = .type "dict") (hd:o.data = .dict es ep) (hu:A.units < WO):EqAt A s (.str b u) (.ref l) false:=λprog w E Q h=>by
 unfold eqBool;refine WR ?_;refine Jk (λjN=>absurd (JD jN) nofun) (λ_=>?_);exact W0 (M0 b u hl hc hd hu prog w E _ (QB h))
end
end PySem.SeqAt
namespace DV
open PySem PySem.Spec PyProof.Rows L2
def Dw(K:W1)(H:Hp)(x:V):Prop:=x = .ax\/(∃ b,x = .bl b)\/(∃ i,x = .int i)\/(∃ p xs,x = .ref p/\(cj K H p xs\/cq K H p xs))\/∃ a kvs,x = .ref a/\H a=some (.dK kvs)
theorem Dx(I:Inv X pins σ H s)(rx:RelV x v)(ho:Dw X.K H x)(hu:A.units < WO)(b:PySem.Str)(u:Tok):Ju A s (.str b u) v false:=by
 rcases ho with rfl | ⟨b',rfl⟩ | ⟨i,rfl⟩ | ⟨p,xs,rfl,hq | hq⟩ | ⟨a,kvs,rfl,ha⟩
 ·cases rx; exact SeqAt.EqAt.str_none b u
 ·cases rx; exact SeqAt.EqAt.str_bool b u b'
 ·obtain⟨t,rfl⟩:=rx; exact SeqAt.EqAt.str_int b u i t
 ·cases rx;obtain⟨ae,r,pl,hz⟩:=I.list hq;exact SeqAt.EqAt.str_list b u pl.isList hu
 ·cases rx;obtain⟨ae,r,pl,hz⟩:=I.tuple hq;exact SeqAt.EqAt.str_tuple b u pl hu
 ·cases rx;obtain⟨_,_,vs,_,o,es,ep,h1,h2,h3,_⟩:=nN I.aD ha;exact SeqAt.M3 b u h1 h2.1 h3 hu
theorem wZ:∀ {zs:List PySem.Str} {us:List Value},Vals (zs.map V.str) us->∀ u ∈ us,∃ z t,u = .str z t
 | [],_,r,u,hu=>by cases r; cases hu
 | z :: zs,_,r,u,hu=>by
  cases r with
  | cons r1 r2 =>
   rcases We.mp hu with rfl | hu
   ·obtain⟨t,rfl⟩:=r1; exact⟨z,t,rfl⟩
   ·exact wZ r2 u hu
def M4(K:W1)(neg:Bool):R2:=λx y H Q=>∃ (p:Addr) (zs:List PySem.Str),y = .ref p/\cj K H p (zs.map V.str)/\Dw K H x/\Q (.bl neg) H
def w6(K:W1)(neg:Bool):R2:=λx y H Q=>rS K neg x y H Q\/M4 K neg x y H Q
theorem Dy(hu:X.A.units + 64 < WO):bz X (Wz .In) (w6 X.K false):=Ba.or (by
 intro pins s σ H x y v u Q I rx ry h;obtain⟨p,zs,rfl,hl,ho,q⟩:=h
 cases ry;obtain⟨ae,r,pl,hz⟩:=I.list hl;refine SeqAt.in_listAt (λ_=>false) pl.isList (λw hw=>?_) ⟨.bl _,H,I,rfl,?_⟩
 ·obtain⟨z,t,rfl⟩:=wZ r w (by simpa using hw);exact Dx I rx ho (show X.A.units + 1 < WO by omega) z t
 ·rw[show ae.toArray.any (λ_=>false)=false by simp];exact q)
theorem Dz{X:Cx}(hu:X.A.units + 64 < WO):bz X (Wz .NotIn) (w6 X.K true):=Bb.or (by
 intro pins s σ H x y v u Q I rx ry h;obtain⟨p,zs,rfl,hl,ho,q⟩:=h
 cases ry;obtain⟨ae,r,pl,hz⟩:=I.list hl;refine SeqAt.notIn_listAt (λ_=>false) pl.isList (λw hw=>?_) ⟨.bl _,H,I,rfl,?_⟩
 ·obtain⟨z,t,rfl⟩:=wZ r w (by simpa using hw);exact Dx I rx ho (show X.A.units + 1 < WO by omega) z t
 ·rw[show ae.toArray.any (λ_=>false)=false by simp];exact q)
def iH(neg:Bool)(x y:D):Option S:=match y with
 | .lst ds=>match e9 ds with
  | none=>none
  | some ts=>match x with
   | .exc _ _=>none
   | .xd _=>none
   | .fn _=>none
   | .dic _=>none
   | .str z=>some (.pure (.bl (if neg then !ts.contains z else ts.contains z)))
   | _=>some (.pure (.bl neg))
 | _=>none
theorem tJ{K:W1}(neg:Bool):cu (w6 K neg) (iH neg):=by
 intro c σ δ H x y d e s Q k rx ry hp q
 cases e <;> first | (simp[iH] at hp; done) | skip
 rename_i ds;simp only[iH] at hp
 cases ht:e9 ds with
 | none=>rw[ht] at hp; cases hp
 | some ts =>
  rw[ht] at hp;obtain⟨a,vs,ea,ha,r⟩:=ry.lst;have ev:=n8 ht r;have hl:cj K H a ((ts.map toS).map V.str):=by rw[Wx]; rw[ev] at ha; exact .inl ha
  cases d with
  | str z =>
   cases hp;refine .inl ⟨a,vs,ea,.inl (.inl ha),by rw[rx.str]; rfl,by rw[ev]; exact wM ts,?_⟩;rw[rx.str,ev,wL];exact q _ H (.refl k) (.bl _)
  | exc n _=>cases hp
  | xd n=>cases hp
  | fn n=>cases hp
  | dic n=>cases hp
  | ax=>cases hp; exact .inr ⟨a,_,ea,hl,.inl rx.ax,q _ H (.refl k) (.bl _)⟩
  | bl b=>cases hp; exact .inr ⟨a,_,ea,hl,.inr (.inl ⟨b,rx.bl⟩),q _ H (.refl k) (.bl _)⟩
  | int i=>cases hp; exact .inr ⟨a,_,ea,hl,.inr (.inr (.inl ⟨i,rx.int⟩)),q _ H (.refl k) (.bl _)⟩
  | tup xs=>cases hp; obtain⟨p,ws,e1,h1,_⟩:=rx.tup; exact .inr ⟨a,_,ea,hl,.inr (.inr (.inr (.inl ⟨p,ws,e1,.inr (.of h1)⟩))),q _ H (.refl k) (.bl _)⟩
  | lst xs=>cases hp; obtain⟨p,ws,e1,h1,_⟩:=rx.lst; exact .inr ⟨a,_,ea,hl,.inr (.inr (.inr (.inl ⟨p,ws,e1,.inl (.inl h1)⟩))),q _ H (.refl k) (.bl _)⟩
  | aM xs=>cases hp; obtain⟨p,ws,e1,h1,_⟩:=rx.aM; exact .inr ⟨a,_,ea,hl,.inr (.inr (.inr (.inr ⟨p,ws,e1,h1⟩))),q _ H (.refl k) (.bl _)⟩
end DV
namespace PySem.SeqAt
open AutoSeq1 (wpAny_loadPart')
open MeetsSeq
abbrev prO (dd:Option Addr) (a1 a2:Int) (t1 t2:Tok) (n:Nat) (sl:Array (Option Value)):Obj:={ cls:=.type "tuple",dict:=dd,data:=.seq #[.int a1 t1,.int a2 t2] n,slots:=sl }
def ltP(a1 a2 b1 b2:Int):Bool:=if a1 == b1 then decide (a2 < b2) else decide (a1 < b1)
theorem zam(l b:Addr)(a1 a2 b1 b2:Int)(t1 t2 u1 u2:Tok)(n n2:Nat)(dd l7:Option Addr)(sl k8:Array (Option Value)) :
  Meets (Builtin.«tuple.__lt__» ⟨[.ref l,.ref b],[]⟩)
   (λ_ R s=>s.heap.get? l=some (prO dd a1 a2 t1 t2 n sl)/\s.heap.get? b=some (prO l7 b1 b2 u1 u2 n2 k8)/\R (.ok (.ret (.bool (ltP a1 a2 b1 b2)))) s) :=
 .of_wp λprog w A R s h=>by
  obtain⟨hp,g,d,tk,os⟩:=s; obtain⟨hl,hb,h⟩:=h
  have f2:=AutoSeq1.sub_tuple_tuple;wp_walk using Q3 hl,Q3 hb,wpAny_forIn_list _ (λrest c s'=>c.1=none/\s' = ⟨hp,g,d,tk,os⟩ /\
   (rest=[(.int a1 t1,.int b1 u1),(.int a2 t2,.int b2 u2)]\/(rest=[(.int a2 t2,.int b2 u2)]/\a1=b1)\/(rest=[]/\a1=b1/\a2=b2))) _
  case turn =>
   rintro ⟨y,x⟩ rest c s' ⟨hc,rfl,hz⟩;rcases hz with hz | ⟨hz,e1⟩ | ⟨hz,_⟩
   ·injection hz with hyx hrest
    cases hyx;refine W0 (EqAt.int_int a1 t1 b1 u1 prog w _ _ ?_);by_cases e:a1=b1
    ·rw[show(a1 == b1)=true by simp[e]];wp_walk
     exact⟨rfl,rfl,.inr (.inl ⟨hrest,e⟩)⟩
    ·rw[show(a1 == b1)=false by simp[e]];have bx:ltP a1 a2 b1 b2=decide (a1 < b1):=by simp[ltP,e]
     rw[bx] at h;simp only[Bool.not_false,if_true];refine W0 (Qv ?_);refine W0 (richCompare_gives (op:=.Lt) (JJ _ _ t1) (JJ _ _ u1) F.slot_int_lt F.entry_int_lt (F.args_int_lt_2 _ _) (gives_int_lt _ _ t1 u1) (λx=>nomatch x) ?_);refine W0 (W3 ?_);exact W3 (W3 ⟨_,rfl,h⟩)
   ·injection hz with hyx hrest
    cases hyx;refine W0 (EqAt.int_int a2 t2 b2 u2 prog w _ _ ?_);by_cases e:a2=b2
    ·rw[show(a2 == b2)=true by simp[e]];wp_walk
     exact⟨rfl,rfl,.inr (.inr ⟨hrest,e1,e⟩)⟩
    ·rw[show(a2 == b2)=false by simp[e]];have bx:ltP a1 a2 b1 b2=decide (a2 < b2):=by simp[ltP,e1]
     rw[bx] at h;simp only[Bool.not_false,if_true];refine W0 (Qv ?_);refine W0 (richCompare_gives (op:=.Lt) (JJ _ _ t2) (JJ _ _ u2) F.slot_int_lt F.entry_int_lt (F.args_int_lt_2 _ _) (gives_int_lt _ _ t2 u2) (λx=>nomatch x) ?_);refine W0 (W3 ?_);exact W3 (W3 ⟨_,rfl,h⟩)
   ·cases hz
  case fin =>
   rintro ⟨c1,c2⟩ s' ⟨hc,rfl,hz⟩;simp only at hc;subst hc;rcases hz with hz | ⟨hz,e1⟩ | ⟨_,e1,e2⟩
   ·cases hz
   ·cases hz
   ·have bx:ltP a1 a2 b1 b2=false:=by simp[ltP,e1,e2]
    rw[bx] at h;wp_walk
    exact⟨_,rfl,h⟩
  case h=>exact⟨rfl,rfl,.inl rfl⟩
end PySem.SeqAt
namespace PySem
open SeqAt (prO ltP zam)
section
variable {prog:Wj} {w:Wp} {A:Wq} {R:Result->W2->Prop} {I:Addr} {fp wr:List Addr} {n:Nat} {P:Nat->Value->Prop} {St:Nat->Heap->Prop}
end
section
variable {prog:Wj} {w:Wp} {A:Wq} {E:Value->W2->Prop} {s:W2}
end
end PySem
namespace DV
open PySem PySem.Spec PyProof.Rows L2
open PySem.SeqAt (prO ltP)
section
variable {X:Cx} {c:Fc} {e:Expr} {fb:BE} {pos pp:Pos}
end
def qC(fk fv:DE):DE:=λδ=>(fk δ).bind λr δ1=>(fv δ1).bind λs δ2=>match r,s with
 | .pure dk,.pure d=>match cD dk with
  | some kk=>.ok (.own (.aM [(kk,d)])) δ2
  | none=>.stuck
 | _,_=>.stuck
section
variable {c:Fc} {σ:St} {δ δ':Dl} {H H':Hp} {p:Addr}
theorem Ok.M5(k:Ok (c.plus p) σ δ H)(h0:c.H₀ p=none)(o:HO):Ok (c.plus p) σ δ (upd H p o):=by
 have sU:∀ b w,H b=some w->¬ Av (c.plus p) σ δ b->upd H p o b=some w:=λb w e n=>by
  rw[bq (λz:b=p=>n (.inl (.inr z)))]; exact e
 have ex:∀ b,(∃ w,H b=some w)->∃ w,upd H p o b=some w:=λb ⟨w,e⟩=>by
  by_cases z:b=p
  ·rw[z]; exact⟨o,dw⟩
  ·rw[bq z]; exact⟨w,e⟩
 refine⟨λa w e n=>?_,λa z=>ex a (k.bd a z),λa z=>ex a (k.fN a z),k.len,λi d e=>?_,λi d e=>?_,k.inj,k.pinned⟩
 ·rw[bq (λz:a=p=>by have e':c.H₀ a=some w:=e; rw[z,h0] at e'; cases e')];exact k.keep a w e n
 ·obtain⟨v,e1,r⟩:=k.slot i d e;exact⟨v,e1,r.keep sU⟩
 ·obtain⟨a,e1,oa,h1,h2⟩:=k.own i d e;exact⟨a,e1,oa.keep sU (λw e=>by rw[bq (λz:a=p=>h2 (.inr z))]; exact e),h1,h2⟩
theorem DB(h:post c r k)(m:∀ a δ,k a δ->k' a δ):post (c.plus p) r k':=by
 cases r with
 | ok a δ=>exact m a δ h
 | exc x δ=>exact h
 | stuck=>exact h
end
theorem M6{X:Cx}{c:Fc}{k v:Expr}{fk fv:DE}{pos:Pos}(hk:∀ c',SE X c' k fk)(hv:∀ c',SE X c' v fv):SE X c (.Dict [some k] [v] pos) (qC fk fv):=by
 have PK:PE X k (λσ H Q=>∃ c',tD c' fk σ H Q):=λpins s σ H Q I ⟨c',h⟩=>hk c' pins s σ H Q I h
 have PV:PE X v (λσ H Q=>∃ c',tD c' fv σ H Q):=λpins s σ H Q I ⟨c',h⟩=>hv c' pins s σ H Q I h
 refine PE.weak (IM (IK PK PV IJ) rfl rfl (by simp) (by simp)) λσ H Q ⟨δ,kk,q⟩=>?_
 intro p hp;show ∃ c',tD c' fk σ (upd H p (.dK [])) λx H1=>∃ c',tD c' fv σ H1 λy H2=>H2 p=some (.dK [])/\∃ kvs:List (Key×V),[(x,y)]=kvs.map (λkv=>(kV kv.1,kv.2))/\kvs.length<=15/\Q (.ref p) (upd H2 p (.dK (me [] kvs)))
 unfold qC at q;rw[bw] at q;refine⟨c.plus p,δ,kk.plus hp _,DB q λr δ1 q1 x H1 a1 rx=>?_⟩;rw[bw] at q1;refine⟨c.plus p,δ1,a1.ok,DB q1 λs δ2 q2 y H2 a2 ry=>?_⟩;have A:=a1.trans a2;have h0:=kk.nW hp;have nb:¬ c.B p:=λz=>kk.jJ hp (.inl z)
 have M7:H2 p=some (.dK []):=A.keep p _ dw λz=>kk.jJ hp (.inr z)
 cases r with
 | own d=>exact q2.elim
 | pure dk =>
  cases s with
  | own d=>exact q2.elim
  | pure d =>
   cases hkd:cD dk with
   | none=>simp only[hkd] at q2; exact q2.elim
   | some kd =>
    simp only[hkd] at q2;have ex:x=kV (cL kd):=ou hkd (.inl rx);refine⟨M7,[(cL kd,y)],by rw[ex]; rfl,by simp,?_⟩;have em:me [] [(cL kd,y)]=[(cL kd,y)]:=rfl;rw[em];have DC:=A.ok.M5 h0 (.dK [(cL kd,y)]);have ne:∀ {a w},H a=some w->a≠p:=λe z=>by rw[z,hp] at e; cases e
    refine q2 (.ref p) _ ⟨DC.less,λa w e n=>?_,λa z=>?_,λa w e=>?_⟩ ⟨p,rfl,⟨[(cL kd,y)],dw,rfl,λi u t e1 e2=>?_⟩,nb,h0,DC,hp⟩
    ·rw[bq (ne e)];exact A.keep a w (by rw[bq (ne e)]; exact e) n
    ·by_cases zp:a=p
     ·rw[zp]; exact .inr hp
     ·rcases A.own a z with z | z
      ·exact .inl z
      ·rw[bq zp] at z; exact .inr z
    ·obtain⟨w',e'⟩:=A.there a w (by rw[bq (ne e)]; exact e);exact⟨w',by rw[bq (ne e)]; exact e'⟩
    ·match i with
     | 0 =>
      cases e1
      cases e2;exact Rep.keep (show Rep H2 (Av (c.plus p) σ δ2) y d from ry) λb w e n=>by rw[bq (λz:b=p=>n (.inl (.inr z)))]; exact e
     | i + 1=>cases e1
end DV
namespace L2
open PySem PySem.Spec PyProof.Rows
end L2
namespace DV
open PySem PySem.Spec PyProof.Rows L2
section
variable {X:Cx} {c:Fc} {tg e:Expr} {fe:DE} {pos pp:Pos}
end
section
variable {K:W1} {h:Heap} {mg:Str->Option Value} {x q:Str} {st:Stmt} {f:Addr} {fd:WM}
abbrev du(K:W1)(x:Str)(st:Stmt):Prop:=∃ (f:Addr) (oc:Value) (od:Option Addr) (kV dc pm:Value) (an:Option Addr) (cd ct:Value) (sl:Array (Option Value)),
 PySem.W.nsIn K Ws x=some (some (.ref f))/\K.lookup f=some ⟨oc,od,.func (WZ x x (gL st) (dY st) (bc st) .none kV dc pm an cd ct),sl⟩/\PySem.W.codeIn K cd x=true/\J1 K (.ref f)=true
theorem dz(X:K.In h)(G:h.Ns Ws mg)(d:du K x st):∃ f fd,bS K x x st f fd/\mg x=some (.ref f):=by
 obtain⟨f,oc,od,kV,dc,pm,an,cd,ct,sl,a,l,c,k⟩:=d;exact⟨f,_,vg l c k,PySem.W.mg_of X G a⟩
abbrev Bd(x q:Str)(st:Stmt)(ps:List Str)(us:List Value):Prop:=∀ (kV doc pm:Value) (an:Option Addr) (aJ ct:Value),bindArgs (WZ x q (gL st) (dY st) (bc st) .none kV doc pm an aJ ct) ⟨us,[]⟩=pure (ps.zip us)
variable {p1 p2 p3 p4 p5 p6:Str}
theorem lE(F:bS K x q st f fd)(h:∀ a,Bd x q st [p1] [a]):Binds K fd [p1] []:=F.binds λ_ _ _ _ _ _ us hl=>match us,hl with
 | [a],_=>h a _ _ _ _ _ _
theorem gb(F:bS K x q st f fd)(h:∀ a b,Bd x q st [p1,p2] [a,b]):Binds K fd [p1,p2] []:=F.binds λ_ _ _ _ _ _ us hl=>match us,hl with
 | [a,b],_=>h a b _ _ _ _ _ _
theorem M8(F:bS K x q st f fd)(h:∀ a b c,Bd x q st [p1,p2,p3] [a,b,c]):Binds K fd [p1,p2,p3] []:=F.binds λ_ _ _ _ _ _ us hl=>match us,hl with
 | [a,b,c],_=>h a b c _ _ _ _ _ _
theorem M9(F:bS K x q st f fd)(h:∀ a b c d,Bd x q st [p1,p2,p3,p4] [a,b,c,d]):Binds K fd [p1,p2,p3,p4] []:=F.binds λ_ _ _ _ _ _ us hl=>match us,hl with
 | [a,b,c,d],_=>h a b c d _ _ _ _ _ _
theorem M_(F:bS K x q st f fd)(h:∀ a b c d e,Bd x q st [p1,p2,p3,p4,p5] [a,b,c,d,e]):Binds K fd [p1,p2,p3,p4,p5] []:=F.binds λ_ _ _ _ _ _ us hl=>match us,hl with
 | [a,b,c,d,e],_=>h a b c d e _ _ _ _ _ _
end
theorem Na{α:Type}{P:α->Prop}{a:α}(x:P a):∀ z ∈ [a],P z:=λ_ h=>by cases h with | head=>exact x | tail _ h=>cases h
end DV
namespace L2
open PySem PySem.Spec PyProof.Rows
section
variable {X:Cx} {tg:Expr}
end
section
variable {X:Cx} {e:Expr} {ta:TE} {f:Str} {pos:Pos}
end
end L2
namespace DV
open PySem PySem.Spec PyProof.Rows L2
section
variable {X:Cx} {c:Fc} {tg e:Expr} {fe:DE} {pos pp:Pos}
end
end DV
namespace L2
open PySem PySem.Spec PyProof.Rows
section
variable {X:Cx}
end
end L2
namespace DV
open PySem PySem.Spec PyProof.Rows L2
end DV
namespace L2
open PySem PySem.Spec PyProof.Rows PySem.SeqAt DV
section
variable {X:Cx}
end
end L2
namespace DV
open PySem PySem.Spec PyProof.Rows L2
def DH:D->Bool
 | .lst _=>true
 | _=>false
section
variable {X:Cx} {c:Fc} {o e:Expr} {fa fb:DE}
end
end DV
namespace L2
open PySem PySem.Spec PyProof.Rows PySem.W DV
section
variable {α β:Type} {n:Nat}
end
section
variable {n:Nat} {p:Array Nat}
end
section
variable {prog:Wj} {w:Wp} {A:Wq} {E:Value->W2->Prop} {s:W2} {vs:List Value} {ks:List Tx}
end
section
variable {X:Cx}
end
end L2
namespace DV
open PySem PySem.Spec PyProof.Rows L2
section
variable {X:Cx} {c:Fc} {e:Expr} {fb:BE} {pp pos:Pos}
end
section
variable {X:Cx} {c:Fc} {e:Expr} {fe:DE} {fb:BE} {pos:Pos}
end
section
variable {X:Cx}
end
section
variable {X:Cx} {c:Fc} {e:Expr} {fb:BE}
end
section
variable {X:Cx} {c:Fc} {e:Expr} {fe:DE}
end
section
variable {H H':Hp} {O:Addr->Prop} {v:V} {a:Addr} {us:List V}
end
section
variable {c:Fc} {σ:St} {δ δ1:Dl} {H H1:Hp} {i:Nat} {ds:List D} {g:Xc->Dl->Prop}
end
section
variable {X:Cx} {c:Fc} {e:Expr} {es:List Expr} {as:List Ak} {k n i:Nat} {x:Str} {G:DX} {pp pos:Pos}
end
section
variable {c:Fc} {σ σ':St} {δ δ':Dl} {H H':Hp} {B':Addr->Prop} {g:Xc->Dl->Prop} {i0:Nat} {a:Addr} {ds:List D}
end
end DV
namespace L2
open PySem PySem.Spec PyProof.Rows PySem.W DV
section
variable {prog:Wj} {w:Wp} {A:Wq} {E:Value->W2->Prop} {s:W2} {vs:List Value}
end
section
variable {lt:Nat->Nat->Bool} {r:Nat->Nat} {n:Nat} {α β:Type}
structure Lt(lt:Nat->Nat->Bool)(r:Nat->Nat)(n:Nat):Prop where
 lt:∀ i j,i < n->j < n->lt i j=decide (r i < r j)
 inj:∀ i j,i < n->j < n->i≠j->r i≠r j
end
end L2
namespace DV
open PySem PySem.Spec PyProof.Rows L2
section
variable {X:Cx} {c:Fc} {e:Expr} {fb:BE} {pp pos:Pos}
end
end DV
set_option maxHeartbeats 1000000
namespace SU
open PySem PyProof.Rows
def bt (w:Wp):Bool:=w.params.followText "set-order"
def iX(prog:Wj)(w:Wp)(x:Str×Tok):Int×Value:=((strKind prog w).hash x.1,.str x.1 x.2)
structure c_(prog:Wj)(w:Wp)(h:Heap)(a:Addr)(ks:List Str)(o:Obj)(es:Array (Int×Value))(ep:Nat)(t:SetTable)(xs:List (Str×Tok)):Prop where
 g:h.get? a=some o
 ex:o.ExactSet
 d:o.data = .set es ep t
 e:es.toList=xs.map (iX prog w)
 p:(xs.map (·.1)).Perm ks
 nd:ks.Nodup
 f:t.fits es.size=true
 b:es.size < JG
 l:bt w=false->t.led=true
 q:t.plain=true->ks=[]
def fE(prog:Wj)(w:Wp)(h:Heap)(a:Addr)(ks:List Str):Prop:=∃ o es ep t xs,c_ prog w h a ks o es ep t xs
def dd(σ:List Str)(v:Str):List Str:=if v ∈ σ then σ else σ ++ [v]
def fm(val:Nat->Str)(i:Nat):List Str:=((Wf i).map val).foldl dd []
theorem DJ(val:Nat->Str)(i:Nat):fm val (i + 1)=dd (fm val i) (val i):=by
 unfold fm;simp[QP,List.foldl_append]
theorem Nb(v:Str)(h:σ.Nodup):(dd σ v).Nodup:=by
 unfold dd;split
 ·exact h
 ·rename_i hv;exact Jq.mpr ⟨h,by simp,λx hx y hy e=>hv (by simp at hy; rw[<- hy,<- e]; exact hx)⟩
theorem Nc(σ:List Str)(v:Str):(dd σ v).length<=σ.length + 1:=by
 unfold dd;split
 ·omega
 ·simp
theorem DK(val:Nat->Str):∀ i,(fm val i).length<=i
 | 0=>W8 _
 | i + 1=>by
  rw[DJ];have:=DK val i;have:=Nc (fm val i) (val i);omega
section
variable {prog:Wj} {w:Wp} {A:Wq} {E:Value->W2->Prop} {s:W2}
theorem DL(h:(strKind prog w).is k v=true):∃ t,v = .str k t:=by
 cases v <;> simp[PySem.strKind,Value.isStrOf] at h
 rename_i y t;exact⟨t,by rw[h]⟩
theorem DM(xs:List (Str×Tok)):ElemsOf (strKind prog w) (xs.map (iX prog w)):=λe he=>by
 obtain⟨x,_,rfl⟩:=WD.mp he;exact⟨⟨x.1,strKind_is _ _ _ _,rfl⟩,rfl⟩
theorem DO:∀ (l:List (Int×Value)),ElemsOf (strKind prog w) l->∃ xs:List (Str×Tok),l=xs.map (iX prog w)
 | [],_=>⟨[],rfl⟩
 | e :: l,h=>by
  obtain⟨xs,e1⟩:=DO l h.tail;obtain⟨⟨k,q,r⟩,_⟩:=h.head;obtain⟨t,et⟩:=DL q;obtain⟨e0,ev⟩:=e;simp only at r et;subst r; subst et
  exact⟨(k,t) :: xs,by rw[Wn,<- e1]; rfl⟩
theorem w8{l:List (Int×Value)}{xs:List (Str×Tok)}(p:l.Perm (xs.map (iX prog w))):∃ zs:List (Str×Tok),l=zs.map (iX prog w)/\(zs.map (·.1)).Perm (xs.map (·.1)):=by
 obtain⟨zs,ez⟩:=DO l λe he=>DM xs e (p.mem_iff.mp he)
 refine⟨zs,ez,?_⟩;have q1:=p.map λe:Int×Value=>match e.2 with | .str k _=>k | _=>default
 rw[ez,Wx,Wx] at q1;exact q1
theorem w_(xs:List (Str×Tok))(k:Str):(∃ e ∈ xs.map (iX prog w),(strKind prog w).is k e.2=true) ↔ k ∈ xs.map (·.1):=by
 constructor
 ·rintro ⟨e,he,q⟩;obtain⟨x,hx,rfl⟩:=WD.mp he;obtain⟨t,et⟩:=DL q;have:x.1=k:=by injection et
  exact WD.mpr ⟨x,hx,this⟩
 ·intro h;obtain⟨x,hx,rfl⟩:=WD.mp h;exact⟨iX prog w x,WQ hx,strKind_is _ _ _ _⟩
section
variable {h:Heap} {a:Addr} {ks:List Str} {o:Obj} {es:Array (Int×Value)} {ep:Nat} {t:SetTable} {xs:List (Str×Tok)}
theorem c_.sz(x:c_ prog w h a ks o es ep t xs):es.size=ks.length:=by
 rw[<- x.p.length_eq,WA,<- Qh,x.e,WA]
theorem c_.el(x:c_ prog w h a ks o es ep t xs):ElemsOf (strKind prog w) es.toList:=by
 rw[x.e]; exact DM _
theorem c_.so(x:c_ prog w h a ks o es ep t xs):h.SetOf (strKind prog w) a (λk=>decide (k ∈ ks)) ks.length :=
 ⟨o,es,ep,t,x.g,x.ex,x.d,x.el,λk=>by rw[x.e,w_,x.p.mem_iff]; simp,x.b,x.f,x.sz⟩
theorem fE.so(x:fE prog w h a ks):h.SetOf (strKind prog w) a (λk=>decide (k ∈ ks)) ks.length:=by
 obtain⟨o,es,ep,t,xs,x⟩:=x;exact x.so
theorem fE.at'(x:fE prog w h a ks)(k:∀ o,h.get? a=some o->h'.get? a=some o):fE prog w h' a ks:=by
 obtain⟨o,es,ep,t,xs,x⟩:=x;exact⟨o,es,ep,t,xs,{ x with g:=k o x.g }⟩
end
theorem DP(ho:s.heap.get? a=some o)(hex:o.ExactSet)(hd:o.data = .set es0 ep t0)
  (he:es'.toList=xs.map (iX prog w)) (hp:(xs.map (·.1)).Perm ks) (nd:ks.Nodup) (hf:t'.fits es'.size=true) (hb:es'.size < JG) (hl:bt w=false->t'.led=true) (hq:t'.plain=true->ks=[])
  (h:∀ h',J3 a s.heap h'->c_ prog w h' a ks { o with data:=.set es' (ep + 1) t' } es' (ep + 1) t' xs->Q () { s with heap:=h' }) :
  W5 (model prog w) A (storeSet a es' t') Q E s:=by
 refine wpAny_storeSet_of ho hd ?_ (fits_of_scanBound hb);have g2:=WG (Obj.putSet es' t') ho (by rw[putSet_of _ _ hd]; rfl);rw[putSet_of _ _ hd] at g2;exact h _ (.update _ _ _) ⟨g2,hex,rfl,he,hp,nd,hf,hb,hl,hq⟩
theorem Nd(t:SetTable)(es:Array (Int×Value))(h:Int)(x:Value):(layNew t es h x).2.1.led=t.led:=by
 unfold layNew;split
 ·unfold SetTable.orStandIn;simp only;split <;> rfl
 ·rfl
theorem Nf(t:SetTable)(es:Array (Int×Value))(n:Nat):(relayAll t es n).2.1.led=t.led/\((relayAll t es n).2.1.plain=true->t.plain=true):=by
 unfold relayAll;split
 ·rename_i t' order e;have hl:t'.led=t.led/\t'.plain=t.plain:=by
   unfold SetTable.relaid SetTable.laid at e
   cases e1:SetTable.layClean (SetTable.sizeAbove n - 1) (es.map (·.1)) with
   | none=>rw[e1] at e; cases e
   | some ow =>
    rw[e1] at e;simp only[Option.bind_eq_bind,WF,Option.pure_def,W7,Prod.mk.injEq] at e;rw[<- e.1];exact⟨rfl,rfl⟩
  simp only;split
  ·exact⟨hl.1,λz=>hl.2 ▸ z⟩
  ·exact⟨rfl,λz=>by cases z⟩
 ·exact⟨rfl,λz=>by cases z⟩
theorem Ng(hS:fE prog w s.heap a ks)(hb:ks.length + 1 < JG)
  (h:∀ h',J3 a s.heap h'->fE prog w h' a (dd ks k)->Q (!decide (k ∈ ks)) { s with heap:=h' }) :
  W5 (model prog w) A (setAddHashed a (.str k tk) ((strKind prog w).hash k)) Q E s:=by
 obtain⟨o,es,ep,t,xs,x⟩:=hS;have kk:(strKind prog w).is k (.str k tk)=true:=strKind_is _ _ _ _;have hz:=x.sz;unfold setAddHashed setAddHashedIn;refine WR (W0 (QV x.g x.d x.f ?_));dsimp only;rw[byScan_of (knd:=strKind prog w) (x:=.str k tk) rfl x.b x.el,if_pos rfl];unfold setAddByScan;refine W0 (W0 (Qv (W0 (wpAny_setScan_of kk x.g x.d x.f x.el ?_))))
 cases hr:List.findIdx? (λe=>(strKind prog w).is k e.2) es.toList with
 | some j =>
  dsimp only;obtain⟨hj,hp,_⟩:=List.findIdx?_eq_some_iff_getElem.mp hr;have hk:k ∈ ks:=x.p.mem_iff.mp ((w_ (prog:=prog) (w:=w) xs k).mp ⟨_,by rw[<- x.e]; exact Qc hj,hp⟩);have e:dd ks k=ks:=by unfold dd; rw[if_pos hk]
  have:=h s.heap (.refl _ _) (by rw[e]; exact⟨o,es,ep,t,xs,x⟩);rw[decide_eq_true hk] at this;exact W3 (W3 this)
 | none =>
  dsimp only;have hk:k ∉ ks:=λhk=>by
   obtain⟨e,he,q⟩:=(w_ (prog:=prog) (w:=w) xs k).mpr (x.p.mem_iff.mpr hk);have:=List.findIdx?_eq_none_iff.mp hr e (by rw[x.e]; exact he);rw[q] at this
   cases this
  have e:dd ks k=ks ++ [k]:=by unfold dd; rw[if_neg hk]
  have nd:=Nb k x.nd;rw[decide_eq_false hk] at h;rw[e] at h nd;have qD:=layNew_perm t es ((strKind prog w).hash k) (.str k tk);have tK:=layNew_fits t es ((strKind prog w).hash k) (.str k tk);have tL:=Nd t es ((strKind prog w).hash k) (.str k tk);generalize layNew t es ((strKind prog w).hash k) (.str k tk)=L at qD tK tL ⊢;obtain⟨es1,t1,wd,gave⟩:=L;dsimp only at qD tK tL ⊢;rw[Array.toList_push,x.e] at qD;have uZ:es1.toList.Perm ((xs ++ [(k,tk)]).map (iX prog w)):=by rw[WY]; exact qD
  obtain⟨zs,ez,pz⟩:=w8 uZ;have DQ:(zs.map (·.1)).Perm (ks ++ [k]):=pz.trans (by rw[WY]; exact x.p.append_right _);have DU:es1.size < JG:=by rw[<- Qh,qD.length_eq,Q2,WA]; have:=x.p.length_eq; simp at this ⊢; omega
  have gw:∀ (b:Bool) (s₁:W2) (Q':Unit->W2->Prop),Q' () s₁->W5 (model prog w) A (match b with | true=>rule "set.scan.the-table-gave-way" | false=>pure ()) Q' E s₁ :=
   λb s₁ Q' hq=>by cases b <;> first | exact W3 hq | exact Qv hq
  refine W0 (gw _ _ _ ?_);have tail:∀ t2:SetTable,t2.fits es1.size=true->t2.led=t1.led->t2.plain=false->W5 (model prog w) A (do
    storeSet a es1 t2
    if (!wd && t2.tooFull)=true then do
      (match (relayAll t2 es1 (SetTable.grown es1.size)).2.2 with | true=>rule "set.scan.the-table-gave-way" | false=>pure ())
      storeSet a (relayAll t2 es1 (SetTable.grown es1.size)).1 (relayAll t2 es1 (SetTable.grown es1.size)).2.1
      pure (some true)
     else pure (some true)) (λr s'=>W5 (model prog w) A (match r with | some added=>pure added | none=>setAddHashedIn a (.str k tk) ((strKind prog w).hash k) 99999) Q E s') E s:=λt2 f2 l2 p2=>by
   refine W0 (DP x.g x.ex x.d ez DQ nd f2 DU (λz=>by rw[l2,tL]; exact x.l z) (λz=>by rw[p2] at z; cases z) λh1 DW x1=>?_);split
   ·have rp:=relayAll_perm t2 es1 (SetTable.grown es1.size);have rf:=relayAll_fits t2 es1 (SetTable.grown es1.size);obtain⟨rl,rq⟩:=Nf t2 es1 (SetTable.grown es1.size);generalize relayAll t2 es1 (SetTable.grown es1.size)=Rl at rp rf rl rq ⊢;obtain⟨es2,t3,gave2⟩:=Rl;dsimp only at rp rf rl rq ⊢;rw[ez] at rp;obtain⟨ys,ey,py⟩:=w8 rp;have Nh:es2.size < JG:=by rw[<- Qh,rp.length_eq,<- ez,Qh]; exact DU
    refine W0 (gw _ _ _ ?_);refine W0 (DP (s:={ s with heap:=h1 }) x1.g x1.ex x1.d ey (py.trans DQ) nd rf Nh (λz=>by rw[rl,l2,tL]; exact x.l z) (λz=>by have:=rq z; rw[p2] at this; cases this) λh2 Ni x2=>?_);exact W3 (W3 (h h2 (DW.trans Ni) ⟨_,_,_,_,_,x2⟩))
   ·exact W3 (W3 (h h1 DW ⟨_,_,_,_,_,x1⟩))
  split
  ·refine W0 ?_;rw[hashByValue_scannable 8 (x:=.str k tk) rfl];refine W3 ?_;exact tail _ (SetTable.fits_plain_off tK) rfl rfl
  ·rename_i dE;refine W0 (W3 ?_);simp only[if_true];exact tail _ tK rfl (by simpa using dE)
end
section
variable {prog:Wj} {w:Wp} {A:Wq} {R:Result->W2->Prop} {I:Addr} {fp wr:List Addr} {G:Array GenState->Array GenState->Prop} {n:Nat} {P:Nat->Value->Prop} {St:Nat->W2->Prop}
theorem Nj(W:WalksS prog w A.in1 I fp wr G n P St)(S:Addr)(DY:S ∉ fp)(val:Nat->Str)(xa:∀ i v,P i v->∃ t,v = .str (val i) t)(hb:n + 1 < JG) :
  ∀ (k i:Nat) (s:W2),n - i=k->i<=n->St i s->fE prog w s.heap S (fm val i) ->
   (∀ s',Moved (S :: wr) G s s'->fE prog w s'.heap S (fm val n)->R (.ok (.ret .none)) s') ->
   Qe (model prog w) A (.builtin "set.update.loop" ⟨[.ref S,.ref I],[]⟩) R s:=by
 have nw:S ∉ wr:=λz=>DY (W.sub _ z)
 have up:∀ b ∈ wr,b ∈ S :: wr:=λb z=>Wh _ z
 intro k;induction k with
 | zero =>
  intro i s e1 e2 st x fin;obtain rfl:i=n:=by omega
  refine Qm PyProof.Rows.F.entry_set_update_loop ?_;rw[Around.under_plainId PyProof.Rows.F.plain_set_update_loop _];show W5 _ A.in1 (Qp (.ref I) >>= _) _ _ s;refine W0 (W.done s _ _ st λs' mv=>?_);show W5 _ A.in1 (ret Value.none) _ _ s';exact W3 (fin s' (mv.mono up) (x.at' λo e=>mv.heap S _ nw e))
 | succ k ih =>
  intro i s e1 e2 st x fin;have lt:i < n:=by omega
  refine Qm PyProof.Rows.F.entry_set_update_loop ?_;rw[Around.under_plainId PyProof.Rows.F.plain_set_update_loop _];show W5 _ A.in1 (Qp (.ref I) >>= _) _ _ s;refine W0 (W.item i s _ _ lt st λv s' pv eQ mv=>?_);obtain⟨t,rfl⟩:=xa i v pv;have x':fE prog w s'.heap S (fm val i):=x.at' λo e=>mv.heap S _ nw e
  show W5 _ A.in1 (holding [Value.str (val i) t] (setAdd S (.str (val i) t)) >>= _) _ _ s';refine W0 (WR ?_);unfold setAdd;refine WR ?_;refine W0 ((strKind prog w).pyHash (k:=val i) (strKind_is _ _ _ _) ?_);refine Ng (s:={ s' with toks:=s'.toks + 1 }) x' (by have:=DK val i; omega) λh' sb y=>?_
  rw[<- DJ] at y;refine W3 ⟨QD PyProof.Rows.F.plain_set_update_loop _,ih (i + 1) _ (by omega) lt (W.frame _ s' _ _ eQ (JO _) λb z o e=>?_) y λl6 Nk z=>?_⟩
  ·rw[sb.2 b (λq:b=S=>DY (by rw[<- q]; exact z))]; exact e
  ·refine fin l6 (Moved.trans W.gtrans ((mv.mono up).then_heap (JO _) λb o z e=>?_) Nk) z;rw[sb.2 b (λq:b=S=>z (by rw[q]; exact Wl))]; exact e
end
abbrev lF (w:Wp):Obj:={ cls:=.type "set",dict:=none,data:=.set #[] 0 (.fresh 0 0 (!bt w)) }
section
variable {prog:Wj} {w:Wp} {A:Wq} {E:Value->W2->Prop} {s:W2}
theorem Nl(h:Heap):c_ prog w (h.push (lF w)) h.objs.size [] (lF w) #[] 0 (.fresh 0 0 (!bt w)) [] :=
 ⟨Wm _ rfl,⟨rfl,rfl,rfl⟩,rfl,rfl,.refl _,List.nodup_nil,rfl,by decide,λz=>by rw[z]; rfl,λ_=>rfl⟩
theorem Nm(h:Heap):fE prog w (h.push (lF w)) h.objs.size []:=⟨_,_,_,_,_,Nl h⟩
theorem Nn(a:Value)(h:Q₁ (.ref s.heap.objs.size) { s with heap:=s.heap.push (lF w) }) :
  Qe (model prog w) A (.call (.builtin "set.__new__") ⟨[.type "set",a],[]⟩) (wants Q₁ E) s:=by
 refine codeAny_of_tree ?_;show W5 _ A.in1 (do checkBuiltinCall "set.__new__" ⟨[.type "set",a],[]⟩; again (.builtin "set.__new__" ⟨[.type "set",a],[]⟩)) _ _ s;refine W0 (wpAny_of_eq (PySem.F.newCall_set_1 a) (W3 ⟨QD PySem.F.plain_set_new _,Qm PySem.F.entry_set_new ?_⟩));rw[Around.under_plainId PySem.F.plain_set_new _];unfold Builtin.«set.__new__» Builtin.Frozenset.newClass;have e:=sub_set_self;obtain⟨hp,g,d,tk,os⟩:=s;dsimp only;wp_walk
 refine Ja (W3 ?_);dsimp only;simp only[newObj];refine W0 (wpAny_alloc (W3 ?_));exact W3 h
theorem Nq
  (hi:W5 (model prog w) A.in1.in1 (Builtin.«set.__init__» ⟨[.ref s.heap.objs.size,v],[]⟩)
   (λfin s'=>match fin with | .done f=>wants (λr s₂=>r = .none/\Q (.ref s.heap.objs.size) s₂) E (.ok f) s' | .again c'=>c'.quiet=true/\Qe (model prog w) A.in1 c' (wants (λr s₂=>r = .none/\Q (.ref s.heap.objs.size) s₂) E) s')
   (λe s'=>wants (λr s₂=>r = .none/\Q (.ref s.heap.objs.size) s₂) E (.error e) s') { s with heap:=s.heap.push (lF w) }) :
  W5 (model prog w) A (call (.type "set") [v]) Q E s:=by
 obtain⟨c,tl,hmro⟩:=PySem.F.called_set.mro;have g1:=PySem.F.called_set.made;have g2:=PySem.F.called_set.sub;refine wpAny_call (codeAny_of_tree ?_);show W5 _ _ (callAny (.type "set") _) _ _ _;refine W3 ⟨Code.quiet_builtin _ (by decide +kernel),Qm PySem.F.entry_type_call ?_⟩;rw[Around.under_plain (weight_type_call_type "set" [v] []) rfl];have g3:=PySem.F.called_set.notType;have g4:=PySem.F.called_set.canCreate;have g5:=PySem.F.typeCall_set_1 v;repeat (any_goals (first | assumption | wp_step))
 refine QL (Nn v (E:=E) (Q₁:=λobj s₁=>obj = .ref s.heap.objs.size/\s₁ = { s with heap:=s.heap.push (lF w) }) ⟨rfl,rfl⟩) λr s₁ x=>?_
 cases r with
 | error e=>exact x
 | ok fl =>
  cases fl with
  | ret obj =>
   obtain⟨rfl,rfl⟩:=x;have hT:Shared.TypeIs { s with heap:=s.heap.push (lF w) } (.ref s.heap.objs.size) "set":=⟨_,Wm _ rfl,rfl⟩
   have g6:=PySem.F.called_set.init.lookup;have g7:=PySem.F.called_set.init.bind (.ref s.heap.objs.size);repeat (any_goals (first | assumption | wp_step))
   refine QL (codeAny_call_builtin (R:=wants (λr s₂=>r = .none/\Q (.ref s.heap.objs.size) s₂) E) PySem.F.called_set.init.plain PySem.F.entry_set_init (check_set_init_1 hT hi)) λr₂ s₂ y=>?_
   cases r₂ with
   | error e=>exact y
   | ok f2 =>
    cases f2 with
    | ret r =>
     obtain⟨rfl,q⟩:=y;repeat (any_goals (first | assumption | wp_step))
    | _=>exact y.elim
  | _=>exact x.elim
end
section
variable {mask:Nat} {owner:Array (Option Nat)}
end
section
variable {prog:Wj} {w:Wp} {A:Wq} {E:Value->W2->Prop} {s:W2}
theorem xb{α:Type}:∀ (l:List α) (i:Nat) (h:i < l.length),l.Perm (l[i] :: l.eraseIdx i)
 | [],i,h=>by simp at h
 | x :: l,0,h=>.refl _
 | x :: l,i + 1,h=>by
  have:=xb l i (by simpa using h);exact(this.cons x).trans (.swap _ _ _)
theorem DZ{α:Type}(next:Nat->Nat)(xs:Array α):(pickOrder next xs).toList.Perm xs.toList:=by
 have go:∀ (f k:Nat) (left:List α) (out:Array α),left.length=f->(pickOrder.go next f k left out).toList.Perm (out.toList ++ left):=by
  intro f;induction f with
  | zero =>
   intro k left out h;rw[QE h];unfold pickOrder.go;simp
  | succ f ih =>
   intro k left out h;unfold pickOrder.go;have hi:next k % left.length < left.length:=QY _ (by omega);rw[Wc hi];simp only;refine(ih _ _ _ (by rw[List.length_eraseIdx_of_lt hi]; omega)).trans ?_;rw[Array.toList_push,JL];exact List.Perm.append_left _ (xb _ _ hi).symm
 have:=go xs.size 0 xs.toList #[] (by simp);simpa[pickOrder] using this
end
section
variable {prog:Wj} {w:Wp} {A:Wq} {E:Value->W2->Prop} {s:W2}
end
theorem Nr:entryFor table "set.__iter__" = some Builtin.«frozenset.__iter__» :=
 entryFor_alias (id':="frozenset.__iter__") (by kernel_rfl) rfl (by decide +kernel) (by kernel_rfl)
theorem slot_next:Slot "set_iterator" "__next__" "set_iterator.__next__" :=
 .of (owner:="set_iterator") (n:="__next__") (by rw[typeLookup_type,Js]; kernel_rfl) (by decide +kernel) (by decide +kernel) (by decide +kernel)
  (by first | exact .inl (by decide +kernel) | exact .inr (by decide +kernel)) (by rw[isSubtype_type]; kernel_rfl)
theorem tM:entryFor table "set_iterator.__next__" = some Builtin.«set_iterator.__next__»:=entryFor_of_tree (by kernel_rfl)
theorem tN (a:Value):argsOk "set_iterator.__next__" ⟨[a],[]⟩:=by
 unfold argsOk; rw[signature?_of (id:="set_iterator.__next__") (n:="__txen__".toList) (o:="rotareti_tes".toList) (by kernel_rfl) (show Manifest.owners.lookup (String.ofList "rotareti_tes".toList.reverse)=some Manifest.sig_set_iterator by kernel_rfl)]; kernel_rfl
theorem Nt:typeLookup (.type "set") "__len__" = pure (some (.builtin "set.__len__")):=by rw[typeLookup_type,Js]; kernel_rfl
abbrev cx (f:Value) (i:Nat) (a:Addr) (n ep:Nat):Obj:={ cls:=.type "set_iterator",data:=.fields #[f,.int i 0,.ref a,.int n 0,.int ep 0] }
section
variable {prog:Wj} {w:Wp} {A:Wq} {E:Value->W2->Prop} {s:W2}
theorem Nu(h0:n≠0)(h:∀ i d,i < n->Q i { s with drawn:=d }):W5 (model prog w) A (choose src n) Q E s:=λΓ p hΓ=>by
 show Sem.wp _ Γ (.choose src n .pure) _ _ p s;rw[Sem.wp_choose];refine⟨h0,?_⟩;exact h _ _ (QY _ (by omega))
theorem D0:∀ (n:Nat) (l:List α) (s:W2) (Q:List α->W2->Prop),l.length=n->(∀ l' d,l'.Perm l->Q l' { s with drawn:=d })->W5 (model prog w) A (drawOrder n l) Q E s
 | 0,l,s,Q,hn,h=>by
  rw[QE hn] at h;exact W3 (h [] s.drawn (.refl _))
 | n + 1,l,s,Q,hn,h=>by
  have e:drawOrder (n + 1) l=(do
    let i <- choose .order l.length
    match l[i]? with
    | some x=>return x :: (<- drawOrder n (l.eraseIdx i))
    | none=>unsupported "internal:drawOrder"):=by
   cases l with
   | nil=>simp at hn
   | cons=>rfl
  rw[e];refine W0 (Nu (by omega) λi d hi=>?_);rw[Wc hi];refine W0 (D0 n (l.eraseIdx i) _ _ (by rw[List.length_eraseIdx_of_lt hi]; omega) λl' d' pl=>?_);exact W3 (h _ d' ((pl.cons _).trans (xb l i hi).symm))
section
variable {a it:Addr} {ks:List Str} {o:Obj} {es:Array (Int×Value)} {ep:Nat} {t:SetTable} {xs:List (Str×Tok)} {i:Nat}
theorem D1{sl nx:Nat}{v:Value}{Q:Option Value->W2->Prop}(x:c_ prog w s.heap a ks o es ep t xs)(hi:s.heap.get? it=some (cx (.int sl 0) i a es.size ep))
  (hn:∀ E':Value->W2->Prop,W5 (model prog w) A.in1 (setNext a sl i ep) (λr s'=>r=some (v,nx)/\s'=s) E' s)
  (h:∀ h',J3 it s.heap h'->h'.get? it=some (cx (.int nx 0) (i + 1) a es.size ep)->Q (some v) { s with heap:=h' }):W5 (model prog w) A (Qp (.ref it)) Q E s:=by
 have hT:s.TypeIs (.ref it) "set_iterator":=⟨_,hi,rfl⟩
 unfold Qp;refine W0 (wpAny_attempt (WT (name:=Str.ofString "__next__") hT slot_next (Q5 slot_next hT tM ?_ (tN _))));unfold Builtin.«set_iterator.__next__»;refine W0 (m:=slotArgs "__next__" 0 _) (W3 ?_);refine W0 (wpAny_fieldsOf hi rfl ?_);dsimp only;refine W0 (Jd x.g x.d x.f ?_);rw[if_neg (by simp)];simp only[Qq];refine W0 (WE (hn _) (λr s' ⟨e1,e2⟩=>?_) λ_ _ e=>e);subst e1; subst e2
 dsimp only;refine W0 (J2 hi rfl (by simp) ?_);have g1:=WG (Obj.mapFields (·.setIfInBounds 0 (Qy (nx:Int)))) hi (by rfl);refine W0 (J2 (s:={ s' with heap:=_ }) g1 rfl (by simp) ?_);have g2:=WG (Obj.mapFields (·.setIfInBounds 1 (Qy ((i:Int) + 1)))) g1 (by rfl);refine W3 ⟨_,rfl,W3 (h _ ((QG ..).trans (QG ..)) ?_)⟩;rw[g2];rfl
theorem D2{Q:Option Value->W2->Prop}{f:Value}{n' j:Nat}{v:Value}(hh:A.handled=none)(hi:s.heap.get? it=some (cx f i a n' ep))(hj:j < 5)
  (h:∀ h',Heap.ExtBut it s.heap h'->Q none { s with heap:=h' }) :
  W5 (model prog w) A.in1 (do
   setField (.ref it) j v
   raiseNew (<- newExc (.type "StopIteration") [])) (λ(_:PySem.Fin) _=>False) (λe s'=>W5 (model prog w) A (do
    if <- isInstance e (.type "StopIteration") then pure none else throw e) Q E s') s:=by
 refine W0 (J2 hi rfl (by simpa using hj) ?_);refine W0 ?_;simp only[newExc,newTuple];refine W0 (WB ?_ (by size_fits));refine W0 (m:=firstArgMember _ _) (wpAny_of_eq (a:=Value.none) (by first | rfl | (simp only[firstArgMember]; rfl)) ?_);refine WB ?_ (by size_fits);simp only[raiseNew];refine W0 (wpAny_handled ?_);rw[show A.in1.handled=none from hh];refine W0 (W3 (wpAny_throw ?_));refine W0 (wpAny_isInstance (T:="StopIteration") (b:=true) ⟨_,Wm _ rfl,rfl⟩ isSubtype_stop ?_);exact W3 (h _ (((QG ..).extBut.push _).push _))
end
end
section
variable {prog:Wj} {w:Wp} {A:Wq} {E:Value->W2->Prop} {s:W2}
variable {a it:Addr} {ks:List Str} {o:Obj} {es:Array (Int×Value)} {ep:Nat} {t:SetTable} {xs:List (Str×Tok)} {i:Nat}
theorem xf{sl:Nat}{Q:Option Value->W2->Prop}(hh:A.handled=none)(x:c_ prog w s.heap a ks o es ep t xs)(hi:s.heap.get? it=some (cx (.int sl 0) i a es.size ep))
  (hn:∀ E':Value->W2->Prop,W5 (model prog w) A.in1 (setNext a sl i ep) (λr s'=>r=none/\s'=s) E' s)
  (h:∀ h',Heap.ExtBut it s.heap h'->Q none { s with heap:=h' }):W5 (model prog w) A (Qp (.ref it)) Q E s:=by
 have hT:s.TypeIs (.ref it) "set_iterator":=⟨_,hi,rfl⟩
 unfold Qp;refine W0 (wpAny_attempt (WT (name:=Str.ofString "__next__") hT slot_next (Q5 slot_next hT tM ?_ (tN _))));unfold Builtin.«set_iterator.__next__»;refine W0 (m:=slotArgs "__next__" 0 _) (W3 ?_);refine W0 (wpAny_fieldsOf hi rfl ?_);dsimp only;refine W0 (Jd x.g x.d x.f ?_);rw[if_neg (by simp)];simp only[Qq];refine W0 (WE (hn _) (λr s' ⟨e1,e2⟩=>?_) λ_ _ e=>e);subst e1; subst e2
 dsimp only;exact WE (D2 hh hi (by decide) h) (λ_ _ e=>e.elim) λ_ _ e=>e
theorem Nv{T:Addr}{ps:List Nat}{oT:Obj}{nT p:Nat}{hv:Int}{v:Value}{Q:Option Value->W2->Prop}(x:c_ prog w s.heap a ks o es ep t xs)(hi:s.heap.get? it=some (cx (.ref T) i a es.size ep))
  (gT:s.heap.get? T=some oT) (dT:oT.data = .seq (ps.map λj:Nat=>Qy j).toArray nT) (hp:ps[i]? = some p) (xg:es[p]? = some (hv,v))
  (h:∀ h',J3 it s.heap h'->h'.get? it=some (cx (.ref T) (i + 1) a es.size ep)->Q (some v) { s with heap:=h' }):W5 (model prog w) A (Qp (.ref it)) Q E s:=by
 have hT:s.TypeIs (.ref it) "set_iterator":=⟨_,hi,rfl⟩
 unfold Qp;refine W0 (wpAny_attempt (WT (name:=Str.ofString "__next__") hT slot_next (Q5 slot_next hT tM ?_ (tN _))));unfold Builtin.«set_iterator.__next__»;refine W0 (m:=slotArgs "__next__" 0 _) (W3 ?_);refine W0 (wpAny_fieldsOf hi rfl ?_);dsimp only;refine W0 (Jd x.g x.d x.f ?_);rw[if_neg (by simp)];refine W0 (wpAny_seqItems gT dT ?_);dsimp only;have e1:(ps.map λj:Nat=>Qy j).toArray[i]? = some (.int (p:Int) 0):=by simp[hp,Qy]
 rw[Qq,e1];dsimp only;refine W0 ?_;unfold setNextDrawn;refine W0 (QV x.g x.d x.f ?_);simp only[Qq,bne_self_eq_false,JH,if_false];rw[xg];refine W3 ?_;refine W0 (J2 hi rfl (by simp) ?_);have g2:=WG (Obj.mapFields (·.setIfInBounds 1 (Qy ((i:Int) + 1)))) hi (by rfl);refine W3 ⟨_,rfl,W3 (h _ (QG ..) ?_)⟩;rw[g2];rfl
theorem Nw{T:Addr}{ps:List Nat}{oT:Obj}{nT:Nat}{Q:Option Value->W2->Prop}(hh:A.handled=none)(x:c_ prog w s.heap a ks o es ep t xs)(hi:s.heap.get? it=some (cx (.ref T) i a es.size ep))
  (gT:s.heap.get? T=some oT) (dT:oT.data = .seq (ps.map λj:Nat=>Qy j).toArray nT) (hp:ps[i]? = none)
  (h:∀ h',Heap.ExtBut it s.heap h'->Q none { s with heap:=h' }):W5 (model prog w) A (Qp (.ref it)) Q E s:=by
 have hT:s.TypeIs (.ref it) "set_iterator":=⟨_,hi,rfl⟩
 unfold Qp;refine W0 (wpAny_attempt (WT (name:=Str.ofString "__next__") hT slot_next (Q5 slot_next hT tM ?_ (tN _))));unfold Builtin.«set_iterator.__next__»;refine W0 (m:=slotArgs "__next__" 0 _) (W3 ?_);refine W0 (wpAny_fieldsOf hi rfl ?_);dsimp only;refine W0 (Jd x.g x.d x.f ?_);rw[if_neg (by simp)];refine W0 (wpAny_seqItems gT dT ?_);dsimp only;have e1:(ps.map λj:Nat=>Qy j).toArray[i]? = none:=by simpa using hp
 rw[Qq,e1];dsimp only;refine W0 (J2 hi rfl (by simp) ?_);have g1:(s.heap.update it (Obj.mapFields (·.setIfInBounds 0 (Qy 0)))).get? it=some (cx (Qy 0) i a es.size ep):=by
  rw[WG (Obj.mapFields (·.setIfInBounds 0 (Qy 0))) hi (by rfl)];rfl
 refine WE (D2 (s:={ s with heap:=s.heap.update it (Obj.mapFields (·.setIfInBounds 0 (Qy 0))) }) (j:=2) hh g1 (by decide) λh' eb=>h h' λb ob hb e=>?_) (λ_ _ e=>e.elim) λ_ _ e=>e
 exact eb b ob hb ((WX _ _ (Ne.symm hb)).trans e)
theorem D3(hb:bt w=true)(x:c_ prog w s.heap a ks o es ep t xs)(E':Value->W2->Prop) :
  W5 (model prog w) A (setNext a 0 i ep) (λr s'=>r=((pickOrder (w.params.setOrder a ep) es)[i]?).map (λe=>(e.2,0))/\s'=s) E' s:=by
 unfold setNext setsByText;refine W0 (QV x.g x.d x.f ?_);dsimp only;refine W0 (W0 (Ja (W3 ?_)));have fo:Params.followText w.params "set-order" = true:=hb;show W5 _ _ (if Params.followText w.params "set-order" = true then _ else _) _ _ _;rw[if_pos fo];simp only[bne_self_eq_false,JH,if_false];refine W0 ?_;unfold setWalk setsByText;refine W0 (QV x.g x.d x.f ?_);dsimp only;refine W0 (W0 (Ja (W3 ?_)));show W5 _ _ (if Params.followText w.params "set-order" = true then _ else _) _ _ _;rw[if_pos fo];refine W0 (Ja ?_);exact W3 (W3 ⟨rfl,rfl⟩)
theorem xh(hb:bt w=false)(x:c_ prog w s.heap a ks o es ep t xs)(h1:es.size<=1)(sl:Nat)(E':Value->W2->Prop) :
  W5 (model prog w) A (setNext a sl i ep) (λr s'=>r=(match es[SetTable.below t.place sl]?,t.place[SetTable.below t.place sl]? with | some (_,v),some j=>some (v,j + 1) | _,_=>none)/\s'=s) E' s:=by
 unfold setNext setsByText;refine W0 (QV x.g x.d x.f ?_);dsimp only;refine W0 (W0 (Ja (W3 ?_)));have fo:¬ Params.followText w.params "set-order" = true:=by rw[show Params.followText w.params "set-order" = false from hb]; decide
 show W5 _ _ (if Params.followText w.params "set-order" = true then _ else _) _ _ _;rw[if_neg fo];show W5 _ _ (if (!t.plain && decide (es.size > 1))=true then _ else _) _ _ _;rw[if_neg (by simp; omega)];refine W0 ?_;show W5 _ _ (if (!t.led && !es.isEmpty)=true then _ else _) _ _ _;rw[if_neg (by rw[x.l hb]; simp)];exact W3 (W3 ⟨rfl,rfl⟩)
theorem tO{St:Nat->Heap->Prop}{n:Nat}{val:Nat->Value}{S:Addr}{res:Value}{R:Result->W2->Prop}(fM:S≠it)(hn:n<=1000)
  (fr:∀ i h h',St i h->(∀ b ob,b≠S->h.get? b=some ob->h'.get? b=some ob)->St i h')
  (item:∀ (i:Nat) (s:W2) (Q:Option Value->W2->Prop) (E:Value->W2->Prop),i < n->St i s.heap->(∀ h',(∀ b ob,b≠it->s.heap.get? b=some ob->h'.get? b=some ob)->St (i + 1) h'->Q (some (val i)) { s with heap:=h' })->W5 (model prog w) A.in1 (Qp (.ref it)) Q E s)
  (done:∀ (s:W2) (Q:Option Value->W2->Prop) (E:Value->W2->Prop),St n s.heap->(∀ h',(∀ b ob,b≠it->s.heap.get? b=some ob->h'.get? b=some ob)->Q none { s with heap:=h' })->W5 (model prog w) A.in1 (Qp (.ref it)) Q E s) :
  ∀ (k i:Nat) (s:W2) (acc:Array Value) (c:Nat),n - i=k->i<=n->St i s.heap->s.heap.get? S=some { cls:=.type "list",data:=.seq acc c }->acc.toList=(Wf i).map val ->
   (∀ h' fF c',(∀ b ob,b≠S->b≠it->s.heap.get? b=some ob->h'.get? b=some ob)->h'.get? S=some { cls:=.type "list",data:=.seq fF c' }->fF.toList=(Wf n).map val->R (.ok (.ret res)) { s with heap:=h' }) ->
   Qe (model prog w) A (.builtin "list.extend.loop" ⟨[.ref S,.ref it,res],[]⟩) R s:=by
 intro k;induction k with
 | zero =>
  intro i s acc c e1 e2 st g ea fin;obtain rfl:i=n:=by omega
  refine Qm PySem.F.entry_extend_loop ?_;rw[Around.under_plainId Qw _];show W5 _ A.in1 (Qp (.ref it) >>= _) _ _ _;refine W0 (done s _ _ st λh' kp=>?_);exact W3 (fin h' acc c (λb ob _ hb e=>kp b ob hb e) (kp S _ fM g) ea)
 | succ k ih =>
  intro i s acc c e1 e2 st g ea fin;refine Qm PySem.F.entry_extend_loop ?_;rw[Around.under_plainId Qw _];show W5 _ A.in1 (Qp (.ref it) >>= _) _ _ _;refine W0 (item i s _ _ (by omega) st λh' kp eQ=>?_);have g':=kp S _ fM g;have za:acc.size=i:=by rw[<- Qh,ea]; simp
  show W5 _ A.in1 (updateSeq S (·.push (val i)) >>= _) _ _ _;refine W0 (JB (hz:=by rw[za,J0]; omega) g' rfl ?_);have g2:=WG (Obj.mapSeq (·.push (val i))) g' rfl;refine W3 ⟨QD Qw _,ih (i + 1) _ (acc.push (val i)) _ (by omega) (by omega) (fr _ _ _ eQ λb ob hb e=>(WX _ _ (Ne.symm hb)).trans e) g2 (by rw[Array.toList_push,ea,QP,WY]; rfl) λh2 fF c' wa g3 e_=>?_⟩;exact fin h2 fF c' (λb ob hb hi e=>wa b ob hb hi ((WX _ _ (Ne.symm hb)).trans (kp b ob hi e))) g3 e_
end
section
variable {prog:Wj} {w:Wp} {A:Wq} {E:Value->W2->Prop} {s:W2}
variable {a it:Addr} {ks:List Str} {o:Obj} {es:Array (Int×Value)} {ep:Nat} {t:SetTable} {xs:List (Str×Tok)} {i:Nat}
abbrev fG (ps:List Nat):Obj:={ cls:=.type "tuple",data:=.seq (ps.map λj:Nat=>Qy j).toArray }
theorem Nx(x:c_ prog w s.heap a ks o es ep t xs)(hz:es.size<=1000)
  (hI:(bt w=true\/es.size<=1)->Q (.ref s.heap.objs.size) { s with heap:=s.heap.push (cx (.int 0 0) 0 a es.size ep) })
  (hD:∀ ps d,ps.Perm (Wf es.size)->Q (.ref (s.heap.push (fG ps)).objs.size) { s with heap:=(s.heap.push (fG ps)).push (cx (.ref s.heap.objs.size) 0 a es.size ep),drawn:=d }):W5 (model prog w) A (pyIter (.ref a)) Q E s:=by
 refine wpAny_pyIter_slot x.so.typeIs PySem.F.slot_set_iter (Q5 PySem.F.slot_set_iter x.so.typeIs Nr ?_ (PySem.F.args_set_iter_1 _));unfold Builtin.«frozenset.__iter__»;refine W0 (m:=Builtin.Frozenset.slot0 "__iter__" _) (W3 ?_);unfold Builtin.Frozenset.sizeOf;refine W0 (W0 (Jd x.g x.d x.f (W3 ?_)));unfold setDrawn setsByText;refine W0 (W0 (QV x.g x.d x.f ?_));dsimp only;refine W0 (W0 (Ja (W3 ?_)));refine W3 ?_;show W5 _ _ (if (!bt w && (!t.plain && decide (es.size > 1)))=true then _ else _) _ _ _;by_cases hc:(!bt w && (!t.plain && decide (es.size > 1)))=true
 ·rw[if_pos hc];refine W0 (D0 es.size (Wf es.size) s _ (by simp) λps d pp=>?_);have hl:ps.length=es.size:=by rw[pp.length_eq,List.length_range]
  unfold newTuple;refine W0 (WB ?_ (by show(ps.map λj:Nat=>Qy j).toArray.size<=W6; rw[Wo,WA,hl,J0]; omega));have x1:c_ prog w (s.heap.push (fG ps)) a ks o es ep t xs:={ x with g:=W4 _ x.g }
  refine W0 (wpAny_setEpoch_of (s:={ s with heap:=s.heap.push (fG ps),drawn:=d }) x1.g x1.d x1.f ?_);refine W0 (WB (W3 ⟨_,rfl,"set_iterator",_,⟨_,Wm _ rfl,rfl⟩,slot_next.lookup,?_⟩));exact hD ps d pp
 ·rw[if_neg hc];refine W0 (W3 ?_);refine W0 (wpAny_setEpoch_of x.g x.d x.f ?_);refine W0 (WB (W3 ⟨_,rfl,"set_iterator",_,⟨_,Wm _ rfl,rfl⟩,slot_next.lookup,?_⟩));refine hI ?_
  cases hb:bt w with
  | true=>exact .inl rfl
  | false =>
   right
   rw[hb] at hc;refine Nat.le_of_not_lt λNy=>hc ?_
   have hp:t.plain=false:=by
    cases e:t.plain with
    | false=>rfl
    | true =>
     have hs:es.size=0:=by rw[x.sz,x.q e]; rfl
     omega
   rw[hp];simpa using Ny
theorem D4(x:fE prog w s.heap a ks)(h:Q false s):W5 (model prog w) A (Builtin.List.listLengthHint (.ref a)) Q E s:=by
 have hT:=x.so.typeIs;unfold Builtin.List.listLengthHint;refine W0 (wpAny_specialOf hT Nt ?_);generalize hid:("set.__len__" : String)=id0;wp_delta
 rw[show splitId id0=some ("set","__len__") from by subst hid; decide +kernel];subst hid;refine W0 (wpAny_isInstance (T:="set") (b:=true) hT (by rw[isSubtype_type]; kernel_rfl) ?_);refine Jk (λjN=>absurd jN (by decide)) (λ_=>?_);refine Jk (λ_=>?_) (λjN=>absurd (by decide +kernel) jN);refine W0 (QM hT ?_);exact W3 h
theorem Nz(hh:A.handled=none)(x:c_ prog w s.heap a ks o es ep t xs)(hz:es.size<=1000)(hS:S≠it)(kF:S≠a)(jS:a≠it)(hc:bt w=true\/es.size<=1)
  (hi:s.heap.get? it=some (cx (.int 0 0) 0 a es.size ep)) (gS:s.heap.get? S=some { cls:=.type "list",data:=.seq #[] c })
  (fin:∀ h' fF c' (zs:List (Str×Tok)),(∀ b ob,b≠S->b≠it->s.heap.get? b=some ob->h'.get? b=some ob)->h'.get? S=some { cls:=.type "list",data:=.seq fF c' }->fF.toList=zs.map (λz=>Value.str z.1 z.2)->(zs.map (·.1)).Perm ks->R (.ok (.ret res)) { s with heap:=h' }) :
  Qe (model prog w) A (.builtin "list.extend.loop" ⟨[.ref S,.ref it,res],[]⟩) R s:=by
 have fr:∀ (F:Nat->Value) (i:Nat) (h h':Heap),(h.get? it=some (cx (F i) i a es.size ep)/\c_ prog w h a ks o es ep t xs)->(∀ b ob,b≠S->h.get? b=some ob->h'.get? b=some ob)->(h'.get? it=some (cx (F i) i a es.size ep)/\c_ prog w h' a ks o es ep t xs) :=
  λF i h h' ⟨q1,q2⟩ k=>⟨k _ _ (Ne.symm hS) q1,{ q2 with g:=k _ _ (Ne.symm kF) q2.g }⟩
 cases hb:bt w with
 | true =>
  have pp:=DZ (w.params.setOrder a ep) es;rw[x.e] at pp;obtain⟨zs,ez,pz⟩:=w8 pp;have hl:zs.length=es.size:=by
   have:=congrArg Qx ez;have q:=(DZ (w.params.setOrder a ep) es).length_eq;simp at this q;omega
  have gt:∀ i,(pickOrder (w.params.setOrder a ep) es)[i]? = (zs[i]?).map (iX prog w):=λi=>by
   rw[<- Array.getElem?_toList,ez,Wv]
  refine tO (it:=it) (St:=λi h=>h.get? it=some (cx (.int 0 0) i a es.size ep)/\c_ prog w h a ks o es ep t xs) (n:=es.size) (val:=λi=>((zs[i]?).map λz=>Value.str z.1 z.2).getD .none) hS hz (fr λ_=>.int 0 0) ?item ?done es.size 0 s #[] c (by omega) (Qf _) ⟨hi,x⟩ gS rfl ?fin
  case item =>
   rintro i s Q E' bx ⟨q1,q2⟩ k;have gN:i < zs.length:=by omega
   refine D1 (A:=A.in1) (sl:=0) (nx:=0) (v:=Value.str zs[i].1 zs[i].2) q2 q1 (λE2=>WE (D3 (i:=i) hb q2 E2) (λr s' ⟨e1,e2⟩=>⟨by rw[e1,gt i,Wc gN]; rfl,e2⟩) λ_ _ e=>e) λh' sb g=>?_
   have:((zs[i]?).map λz=>Value.str z.1 z.2).getD .none=Value.str zs[i].1 zs[i].2:=by rw[Wc gN]; rfl
   rw[<- this];exact k h' (λb ob fo e=>(sb.2 b fo).trans e) ⟨g,{ q2 with g:=(sb.2 a jS).trans q2.g }⟩
  case done =>
   rintro s Q E' ⟨q1,q2⟩ k;refine xf (A:=A.in1) (sl:=0) hh q2 q1 (λE2=>WE (D3 hb q2 E2) (λr s' ⟨e1,e2⟩=>⟨by rw[e1,gt,WK (by omega)]; rfl,e2⟩) λ_ _ e=>e) λh' eb=>k h' λb ob fo e=>eb b ob fo e
  case fin =>
   intro h' fF c' k g ea;refine fin h' fF c' zs k g ?_ (pz.trans x.p);rw[ea,<- hl];refine List.ext_getElem (by simp) λi h1 h2=>?_
   simp at h1 h2;simp[h2]
 | false =>
  have h1:es.size<=1:=hc.resolve_left (by rw[hb]; decide);have lC:t.place.size=es.size:=by
   have:=x.f;unfold SetTable.fits at this;simp at this;exact this.1
  have xi:xs.length=es.size:=by
   have:=congrArg Qx x.e;simp at this;omega
  by_cases h0:es.size=0
  ·refine tO (it:=it) (St:=λi h=>h.get? it=some (cx (.int 0 0) i a es.size ep)/\c_ prog w h a ks o es ep t xs) (n:=0) (val:=λi=>.none) hS (by decide) (fr λ_=>.int 0 0) (λi s Q E' bx=>by omega) ?done 0 0 s #[] c rfl (W8 _) ⟨hi,x⟩ gS rfl ?fin
   case done =>
    rintro s Q E' ⟨q1,q2⟩ k;refine xf (A:=A.in1) (sl:=0) hh q2 q1 (λE2=>WE (xh hb q2 h1 0 E2) (λr s' ⟨e1,e2⟩=>⟨by
     rw[e1,Array.getElem?_eq_none (by omega)],e2⟩) λ_ _ e=>e) λh' eb=>k h' λb ob fo e=>eb b ob fo e
   case fin =>
    intro h' fF c' k g ea;have:xs=[]:=QE (by omega);refine fin h' fF c' xs k g ?_ x.p;rw[ea,this]; rfl
  ·have TC:es.size=1:=by omega
   obtain⟨z,ez⟩:∃ z,xs=[z]:=by
    match xs,xi with
    | [z],_=>exact⟨z,rfl⟩
    | [],h=>simp at h; omega
    | _ :: _ :: _,h=>simp at h; omega
   obtain⟨j,ej⟩:∃ j,t.place = #[j]:=by
    have:t.place.toList.length=1:=by simp; omega
    match hp:t.place.toList,this with
    | [j],_=>exact⟨j,by rw[<- Array.toArray_toList (xs:=t.place),hp]⟩
   have e0:es[0]? = some (iX prog w z):=by rw[<- Array.getElem?_toList,x.e,ez]; rfl
   have b0:SetTable.below t.place 0=0:=by rw[ej]; simp[SetTable.below,SetTable.below.go]
   have b1:SetTable.below t.place (j + 1)=1:=by rw[ej]; simp[SetTable.below,SetTable.below.go]
   refine tO (it:=it) (St:=λi h=>h.get? it=some (cx (.int ((if i=0 then 0 else j + 1:Nat):Int) 0) i a es.size ep)/\c_ prog w h a ks o es ep t xs) (n:=1) (val:=λi=>Value.str z.1 z.2) hS (by decide) (fr λi=>.int ((if i=0 then 0 else j + 1:Nat):Int) 0) ?item ?done 1 0 s #[] c rfl (by decide) ⟨hi,x⟩ gS rfl ?fin
   case item =>
    rintro i s Q E' bx ⟨q1,q2⟩ k;obtain rfl:i=0:=by omega
    refine D1 (A:=A.in1) (sl:=0) (nx:=j + 1) (v:=Value.str z.1 z.2) q2 q1 (λE2=>WE (xh (i:=0) hb q2 h1 0 E2) (λr s' ⟨e1,e2⟩=>⟨by
     rw[e1,b0,e0,ej]; rfl,e2⟩) λ_ _ e=>e) λh' sb g=>?_
    exact k h' (λb ob fo e=>(sb.2 b fo).trans e) ⟨g,{ q2 with g:=(sb.2 a jS).trans q2.g }⟩
   case done =>
    rintro s Q E' ⟨q1,q2⟩ k;refine xf (A:=A.in1) (sl:=j + 1) hh q2 q1 (λE2=>WE (xh hb q2 h1 (j + 1) E2) (λr s' ⟨e1,e2⟩=>⟨by
     rw[e1,b1,Array.getElem?_eq_none (by omega)],e2⟩) λ_ _ e=>e) λh' eb=>k h' λb ob fo e=>eb b ob fo e
   case fin =>
    intro h' fF c' k g ea;refine fin h' fF c' xs k g ?_ x.p;rw[ea,ez]; rfl
theorem NA{S T:Addr}{res:Value}{R:Result->W2->Prop}{c:Nat}{ps:List Nat}(hh:A.handled=none)(x:c_ prog w s.heap a ks o es ep t xs)(hz:es.size<=1000)(hS:S≠it)(kF:S≠a)(jS:a≠it)(NB:S≠T)(NC:T≠it)(pp:ps.Perm (Wf es.size))
  (hi:s.heap.get? it=some (cx (.ref T) 0 a es.size ep)) (gT:s.heap.get? T=some (fG ps)) (gS:s.heap.get? S=some { cls:=.type "list",data:=.seq #[] c })
  (fin:∀ h' fF c' (zs:List (Str×Tok)),(∀ b ob,b≠S->b≠it->s.heap.get? b=some ob->h'.get? b=some ob)->h'.get? S=some { cls:=.type "list",data:=.seq fF c' }->fF.toList=zs.map (λz=>Value.str z.1 z.2)->(zs.map (·.1)).Perm ks->R (.ok (.ret res)) { s with heap:=h' }) :
  Qe (model prog w) A (.builtin "list.extend.loop" ⟨[.ref S,.ref it,res],[]⟩) R s:=by
 have hl:ps.length=es.size:=by rw[pp.length_eq,List.length_range]
 have xi:xs.length=es.size:=by
  have:=congrArg Qx x.e;simp at this;omega
 have jm:∀ i (h:i < ps.length),ps[i] < xs.length:=λi h=>by
  have:=WL.mp (pp.mem_iff.mp (Qc h));omega
 have ge:∀ p (h:p < xs.length),es[p]? = some (iX prog w xs[p]):=λp h=>by
  rw[<- Array.getElem?_toList,x.e,Wv,Wc h]; rfl
 refine tO (it:=it) (St:=λi h=>h.get? it=some (cx (.ref T) i a es.size ep)/\c_ prog w h a ks o es ep t xs/\h.get? T=some (fG ps)) (n:=es.size) (val:=λi=>((ps[i]?).bind λp=>(xs[p]?).map λz=>Value.str z.1 z.2).getD .none) hS hz (λi h h' ⟨q1,q2,q3⟩ k=>⟨k _ _ (Ne.symm hS) q1,{ q2 with g:=k _ _ (Ne.symm kF) q2.g },k _ _ (Ne.symm NB) q3⟩) ?item ?done es.size 0 s #[] c (by omega) (Qf _) ⟨hi,x,gT⟩ gS rfl ?fin
 case item =>
  rintro i s Q E' bx ⟨q1,q2,q3⟩ k;have gN:i < ps.length:=by omega
  have hp:=jm i gN;refine Nv (A:=A.in1) (T:=T) (ps:=ps) (p:=ps[i]) q2 q1 q3 rfl (Wc gN) (ge _ hp) λh' sb g=>?_
  have:((ps[i]?).bind λp=>(xs[p]?).map λz=>Value.str z.1 z.2).getD .none=Value.str (xs[ps[i]]).1 (xs[ps[i]]).2:=by
   rw[Wc gN,WF,Wc hp]; rfl
  have k2:=k h' (λb ob fo e=>(sb.2 b fo).trans e) ⟨g,{ q2 with g:=(sb.2 a jS).trans q2.g },(sb.2 T NC).trans q3⟩;rw[this] at k2;exact k2
 case done =>
  rintro s Q E' ⟨q1,q2,q3⟩ k;exact Nw (A:=A.in1) (T:=T) (ps:=ps) hh q2 q1 q3 rfl (WK (by omega)) λh' eb=>k h' λb ob fo e=>eb b ob fo e
 case fin =>
  intro h' fF c' k g ea;refine fin h' fF c' (ps.filterMap (xs[·]?)) k g ?_ ?_
  ·rw[ea,<- hl];have all:∀ p ∈ ps,p < xs.length:=λp hp=>by have:=WL.mp (pp.mem_iff.mp hp); omega
   clear pp fin ea g k hl jm ge hi gT;have:∀ ps:List Nat,(∀ p ∈ ps,p < xs.length)->(Wf ps.length).map (λi=>((ps[i]?).bind λp=>(xs[p]?).map λz=>Value.str z.1 z.2).getD .none)=(ps.filterMap (xs[·]?)).map λz=>Value.str z.1 z.2:=λps=>by
    induction ps with
    | nil=>intro _; rfl
    | cons p ps ih =>
     intro all;have hp:=all p Wl;rw[WS,List.range_succ_eq_map,Wn,Wx];have pU:=ih λq hq=>all q (Wh _ hq)
     have e1:(p :: ps).filterMap (xs[·]?)=xs[p] :: ps.filterMap (xs[·]?):=List.filterMap_cons_some (Wc hp);rw[e1,Wn,<- pU];simp[Wc hp,Function.comp_def]
   exact this ps all
  ·have p1:(ps.filterMap (xs[·]?)).Perm xs:=(pp.filterMap _).trans (by rw[<- xi,List.filterMap_getElem?_range_length]);exact(p1.map (·.1)).trans x.p
end
section
variable {prog:Wj} {w:Wp} {A:Wq} {E:Value->W2->Prop} {s:W2}
theorem ND (hh:A.handled=none) (x:c_ prog w s.heap a ks o es ep t xs) (hz:es.size<=1000) (kF:S≠a) (gS:s.heap.get? S=some { cls:=.type "list",data:=.seq #[] c0 })
  (fin:∀ (h3:Heap) (d:Drawn) (acc:Array Value) (c:Nat) (ys:List (Str×Tok)),(∀ b ob,b≠S->s.heap.get? b=some ob->h3.get? b=some ob)->h3.get? S=some { cls:=.type "list",data:=.seq acc c }->acc.toList=ys.map (λz=>Value.str z.1 z.2)->(ys.map (·.1)).Perm ks->R (.ok (.ret res)) { s with heap:=h3,drawn:=d }) :
  W5 (model prog w) A.in1 (Builtin.List.listExtendWith (.ref S) (.ref a) res) (λfin s'=>match fin with | .done f=>R (.ok f) s' | .again c'=>c'.quiet=true/\Qe (model prog w) A c' R s') (λe s'=>R (.error e) s') s:=by
 have lt:=Wi x.g;have lS:=Wi gS;unfold Builtin.List.listExtendWith;refine W0 (QM (T:="set") x.so.typeIs ?_);have n1:Builtin.List.listSameRef (.ref S) (.ref a)=false:=by simp only[Builtin.List.listSameRef]; exact beq_eq_false_iff_ne.mpr kF
 have n2:(Value.type "set" == Value.type "list")=false:=by decide
 have n3:(Value.type "set" == Value.type "tuple")=false:=by decide
 simp only[n1,n2,n3,Bool.or_false,JH,if_false];refine W0 (Nx x hz (λhc=>?_) (λps d pp=>?_))
 ·have x2:c_ prog w (s.heap.push (cx (.int 0 0) 0 a es.size ep)) a ks o es ep t xs:={ x with g:=W4 _ x.g }
  have g1:(s.heap.push (cx (.int 0 0) 0 a es.size ep)).get? S=some { cls:=.type "list",data:=.seq #[] c0 }:=W4 _ gS;have g2:(s.heap.push (cx (.int 0 0) 0 a es.size ep)).get? s.heap.objs.size=some (cx (.int 0 0) 0 a es.size ep):=Wm _ rfl;refine W0 (WR (D4 (s:={ s with heap:=s.heap.push (cx (.int 0 0) 0 a es.size ep) }) ⟨_,_,_,_,_,x2⟩ ?_));refine Jk (λ_=>?_) (λhn=>absurd (by decide) hn);refine W0 (Qv ?_);refine W0 ?_;show W5 _ _ (updateSeq S (·.push .none) >>= λ_=>updateSeq S (·.pop)) _ _ _;refine W0 (JB (s:={ s with heap:=s.heap.push (cx (.int 0 0) 0 a es.size ep) }) g1 rfl ?_);have g4:=WG (Obj.mapSeq (·.push Value.none)) g1 rfl;refine JB (hz:=by seq_fits) g4 rfl ?_;have g5:=WG (Obj.mapSeq (·.pop)) g4 rfl;have k2:∀ b ob,b≠S->(s.heap.push (cx (.int 0 0) 0 a es.size ep)).get? b=some ob->(((s.heap.push (cx (.int 0 0) 0 a es.size ep)).update S (Obj.mapSeq (·.push Value.none))).update S (Obj.mapSeq (·.pop))).get? b=some ob:=λb ob hb e =>
   (WX _ _ (Ne.symm hb)).trans ((WX _ _ (Ne.symm hb)).trans e)
  refine W3 ⟨QD Qw _,?_⟩;refine Nz (s:={ s with heap:=_ }) hh { x2 with g:=k2 a _ (Ne.symm kF) x2.g } hz (Wr lS) kF (Wr lt) hc (k2 _ _ (J4 lS) g2) g5 λh3 acc c' ys k3 g6 ea pp=>fin h3 s.drawn acc c' ys (λb ob hb e=>?_) g6 ea pp
  have lb:=Wi e;exact k3 b ob hb (Wr lb) (k2 b ob hb (W4 _ e))
 ·have zT:(s.heap.push (fG ps)).objs.size=s.heap.objs.size + 1:=QI _ _;have x2:c_ prog w ((s.heap.push (fG ps)).push (cx (.ref s.heap.objs.size) 0 a es.size ep)) a ks o es ep t xs:={ x with g:=W4 _ (W4 _ x.g) }
  have g1:((s.heap.push (fG ps)).push (cx (.ref s.heap.objs.size) 0 a es.size ep)).get? S=some { cls:=.type "list",data:=.seq #[] c0 }:=W4 _ (W4 _ gS);have g2:((s.heap.push (fG ps)).push (cx (.ref s.heap.objs.size) 0 a es.size ep)).get? (s.heap.push (fG ps)).objs.size=some (cx (.ref s.heap.objs.size) 0 a es.size ep):=Wm _ rfl;have gT:((s.heap.push (fG ps)).push (cx (.ref s.heap.objs.size) 0 a es.size ep)).get? s.heap.objs.size=some (fG ps):=W4 _ (Wm _ rfl);have lI:S < (s.heap.push (fG ps)).objs.size:=by rw[zT]; exact Qg lS
  refine W0 (WR (D4 (s:={ s with heap:=(s.heap.push (fG ps)).push (cx (.ref s.heap.objs.size) 0 a es.size ep),drawn:=d }) ⟨_,_,_,_,_,x2⟩ ?_));refine Jk (λ_=>?_) (λhn=>absurd (by decide) hn);refine W0 (Qv ?_);refine W0 ?_;show W5 _ _ (updateSeq S (·.push .none) >>= λ_=>updateSeq S (·.pop)) _ _ _;refine W0 (JB (s:={ s with heap:=(s.heap.push (fG ps)).push (cx (.ref s.heap.objs.size) 0 a es.size ep),drawn:=d }) g1 rfl ?_);have g4:=WG (Obj.mapSeq (·.push Value.none)) g1 rfl;refine JB (hz:=by seq_fits) g4 rfl ?_;have g5:=WG (Obj.mapSeq (·.pop)) g4 rfl;have k2:∀ b ob,b≠S->((s.heap.push (fG ps)).push (cx (.ref s.heap.objs.size) 0 a es.size ep)).get? b=some ob->((((s.heap.push (fG ps)).push (cx (.ref s.heap.objs.size) 0 a es.size ep)).update S (Obj.mapSeq (·.push Value.none))).update S (Obj.mapSeq (·.pop))).get? b=some ob:=λb ob hb e =>
   (WX _ _ (Ne.symm hb)).trans ((WX _ _ (Ne.symm hb)).trans e)
  refine W3 ⟨QD Qw _,?_⟩;refine NA (s:={ s with heap:=_,drawn:=d }) (T:=s.heap.objs.size) (ps:=ps) hh { x2 with g:=k2 a _ (Ne.symm kF) x2.g } hz (Wr lI) kF (Wr (by rw[zT]; exact Qg lt)) (Wr lS) (by rw[zT]; exact Wr (JQ _)) pp (k2 _ _ (J4 lI) g2) (k2 _ _ (J4 lS) gT) g5 λh3 acc c' ys k3 g6 ea pp=>fin h3 d acc c' ys (λb ob hb e=>?_) g6 ea pp
  have lb:=Wi e;exact k3 b ob hb (Wr (by rw[zT]; exact Qg lb)) (k2 b ob hb (W4 _ (W4 _ e)))
theorem NF(hh:A.handled=none)(hA:fE prog w s.heap a ks)(hn:ks.length<=1000)
  (h:∀ (h':Heap) (d:Drawn) (zs:List (Str×Tok)),(zs.map (·.1)).Perm ks->(∀ b o,s.heap.get? b=some o->h'.get? b=some o)->s.heap.objs.size < h'.objs.size->Q (zs.map λz=>Value.str z.1 z.2) { s with heap:=h',drawn:=d }):W5 (model prog w) A (collect (.ref a)) Q E s:=by
 obtain⟨o,es,ep,t,xs,x⟩:=hA;have hz:es.size<=1000:=by rw[x.sz]; exact hn
 have lt:=Wi x.g;unfold collect;refine W0 (wpAny_runValue (Qm PySem.F.entry_proto_collect ?_));rw[Around.under_plainId PySem.F.plain_proto_collect _];show W5 _ A.in1 (newList [] >>= λl=>again (.builtin "list.__iadd__" ⟨[l,.ref a],[]⟩)) _ _ s;refine W0 (WB ?_);refine W3 ⟨QD PySem.F.plain_list_iadd _,Qm PySem.F.entry_list_iadd ?_⟩;rw[Around.under_plainId PySem.F.plain_list_iadd _];generalize hL:({ cls:=.type "list",data:=.seq ([]:List Value).toArray }:Obj)=L0;have g0:(s.heap.push L0).get? s.heap.objs.size=some { cls:=.type "list",data:=.seq #[] }:=by rw[<- hL]; exact Wm _ rfl
 have x1:c_ prog w (s.heap.push L0) a ks o es ep t xs:={ x with g:=W4 _ x.g }
 show W5 _ A.in1 (Builtin.List.listExtendWith (.ref s.heap.objs.size) (.ref a) (.ref s.heap.objs.size)) _ _ _;have key:=ND (A:=A) (s:={ s with heap:=s.heap.push L0 }) (res:=.ref s.heap.objs.size) (R:=λq s'=>∃ (h3:Heap) (d:Drawn) (acc:Array Value) (c:Nat) (ys:List (Str×Tok)),q = .ok (.ret (.ref s.heap.objs.size))/\s' = { s with heap:=h3,drawn:=d }/\(∀ b ob,s.heap.get? b=some ob->h3.get? b=some ob)/\h3.get? s.heap.objs.size=some { cls:=.type "list",data:=.seq acc c }/\acc.toList=ys.map (λz=>Value.str z.1 z.2)/\(ys.map (·.1)).Perm ks) hh x1 hz (J4 lt) g0 λh3 d acc c ys k3 g3 ea pp =>
  ⟨h3,d,acc,c,ys,rfl,rfl,λb ob e=>k3 b ob (Wr (Wi e)) (W4 _ e),g3,ea,pp⟩
 have last:∀ (h3:Heap) (d:Drawn) (acc:Array Value) (c:Nat) (ys:List (Str×Tok)),(∀ b ob,s.heap.get? b=some ob->h3.get? b=some ob)->h3.get? s.heap.objs.size=some { cls:=.type "list",data:=.seq acc c }->acc.toList=ys.map (λz=>Value.str z.1 z.2)->(ys.map (·.1)).Perm ks ->
   W5 (model prog w) A (do
    match (<- load s.heap.objs.size).data with
    | .seq xs _=>pure xs.toList
    | _=>unsupported "internal:collect") Q E { s with heap:=h3,drawn:=d }:=λh3 d acc c ys k3 g3 ea pp=>by
  refine W0 (wpAny_load g3 ?_);refine W3 ?_;show Q acc.toList _;rw[ea];exact h h3 d ys pp k3 (Wi g3)
 refine WE key (λfin s' z=>?_) λe s' z=>?_
 ·cases fin with
  | done f =>
   obtain⟨h3,d,acc,c,ys,e,rfl,k3,g3,ea,pp⟩:=z
   cases e;exact last h3 d acc c ys k3 g3 ea pp
  | again c₁ =>
   refine⟨z.1,QL z.2 λq s₂ y=>?_⟩;obtain⟨h3,d,acc,c,ys,rfl,rfl,k3,g3,ea,pp⟩:=y;exact last h3 d acc c ys k3 g3 ea pp
 ·obtain⟨_,_,_,_,_,e',_⟩:=z
  cases e'
theorem NG(zs:List (Str×Tok)):StrsAre (zs.map λz=>Value.str z.1 z.2) (zs.map (·.1)):=by
 induction zs with
 | nil=>exact .nil
 | cons z zs ih=>exact .cons _ _ ih
theorem NH(hh:A.handled=none)(hA:fE prog w s.heap a ks)(hn:ks.length < 64)
  (h:∀ (h':Heap) (d:Drawn) (p:Addr) (e:Nat) (out:Array Value) (ss:List Str),StrsAre out.toList ss->ss.Perm ks->sortedS ss=true->(∀ b o,s.heap.get? b=some o->h'.get? b=some o)->s.heap.objs.size<=p->h'.get? p=some (seqObj "list" out e)->Q (.ref p) { s with heap:=h',drawn:=d }) :
  W5 (model prog w) A (call (.builtin "sorted") [.ref a]) Q E s:=by
 refine Calls.call_function_entry kind_sorted plain_sorted entry_sorted (args_sorted1 _) ?_;unfold Builtin.«sorted»;refine W0 (m:=checkCount "sorted" 1 1 _) (W3 (W0 (NF (A:=A.in1) hh hA (by omega) λh1 d zs pz k1 hz=>?_)));have hl:(zs.map λz=>Value.str z.1 z.2).length < 64:=by have:=pz.length_eq; simp at this ⊢; omega
 refine W0 (wpAny_newList ?_ (by rw[J0]; omega));have hS:=NG zs;generalize (zs.map λz=>Value.str z.1 z.2)=vs at hl hS ⊢;have ho:(h1.push (seqObj "list" vs.toArray 0)).get? h1.objs.size=some (seqObj "list" vs.toArray 0):=Wm _ rfl;refine W0 (WR (Q5 slot_list_sort ⟨_,ho,rfl⟩ entry_list_sort (list_sort_treeK (s:={ s with heap:=h1.push (seqObj "list" vs.toArray 0),drawn:=d }) strKind_oneLt ho hS.keysOf (λv₁ v₂ rest e=>keyKind_strs (by rw[<- e]; exact hS)) hl λeQ hp hs=>⟨_,rfl,?_⟩) (args_list_sort _)));obtain⟨ss',q1,q2,q3⟩:=sorted_out_str hS hp hs;obtain⟨e,he⟩:=sortedHeap_at (out:=(arrOf eQ).map (·.2)) ho;refine W3 ⟨_,rfl,h _ d h1.objs.size e _ ss' q1 (q2.trans pz) q3 (λb o q=>?_) (Jr hz) he⟩;have r1:=k1 b o q;have lb:=Wi r1;rw[sortedHeap_old (Wr lb) (by rw[size_push']; exact Qg lb)];exact W4 _ r1
end
end SU
set_option maxHeartbeats 400000
namespace L2
open PySem PySem.Spec PyProof.Rows PySem.W DV SU
def lG(X:Cx)(a:Addr)(ks:List Str):HO:=.ext λh=>fE X.prog X.w h a ks
theorem NI(x:fE X.prog X.w h a ks):bZ X.prog X.w H h a (lG X a ks):=by
 refine⟨x,?_,λh1 h2 y k=>y.at' k⟩;obtain⟨o,es,ep,t,xs,z⟩:=x;exact⟨o,z.g⟩
theorem NJ(ok:cB X.prog X.w H h)(e:H a=some (lG X a ks)):fE X.prog X.w h a ks :=
 (show bZ X.prog X.w H h a (lG X a ks) from ok a _ e).1
section
variable {X:Cx}
theorem Inv.drawn(I:Inv X pins σ H s)(d:Drawn):Inv X pins σ H { s with drawn:=d } :=
 ⟨I.ok,I.os,I.bare,I.base,I.loc,I.cell,I.free,I.h9,I.pin,I.aD,I.len⟩
theorem pX:∀ {vs:List Value} {ss:List Str},StrsAre vs ss->Vals (ss.map V.str) vs
 | _,_,.nil=>.nil
 | _,_,.cons x t h=>.cons ⟨t,rfl⟩ (pX h)
theorem NL (hc:X.calm=true):dM X (.builtin "sorted") (λxs H Q=>∃ (a:Addr) (ts:List Tx),xs=[.ref a]/\H a=some (lG X a (ts.map toS))/\ts.length < 64/\∀ p,H p=none->Q (.ref p) (upd H p (.lst ((eZ ts).map λz=>V.str (toS z))))):=by
 intro pins s σ H xs us Q I r h;obtain⟨a,ts,rfl,ha,hz,q⟩:=h;obtain⟨u,rfl,ru⟩:=fW r
 cases ru;refine NH (I.ok.hd hc) (NJ I.aD ha) (by simpa using hz) λh' d p e out ss hS hp hs k D5 g=>?_
 have e2:ss=(eZ ts).map toS:=by
  have vH:(ss.map λz:Str=>z.cps.toList).Pairwise ip:=by
   cases ss with
   | nil=>simp
   | cons x r=>exact vG x r hs
  have pY:(ss.map λz:Str=>z.cps.toList).Perm ts:=by
   have:=hp.map λz:Str=>z.cps.toList
   rw[Wx] at this;have e2:ts.map ((λz:Str=>z.cps.toList) ∘ toS)=ts:=by
    rw[show((λz:Str=>z.cps.toList) ∘ toS)=id from funext λz=>pT z,List.map_id]
   rw[e2] at this;exact this
  rw[<- B1 pY vH,Wx];rw[show(toS ∘ λz:Str=>z.cps.toList)=id from funext λz=>(vq z).symm,List.map_id]
 have rv:Vals ((eZ ts).map λz=>V.str (toS z)) out.toList:=by
  have:=pX hS;rw[e2,Wx] at this;exact this
 have hl:(eZ ts).length=ts.length:=(sA ts).length_eq;have I1:=(I.drawn d).laid (h':=h') (t':=s.toks) (o:=.lst ((eZ ts).map λz=>V.str (toS z))) k D5 (show bZ X.prog X.w _ _ _ (.lst _) from⟨by rw[WA,hl,J0]; omega,out.toList,e,rv,g⟩);exact⟨.ref _,_,I1,rfl,q _ (I.aD.fresh D5)⟩
end
end L2
namespace DV
open PySem PySem.Spec PyProof.Rows L2 SU
section
variable {X:Cx} {c:Fc} {a b:Expr} {f g:DE} {pp pos p1 TF p3 p4 p5:Pos}
end
end DV
namespace L2
open PySem PySem.Spec PyProof.Rows PySem.W DV
section
variable {X:Cx}
end
end L2
namespace DV
open PySem PySem.Spec PyProof.Rows L2
section
variable {X:Cx} {c:Fc} {e:Expr} {fb:BE} {pp pos:Pos}
end
section
variable {X:Cx}
end
section
variable {X:Cx} {c:Fc} {o e:Expr} {fa fb:DE}
end
end DV
set_option maxHeartbeats 3200000
namespace SU
open PySem PyProof.Rows
theorem NM:isSubtype (.type "str") (.type "set")=pure false:=by rw[isSubtype_type]; kernel_rfl
theorem NN:isSubtype (.type "str") (.type "frozenset")=pure false:=by rw[isSubtype_type]; kernel_rfl
section
variable {prog:Wj} {w:Wp} {A:Wq} {E:Value->W2->Prop} {s:W2}
theorem NO(hh:A.handled=none)(hb:x.cps.size + 1 < JG)
  (h:∀ (h':Heap) (tk:Nat),fE prog w h' s.heap.objs.size (fm (λi=>⟨#[x.cps.getD i 0]⟩) x.cps.size)->(∀ b o,s.heap.get? b=some o->h'.get? b=some o)->Q (.ref s.heap.objs.size) { s with heap:=h',toks:=tk }) :
  W5 (model prog w) A (call (.type "set") [.str x t]) Q E s:=by
 refine Nq ?_;have e1:=NM;have e2:=NN;have e3:(Value.type "str" == Value.type "dict")=false:=by decide
 unfold Builtin.«set.__init__» noKeywords Builtin.Frozenset.updateFrom;generalize hPI:pyIter=PI;wp_walk
 subst hPI;refine wpAny_pyIter_str λo St W dX=>?_
 refine W0 (wpAny_runValue ?_);have NP:A.in1.in1.in1.handled=none:=by simp[hh]
 have NQ:s.heap.objs.size ∉ [(s.heap.push (lF w)).objs.size]:=by
  rw[QI,List.mem_singleton];exact Wr (JQ _)
 refine Nj ((W _ NP).toS) s.heap.objs.size NQ (λi=>⟨#[x.cps.getD i 0]⟩) (λi v ⟨c,u,e,ev⟩=>⟨u,by rw[ev,Array.getD_eq_getD_getElem?,e]; rfl⟩) hb (x.cps.size - 0) 0 _ (by omega) (Qf _) dX ((Nm s.heap).at' λo' e=>W4 _ e) λs' mv z=>?_
 obtain⟨h',g',d',mP,os'⟩:=s';have q1:g'=s.gens:=mv.gens;have q2:d'=s.drawn:=mv.drawn;have q3:os'=s.os:=mv.os;subst q1; subst q2; subst q3
 show W5 _ _ _ _ _ _;refine W3 ?_;show W5 _ _ (ret Value.none) _ _ _;refine W3 ⟨rfl,h h' mP z λb ob e=>?_⟩;have lb:=Wi e;refine mv.heap b ob ?_ (W4 _ (W4 _ e));rw[QI];simp only[We,JR,or_false,not_or];exact⟨Wr lb,Wr (Qg lb)⟩
end
end SU
set_option maxHeartbeats 1000000
namespace DV
open PySem (sizeLine)
open L2
section
variable {α β:Type}
@[simp] theorem ju (a:α) (δ:Dl) (f:α->Dl->Rs β):(Rs.ok a δ).bind f=f a δ:=id rfl
@[simp] theorem TJ (f:α->Dl->Rs β):(Rs.stuck:Rs α).bind f = .stuck:=id rfl
@[simp] theorem NR (d:D):(S.pure d).d=d:=id rfl
@[simp] theorem TK (d:D):(S.own d).d=d:=id rfl
end
section
variable (δ:Dl) (i:Nat) (d e:D) (f g:DE) (fb:BE) (t u:DT) (p:D->D->Option S)
@[simp] theorem NS:eD d δ = .ok (.pure d) δ:=id rfl
@[simp] theorem NT:aj f δ=(f δ).bind λr δ'=>.ok r.d δ':=id rfl
@[simp] theorem NU:aE p f fb δ=(f δ).bind λx δ1=>(fb δ1).bind λy δ2=>p2 p x.d y δ2:=id rfl
@[simp] theorem TL:iP t u δ=(t δ).bind λb δ1=>if b then u δ1 else .ok false δ1:=id rfl
@[simp] theorem TM:dH t u δ=(t δ).bind λb δ1=>if b then .ok true δ1 else u δ1:=id rfl
@[simp] theorem TN:e7 t δ=(t δ).bind λb δ1=>.ok (!b) δ1:=id rfl
@[simp] theorem TQ:K1 t f g δ=(t δ).bind λb δ1=>if b then f δ1 else g δ1:=id rfl
@[simp] theorem TR:bO δ = .ok .next δ:=id rfl
@[simp] theorem TU:dI δ = .ok true δ:=id rfl
@[simp] theorem TV:og f δ=(f δ).bind λ_ δ1=>.ok .next δ1:=id rfl
@[simp] theorem TY:a_ f δ=(f δ).bind λr δ1=>.ok (.ret r) δ1:=id rfl
@[simp] theorem TZ (a b:DS):bN t a b δ=(t δ).bind λx δ1=>if x then a δ1 else b δ1:=id rfl
@[simp] theorem T1 (it:DI) (gg:DG) (b:DS):cG it gg b δ=(it δ).bind λds δ1=>forL gg b ds δ1:=id rfl
@[simp] theorem T2 (a:DA):cP a δ=(a δ).bind λds δ'=>.ok (.pure (.tup ds)) δ':=id rfl
@[simp] theorem T3 (a:DA):dO a δ=(a δ).bind λds δ'=>.ok (.own (.lst ds)) δ':=id rfl
@[simp] theorem T4 (ds:List D):wu ds δ = .ok (.own (.lst ds)) δ:=id rfl
@[simp] theorem T5:bL δ = .ok [] δ:=id rfl
@[simp] theorem T6 (a:DA):aF f a δ=(f δ).bind λx δ1=>(a δ1).bind λxs δ2=>.ok (x.d :: xs) δ2:=id rfl
@[simp] theorem T7 (q:D->Option S):aY q fb δ=(fb δ).bind λx δ1=>p1 q x δ1:=id rfl
@[simp] theorem T8:mF f g δ=(f δ).bind λx δ1=>(g δ1).bind λy δ2=>p2 sJ x.d y.d δ2:=id rfl
@[simp] theorem T9 (fl fh:ll):kr f fl fh δ=(f δ).bind λx δ1=>(fl δ1).bind λl δ2=>(fh δ2).bind λh δ3=>p1 (fA l h) x.d δ3:=id rfl
@[simp] theorem T_:gz δ = .ok none δ:=id rfl
@[simp] theorem NV (cs:List Nat) (it:DI) (gg:DG) (el:DE):fc cs it gg t el δ=(it δ).bind λds δ1=>if cs.any (bG δ1) then .stuck else
 (eG cs gg t el ds (bR cs δ1) []).bind λacc δ2=>.ok (.own (.lst acc)) (dC cs δ1 δ2):=id rfl
@[simp] theorem Ua (np:List Nat) (r:S):ao np i r δ=if np.contains i then none else some (δ.set i (some r)):=id rfl
@[simp] theorem Ub (gg:DG) (b:DS):forL gg b [] δ = .ok .next δ:=id rfl
end
section
variable (δ:Dl) (i:Nat) (d e:D) (f g:DE) (fb:BE) (p:D->D->Option S) (s:S)
@[simp] theorem NW (x y:D):p2 p x y δ=match p x y with | some s=>.ok s δ | none=>.stuck:=id rfl
@[simp] theorem Uc (q:D->Option S) (x:D):p1 q x δ=match q x with | some s=>.ok s δ | none=>.stuck:=id rfl
@[simp] theorem Ud (a b:DS):au a b δ=(a δ).bind λfl δ1=>match fl with | .next=>b δ1 | .ret r=>.ok (.ret r) δ1 | .brk=>.ok .brk δ1 | .cont=>.ok .cont δ1:=id rfl
@[simp] theorem Ue {α β:Type} (c:Prop) [Decidable c] (x y:Rs α) (k:α->Dl->Rs β):(if c then x else y).bind k=if c then x.bind k else y.bind k:=by split <;> rfl
end
theorem er:W6=16777216:=rfl
theorem iY(xs:List α)(i:Nat):cR xs (i:Int)=xs[i]?:=by
 unfold cR fw;by_cases h:i < xs.length
 ·rw[if_pos (by omega),if_pos (by omega)];simp
 ·rw[if_pos (by omega),if_neg (by omega)];simp[WK (Nat.le_of_not_lt h)]
theorem xj(xs:List α):cR xs 2=xs[2]?:=iY xs 2
theorem qE(xs:List α):cR xs 0=xs[0]?:=iY xs 0
theorem xk(xs:List α):cR xs 1=xs[1]?:=iY xs 1
theorem xl(I:Dl->Prop)(R:D->D->Prop) :
  ∀ (ds:List D) (δ:Dl) (acc:List D),I δ->acc.length + ds.length<=W6 ->
   (∀ d ∈ ds,∀ δ,I δ->∃ δ1 δ2 x δ3,g (.pure d) δ=some δ1/\t δ1 = .ok true δ2/\el δ2 = .ok x δ3/\I (bR cs δ3)/\R d x.d) ->
   ∃ xs δ',eG cs g t el ds δ acc = .ok (acc ++ xs) δ'/\I δ'/\xs.length=ds.length/\∀ (i:Nat) d x,ds[i]? = some d->xs[i]? = some x->R d x
 | [],δ,acc,h,_,_=>⟨[],δ,by simp[eG],h,rfl,λi d x e=>by simp at e⟩
 | d :: r,δ,acc,h,hl,hs=>by
  obtain⟨δ1,δ2,x,δ3,e1,e2,e3,h3,hr⟩:=hs d Wl δ h;have kU:acc.length < W6:=by simp at hl; omega
  obtain⟨xs,δ',e4,h4,hn,hf⟩:=xl (g:=g) (t:=t) (el:=el) I R r (bR cs δ3) (acc ++ [x.d]) h3 (by simp at hl ⊢; omega) (λd hd=>hs d (Wh _ hd));refine⟨x.d :: xs,δ',?_,h4,by simp[hn],λi d' x' f1 f2=>?_⟩
  ·unfold eG;rw[e1];simp only[e2,ju,if_true,e3,if_pos kU,e4];simp
  ·cases i with
   | zero=>simp at f1 f2; subst f1 f2; exact hr
   | succ i=>exact hf i d' x' (by simpa using f1) (by simpa using f2)
theorem NX(F:D->D)(δ:Dl) :
  ∀ (ds:List D) (acc:List D),acc.length + ds.length<=W6 ->
   (∀ d ∈ ds,∃ δ1 δ2 x δ3,g (.pure d) δ=some δ1/\t δ1 = .ok true δ2/\el δ2 = .ok x δ3/\bR cs δ3=δ/\x.d=F d) ->
   eG cs g t el ds δ acc = .ok (acc ++ ds.map F) δ:=by
 intro ds acc hl hs;obtain⟨xs,δ',e,h,hn,hf⟩:=xl (cs:=cs) (g:=g) (t:=t) (el:=el) (λδ'=>δ'=δ) (λd x=>x=F d) ds δ acc rfl hl (λd hd δ' h=>by
  subst h;obtain⟨δ1,δ2,x,δ3,a,b,c,d,e⟩:=hs d hd;exact⟨δ1,δ2,x,δ3,a,b,c,d,e⟩)
 subst h;rw[e];congr 2
 apply JM;intro i;by_cases hi:i < ds.length
 ·have:=hf i ds[i] (xs[i]'(by omega)) (by simp[hi]) (by simp[hn,hi]);simp[hn,hi,this]
 ·rw[WK (by omega),WK (by simp; omega)]
theorem mU(I:Nat->Dl->Prop) :
  ∀ (ds:List D) (n:Nat) (δ:Dl),I n δ ->
   (∀ (i:Nat) d δ,ds[i]? = some d->I (n + i) δ->∃ δ1 δ2,g (.pure d) δ=some δ1/\b δ1 = .ok .next δ2/\I (n + i + 1) δ2) ->
   ∃ δ',forL g b ds δ = .ok .next δ'/\I (n + ds.length) δ'
 | [],n,δ,h,_=>⟨δ,rfl,h⟩
 | d :: r,n,δ,h,hs=>by
  obtain⟨δ1,δ2,e1,e2,h2⟩:=hs 0 d δ rfl h;obtain⟨δ',e3,h3⟩:=mU (g:=g) (b:=b) I r (n + 1) δ2 h2 (λi d' δ' e hi=>by
   have:=hs (i + 1) d' δ' (by simpa using e) (by rw[show n + (i + 1)=n + 1 + i by omega]; exact hi);rw[show n + (i + 1) + 1=n + 1 + i + 1 by omega] at this;exact this)
  refine⟨δ',?_,by rw[WS,show n + (r.length + 1)=n + 1 + r.length by omega]; exact h3⟩;unfold forL;rw[e1];simp only[e2,ju,e3]
theorem qF(xs:List Tx):e9 (xs.map .str)=some xs:=by
 induction xs with
 | nil=>rfl
 | cons x r ih=>simp[e9,ih]
theorem tP:∀ ts:List Tx,jk [] ts=ts.flatten
 | []=>rfl
 | [x]=>by simp[jk]
 | x :: y :: r=>by rw[jk,tP (y :: r)]; simp
theorem NY(xs:List Nat):gX (xs.map λn=>[n])=xs.length:=by
 unfold gX;induction xs with
 | nil=>rfl
 | cons x r ih=>simp at ih ⊢; omega
theorem NZ(xs:List Nat):(xs.map λn=>[n]).flatten=xs:=by
 induction xs with
 | nil=>rfl
 | cons x r ih=>simp[ih]
theorem N1(xs:List Nat)(h:xs.length<=16777216):dP [] (.lst (xs.map λn=>.str [n]))=some (.pure (.str xs)):=by
 have e:(xs.map λn=>D.str [n])=(xs.map λn=>[n]).map D.str:=by simp
 unfold dP;simp only[e,qF,NY,tP,NZ];rw[if_pos (by simpa using h)]
theorem D6(r:Tx)(c:Nat)(h:c < r.length)(hl:r.length<=64):az (.str r) (.int c)=some (.pure (.str [r.getD c 0])):=by
 unfold az;have:W6=16777216:=rfl;simp only;rw[if_pos (by omega),iY];simp[h]
abbrev fH(fl:List Tx):D:=.tup (fl.map .str)
def j4(r:S)(δ1:Dl):Rs (List D):=match r with
 | .pure (.int j)=>if oj j then .ok (cF 0 j.toNat) δ1 else .stuck
 | _=>.stuck
@[simp] theorem Ug (f:DE) (δ:Dl):dQ f δ=(f δ).bind λr δ1=>j4 r δ1:=id rfl
theorem N2(w:Nat)(hw:w<=1000000):oj (w:Int)=true:=by
 have h1 : -(4611686018427387904:Int)<=(w:Int):=by omega
 have h2:(w:Int) < 4611686018427387904:=by omega
 unfold oj;rw[Wk];exact⟨decide_eq_true h1,decide_eq_true h2⟩
theorem N3(j:Int)(hs:oj j=true)(δ:Dl):j4 (.pure (.int j)) δ = .ok (cF 0 j.toNat) δ:=by unfold j4; simp only[hs,if_true]
theorem mV(w:Nat)(hw:w<=1000000)(δ:Dl):j4 (.pure (.int w)) δ = .ok (cF 0 w) δ:=by
 have:=N3 (w:Int) (N2 w hw) δ;rwa [Qq] at this
theorem xm(h:(cF 0 n)[i]? = some d):i < n/\d = .int (i:Int):=by
 unfold cF at h;rw[Wv] at h;by_cases hi:i < n
 ·rw[Qj hi] at h;simp at h;exact⟨hi,h.symm⟩
 ·rw[WK (by simpa using hi)] at h
  cases h
theorem D7(h:d ∈ cF 0 n):∃ i:Nat,i < n/\d = .int (i:Int):=by
 obtain⟨i,hi⟩:=Jw h;exact⟨i,xm hi⟩
@[simp] theorem Uh (lo:Int) (n:Nat):(cF lo n).length=n:=by simp[cF]
def iZ(x:Nat):List Nat->List Nat
 | []=>[x]
 | y :: r=>if y < x then y :: iZ x r else x :: y :: r
def eV:List Nat->List Nat
 | []=>[]
 | x :: r=>iZ x (eV r)
theorem D8(a b:Nat):(([a]:Tx) < [b]) ↔ a < b:=by
 constructor
 ·intro h
  cases h with
  | cons h=>cases h
  | rel h=>exact h
 ·intro h; exact List.Lex.rel h
theorem D9(x:Nat):∀ xs:List Nat,kj [x] (xs.map λn=>[n])=(iZ x xs).map λn=>[n]
 | []=>rfl
 | y :: r=>by
  simp only[Wn,kj,iZ];by_cases h:y < x
  ·rw[if_pos ((D8 y x).mpr h),if_pos h,D9 x r]; rfl
  ·rw[if_neg λz=>h ((D8 y x).mp z),if_neg h]; rfl
theorem xn:∀ xs:List Nat,eZ (xs.map λn=>[n])=(eV xs).map λn=>[n]
 | []=>rfl
 | x :: r=>by rw[Wn,eZ,xn r,D9]; rfl
theorem xo:∀ {xs:List Nat},y ∈ iZ x xs ↔ y=x\/y ∈ xs
 | []=>by simp[iZ]
 | z :: r=>by
  unfold iZ;split
  ·simp[xo (xs:=r)]; constructor <;> (rintro (h | h | h) <;> simp[h])
  ·simp
theorem qG:∀ {xs:List Nat},y ∈ eV xs ↔ y ∈ xs
 | []=>by simp[eV]
 | x :: r=>by rw[eV,xo,qG (xs:=r)]; simp
theorem D_(x:Nat):∀ xs:List Nat,(iZ x xs).length=xs.length + 1
 | []=>rfl
 | y :: r=>by unfold iZ; split <;> simp[D_ x r]
theorem xp:∀ xs:List Nat,(eV xs).length=xs.length
 | []=>rfl
 | x :: r=>by rw[eV,D_,xp r]; rfl
theorem Ea:∀ {xs:List Nat},xs.Pairwise (· < ·)->x ∉ xs->(iZ x xs).Pairwise (· < ·)
 | [],_,_=>by simp[iZ]
 | y :: r,h,hx=>by
  rw[List.pairwise_cons] at h;simp at hx;unfold iZ;split
  ·rename_i hl;rw[List.pairwise_cons];refine⟨λz hz=>?_,Ea h.2 hx.2⟩;rcases xo.mp hz with rfl | hz
   ·exact hl
   ·exact h.1 z hz
  ·rename_i hl;rw[List.pairwise_cons];refine⟨λz hz=>?_,Qn.mpr h⟩;rcases We.mp hz with rfl | hz
   ·omega
   ·have:=h.1 z hz; omega
theorem tQ:∀ {xs:List Nat},xs.Nodup->(eV xs).Pairwise (· < ·)
 | [],_=>by simp[eV]
 | x :: r,h=>by
  rw[List.nodup_cons] at h;exact Ea (tQ h.2) λz=>h.1 (qG.mp z)
theorem Eb{P:Nat->Prop}:∀ {xs:List D},(∀ x ∈ xs,∃ n,P n/\x = .str [n])->∃ row:List Nat,xs=row.map (λn=>.str [n])/\∀ n ∈ row,P n
 | [],_=>⟨[],rfl,by simp⟩
 | x :: r,h=>by
  obtain⟨n,hn,rfl⟩:=h x Wl;obtain⟨row,rfl,hr⟩:=Eb (xs:=r) λy hy=>h y (Wh _ hy)
  exact⟨n :: row,rfl,by simpa using ⟨hn,hr⟩⟩
theorem N4{R:D->D->Prop}{ds xs:List D}{Q:D->Prop}(hn:xs.length=ds.length)(hf:∀ (i:Nat) d x,ds[i]? = some d->xs[i]? = some x->R d x)(hq:∀ d x,d ∈ ds->R d x->Q x):∀ x ∈ xs,Q x:=λx hx=>by
 obtain⟨i,hi⟩:=Jw hx;have h1:=(Wd.mp hi).1;have h2:ds[i]? = some (ds[i]'(by omega)):=by simp[show i < ds.length by omega]
 exact hq _ x (Qc _) (hf i _ x h2 hi)
theorem Ec(w:Nat)(hw:w<=100000)(δ:Dl):j4 (.pure (.int (1 + (w:Int)))) δ = .ok (cF 0 (1 + w)) δ:=by
 have:=mV (1 + w) (by omega) δ;rwa [show(((1 + w:Nat):Int))=1 + (w:Int) by omega] at this
abbrev cb(b:Nat×List Tx):D:=.tup [.str [b.1],fH b.2]
abbrev ak(h w:Nat)(bs:List (Nat×List Tx)):D:=.tup [.int h,.int w,.tup (bs.map cb)]
structure da(h w:Nat)(bs:List (Nat×List Tx)):Prop where
 h0:0 < h
 h1:h<=4
 w0:0 < w
 w1:w<=4
 hw:2 < h + w
 n0:0 < bs.length
 n1:bs.length<=26
 up:(bs.map (·.1)).Pairwise (· < ·)
 Ui:∀ b ∈ bs,97<=b.1/\b.1<=122
 eL:∀ b ∈ bs,b.2.length=h/\∀ r ∈ b.2,r.length=w/\∀ n ∈ r,n ∈ bs.map (·.1)
theorem mW(f F:A->D)(δ:Dl):∀ (as:List A) (acc:List D),acc.length + as.length<=W6 ->
  (∀ a ∈ as,∃ δ1 δ2 x δ3,g (.pure (f a)) δ=some δ1/\t δ1 = .ok true δ2/\el δ2 = .ok x δ3/\bR cs δ3=δ/\x.d=F a)->eG cs g t el (as.map f) δ acc = .ok (acc ++ as.map F) δ
 | [],acc,_,_=>by simp[eG]
 | a :: r,acc,hl,hs=>by
  obtain⟨δ1,δ2,x,δ3,e1,e2,e3,e4,e5⟩:=hs a Wl;have kU:acc.length < W6:=by simp at hl; omega
  have ih:=mW (cs:=cs) (g:=g) (t:=t) (el:=el) f F δ r (acc ++ [x.d]) (by simp at hl ⊢; omega) (λa ha=>hs a (Wh _ ha));rw[Wn];unfold eG;rw[e1];rw[e5] at ih;simp only[e2,ju,if_true,e3,if_pos kU,e4,e5,ih];simp
end DV
set_option maxHeartbeats 400000
namespace L2
open PySem PySem.Spec PyProof.Rows PySem.W DV SU
section
variable {X:Cx}
theorem N5 (hc:X.calm=true):dM X (.type "set") (λxs H Q=>∃ z:Tx,xs=[.str (toS z)]/\z.length < 1000/\∀ p,H p=none->Q (.ref p) (upd H p (lG X p ((z.map λn=>toS [n]).foldl dd [])))):=by
 intro pins s σ H xs us Q I r h;obtain⟨z,rfl,hz,q⟩:=h;obtain⟨u,rfl,ru⟩:=fW r;obtain⟨t,rfl⟩:=ru;have sz:(toS z).cps.size=z.length:=by simp[toS]
 refine NO (I.ok.hd hc) (by rw[sz]; unfold JG; omega) λh' tk y k=>?_
 have e:fm (λi=>⟨#[(toS z).cps.getD i 0]⟩) (toS z).cps.size=(z.map λn=>toS [n]).foldl dd []:=by
  unfold fm;congr 1
  rw[sz];refine List.ext_getElem (by simp) λi h1 h2=>?_
  simp at h1 h2;simp[toS,h2]
 rw[e] at y;exact⟨.ref _,_,I.laid (t':=tk) k (W8 _) (NI y),rfl,q _ (I.aD.fresh (W8 _))⟩
end
end L2
namespace DV
open PySem PySem.Spec PyProof.Rows L2 SU
def de:List Nat->List Nat->List Nat
 | σ,[]=>σ
 | σ,n :: r=>if n ∈ σ then de σ r else de (σ ++ [n]) r
theorem xq:∀ (z σ:List Nat),(z.map λn=>toS [n]).foldl dd (σ.map λn=>toS [n])=(de σ z).map λn=>toS [n]
 | [],σ=>rfl
 | n :: z,σ=>by
  rw[Wn,QO];unfold de;by_cases h:n ∈ σ
  ·rw[if_pos h];have e:dd (σ.map λn=>toS [n]) (toS [n])=σ.map λn=>toS [n]:=by
    unfold dd;rw[if_pos (WQ h)]
   rw[e];exact xq z σ
  ·rw[if_neg h];have e:dd (σ.map λn=>toS [n]) (toS [n])=(σ ++ [n]).map λn=>toS [n]:=by
    unfold dd;rw[if_neg (λy=>by
     obtain⟨m,hm,e⟩:=WD.mp y;have:=se e;simp at this;exact h (this ▸ hm)),WY]
    rfl
   rw[e];exact xq z (σ ++ [n])
theorem tR:∀ (z σ:List Nat),(de σ z).length<=σ.length + z.length
 | [],σ=>by simp[de]
 | n :: z,σ=>by
  unfold de;split
  ·have:=tR z σ; simp; omega
  ·have:=tR z (σ ++ [n]); simp at this ⊢; omega
def oy:D->Option S
 | .str z=>if z.length < 64 then some (.own (.lst ((eV (de [] z)).map λn=>.str [n]))) else none
 | _=>none
section
variable {X:Cx} {c:Fc} {e:Expr} {fb:BE} {pp pos xr xt:Pos}
theorem N6 (hc:X.calm=true) (hg:Gl X "sorted") (hm:X.mg "sorted" = none) (nS:Gl X "set") (xu:X.mg "set" = none) (he:SB X c e fb)
  (h1:Wb [e] X.env=(false,eval e X.env) :: Wb [] X.env:=by rfl)
  (h3:Wb [.Call (.Name "set" xr) [e] [] xt] X.env=(false,eval (.Call (.Name "set" xr) [e] [] xt) X.env) :: Wb [] X.env:=by rfl) :
  SE X c (.Call (.Name "sorted" pp) [.Call (.Name "set" xr) [e] [] xt] [] pos) (aY oy fb) :=
 PE.weak (rO (NL hc) hg hm PyProof.Rows.boot_sorted (fJ (AX (N5 hc) nS xu PyProof.Rows.boot_set (fJ he gI h1) (by decide) (by decide) h1) gI h3) (by decide) (by decide) h3) λσ H Q ⟨δ,k,q⟩=>by
  unfold aY at q;rw[bw] at q;refine⟨δ,k,aW q λx δ1 q1 v H1 a1 r1=>?_⟩;unfold p1 at q1
  cases ex:oy x with
  | none=>rw[ex] at q1; exact q1.elim
  | some s =>
   rw[ex] at q1
   cases x with
   | str z =>
    simp only[oy] at ex;split at ex
    ·rename_i hz
     cases ex;have ev:=r1.str;subst ev;refine⟨z,rfl,by omega,λp hp=>?_⟩;have e0:=xq z [];rw[List.map_nil] at e0;rw[e0];have b1:=aS.alloc a1.ok hp (lG X p ((de [] z).map λn=>toS [n]));have l1:=tR z [];simp at l1;refine⟨p,(de [] z).map λn=>[n],rfl,by rw[Wx]; exact dw,by simp; omega,λp4 Ed=>?_⟩;have e5:(eZ ((de [] z).map λn=>[n])).map (λz=>V.str (toS z))=(eV (de [] z)).map λn=>V.str (toS [n]):=by
      rw[xn,Wx]; rfl
     rw[e5];have e6:aI (upd H1 p (lG X p ((de [] z).map λn=>toS [n]))) (Av c σ δ1) ((eV (de [] z)).map λn=>V.str (toS [n])) ((eV (de [] z)).map λn=>D.str [n]):=by
      have:=vU (H:=upd H1 p (lG X p ((de [] z).map λn=>toS [n]))) (O:=Av c σ δ1) ((eV (de [] z)).map λn=>[n]);rw[Wx,Wx] at this;exact this
     exact q1 _ _ (a1.trans (b1.trans (.alloc b1.ok Ed _))) (bp.back (bp.jK b1.ok e6 Ed) (a1.trans b1))
    ·cases ex
   | _=>cases ex
end
end DV
namespace PySem
end PySem
namespace L2
open PySem PySem.Spec PyProof.Rows
section
variable {X:Cx} {o:Expr} {apos bE:Pos} {elts:List Expr} {ctx:Nat} {tp:Pos} {td:TE}
end
end L2
namespace DV
open PySem PySem.Spec PyProof.Rows L2
section
variable {X:Cx} {c:Fc} {o:Expr} {i:Nat} {apos bE:Pos} {elts:List Expr} {ctx:Nat} {tp:Pos}
end
end DV
namespace L2
open PySem PySem.Spec PyProof.Rows
section
variable {X:Cx}
end
end L2
namespace DV
open PySem PySem.Spec PyProof.Rows L2
end DV
namespace L2
open PySem PySem.Spec PyProof.Rows
section
variable {X:Cx} {a b:Expr} {ta:TA} {pp pos xw xx:Pos}
end
end L2
namespace DV
open PySem PySem.Spec PyProof.Rows L2
section
variable {X:Cx} {c:Fc} {a b:Expr} {f g:DE} {pp pos xw xx:Pos}
end
section
variable {c:Fc} {σ σ':St} {δ δ':Dl} {H H':Hp} {i:Nat} {a p d:Addr} {dd:D}
end
section
variable {c:Fc} {i:Nat} {p d:Addr} {σ0 σ σ':St} {δ0 δ δ':Dl} {H0 H H':Hp} {ws:List (Key×V)} {ds:List (bA×D)} {t:Tx} {vs ij:List V} {xs Uj:List D}
end
section
variable {X:Cx} {c:Fc}
end
section
variable {X:Cx} {c:Fc} {σ:St} {δ:Dl} {H:Hp} {x y:Nat} {a:Addr} {d:D}
end
end DV
namespace PySem.ZW
open Sem (wp)
section
variable {prog:Wj} {w:Wp} {A:Wq} {E:Value->W2->Prop} {s:W2} {z TI TO i1 i2 l1 l2 a:Addr} {f:Bool} {oa:Obj} {k:Nat} {xs ys:Array Value} {x y:Value}
end
end PySem.ZW
namespace PySem.ZW
open Sem (wp)
section
variable {prog:Wj} {w:Wp} {A:Wq} {E:Value->W2->Prop} {s:W2} {z TI TO i1 i2 l1 l2 S:Addr} {xs ys:Array Value} {R:Result->W2->Prop} {res:Value}
end
end PySem.ZW
namespace PySem.ZW
open Sem (wp)
section
variable {prog:Wj} {w:Wp} {A:Wq} {E:Value->W2->Prop} {s:W2} {z TI TO i1 i2 l1 l2:Addr} {xs ys:Array Value}
end
end PySem.ZW
namespace L2
open PySem PySem.Spec PyProof.Rows
section
variable {X:Cx} {a b:Expr} {ta:TA} {pp pos xw xx:Pos} {elts:List Expr} {ctx:Nat} {tp:Pos}
end
end L2
namespace DV
open PySem PySem.Spec PyProof.Rows L2
section
variable {X:Cx} {c:Fc} {a b:Expr} {f g:DE} {pp pos xw xx:Pos} {elts:List Expr} {ctx:Nat} {tp:Pos}
end
section
variable {X:Cx}
end
section
variable {X:Cx} {c:Fc} {e:Expr} {fb:BE} {pos pp:Pos}
end
end DV
namespace L2
open PySem PySem.Spec PyProof.Rows
structure xy(P:Wj)(w:Wp)(K:W1)(mg:Str->Option Value)(base:Heap)(k:Nat)(f:Addr)(fd:WM)(ps:List Str)(sp:List Env->W2->Sp):Prop where
 len:∀ outer s vs H Q E,sp outer s vs H Q E->vs.length=ps.length
 run:∀ (A:Wq) (outer:List Env) (s:W2) (H:Hp) (args:Args) (us:List Value) (vs:List V) (Q:VK) (E:XK),cC k A->nL P w K mg base A outer s H->BindsTo s fd args (ps.zip us)->Vals vs us->sp outer s vs H Q E ->
  Qe (model P w) A (.call (.ref f) args) (CR dG outer P w H s Q E) s
section
variable {P:Wj} {w:Wp} {K:W1} {mg:Str->Option Value} {base:Heap}
theorem bS.N7{x qual:Str}{st:Stmt}{f:Addr}{fd:WM}{N ps:List Str}{k:Nat}{sp:List Env->W2->Sp}(F:bS K x qual st f fd)(S:ck N ps (bc st))(len:∀ outer s vs H Q E,sp outer s vs H Q E->vs.length=ps.length)
  (eE:∀ (aJ:Value) (A:Wq) (outer:List Env) (s:W2) (H:Hp) (vs:List V) (Q:VK) (E:XK),cC k (A.deeper (J5 qual (bc st) s.heap.objs.size f aJ))->A.frames=some outer->sp outer s vs H Q E ->
   ∃ t,dU (fK dG P w K mg base N qual (bc st) f aJ A outer s H E).gp (dY st) t/\t { nx:=λ_ H'=>Q .ax H',rt:=Q } (b7 N vs) H):xy P w K mg base (k + 1) f fd ps sp:=by
 obtain⟨oc,od,kV,doc,pm,an,aJ,ct,eC,rfl,lk,fV⟩:=F.ex;refine⟨len,λA outer s H args us vs Q E hr e0 hb r je=>?_⟩;have hl:=len _ _ _ _ _ _ je;have KX:K.In s.heap:=e0.mod.pf.keeps λb o e=>(e0.bs b o e).1
 have lim:s.heap.NoLimit:=e0.mod.nolimit.keeps λb o e=>(e0.bs b o e).1
 have uP:∀ y ∈ ps.zip us,(bc st).names.lookup y.1=some .local\/((bc st).names.lookup y.1=some .cell/\((Qs (s.heap.objs.size + 1) (bc st).names []).lookup y.1).isSome=true):=λ⟨n,v⟩ hy=>by
  rcases S.par n (JT hy).1 with q | q
  ·exact .inl q
  ·exact .inr ⟨q,Jn _ _ _ (.inl q)⟩
 refine codeAny_call_function hr.depth (KX _ _ lk) rfl S.co S.gen rfl (PySem.W.codeRec_of KX fV) (hb _ _ _ _ ?_);refine wpAny_newFunctionEnv_cells S.kind uP λenv he s1 x=>?_
 subst he;refine⟨lim.keeps x.toInCall.keep,codeAny_func ?_⟩;obtain⟨t,ht0,hq⟩:=eE aJ A outer s H vs Q E (hr.deeper _) e0.frames je;have ht:=ht0.gp;have I:Inv (fK dG P w K mg base N qual (bc st) f aJ A outer s H E) [] (b7 N vs) H s1:=AS S hr.hd e0 hl r x;refine WE (ht [] s1 (b7 N vs) H _ I hq) (λfl s' hs=>?_) λe s' hs=>hs
 have fin:∀ {σ':St} {H':Hp} {v:V} {u:Value},Inv (fK dG P w K mg base N qual (bc st) f aJ A outer s H E) [] σ' H' s'->RelV v u->Q v H'->CE outer P w H s Q u s' :=
  λ{σ' H' v u} J rv q=>⟨v,H',J.os,J.bare,J.base,J.aD,rv,q⟩
 cases fl with
 | ret u =>
  obtain⟨v,σ',H',J,rv,q⟩:=hs;exact fin J rv q
 | next =>
  obtain⟨σ',H',J,q⟩:=hs;exact fin (v:=V.ax) (u:=Value.none) J rfl q
 | brk =>
  obtain⟨_,_,_,q⟩:=hs;exact False.elim q
 | cont =>
  obtain⟨_,_,_,q⟩:=hs;exact False.elim q
end
structure mX(H:Hp)(fs:List Addr)(h:Heap)(fa:Addr)(qual:Str)(params:Arguments)(body:Expr)(scope:Scope)(cl:List (Str×Addr))(fr:List Str)(fv:List V):Prop where
 obj:∃ pm c' eA oc,h.get? fa=some (JC "<lambda>" qual params body scope cl pm c' eA)/\H fa=none/\fa ∉ fs/\H c'=some (.frz oc (.ext λ_=>True))/\∃ vs tq,oc.data = .fields vs/\vs[1]? = some (.str qual tq)
 cell:∀ x c,cl.lookup x=some c->(∃ v,h.IsCell c v)/\H c=none/\c ∉ fs
 inj:∀ x y c,cl.lookup x=some c->cl.lookup y=some c->x=y
 val:∀ (i:Nat) x v,fr[i]? = some x->fv[i]? = some v->∃ c u,cl.lookup x=some c/\h.IsCell c (some u)/\RelV v u
 xA:fv.length=fr.length
theorem mX.keep(C:mX H fs h fa qual params body scope cl fr fv)
  (k:∀ b o,h.get? b=some o->H b=none->b ∉ fs->h'.get? b=some o/\H' b=none) (kf:∀ b o u,H b=some (.frz o u)->H' b=some (.frz o u)):mX H' fs h' fa qual params body scope cl fr fv:=by
 have kc:∀ x c v,cl.lookup x=some c->h.IsCell c v->h'.IsCell c v:=λx c v e ⟨o,ho,hd⟩=>⟨o,(k c o ho (C.cell x c e).2.1 (C.cell x c e).2.2).1,hd⟩
 obtain⟨pm,c',eA,oc,h1,h2,h3,h4,h5⟩:=C.obj;refine⟨⟨pm,c',eA,oc,(k _ _ h1 h2 h3).1,(k _ _ h1 h2 h3).2,h3,kf _ _ _ h4,h5⟩,λx c e=>?_,C.inj,λi x v e1 e2=>?_,C.xA⟩
 ·obtain⟨⟨v,o,ho,hd⟩,q1,q2⟩:=C.cell x c e;exact⟨⟨v,o,(k c o ho q1 q2).1,hd⟩,(k c o ho q1 q2).2,q2⟩
 ·obtain⟨c,u,q1,q2,q3⟩:=C.val i x v e1 e2;exact⟨c,u,q1,kc x c _ q1 q2,q3⟩
def qH(P:Wj)(w:Wp)(K:W1)(mg:Str->Option Value)(base:Heap)(N:List Str)(qual:Str)(scope:Scope)(f:Addr)(cd:Value)(cl:List (Str×Addr))(A:Wq)(outer:List Env)(s:W2)(H:Hp):Cx where
 prog:=P
 w:=w
 K:=K
 mg:=mg
 base:=base
 A:=A.deeper (Jt qual scope s.heap.objs.size f cd cl)
 N:=N
 s₀:=s
 H₀:=H
 env:=Jt qual scope s.heap.objs.size f cd cl
 outer:=outer
 stack:=Jt qual scope s.heap.objs.size f cd cl :: outer
 ex:=[]
 calm:=true
 fn:=λ_=>false
 pn:=[]
 xe:=λ_ _=>False
structure tS(p:Str)(fr:List Str)(sc:Scope):Prop where
 kind:sc.kind = .function
 co:sc.isCoroutine=false
 gen:sc.isGenerator=false
 loc:sc.names.lookup p=some .local
 Ee:∀ y ∈ sc.names,y.2≠.cell
 free:∀ x,sc.names.lookup x=some .free->x ∈ fr
 N8:∀ x ∈ fr,sc.names.lookup x=some .free
section
variable {X:Cx} {pins:List (Addr×Obj)} {σ:St} {H:Hp} {s:W2} {fa:Addr} {qual:Str} {params:Arguments} {body:Expr} {scope:Scope} {cl:List (Str×Addr)} {fr:List Str} {fv:List V} {p:Str} {u:Value} {v:V} {k:Nat} {t:TE} {Q:VK}
theorem N9(I:Inv X pins σ H s)(C:mX H X.fs s.heap fa qual params body scope cl fr fv)(L:tS p fr scope)(hr:cC (k + 1) X.A)(rv:RelV v u)
  (hb:∀ pm aJ eA (u:Value),bindArgs (PySem.W.kla_fn "<lambda>" qual params body scope cl pm aJ eA) ⟨[u],[]⟩=pure [(p,u)])
  (eE:∀ cd,cC k (X.A.deeper (Jt qual scope s.heap.objs.size fa cd cl))->PE (qH X.prog X.w X.K X.mg X.base (p :: fr) qual scope fa cd cl X.A X.stack s H) body t)
  (q:t (some v :: fv.map some) H Q):W5 (model X.prog X.w) X.A (call (.ref fa) [u]) (EP X pins σ Q) X.xe s:=by
 obtain⟨pm,c',eA,oc,h1,h2,h3,h4',vs,tq,h5,h6⟩:=C.obj;have h4:s.heap.get? c'=some oc:=(I.aD c' _ h4').1;have e0:=I.uM;have lim:s.heap.NoLimit:=e0.mod.nolimit.keeps λb o e=>(e0.bs b o e).1
 refine wpAny_call (QL (R:=CR dG X.stack X.prog X.w H s Q E0) ?_ λr s' hq=>?_)
 ·refine PySem.W.kla_callFunE hr.depth h1 rfl L.co L.gen rfl ⟨c',oc,vs,tq,rfl,h4,h5,h6⟩ ?_;rw[hb];refine W3 ?_;refine wpAny_newFunctionEnv L.Ee (λy hy=>by
   have:y=(p,u):=by simpa using hy
   subst this;exact L.loc) (λh' la vp=>?_) L.kind
  have hk:∀ b o,s.heap.get? b=some o->h'.get? b=some o:=λb o e=>vp.extBut b o (Wr (Wi e)) (W4 _ e)
  refine⟨lim.keeps hk,?_⟩;show Qe _ _ (.expr body (Jt qual scope s.heap.objs.size fa (.ref c') cl)) _ _;refine PySem.W.kla_codeExpr ?_;have J:Inv (qH X.prog X.w X.K X.mg X.base (p :: fr) qual scope fa (.ref c') cl X.A X.stack s H) [] (some v :: fv.map some) H { s with heap:=h',toks:=s.toks + [(p,u)].length }:=by
   have jd:∀ b:Addr,b ∉ (qH X.prog X.w X.K X.mg X.base (p :: fr) qual scope fa (.ref c') cl X.A X.stack s H).ex:=λb z=>absurd (show b ∈ ([]:List Addr) from z) (by simp)
   refine⟨⟨e0.mod,L.kind,rfl,rfl,W8 _,C.inj,λy hy=>?_,λy c z _=>by (have z':false=true:=z; cases z'),λ_=>hr.hd,Around.frames_deeper e0.frames,.inr ⟨rfl,rfl⟩,λb z=>absurd z (jd b),e0.bs,e0.j5,λb _ _=>jd b,λb z=>absurd z (jd b),e0.h8,e0.lY⟩,
    rfl,e0.bare,Un.kept hk,⟨_,la,λi y w e1 e2 e3=>?_⟩,λy c e=>?_,e0.aD.fresh (W8 _),λy c e=>(C.cell y c e).2.1,λz hz=>absurd (show z ∈ ([]:List (Addr×Obj)) from hz) (by simp),e0.aD.kept hk,?_⟩
   ·have hy:scope.names.lookup y=some .cell\/scope.names.lookup y=some .free:=hy;rcases hy with hy | hy
    ·exact absurd rfl (L.Ee _ (Wt hy))
    ·obtain⟨i,hi,rfl⟩:=List.getElem_of_mem (L.free y hy);have N_:i < fv.length:=by rw[C.xA]; exact hi
     obtain⟨c,u',q1,_⟩:=C.val i fr[i] fv[i] (by simp[hi]) (by simp[N_]);exact⟨c,q1⟩
   ·cases i with
    | zero =>
     simp at e2;have e1:some p=some y:=e1
     cases e1;subst e2;refine⟨u,rv,.inl ⟨L.loc,?_⟩⟩;simp
    | succ i =>
     have e1:fr[i]? = some y:=e1;have e2:fv[i]? = some w:=by
      have oz:(fv.map some)[i]? = some (some w):=e2;rw[Wv] at oz
      cases z:fv[i]? with
      | none=>rw[z] at oz; cases oz
      | some a=>rw[z] at oz; cases oz; rfl
     obtain⟨c,u',q1,⟨o,ho,hd⟩,q3⟩:=C.val i y w e1 e2;exact⟨u',q3,.inr ⟨.inr (L.N8 y (WC e1)),c,q1,o,hk c o ho,hd⟩⟩
   ·obtain⟨⟨w,o,ho,hd⟩,_⟩:=C.cell y c e;exact⟨w,o,hk c o ho,hd⟩
   ·show(some v :: fv.map some).length=(p :: fr).length;simp[C.xA]
  refine WE (eE (.ref c') (hr.deeper _) [] _ _ H Q J q) (λu' s' ⟨v',H',J',r',q'⟩=>?_) λe s' z=>z.elim
  exact⟨v',H',J'.os,J'.bare,J'.base,J'.aD,r',q'⟩
 ·cases r with
  | error e=>exact hq.elim
  | ok fl =>
   cases fl with
   | ret u=>exact I.after hq
   | next=>exact False.elim hq
   | brk=>exact False.elim hq
   | cont=>exact False.elim hq
end
end L2
namespace DV
open PySem PySem.Spec PyProof.Rows L2
section
variable {c:Fc} {σ:St} {δ:Dl} {H H':Hp}
theorem Ok.mono(k:Ok c σ δ H)(up:∀ a o,H a=some o->H' a=some o):Ok c σ δ H' :=
 ⟨λa o e n=>up _ _ (k.keep a o e n),λa z=>(k.bd a z).elim λw e=>⟨w,up _ _ e⟩,λa z=>(k.fN a z).elim λw e=>⟨w,up _ _ e⟩,k.len,λi d e=>let ⟨v,e1,r⟩:=k.slot i d e; ⟨v,e1,r.keep λa o q _=>up a o q⟩,
  λi d e=>let ⟨a,e1,r,q⟩:=k.own i d e; ⟨a,e1,r.keep (λb o q _=>up b o q) (λo q=>up a o q),q⟩,k.inj,k.pinned⟩
theorem aS.mono(k:Ok c σ δ H)(up:∀ a o,H a=some o->H' a=some o):aS c σ δ H σ δ H':=⟨k.mono up,λa o e _=>up a o e,λa h=>.inl h,λa o e=>⟨o,up a o e⟩⟩
end
structure tU(X:Cx)(c:Fc)(fa:Addr)(F:D->Option D):Prop where
 there:∀ pins σ H s,Inv X pins σ H s->∃ fd,s.heap.get? fa=some { cls:=.type "function",data:=.func fd }
 run:∀ pins s σ δ H v u d d' Q,Inv X pins σ H s->Ok c σ δ H->Rep H (Av c σ δ) v d->RelV v u->F d=some d'->(∀ v' H',aS c σ δ H σ δ H'->Rep H' (Av c σ δ) v' d'->Q v' H')->W5 (model X.prog X.w) X.A (call (.ref fa) [u]) (EP X pins σ Q) X.xe s
def gZ(fb:DE)(dv:List D):D->Option D:=λd=>match fb (some (.pure d) :: dv.map λx=>some (.pure x)) with
 | .ok r _=>some r.d
 | _=>none
theorem Oa
  (hex:X.ex=[]) (hH:c.H₀=X.H₀) (hp:c.pin=[]) (C:mX X.H₀ X.fs X.s₀.heap fa qual params body scope cl fr fv) (L:tS p fr scope) (hr:cC (k + 1) X.A)
  (hb:∀ pm aJ eA (u:Value),bindArgs (PySem.W.kla_fn "<lambda>" qual params body scope cl pm aJ eA) ⟨[u],[]⟩=pure [(p,u)]) (rv:aI X.H₀ c.B fv dv)
  (eE:∀ (c':Fc) (cd:Value) (s:W2) (H:Hp),cC k (X.A.deeper (Jt qual scope s.heap.objs.size fa cd cl))->c'.pin=[]->SE (qH X.prog X.w X.K X.mg X.base (p :: fr) qual scope fa cd cl X.A X.stack s H) c' body fb) :
  tU X c fa (gZ fb dv):=by
 have Ef:∀ a,¬ c.I a:=λa ⟨i,z⟩=>by rw[hp] at z; simp at z
 have CC:∀ pins σ H s,Inv X pins σ H s->mX H X.fs s.heap fa qual params body scope cl fr fv:=λpins σ H s I =>
  C.keep (λb o e n hb=>⟨I.base.keep b o e n hb (by rw[hex]; simp),I.base.free b o e n (by rw[hex]; simp)⟩) I.base.ja
 refine⟨λpins σ H s I=>?_,λpins s σ δ H v u d d' Q I ok rd ru hF q=>?_⟩
 ·obtain⟨pm,c',eA,oc,h1,_⟩:=(CC pins σ H s I).obj;exact⟨_,h1⟩
 ·have key:∀ (i:Nat) w x,fv[i]? = some w->dv[i]? = some x->Rep H (Av c σ δ) w x:=λi w x e1 e2=>by
   have r0:=rv.2 i w x e1 e2;have r1:Rep X.H₀ (Av c σ δ) w x:=r0.bf λa z=>by
    rcases z with z | ⟨j,d,z1,z2⟩
    ·exact .inl z
    ·obtain⟨b,z3,_,z4,_⟩:=ok.own j d z1;rw[z2] at z3; cases z3
     rcases z4 with z4 | z4
     ·exact absurd z4 (Ef _)
     ·exact .inr (by rw[<- hH]; exact z4)
   exact r1.keep λa o e _=>ok.keep a o (by rw[hH]; exact e) (Ef a)
  have Uk:Fc:=⟨H,Av c σ δ,[],λ_ _=>False⟩
  refine N9 (t:=tD ⟨H,Av c σ δ,[],λ_ _=>False⟩ fb) I (CC pins σ H s I) L hr ru hb (λcd xB=>eE _ cd s H xB rfl) ?_;have hV:∀ (i:Nat) x,(some (S.pure d) :: dv.map λx=>some (S.pure x))[i]? = some (some (.own x))->False:=λi x e=>by
   cases i with
   | zero=>simp at e
   | succ i =>
    rw[Jf,Wv] at e
    cases z:dv[i]? with
    | none=>rw[z] at e; cases e
    | some y=>rw[z] at e; cases e
  have tV:∀ b,Av ⟨H,Av c σ δ,[],λ_ _=>False⟩ (some v :: fv.map some) (some (S.pure d) :: dv.map λx=>some (S.pure x)) b->Av c σ δ b:=λb z=>by
   rcases z with z | ⟨i,x,z1,_⟩
   ·exact z
   ·exact(hV i x z1).elim
  refine⟨some (.pure d) :: dv.map λx=>some (.pure x),⟨λa o e _=>e,λa z=>ok.sf z,λa ⟨i,z⟩=>by simp at z,?_,λi x e=>?_,λi x e=>(hV i x e).elim,λi j a x x' e=>(hV i x e).elim,λz hz=>by simp at hz⟩,?_⟩
  ·simp[rv.1]
  ·cases i with
   | zero =>
    simp at e;subst e;exact⟨v,rfl,rd.bf λb z=>.inl (tV b z)⟩
   | succ i =>
    rw[Jf,Wv] at e
    cases z:dv[i]? with
    | none=>rw[z] at e; cases e
    | some y =>
     rw[z] at e; cases e
     have hi:i < fv.length:=by rw[rv.1]; exact(Wd.mp z).1
     refine⟨fv[i],?_,(key i fv[i] x (by simp[hi]) z).bf λb z=>.inl (tV b z)⟩;rw[Jf,Wv];simp[hi]
  ·unfold gZ at hF
   cases e:fb (some (.pure d) :: dv.map λx=>some (.pure x)) with
   | exc x δx=>rw[e] at hF; cases hF
   | stuck=>rw[e] at hF; cases hF
   | ok r δ' =>
    rw[e] at hF
    cases hF;intro v' H' a rs;have up:∀ b o,H b=some o->H' b=some o:=λb o eb=>a.ok.keep b o eb λ⟨i,z⟩=>by simp at z
    exact q v' H' (.mono ok up) (rs.rep.bf λb z=>.inl (.inl z))
end DV
namespace L2
open PySem PySem.Spec PyProof.Rows
theorem Eg:∀ {kvs:List (Key×V)} {vs:List (Key×Value)} {us:List Value},KV kvs vs->us.length=vs.length->(∀ (j:Nat) v,us[j]? = some v->∃ k x,vs[j]? = some (k,x)/\(eB P w).is k v=true)->Vals (kvs.map λp=>kV p.1) us
 | [],_,[],.nil,_,_=>.nil
 | [],_,_ :: _,.nil,h,_=>by simp at h
 | p :: r,_,[],.cons _ _,h,_=>by simp at h
 | p :: r,q :: vs,u :: us,.cons h1 h2,hl,hk=>by
  refine .cons ?_ (Eg h2 (by simpa using hl) λj v e=>by simpa using hk (j + 1) v (by simpa using e));obtain⟨k,x,e,z⟩:=hk 0 u rfl;simp at e;rw[Gh] at z;rcases jE z with ⟨i,t,e1,e2⟩ | ⟨y,t,e1,e2⟩
  ·show RelV (kV p.1) u;rw[h1.1,e];subst e1;exact⟨t,e2⟩
  ·show RelV (kV p.1) u;rw[h1.1,e];subst e1;exact⟨t,e2⟩
theorem Ob (hc:X.calm=true):dM X (.type "list") (λxs H Q=>∃ a kvs,xs=[V.ref a]/\H a=some (.dK kvs)/\∀ l,H l=none->Q (.ref l) (upd H l (.lst (kvs.map λp=>kV p.1)))):=by
 intro pins s σ H xs us Q I r h;obtain⟨a,kvs,rfl,ha,q⟩:=h;obtain⟨u,rfl,ru⟩:=fW r
 cases ru;obtain⟨z,lo,vs,kv,hD⟩:=I.aD a _ ha;obtain⟨ep,hat⟩:=hD.dictAt;have hl:kvs.length=vs.length:=Paired.length kv;refine PySem.W.kdl_call (PySem.W.kdl_dict (knd:=eB X.prog X.w) (kvs:=vs) (ep:=ep) lo) (I.ok.hd hc) hat (by omega) λh' tk acc c' kp e qt=>?_
 have hv:Vals (kvs.map λp=>kV p.1) acc.toList:=Eg (P:=X.prog) (w:=X.w) kv (by simp[qt.1]) λj v e=>qt.2 j v (by simpa using e)
 exact⟨.ref s.heap.objs.size,_,I.laid (t':=tk) kp (W8 _) (show bZ X.prog X.w _ h' _ (.lst _) from⟨by simpa using z,acc.toList,c',hv,by simpa using e⟩),rfl,q _ (I.aD.fresh (W8 _))⟩
end L2
namespace DV
open PySem PySem.Spec PyProof.Rows L2
def lH:bA->D
 | .inl i=>.int i
 | .inr x=>.str x
def oA:D->Option S
 | .aM ds=>some (.own (.lst (ds.map λp=>lH p.1)))
 | _=>none
theorem Eh:∀ {ws:List (Key×V)} {ds:List (bA×D)},ws.map (·.1)=ds.map (λp=>cL p.1)->aI H O (ws.map λp=>kV p.1) (ds.map λp=>lH p.1)
 | [],[],_=>.nil
 | [],_ :: _,h=>by simp at h
 | _ :: _,[],h=>by simp at h
 | p :: ws,q :: ds,h=>by
  simp only[Wn,List.cons.injEq] at h;refine .cons ?_ (Eh h.2);show Rep H O (kV p.1) (lH q.1);rw[h.1]
  cases q.1 with
  | inl i=>exact .int i
  | inr x=>exact .str x
section
variable {X:Cx} {c:Fc} {e:Expr} {fb:BE} {pos pp p:Pos}
theorem Ei (hc:X.calm=true) (hg:Gl X "list") (hm:X.mg "list" = none) (he:SB X c e fb) (hs:lB e=true:=by rfl):SE X c (.Call (.Name "list" pp) [e] [] pos) (aY oA fb) :=
 qf (r:=λv H Q=>∃ a kvs,v=V.ref a/\H a=some (.dK kvs)/\∀ l,H l=none->Q (.ref l) (upd H l (.lst (kvs.map λp=>kV p.1)))) (Ob hc) (λv H Q ⟨a,kvs,e,h⟩=>⟨a,kvs,by rw[e],h⟩)
  (λc σ δ H x d s Q k rx hp q=>by
   cases d with
   | aM ds =>
    cases hp;obtain⟨a,ws,ex,ha,r1,_⟩:=rx.aM;exact⟨a,ws,ex,ha,λl hl=>q _ _ (.alloc k hl _) (bp.jK k (Eh r1) hl)⟩
   | _=>simp[oA] at hp) hg hm PyProof.Rows.boot_list he (by decide) (by decide) (mM hs)
end
def mY(fa:Addr)(F:D->Option D)(i:Nat)(fe:DE):DE:=λδ=>match δ[i]? with
 | some (some (.pure (.fn a)))=>if a=fa then(fe δ).bind λr δ1=>match F r.d with
   | some d'=>.ok (.pure d') δ1
   | none=>.stuck
  else .stuck
 | _=>.stuck
theorem Oc{M:Model}{A:Wq}{E:Value->W2->Prop}{s:W2}{env:Env}{pos:Pos}{a:Addr}{first:List Value}{Q:Value->W2->Prop}{e:Expr}{rest:List Expr}
  (h:W5 M A (spliced (Q9 pos (Wb (e :: rest) env))) (λvs s₁=>(∃ fd,s₁.heap.get? a=some { cls:=.type "function",data:=.func fd })/\W5 M A (call (.ref a) (first ++ vs)) Q E s₁) E s)
  (he:Wb (e :: rest) env=(false,eval e env) :: Wb rest env:=by rfl) (uW:(Q9 pos (Wb rest env)).any (·.1)=false:=by rfl) :
  W5 M A (callWith pos (.ref a) first (Q9 pos (Wb (e :: rest) env)) []) Q E s:=by
 rw[he] at h ⊢;exact PySem.W.callWith_of (P:=λh=>∃ fd,h.get? a=some { cls:=.type "function",data:=.func fd }) (by show((false || (Q9 pos (Wb rest env)).any (·.1)) || false)=false; rw[uW]; rfl)
  (λh ⟨fd,hf⟩=>⟨.frame,.inl rfl,(PySem.W.Looks.ld (part:=none) hf).andThen .now⟩) (Calls.evalArgs_plain h)
theorem Od{X:Cx}{c:Fc}{fa:Addr}{F:D->Option D}{i:Nat}{x:Str}{e:Expr}{fe:DE}{p pos:Pos}(hc:tU X c fa F)(hv:PE X (.Name x p) (dW i))(he:SE X c e fe)
  (hs:Wb [e] X.env=(false,eval e X.env) :: Wb [] X.env:=by rfl):SE X c (.Call (.Name x p) [e] [] pos) (mY fa F i fe):=by
 intro pins s σ H Q I ⟨δ,k,q⟩;unfold mY at q;split at q
 ·rename_i a e1;split at q
  ·rename_i ea;subst ea;obtain⟨v,e2,r⟩:=k.slot i (.fn a) e1
   cases r;refine Jh (WE (hv pins s σ H (λv' H'=>v' = .ref a/\H'=H) I ⟨.ref a,e2,rfl,rfl⟩) (λu s1 ⟨v',H',I1,ru,ev,eH⟩=>?_) λ_ _ z=>z);subst ev eH;obtain rfl:u=Value.ref a:=ru;have ha:=fJ he gI hs;refine Oc (aQ (ha pos pins s1 σ H' (λvs H2=>∃ r δ1 d',vs.length=1/\F r=some d'/\(∀ v ∈ vs,Rep H2 (Av c σ δ1) v r)/\aS c σ δ H' σ δ1 H2/\∀ v' H3,aS c σ δ H' σ δ1 H3->Rep H3 (Av c σ δ1) v' d'->Q v' H3) I1 ⟨δ,k,?_⟩) λus s2 ⟨vs,H2,I2,rr,r,δ1,d',hl,hF,hr,af,hq⟩=>⟨hc.there _ _ _ _ I2,?_⟩) hs rfl
   ·rw[bw] at q;refine aW q λr δ1 q1 v H1 a1 r1=>?_
    cases hF:F r.d with
    | none=>rw[hF] at q1; exact q1.elim
    | some d' =>
     rw[hF] at q1;exact⟨r.d,δ1,d',rfl,hF,λv' xg=>by
      have:v'=v:=by simpa using xg
      subst this;exact r1.rep,a1,λv' H3 a3 r3=>q1 v' H3 a3 r3⟩
   ·obtain⟨v,rfl⟩:∃ v,vs=[v]:=by
     match vs,hl with
     | [v],_=>exact⟨v,rfl⟩
    obtain⟨u,rfl,ru⟩:=fW rr;exact hc.run pins s2 σ δ1 H2 v u r d' Q I2 af.ok (hr v (by simp)) ru hF λv' H3 a3 r3=>hq v' H3 (af.trans a3) r3
  ·exact q.elim
 ·exact q.elim
end DV
namespace L2
open PySem PySem.Spec PyProof.Rows
theorem Ej{a b:Value}{x y:Int}{t u:Tok}:∀ {l:List Value},TriplesOk l->TriplesOk (l ++ [.int x t,.int y u,b])
 | [],_=>trivial
 | .int _ _ :: .int _ _ :: _ :: r,h=>Ej (a:=a) (l:=r) h
theorem Ek:∀ {l:List Value},TriplesOk l->codeAmong pos l=none->codeAmong pos (l ++ [.int x t,.int y u,b])=some cv->cv=b
 | [],_,_,h=>by
  simp only[QA,codeAmong] at h;split at h
  ·exact(Wy h).symm
  ·cases h
 | .int i _ :: .int j _ :: c :: r,h,hn,e=>by
  simp only[codeAmong] at hn;split at hn
  ·cases hn
  ·rename_i q;simp only[List.cons_append,codeAmong] at e;rw[if_neg q] at e;exact Ek (l:=r) h hn e
section
variable {X:Cx} {pins:List (Addr×Obj)} {σ:St} {H:Hp} {s:W2} {params:Arguments} {body:Expr} {scope:Scope} {pos:Pos} {cl:List (Str×Addr)} {c P:Addr} {fr:List Str} {fv:List V} {js:List Nat} {Q:Value->W2->Prop} {E:Value->W2->Prop}
theorem Inv.Oe(I:Inv X pins σ H s)(h:s.heap.objs.size<=a):a ∉ fU X.stack:=λz=>by
 rcases We.mp (I.pk a z) with e | e
 ·have:=I.lt;rw[<- e] at this;exact absurd (Ww this h) (Qd _)
 ·exact I.z7 h e
theorem Inv.Of(I:Inv X pins σ H s)(jb:∀ x,X.fn x=true)(h:X.env.cells.lookup x=some c):c ∉ fU X.stack:=λz=>by
 rcases We.mp (I.pk c z) with e | e
 ·exact I.kS x c h e
 ·obtain⟨_,o,ho,_⟩:=I.ok.h8.mem e;exact absurd (Ww (Wi ho) (I.ok.nI x c (jb x) h)) (Qd _)
theorem Og (I:Inv X pins σ H s) (hP:H P=some (.ctab pos (X.env.qual ++ "<lambda>"))) (jb:∀ x,X.fn x=true) (xC:defaultsOf params X.env=([],[])) (oB:closureFor scope X.env=pure cl) (tW:X.env.code = .ref c)
  (CH:Jb X.K c P=true) (xD:Ws≠P) (hB:X.base.BuiltinsAt X.mg P)
  (kC:∀ x a,cl.lookup x=some a->X.env.cells.lookup x=some a) (hlen:fv.length=fr.length)
  (xa:∀ (i:Nat) x v,fr[i]? = some x->fv[i]? = some v->∃ (j:Nat) (a:Addr),X.N[j]? = some x/\σ[j]? = some (some v)/\X.env.scope.names.lookup x=some .cell/\cl.lookup x=some a)
  (h:∀ fa H' s',Inv X pins σ H' s'->(∀ a o,H a=some o->H' a=some o)->mX H' (fU X.stack) s'.heap fa (X.env.qual ++ "<lambda>") params body scope cl fr fv->Q (.ref fa) s') :
  W5 (model X.prog X.w) X.A (eval (.Lambda params body scope pos) X.env) Q E s:=by
 obtain⟨ps,hp,ht,hr⟩:=I.aD P _ hP;have El:=PySem.W.codeHd_of_K I.eO CH;have hg:s.heap.Ns Ws X.mg:=I.mod.glob.keeps I.bk;have hb:=hB.keeps I.bk;-- the closure,once all is laid
 have fin:∀ (H':Hp) (h':Heap) (tk:Tok) (pm eA:Value) (c':Addr) (oc:Obj),(∀ b o,b≠P->s.heap.get? b=some o->h'.get? b=some o)->s.heap.objs.size<=h'.objs.size->(∀ a o,H a=some o->H' a=some o)->(∀ b,H b=none->b < s.heap.objs.size->H' b=none)->H' h'.objs.size=none ->
   H' c'=some (.frz oc (.ext λ_=>True))->(∃ vs tq,oc.data = .fields vs/\vs[1]? = some (.str (X.env.qual ++ "<lambda>") tq))->cB X.prog X.w H' (h'.push (JC "<lambda>" (X.env.qual ++ "<lambda>") params body scope cl pm c' eA))->(∃ o,h'.get? P=some o) ->
   Q (.ref h'.objs.size) { s with heap:=h'.push (JC "<lambda>" (X.env.qual ++ "<lambda>") params body scope cl pm c' eA),toks:=tk }:=by
  intro H' h' tk pm eA c' oc hk hsz up dn xE gH hoc aD hPo;have kp:∀ b o,b≠P->s.heap.get? b=some o->(h'.push (JC "<lambda>" (X.env.qual ++ "<lambda>") params body scope cl pm c' eA)).get? b=some o:=λb o nb e=>W4 _ (hk b o nb e)
  have nP:∀ b,H b=none->b≠P:=λb n z=>by rw[z,hP] at n; cases n
  have J:Inv X pins σ H' { s with heap:=h'.push (JC "<lambda>" (X.env.qual ++ "<lambda>") params body scope cl pm c' eA),toks:=tk }:=I.un ⟨λb o e n _ _=>kp b o (nP b n) e,λb o e n _ _=>⟨o.slots,kp b o (nP b n) e⟩,λb o e n _=>dn b n (Wi e),
   λb o e _=>by
    by_cases z:b=P
    ·obtain⟨o',q⟩:=hPo;exact⟨o',by rw[z]; exact W4 _ q⟩
    ·exact⟨o,kp b o z e⟩,λb xs e=>up _ _ e,λb o u e=>up _ _ e,λb ps e=>⟨#[],by rw[up _ _ e]; simp⟩⟩ aD
  refine h _ H' _ J up ⟨⟨pm,c',eA,oc,Wm _ rfl,xE,I.Oe hsz,gH,hoc⟩,λx a e=>?_,λx y a e1 e2=>I.ok.inj x y a (kC x a e1) (kC y a e2),λi x v e1 e2=>?_,hlen⟩
  ·exact⟨J.cell x a (kC x a e),J.h9 x a (kC x a e),J.Of jb (kC x a e)⟩
  ·obtain⟨j,a,q1,q2,q3,q4⟩:=xa i x v e1 e2;obtain⟨m,_,hl⟩:=J.loc;obtain⟨u,r1,r2⟩:=hl j x v q1 q2 (.inr (.inl q3));rcases r2 with ⟨z,_⟩ | ⟨_,a',z1,z2⟩
   ·have z':X.env.scope.names.lookup x=some .local:=z;rw[q3] at z'; cases z'
   ·rw[kC x a q4] at z1; cases z1
    exact⟨a,u,q4,z2,r1⟩
 refine PySem.W.kla_eval xC ?_
 cases e:codeAmong pos ps.toList with
 | some cv =>
  obtain⟨c',oc,rfl,q1,q2⟩:=hr cv e;refine PySem.W.kla_makeFunctionHit oB I.ok.glob hg tW El hp ht e hb λeA h' tk hk hsz=>?_
  exact fin H h' tk _ eA c' oc (λb o _ q=>hk b o q) hsz (λ_ _ q=>q) (λ_ n _=>n) (I.aD.fresh hsz) q1 q2 (I.aD.kept λb u q=>W4 _ (hk b u q)) ⟨_,hk _ _ hp⟩
 | none =>
  refine PySem.W.kla_makeFunction oB I.ok.glob hg tW El hp ht e xD hb λc' eA h' tk hx my bx Oh Em=>?_
  obtain⟨c2,oc,vs,tq,ec,hoc,hd,hv⟩:=Oh
  cases ec;have hn:H c'=none:=I.aD.fresh my;have up:∀ a o,H a=some o->upd H c' (.frz oc (.ext λ_=>True)) a=some o:=λa o q=>by rw[bq (fT q hn)]; exact q
  have hsz:s.heap.objs.size<=h'.objs.size:=WU my (Jr bx);refine fin (upd H c' (.frz oc (.ext λ_=>True))) h' tk _ eA c' oc (λb o nb q=>hx b o nb q) hsz up (λb n hb=>by rw[bq (Wr (Ww hb my))]; exact n) (by rw[bq (J4 bx)]; exact I.aD.fresh hsz) dw ⟨vs,tq,hd,hv⟩ ?_ ⟨_,Em⟩;intro a o ea;by_cases h1:a=c'
  ·subst h1;rw[dw] at ea; cases ea
   exact⟨W4 _ hoc,trivial,⟨_,W4 _ hoc⟩,λ_ _ _ _=>trivial⟩
  ·rw[bq h1] at ea;by_cases h2:a=P
   ·subst h2;rw[hP] at ea; cases ea
    refine⟨_,W4 _ Em,?_,λcv z=>?_⟩
    ·rw[Array.toList_append];exact Ej (a:=.none) ht
    ·rw[Array.toList_append] at z;have:=Ek ht e z;subst this;exact⟨c',oc,rfl,dw,vs,tq,hd,hv⟩
   ·refine(I.aD a o ea).lX (λb u hb q=>W4 _ (hx b u (λz=>?_) q)) (λb q=>up _ _ q) (λb xs q=>up _ _ q) λb o u q=>up _ _ q
    rcases hb with hb | hb
    ·exact h2 (hb.symm.trans z)
    ·rw[z,hP] at hb; cases hb
end
end L2
namespace DV
open PySem PySem.Spec PyProof.Rows L2
abbrev kG:=List (Addr×Pos×Str)
def TH(ts:kG)(H:Hp):Prop:=∀ t ∈ ts,H t.1=some (.ctab t.2.1 t.2.2)
structure FT(ts:kG)(c:Fc):Prop where
 h:TH ts c.H₀
 n:∀ t ∈ ts,¬ c.I t.1
theorem FT.now(f:FT ts c)(k:Ok c σ δ H):TH ts H:=λt ht=>k.keep _ _ (f.h t ht) (f.n t ht)
section
variable {P:Wj} {w:Wp} {K:W1} {mg:Str->Option Value} {base:Heap}
def spS(P:Wj)(w:Wp)(K:W1)(mg:Str->Option Value)(base:Heap)(N:List Str)(qual:Str)(scope:Scope)(f:Addr)(k:Nat)(i5:Addr->(D->Option D)->DS):List Env->W2->Sp:=λouter s vs H Q _ =>
 ∃ (d:D) (fa:Addr) (F:D->Option D) (B:Addr->Prop) (v:V),vs=[v,.ref fa]/\Ok ⟨H,B,[],λ_ _=>False⟩ [some v,some (.ref fa)] [some (.pure d),some (.pure (.fn fa))] H /\
  (∀ aJ A E,cC k (A.deeper (J5 qual scope s.heap.objs.size f aJ))->A.frames=some outer->tU (fK dG P w K mg base N qual scope f aJ A outer s H E).gp ⟨H,B,[],λ_ _=>False⟩ fa F) /\
  ∃ r aR,ef (i5 fa F) N.length [.pure d,.pure (.fn fa)]=some (r,aR) /\
   ∀ v' H',aS ⟨H,B,[],λ_ _=>False⟩ [some v,some (.ref fa)] [some (.pure d),some (.pure (.fn fa))] H [some v,some (.ref fa)] (cI aR) H'->bp ⟨H,B,[],λ_ _=>False⟩ [some v,some (.ref fa)] (cI aR) H H' v' r->Q v' H'
theorem Oi{x qual:Str}{st:Stmt}{f:Addr}{fd:WM}{N ps:List Str}{k:Nat}{i5:Addr->(D->Option D)->DS}(F:bS K x qual st f fd)(S:ck N ps (bc st))(h2:ps.length=2)
  (eE:∀ (c:Fc) (aJ:Value) (A:Wq) (outer:List Env) (s:W2) (H:Hp) (E:XK) (fa:Addr) (Fn:D->Option D),cC k (A.deeper (J5 qual (bc st) s.heap.objs.size f aJ))->Np c []->tU (fK dG P w K mg base N qual (bc st) f aJ A outer s H E).gp c fa Fn->iB (fK dG P w K mg base N qual (bc st) f aJ A outer s H E).gp c (dY st) (i5 fa Fn)) :
  xy P w K mg base (k + 1) f fd ps (spS P w K mg base N qual (bc st) f k i5):=by
 refine F.N7 S (λouter s vs H Q E h=>?_) λaJ A outer s H vs Q E hr gM h=>?_
 ·obtain⟨d,fa,Fn,B,v,rfl,_⟩:=h;exact h2.symm
 ·obtain⟨d,fa,Fn,B,v,rfl,ok,xF,r,aR,hrun,q⟩:=h;refine⟨n_ ⟨H,B,[],λ_ _=>False⟩ (i5 fa Fn),eE ⟨H,B,[],λ_ _=>False⟩ aJ A outer s H E fa Fn hr (λp hp=>by simp at hp) (xF aJ A E hr gM),?_⟩;have dX:b7 N [v,.ref fa]=cH [v,.ref fa] ++ Wg (N.length - 2) none:=rfl;refine⟨bo N.length [.pure d,.pure (.fn fa)],by rw[dX]; exact ok.ext _,?_⟩;unfold ef at hrun;unfold eF;have sP:cN 0 [.pure d,.pure (.fn fa)] [v,.ref fa]=[]:=by simp[cN]
  cases e:i5 fa Fn (bo N.length [.pure d,.pure (.fn fa)]) with
  | exc x δx=>rw[e] at hrun; cases hrun
  | stuck=>rw[e] at hrun; cases hrun
  | ok fl δ' =>
   rw[e] at hrun;show ∀ σ' H',aS _ (b7 N [v,.ref fa]) (bo N.length [.pure d,.pure (.fn fa)]) H σ' δ' H'->fin _ _ σ' δ' H' fl;intro σ' H' a;rw[dX] at a;simp only at hrun
   cases fl with
   | brk=>cases hrun
   | cont=>cases hrun
   | next =>
    simp only[cJ,WF] at hrun
    cases eo:b8 0 [.pure d,.pure (.fn fa)] δ' with
    | none=>rw[eo] at hrun; cases hrun
    | some os =>
     rw[eo] at hrun
     cases hrun;obtain⟨l1,l2⟩:=oo (vs:=[v,.ref fa]) (by rw[sP]) ok a eo;exact q .ax H' l1 .ax
   | ret r' =>
    simp only[cJ,WF] at hrun
    cases eo:b8 0 [.pure d,.pure (.fn fa)] δ' with
    | none=>rw[eo] at hrun; cases hrun
    | some os =>
     rw[eo] at hrun
     cases hrun;obtain⟨l1,l2⟩:=oo (vs:=[v,.ref fa]) (by rw[sP]) ok a eo;exactλv' rv=>q v' H' l1 (l2 v' _ rv)
end
def mZ(ts:kG)(n:Nat)(G:DF):Sp:=λvs H Q E=>TH ts H/\sX n G vs H Q E
def gf(P:Wj)(w:Wp)(K:W1)(mg:Str->Option Value)(base:Heap)(ts:kG)(k:Nat)(x:Str)(n:Nat)(G:DF):Prop :=
 ∃ (f:Addr) (fd:WM) (ps:List Str),mg x=some (.ref f)/\J1 K (.ref f)=true/\Binds K fd ps []/\gJ P w K mg base dG k f fd ps (mZ ts n G)
section
variable {P:Wj} {w:Wp} {K:W1} {mg:Str->Option Value} {base:Heap}
theorem En{ts:kG}{x qual:Str}{st:Stmt}{f:Addr}{fd:WM}{N ps:List Str}{k:Nat}{np:List Nat}{fb:DS}{G:DF}(F:bS K x qual st f fd)(S:ck N ps (bc st))
  (eE:∀ (c:Fc) (aJ:Value) (A:Wq) (outer:List Env) (s:W2) (H:Hp) (E:XK),cC k (A.deeper (J5 qual (bc st) s.heap.objs.size f aJ))->Np c np->FT ts c->(∃ oc od kV doc pm an ct eC,K.lookup f=some ⟨oc,od,.func (WZ x qual (gL st) (dY st) (bc st) .none kV doc pm an aJ ct),eC⟩)->iB (fK dG P w K mg base N qual (bc st) f aJ A outer s H E).gp c (dY st) fb)
  (hG:∀ ss y,G ss=some y->cw np 0 ss=true/\ef fb N.length ss=some y):gJ P w K mg base dG (k + 1) f fd ps (mZ ts ps.length G):=by
 obtain⟨oc,od,kV,doc,pm,an,aJ,ct,eC,rfl,lk,fV⟩:=F.ex;refine AV lk fV S (λvs H Q E h=>?_) λA outer s H vs Q E hr h=>?_
 ·obtain⟨_,ss,B,hl,_⟩:=h;exact hl
 ·obtain⟨hT,ss,B,hl,ok,r,aR,hg,q⟩:=h;obtain⟨gC,hrun⟩:=hG ss _ hg;have mK:ss.length=vs.length:=by have:=ok.len; simpa using this
  have we:Np ⟨H,B,cN 0 ss vs,λ_ _=>False⟩ np:=λp hp=>by
   obtain⟨j,d,e,h1,_⟩:=mJ (i:=p.1) (a:=p.2) hp;rw[e];exact wc gC h1
  have ft:FT ts ⟨H,B,cN 0 ss vs,λ_ _=>False⟩:=⟨hT,λt ht ⟨i,z⟩=>by
   obtain⟨j,d,_,h1,h2⟩:=mJ z;obtain⟨a,e1,o,_⟩:=ok.own j d (fg.mpr h1);rw[fD.mpr h2] at e1
   cases e1;have:=hT t ht
   cases d with
   | lst ds=>obtain⟨_,e,_⟩:=o; rw[this] at e; cases e
   | aM ds=>obtain⟨_,e,_⟩:=o; rw[this] at e; cases e
   | dic ds=>obtain⟨_,_,e,_⟩:=o; rw[this] at e; cases e
   | _=>exact o.elim⟩
  have hb:=eE ⟨H,B,cN 0 ss vs,λ_ _=>False⟩ aJ A outer s H E hr we ft ⟨oc,od,kV,doc,pm,an,ct,eC,lk⟩;refine⟨n_ ⟨H,B,cN 0 ss vs,λ_ _=>False⟩ fb,hb.gp,?_⟩;have dX:b7 N vs=cH vs ++ Wg (N.length - ss.length) none:=by rw[mK]; rfl
  refine⟨bo N.length ss,by rw[dX]; exact ok.ext _,?_⟩;unfold ef at hrun;unfold eF
  cases e:fb (bo N.length ss) with
  | exc x δx=>rw[e] at hrun; cases hrun
  | stuck=>rw[e] at hrun; cases hrun
  | ok fl δ' =>
   rw[e] at hrun;show ∀ σ' H',aS _ (b7 N vs) (bo N.length ss) H σ' δ' H'->fin _ _ σ' δ' H' fl;intro σ' H' a;rw[dX] at a;simp only at hrun
   cases fl with
   | brk=>cases hrun
   | cont=>cases hrun
   | next =>
    simp only[cJ,WF] at hrun
    cases eo:b8 0 ss δ' with
    | none=>rw[eo] at hrun; cases hrun
    | some os =>
     rw[eo] at hrun
     cases hrun;obtain⟨l1,l2⟩:=oo rfl ok a eo;exact q .ax H' l1 .ax
   | ret r' =>
    simp only[cJ,WF] at hrun
    cases eo:b8 0 ss δ' with
    | none=>rw[eo] at hrun; cases hrun
    | some os =>
     rw[eo] at hrun
     cases hrun;obtain⟨l1,l2⟩:=oo rfl ok a eo;exactλv rv=>q v H' l1 (l2 v _ rv)
end
section
variable {X:Cx} {c:Fc} {e:Expr} {es:List Expr} {as:List Ak} {k n:Nat} {x:Str} {G:DF} {pp pos:Pos} {ts:kG}
theorem jU (F:gf X.prog X.w X.K X.mg X.base ts k x n G) (ft:FT ts c) (hK:cK G) (hr:cC k X.A) (hg:Gl X x) (ha:SX X c (e :: es) as) (hl:as.length=n) (gu:(x == ("__debug__" : Str))=false:=by decide)
  (he:Wb (e :: es) X.env=(false,eval e X.env) :: Wb es X.env:=by rfl) (dE:(Q9 pos (Wb es X.env)).any (·.1)=false:=by rfl):SE X c (.Call (.Name x pp) (e :: es) [] pos) (ar G as):=by
 obtain⟨f,fd,ps,hm,hk,hb,ok⟩:=F;refine PE.weak (AK ok hr hg hm hk hb .nil Bq ha gu he dE) λσ H Q h=>?_
 obtain⟨δ,kk,gC,q⟩:=CS (ps:=ps) hK hl h;exact⟨δ,kk,gC,aW q λds δ1 q1 vs H1 a1 r1=>⟨ft.now a1.ok,q1 vs H1 a1 r1⟩⟩
end
def jv:List Nat->Dl->Option (List D×Dl)
 | [],δ=>some ([],δ)
 | j :: js,δ=>match δ[j]? with
  | some (some (.pure d))=>(jv js δ).map λp=>(d :: p.1,p.2)
  | some (some (.own d))=>(jv js (δ.set j (some (.pure d)))).map λp=>(d :: p.1,p.2)
  | _=>none
theorem Eo:∀ {js:List Nat} {δ δ2:Dl} {dv:List D},Ok c σ δ H->jv js δ=some (dv,δ2)->aS c σ δ H σ δ2 H/\∃ fv:List V,fv.length=js.length/\(∀ (i:Nat) j,js[i]? = some j->∃ v,fv[i]? = some v/\σ[j]? = some (some v))/\aI H (Av c σ δ2) fv dv
 | [],δ,δ2,dv,k,h=>by
  simp only[jv,W7,Prod.mk.injEq] at h;obtain⟨rfl,rfl⟩:=h;exact⟨.refl k,[],rfl,λi j e=>by simp at e,.nil⟩
 | j :: js,δ,δ2,dv,k,h=>by
  have core:∀ {δ1:Dl} {d:D} {v:V},aS c σ δ H σ δ1 H->Rep H (Av c σ δ1) v d->σ[j]? = some (some v)->(jv js δ1).map (λp=>(d :: p.1,p.2))=some (dv,δ2)->aS c σ δ H σ δ2 H/\∃ fv:List V,fv.length=(j :: js).length/\(∀ (i:Nat) j',(j :: js)[i]? = some j'->∃ v,fv[i]? = some v/\σ[j']? = some (some v))/\aI H (Av c σ δ2) fv dv:=by
   intro δ1 d v a1 r1 e1 hm
   cases e:jv js δ1 with
   | none=>rw[e] at hm; cases hm
   | some p =>
    obtain⟨dv',δ'⟩:=p;rw[e] at hm;simp only[WI,W7,Prod.mk.injEq] at hm;obtain⟨rfl,rfl⟩:=hm;obtain⟨a2,fv,h1,h2,h3⟩:=Eo a1.ok e;refine⟨a1.trans a2,v :: fv,by simp[h1],λi j' ej=>?_,.cons (Rep.dZ r1 a2) h3⟩
    cases i with
    | zero=>simp at ej; subst ej; exact⟨v,rfl,e1⟩
    | succ i =>
     obtain⟨v',q1,q2⟩:=h2 i j' (by simpa using ej);exact⟨v',by simpa using q1,q2⟩
  simp only[jv] at h;split at h
  ·rename_i d e;obtain⟨v,e1,r⟩:=k.slot j d e;exact core (.refl k) r e1 h
  ·rename_i d e;obtain⟨a,e1,af,r⟩:=k.give e;exact core af r e1 h
  ·cases h
def tY(fe:DE)(js:List Nat)(fb:DE)(W:(D->Option D)->D->Option D):DE:=λδ=>(fe δ).bind λr δ1=>match jv js δ1 with
 | some (dv,δ2)=>match W (gZ fb dv) r.d with
  | some d'=>.ok (.pure d') δ2
  | none=>.stuck
 | none=>.stuck
def xG(P:Wj)(w:Wp)(K:W1)(mg:Str->Option Value)(base:Heap)(k:Nat)(x:Str)(m:Nat)(i5:Addr->(D->Option D)->DS):Prop :=
 ∃ (f:Addr) (fd:WM) (ps:List Str) (qual:Str) (scope:Scope) (N:List Str),N.length=m/\mg x=some (.ref f)/\J1 K (.ref f)=true/\Binds K fd ps []/\ps.length=2/\xy P w K mg base (k + 1) f fd ps (spS P w K mg base N qual scope f k i5)
theorem Oj{cl cells:List (Str×Addr)}(h:∀ q ∈ cl,cells.lookup q.1=some q.2):∀ x a,cl.lookup x=some a->cells.lookup x=some a:=λx a e=>h (x,a) (Wt e)
theorem Ol(h1:sc.kind = .function:=by rfl)(h2:sc.isCoroutine=false:=by rfl)(h3:sc.isGenerator=false:=by rfl)(h4:sc.names.lookup p=some .local:=by rfl)(h5:∀ y ∈ sc.names,y.2≠.cell:=by decide +kernel)
  (h6:∀ y ∈ sc.names,y.2 = .free->y.1 ∈ fr:=by decide +kernel) (h7:∀ x ∈ fr,sc.names.lookup x=some .free:=by decide +kernel):tS p fr sc:=⟨h1,h2,h3,h4,h5,λx e=>h6 _ (Wt e) rfl,h7⟩
section
variable {X:Cx} {c:Fc} {e:Expr} {fe fb:DE} {params:Arguments} {body:Expr} {scope:Scope} {m_ pos pp:Pos} {P code:Addr} {cl:List (Str×Addr)} {fr:List Str} {js:List Nat} {p x:Str} {kl kw m:Nat} {i5:Addr->(D->Option D)->DS} {W:(D->Option D)->D->Option D} {ts:kG}
theorem Om(F:xG X.prog X.w X.K X.mg X.base kw x m i5)(hW:∀ fa Fn d r,W Fn d=some r->∃ aR,ef (i5 fa Fn) m [.pure d,.pure (.fn fa)]=some (.pure r,aR))
  (ft:FT ts c) (Oo:(P,m_,X.env.qual ++ "<lambda>") ∈ ts) (hr:cC (kw + 1) X.A) (Oq:kl + 1<=kw) (hg:Gl X x) (he:SE X c e fe) (jb:∀ x,X.fn x=true)
  (xC:defaultsOf params X.env=([],[])) (oB:closureFor scope X.env=pure cl) (tW:X.env.code = .ref code) (CH:Jb X.K code P=true) (xD:Ws≠P) (hB:X.base.BuiltinsAt X.mg P)
  (kC:∀ x a,cl.lookup x=some a->X.env.cells.lookup x=some a) (L:tS p fr scope) (Ep:js.length=fr.length)
  (hN:∀ (i:Nat) x j,fr[i]? = some x->js[i]? = some j->X.N[j]? = some x/\X.env.scope.names.lookup x=some .cell/\∃ a,cl.lookup x=some a)
  (hb:∀ pm aJ eA (u:Value),bindArgs (PySem.W.kla_fn "<lambda>" (X.env.qual ++ "<lambda>") params body scope cl pm aJ eA) ⟨[u],[]⟩=pure [(p,u)])
  (eE:∀ (c':Fc) (fa:Addr) (cd:Value) (A:Wq) (outer:List Env) (s:W2) (H:Hp),cC kl (A.deeper (Jt (X.env.qual ++ "<lambda>") scope s.heap.objs.size fa cd cl))->c'.pin=[]->SE (qH X.prog X.w X.K X.mg X.base (p :: fr) (X.env.qual ++ "<lambda>") scope fa cd cl A outer s H) c' body fb)
  (gu:(x == ("__debug__" : Str))=false:=by decide)
  (hs:Wb [e,.Lambda params body scope m_] X.env=(false,eval e X.env) :: Wb [.Lambda params body scope m_] X.env:=by rfl)
  (n9:Wb [.Lambda params body scope m_] X.env=[(false,eval (.Lambda params body scope m_) X.env)]:=by rfl):SE X c (.Call (.Name x pp) [e,.Lambda params body scope m_] [] pos) (tY fe js fb W):=by
 obtain⟨f,fd,ps,qual,sc,N,hNm,kg,hk,hbi,h2,ok⟩:=F;intro pins s σ H Q I ⟨δ,k,q⟩;refine Jh (Af I hg kg ?_ gu);refine PySem.W.callWith_K (h₀:=X.base) I.ok.mod.pf hk ?_ hs (by rw[n9]; rfl);rw[hs,n9];show W5 _ _ (spliced ((false,eval e X.env) :: [(false,eval (.Lambda params body scope m_) X.env)])) _ _ s;unfold tY at q;rw[bw] at q;refine Calls.spliced_cons (aQ (he pins s σ H (λv H1=>∃ r δ1 dv δ2 d',aS c σ δ H σ δ1 H1/\Rep H1 (Av c σ δ1) v r/\jv js δ1=some (dv,δ2)/\W (gZ fb dv) r=some d'/\∀ v' H3,aS c σ δ H σ δ2 H3->Rep H3 (Av c σ δ2) v' d'->Q v' H3) I ⟨δ,k,aW q λr δ1 q1 v H1 a1 r1=>?_⟩) λu s1 ⟨v,H1,I1,ru,r,δ1,dv,δ2,d',a1,r1,eg,ew,hq⟩=>?_)
 ·cases eg:jv js δ1 with
  | none=>rw[eg] at q1; exact q1.elim
  | some z =>
   obtain⟨dv,δ2⟩:=z;rw[eg] at q1;simp only at q1
   cases ew:W (gZ fb dv) r.d with
   | none=>rw[ew] at q1; exact q1.elim
   | some d' =>
    rw[ew] at q1;exact⟨r.d,δ1,dv,δ2,d',a1,r1.rep,eg,ew,λv' H3 a3 r3=>q1 v' H3 a3 r3⟩
 ·obtain⟨a2,fv,l1,l2,rf⟩:=Eo a1.ok eg;have k2:=a2.ok;have hv:∀ (i:Nat) x v,fr[i]? = some x->fv[i]? = some v->∃ (j:Nat) (a:Addr),X.N[j]? = some x/\σ[j]? = some (some v)/\X.env.scope.names.lookup x=some .cell/\cl.lookup x=some a:=λi y w e1 e2=>by
   have hi:i < js.length:=by rw[Ep]; exact(Wd.mp e1).1
   obtain⟨w',q1,q2⟩:=l2 i js[i] (by simp[hi]);rw[e2] at q1; cases q1
   obtain⟨z1,z2,a,z3⟩:=hN i y js[i] e1 (by simp[hi]);exact⟨_,a,z1,q2,z2,z3⟩
  refine Calls.spliced_cons (Og I1 (ft.now k2 _ Oo) jb xC oB tW CH xD hB kC (by rw[l1,Ep]) hv λfa H2 s2 I2 up C=>Calls.spliced_nil ⟨I2.eO,?_⟩);have k3:Ok c σ δ2 H2:=k2.mono up;have sp:spS X.prog X.w X.K X.mg X.base N qual sc f kw i5 X.stack s2 [v,.ref fa] H2 Q E0:=by
   obtain⟨aR,hrun⟩:=hW fa (gZ fb dv) r d' ew;have r3:Rep H2 (Av c σ δ2) v r:=(Rep.dZ r1 a2).keep λa o e _=>up a o e
   refine⟨r,fa,gZ fb dv,Av c σ δ2,v,rfl,?_,λaJ A E xB gM=>?_,.pure d',aR,by rw[hNm]; exact hrun,λv' H' a r'=>?_⟩
   ·have hV:∀ (i:Nat) z,([some (S.pure r),some (S.pure (.fn fa))]:Dl)[i]? = some (some (.own z))->False:=λi z e=>by
     match i with
     | 0=>simp at e
     | 1=>simp at e
     | i + 2=>simp at e
    have tV:∀ b,Av ⟨H2,Av c σ δ2,[],λ_ _=>False⟩ [some v,some (.ref fa)] [some (.pure r),some (.pure (.fn fa))] b->Av c σ δ2 b:=λb z=>by
     rcases z with z | ⟨i,y,z1,_⟩
     ·exact z
     ·exact(hV i y z1).elim
    refine⟨λa o e _=>e,λa z=>k3.sf z,λa ⟨i,z⟩=>by simp at z,rfl,λi z e=>?_,λi z e=>(hV i z e).elim,λi j a z z' e=>(hV i z e).elim,λz hz=>by simp at hz⟩;match i with
    | 0 =>
     simp at e;subst e;exact⟨v,rfl,r3.bf λb z=>.inl (tV b z)⟩
    | 1 =>
     simp at e;subst e;exact⟨.ref fa,rfl,.fn fa⟩
    | i + 2=>simp at e
   ·exact Oa (X:=(fK dG X.prog X.w X.K X.mg X.base N qual sc f aJ A X.stack s2 H2 E).gp) (k:=kl) rfl rfl rfl C L (xB.mono Oq) hb (aI.keep rf λa o e _=>up a o e) λc' cd s' H' Ot hp=>eE c' fa cd _ _ s' H' Ot hp
   ·have Ou:∀ b o,H2 b=some o->H' b=some o:=λb o eb=>a.ok.keep b o eb λ⟨i,z⟩=>by simp at z
    exact hq v' H' (((a1.trans a2).trans (.mono k2 up)).trans (.mono k3 Ou)) (Rep.bf (show Rep H' _ v' d' from r') λb z=>.inl (.inl z))
  have rr:Vals [v,.ref fa] [u,.ref fa]:=.cons ru (.cons rfl .nil);have Er:=hbi s2 [u,.ref fa] I2.eO (by rw[Qz,h2]; rfl);rw[Qz] at Er;refine wpAny_call (QL (ok.run X.A X.stack s2 H2 ⟨[u,.ref fa],[]⟩ [u,.ref fa] [v,.ref fa] Q E0 hr I2.uM Er rr sp) λr s' qI=>?_)
  cases r with
  | error e=>exact qI.elim
  | ok fl =>
   cases fl with
   | ret u=>exact I2.after qI
   | next=>exact False.elim qI
   | brk=>exact False.elim qI
   | cont=>exact False.elim qI
end
theorem Ov{P:Wj}{w:Wp}{K:W1}{mg mb:Str->Option Value}{k:Nat}{fa a T c:Addr}{tpos:Pos}{tq:Str}{fd:WM}{x:Str}{G:DF}{s₁:W2}{vs:List Value}{ns:List Int}
  (KX:K.In s₁.heap) (la:s₁.heap.Ns Ws mg) (hb:s₁.heap.Ns builtinsNs mb) (vb:∀ x:Str,x≠"__name__"->mb x=Qu x) (vc:s₁.heap.NoLimit) (hg:s₁.gens = #[])
  (ha:s₁.heap.get? a=some { cls:=.type "list",data:=.seq vs.toArray }) (hi:IntsAre vs ns) (hl:ns.length<=W6) (hr:cC k callerA)
  (hL:wx K=true) (hT:s₁.heap.get? T=some (PySem.W.tabObj #[])) (hC:PySem.W.CodeHd s₁.heap c T) (hB:∃ bm o,mg "__builtins__" = some (.ref bm)/\bm≠builtinsNs/\s₁.heap.get? bm=some o/\o.cls = .type "module"/\o.dict=some builtinsNs/\o.data = .plain) (xH:K.lookup T=none)
  (F:∀ base:Heap,K.In base->base.Ns Ws mg->base.BuiltinsAt mg T->gJ P w K mg base dG k fa fd [x] (mZ [(T,tpos,tq)] 1 G)) (vd:∀ (s:W2) (u:Value),BindsTo s fd ⟨[u],[]⟩ [(x,u)])
  (hG:∃ aR,G [.pure (.lst (ns.map .int))]=some (.pure (.bl true),aR)) :
  Qe (model P w) callerA (.call (.ref fa) ⟨[.ref a],[]⟩) (λr s'=>r = .ok (.ret (.bool true))/\OldK s₁.heap s'.heap/\s'.os=s₁.os/\AllBare s'.gens) s₁:=by
 have rv:=L2.u9 hi;have Bp:=hi.length;have Ow:T≠a:=λz=>by
  rw[z,ha] at hT;have:=(Wy hT)
  have h2:=congrArg Obj.cls this
  cases h2
 have Ox:K.lookup a=none:=by
  cases hk:K.lookup a with
  | none=>rfl
  | some o =>
   have e:=KX a o hk;rw[ha] at e
   cases e;exact(Ma hL hk rfl).elim
 let H:Hp:=λb=>if b=a then some (.frz { cls:=.type "list",data:=.seq vs.toArray } (.lst (ns.map V.int))) else if b=T then some (.ctab tpos tq) else none
 have Ha:H a=some (.frz { cls:=.type "list",data:=.seq vs.toArray } (.lst (ns.map V.int))):=if_pos rfl;have HT:H T=some (.ctab tpos tq):=by show(if T=a then _ else _)=_; rw[if_neg Ow,if_pos rfl]
 have Hn:∀ b,b≠a->b≠T->H b=none:=λb h1 h2=>by show(if b=a then _ else _)=_; rw[if_neg h1,if_neg h2]
 have aD:cB P w H s₁.heap:=λb u z=>by
  by_cases h1:b=a
  ·subst h1;rw[Ha] at z; cases z
   exact⟨ha,by rw[WA]; exact hl,vs,_,rv,ha⟩
  ·by_cases h2:b=T
   ·subst h2;rw[HT] at z; cases z
    exact⟨#[],hT,trivial,λcv q=>by cases q⟩
   ·rw[Hn b h1 h2] at z; cases z
 have nR:∀ {b:Addr} {o:Obj},s₁.heap.get? b=some o->H b=none->(gk s₁.heap H).get? b=some o:=λe n=>zY e n
 have jd:∀ {b:Addr} {o:Obj} {es:Array DictEntry} {ep:Nat},s₁.heap.get? b=some o->o.data = .dict es ep->H b=none:=λ{b o es ep} e d=>by
  refine Hn b (λz=>?_) λz=>?_
  ·rw[z,ha] at e; cases e
   have d':Data.seq vs.toArray _=Data.dict es ep:=d
   cases d'
  ·rw[z,hT] at e; cases e
   have d':Data.fields #[]=Data.dict es ep:=d
   cases d'
 have kh:∀ {b:Addr} {m:Str->Option Value},s₁.heap.Ns b m->(gk s₁.heap H).Ns b m:=λ{b m} ⟨o,es,ep,e,d,r⟩=>⟨o,es,ep,nR e (jd e d),d,r⟩
 have pP:K.In (gk s₁.heap H):=λb o e=>nR (KX b o e) (Hn b (λz=>by rw[z,Ox] at e; cases e) λz=>by rw[z,xH] at e; cases e)
 have hM:Mod K mg (gk s₁.heap H):=⟨pP,kh la,⟨mb,kh hb,vb⟩,let ⟨mc,h1,h2⟩:=vc; ⟨mc,kh h1,h2⟩⟩
 have e0:nL P w K mg (gk s₁.heap H) callerA [] s₁ H:=⟨rfl,hM,λb o e=>zZ e,Nat.le_of_eq (zX _ _),trivial,λb hb=>absurd (show b ∈ ([]:List Addr) from hb) (by simp),aD,.of_eq hg⟩
 have Oy:TH [(T,tpos,tq)] H:=λt ht=>by
  have:t=(T,tpos,tq):=by simpa using ht
  subst this;exact HT
 have hR:Rd H a (.lst (ns.map V.int)):=.inr ⟨_,Ha⟩;have sp:mZ [(T,tpos,tq)] 1 G [.ref a] H (λv H'=>v = .bl true/\H' T=some (.ctab tpos tq)) E0:=by
  obtain⟨aR,hg⟩:=hG;have rep:∀ O:Addr->Prop,¬ O a->Rep H O (.ref a) (.lst (ns.map D.int)):=λO hO=>.lst hO hR (by simp) λi v d e1 e2=>by
   rw[Wv] at e1 e2
   cases e:ns[i]? with
   | none=>rw[e] at e1; cases e1
   | some k=>rw[e] at e1 e2; cases e1; cases e2; exact .int k
  refine⟨Oy,[.pure (.lst (ns.map .int))],λ_=>False,rfl,⟨λb o e _=>e,λb z=>z.elim,λb ⟨i,z⟩=>?_,rfl,λi d e=>?_,λi d e=>?_,λi j b d d' e1 e2 e3 e4=>?_,λp z=>?_⟩,_,aR,hg,λv H' x r=>?_⟩
  ·simp[cN] at z
  ·cases i with
   | zero =>
    simp at e;subst e;refine⟨.ref a,rfl,rep _ λz=>?_⟩;rcases z with z | ⟨j,d',z1,z2⟩
    ·exact z
    ·cases j with
     | zero=>simp at z1
     | succ j=>simp at z1
   | succ i=>simp at e
  ·cases i with
   | zero=>simp at e
   | succ i=>simp at e
  ·cases i with
   | zero=>simp at e1
   | succ i=>simp at e1
  ·simp[cN] at z
  ·cases r;exact⟨rfl,x.ok.keep T _ HT λ⟨i,z⟩=>by simp[cN] at z⟩
 have Oz:(gk s₁.heap H).BuiltinsAt mg T:=by
  obtain⟨bm,o,b1,b2,b3,b4,b5,b6⟩:=hB;refine⟨bm,o,b1,b2,λz=>?_,λz=>?_,nR b3 (Hn bm (λz=>?_) λz=>?_),b4,b5,b6⟩
  ·obtain⟨o2,es,ep,e,d,_⟩:=la;rw[z,e] at b3; cases b3
   rw[d] at b6; cases b6
  ·rw[z,hT] at b3; cases b3
   cases b6
  ·rw[z,ha] at b3; cases b3
   cases b6
  ·rw[z,hT] at b3; cases b3
   cases b6
 refine QL ((F _ pP (kh la) Oz).run callerA [] s₁ H ⟨[.ref a],[]⟩ [.ref a] [.ref a] _ _ hr e0 (vd s₁ (.ref a)) (.cons rfl .nil) sp) λr s' h=>?_
 cases r with
 | error e=>exact h.elim
 | ok fl =>
  cases fl with
  | next=>exact False.elim h
  | brk=>exact False.elim h
  | cont=>exact False.elim h
  | ret u =>
   obtain⟨v,H',os,bare,un,hok',r',q⟩:=h;obtain⟨q1,q2⟩:=q;subst q1;obtain rfl:u=Value.bool true:=r';have old:∀ b o,s₁.heap.get? b=some o->asItWas s₁.heap s'.heap b o/\∃ o',s'.heap.get? b=some o':=λb o e=>by
    by_cases h1:b=a
    ·subst h1;have z2:=un.ja b _ _ Ha;obtain⟨e2,_⟩:=hok' b _ z2;rw[ha] at e; cases e
     exact⟨.inl e2,_,e2⟩
    ·by_cases h2:b=T
     ·subst h2;obtain⟨ps,e2,_⟩:=hok' b _ q2;rw[hT] at e; cases e
      exact⟨.inr (.inl ⟨(hC.tab hT).isCodeTable,rfl,#[],ps,rfl,by rw[e2]; simp⟩),_,e2⟩
     ·have:=un.keep b o e (Hn b h1 h2) (by intro z; exact absurd (show b ∈ ([]:List Addr) from z) (by simp)) (by simp);exact⟨.inl this,_,this⟩
   exact⟨rfl,⟨λb o e=>(old b o e).1,λb o e=>(old b o e).2⟩,os,bare⟩
theorem OA{l:PySem.W.OpenLaw}{q:Wj}{loose:List Str}{XP:(Str->Option Value)->Heap->Prop}{YP:Wp->Heap->Prop}{d:DefRec}{K:Params->W1}{k:Nat}{G:DF}{T:Addr}{tpos:Pos}{tq:Str}(hn:l.most=some 63)(pM:d.params.defaults=[])(hr:cC k callerA)
  (hY:∀ (w:Wp) (h:Heap),YP w h->(K w.params).In h/\h.get? T=some (PySem.W.tabObj #[])) (hL:∀ p:Params,wx (K p)=true) (xH:∀ p:Params,(K p).lookup T=none)
  (hG:∀ ns:List Int,ns.length<=63->∃ aR,G [.pure (.lst (ns.map .int))]=some (.pure (.bl true),aR))
  (F:∀ (w:Wp) (mg:Str->Option Value) (fa:Addr) (h:Heap),(K w.params).In h->h.Ns Ws mg->mg d.name=some (.ref fa) ->
   (∃ c,Jb (K w.params) c T=true)/\∃ fd:WM,(∀ (s:W2) (u:Value),BindsTo s fd ⟨[u],[]⟩ [("script",u)])/\∀ base:Heap,(K w.params).In base->base.Ns Ws mg->base.BuiltinsAt mg T->gJ l.prog w (K w.params) mg base dG k fa fd ["script"] (mZ [(T,tpos,tq)] 1 G)) :
  PySem.W.WalkO q loose XP YP l.row.toRowW d [] (λf vs=>PySem.call f vs):=by
 refine Att.Bo hn pM λw s₀ s₁ mg mb fa o pm cd doc a vs ns G' Y ho hd fV kg pO hints hlen hg=>?_
 obtain⟨KX,hT⟩:=hY w _ Y;obtain⟨⟨c,hC⟩,fd,hb,hF⟩:=F w mg fa _ KX G'.T.g kg;exact Ov KX G'.T.g G'.T.b G'.T.builtins G'.T.nolimit hg pO hints (WU hlen (by decide)) hr (hL _) hT (PySem.W.codeHd_of_K KX hC) G'.T.bmain (xH _) hF hb (hG ns hlen)
open PySem (sizeLine)
def tZ(fa:PySem.Addr)(F:D->Option D):DS:=au (aw mO (ao [] 2)) (au (aw (aa 0) (ao [] 3)) (au (dB (ay (aE (eK true) (aa 3) (ah 2))) (au (jt 2 (aa 3) (aY bI (ah 2))) (aw (mY fa F 1 (aa 3)) (ao [] 3))) 1000000) (a_ (cP (aF (aY oA (ah 2)) (aF (ag jr 2 (ah 3)) bL))))))
def wk(F:D->Option D):Nat->List Tx->Tx->Option (List Tx×Nat)
 | 0,_,_=>none
 | n + 1,seen,here=>if here ∈ seen then some (seen,seen.idxOf here) else match F (.str here) with
  | some (.str y)=>wk F n (seen ++ [here]) y
  | _=>none
def qJ(F:D->Option D):D->Option D
 | .str x=>(wk F 1000000 [] x).map λp=>.tup [.lst (p.1.map .str),.int (p.2:Nat)]
 | _=>none
def cy:Nat->List Tx->List (bA×D)
 | _,[]=>[]
 | n,x :: r=>(.inr x,.int (n:Int)) :: cy (n + 1) r
theorem Es:∀ (n:Nat) (a b:List Tx),cy n (a ++ b)=cy n a ++ cy (n + a.length) b
 | n,[],b=>by simp[cy]
 | n,x :: r,b=>by
  rw[List.cons_append,cy,cy,Es,List.cons_append,WS];congr 3
  omega
theorem xI:∀ (n:Nat) (a:List Tx),(cy n a).length=a.length
 | _,[]=>rfl
 | n,x :: r=>by rw[cy,WS,xI,WS]
theorem xJ:∀ (n:Nat) (a:List Tx),(cy n a).map (λp=>lH p.1)=a.map .str
 | _,[]=>rfl
 | n,x :: r=>by rw[cy,Wn,xJ,Wn]; rfl
theorem xK(x:Tx):∀ (n:Nat) (a:List Tx),b_ (cy n a) (.inr x)=if x ∈ a then some (.int ((n + a.idxOf x:Nat):Int)) else none
 | _,[]=>rfl
 | n,y :: r=>by
  unfold b_ cy;rw[Q4];by_cases h:y=x
  ·subst h;simp
  ·have h':¬ x=y:=λe=>h e.symm
   have e:(decide ((Sum.inr y:bA) = .inr x))=false:=by simp[h]
   have ih:=xK x (n + 1) r;unfold b_ at ih;simp only[e];rw[ih,List.idxOf_cons];have hb:(y == x)=false:=by simp[h]
   simp only[hb,We,h',false_or];by_cases hm:x ∈ r
   ·simp only[hm,if_true,cond_false];congr 2
    omega
   ·simp[hm]
theorem OB(h:x ∉ a):putD (cy 0 a) (.inr x) v=cy 0 a ++ [(.inr x,v)]:=by
 have hn:((cy 0 a).any λkv=>decide (kv.1 = .inr x))=false:=by
  rw[List.any_eq_false];intro kv hkv;have:lH kv.1 ∈ a.map D.str:=by rw[<- xJ 0 a]; exact WQ hkv
  simp only[decide_eq_true_eq];intro e;rw[e] at this;simp[lH] at this;exact h this
 unfold putD;rw[hn];simp
theorem Et(fa:PySem.Addr)(F:D->Option D)(d:D):∀ (n:Nat) (seen:List Tx) (here:Tx) (p:List Tx×Nat),seen.length + n<=1000000->wk F n seen here=some p ->
  ∃ last:Tx,last ∈ p.1/\p.1.idxOf last=p.2/\p.1.length<=1000000/\dB (ay (aE (eK true) (aa 3) (ah 2))) (au (jt 2 (aa 3) (aY bI (ah 2))) (aw (mY fa F 1 (aa 3)) (ao [] 3))) n [some (.pure d),some (.pure (.fn fa)),some (.own (.aM (cy 0 seen))),some (.pure (.str here))]
   = .ok .next [some (.pure d),some (.pure (.fn fa)),some (.own (.aM (cy 0 p.1))),some (.pure (.str last))]
 | 0,_,_,_,_,h=>by simp[wk] at h
 | n + 1,seen,here,p,hl,h=>by
  unfold wk at h;have jm:eK true (.str here) (.aM (cy 0 seen))=some (.pure (.bl (!decide (here ∈ seen)))):=by
   show((cD (.str here)).map λk=>S.pure (.bl (if true then !(b_ (cy 0 seen) k).isSome else(b_ (cy 0 seen) k).isSome)))=_;simp only[cD,WI,xK,if_true];by_cases hm:here ∈ seen <;> simp[hm]
  by_cases hm:here ∈ seen
  ·rw[if_pos hm] at h
   cases h;refine⟨here,hm,rfl,by show seen.length<=_; omega,?_⟩;simp only[hm,decide_true,Bool.not_true] at jm;show dB _ _ (n + 1) _=_;generalize cy 0 seen=L at *;simp[dB,ay,aa,ah,jm]
  ·rw[if_neg hm] at h
   cases hF:F (.str here) with
   | none=>rw[hF] at h; cases h
   | some y =>
    rw[hF] at h
    cases y with
    | str y =>
     simp only at h;obtain⟨last,h1,h2,h3,h4⟩:=Et fa F d n (seen ++ [here]) y p (by simp; omega) h;refine⟨last,h1,h2,h3,?_⟩;rw[<- h4];simp only[hm,decide_false,Bool.not_false] at jm;have hz:(cy 0 seen).length < W6:=by rw[xI,er]; omega
     have hp:putD (cy 0 seen) (.inr here) (.int ((cy 0 seen).length:Nat))=cy 0 (seen ++ [here]):=by
      rw[OB hm,Es,xI];simp[cy]
     generalize cy 0 (seen ++ [here])=L1 at *;generalize cy 0 seen=L at *;have e1:ay (aE (eK true) (aa 3) (ah 2)) [some (.pure d),some (.pure (.fn fa)),some (.own (.aM L)),some (.pure (.str here))] = .ok true [some (.pure d),some (.pure (.fn fa)),some (.own (.aM L)),some (.pure (.str here))]:=by
      simp[ay,aa,ah,jm]
     have e2:jt 2 (aa 3) (aY bI (ah 2)) [some (.pure d),some (.pure (.fn fa)),some (.own (.aM L)),some (.pure (.str here))] = .ok .next [some (.pure d),some (.pure (.fn fa)),some (.own (.aM L1)),some (.pure (.str here))]:=by
      simp[jt,kE,aa,ah,bI,cD,hz,hp]
     have e3:aw (mY fa F 1 (aa 3)) (ao [] 3) [some (.pure d),some (.pure (.fn fa)),some (.own (.aM L1)),some (.pure (.str here))] = .ok .next [some (.pure d),some (.pure (.fn fa)),some (.own (.aM L1)),some (.pure (.str y))]:=by
      simp[aw,mY,aa,hF]
     simp only[dB,e1,ju,if_true];have e4:au (jt 2 (aa 3) (aY bI (ah 2))) (aw (mY fa F 1 (aa 3)) (ao [] 3)) [some (.pure d),some (.pure (.fn fa)),some (.own (.aM L)),some (.pure (.str here))] = .ok .next [some (.pure d),some (.pure (.fn fa)),some (.own (.aM L1)),some (.pure (.str y))]:=by
      unfold au;rw[e2];exact e3
     rw[e4];rfl
    | _=>simp at h
theorem OC(fa:PySem.Addr)(F:D->Option D)(d r:D)(h:qJ F d=some r):∃ aR,ef (tZ fa F) 4 [.pure d,.pure (.fn fa)]=some (.pure r,aR):=by
 unfold qJ at h;split at h
 ·rename_i x
  cases e:wk F 1000000 [] x with
  | none=>rw[e] at h; cases h
  | some p =>
   rw[e] at h;simp only[WI,W7] at h;subst h;obtain⟨last,h1,h2,h3,h4⟩:=Et fa F (.str x) 1000000 [] x p (by simp) e;have hx:jr (.aM (cy 0 p.1)) (.str last)=some (.pure (.int (p.2:Nat))):=by
    show((cD (.str last)).bind λk=>(b_ (cy 0 p.1) k).map S.pure)=_;simp only[cD,WF,xK,h1,if_true,WI,h2,J7]
   have hk:oA (.aM (cy 0 p.1))=some (.own (.lst (p.1.map .str))):=by
    show some (S.own (D.lst ((cy 0 p.1).map λp=>lH p.1)))=_;rw[xJ]
   have h0:cy 0 []=[]:=rfl;rw[h0] at h4;generalize cy 0 p.1=L at *;refine⟨[.pure (.str x),.pure (.fn fa)],?_⟩;unfold ef tZ;simp[bo,aw,mO,aa];rw[h4];simp[ah,hk,ag,bb,hx,cJ,b8]
 ·cases h
section
variable {P:Wj} {w:Wp} {K:W1} {mg:Str->Option Value} {base:Heap}
theorem qK{ts:kG}{x qual:Str}{st:Stmt}{f:Addr}{fd:WM}{N ps:List Str}{k:Nat}{np:List Nat}{fb:DS}{G:DF}(F:bS K x qual st f fd)(hm:mg x=some (.ref f))(hb:Binds K fd ps [])(S:ck N ps (bc st))
  (eE:∀ (c:Fc) (aJ:Value) (A:Wq) (outer:List Env) (s:W2) (H:Hp) (E:XK),cC k (A.deeper (J5 qual (bc st) s.heap.objs.size f aJ))->Np c np->FT ts c->(∃ oc od kV doc pm an ct eC,K.lookup f=some ⟨oc,od,.func (WZ x qual (gL st) (dY st) (bc st) .none kV doc pm an aJ ct),eC⟩)->iB (fK dG P w K mg base N qual (bc st) f aJ A outer s H E).gp c (dY st) fb)
  (hG:∀ ss y,G ss=some y->cw np 0 ss=true/\ef fb N.length ss=some y):gf P w K mg base ts (k + 1) x ps.length G:=⟨f,fd,ps,hm,F.kp,hb,En F S eE hG⟩
theorem OD{x qual:Str}{st:Stmt}{f code:Addr}{aJ:Value}(h1:∃ oc od kV doc pm an ct eC,K.lookup f=some ⟨oc,od,.func (WZ x qual (gL st) (dY st) (bc st) .none kV doc pm an aJ ct),eC⟩)
  (h2:∃ oc od kV doc pm an ct eC,K.lookup f=some ⟨oc,od,.func (WZ x qual (gL st) (dY st) (bc st) .none kV doc pm an (.ref code) ct),eC⟩):aJ = .ref code:=by
 obtain⟨_,_,_,_,_,_,_,_,e1⟩:=h1;obtain⟨_,_,_,_,_,_,_,_,e2⟩:=h2;rw[e1] at e2
 cases e2;rfl
end
section
variable {X:Cx} {c:Fc} {e:Expr} {es:List Expr} {as:List Ak} {k n:Nat} {x:Str} {G:DX} {pp pos:Pos} {ts:kG}
end
def qL(np:List Nat)(i j:Nat)(f:Dl->Rs (List D)):DS:=λδ=>if np.contains i || np.contains j then .stuck else(f δ).bind λds δ1=>match ds with
 | [d,e]=>.ok .next ((δ1.set i (some (.pure d))).set j (some (.pure e)))
 | _=>.stuck
theorem OE{kt k2 pt2}(hp:Np c np)(hc:X.calm=true)(hN:X.N.Nodup)(hi:X.N[i]? = some x)(hj:X.N[j]? = some y)(uC:i≠j)
  (hx:X.env.scope.names.lookup x=some .local) (hy:X.env.scope.names.lookup y=some .local) (ha:SA X c [a,b] f)
  (hw:swappedStores [.Tuple [.Name x px,.Name y py] kt pt] (.Tuple [a,b] k2 pt2) X.env=pure (some [x,y]):=by rfl)
  (hs:swapsWithSole [.Tuple [.Name x px,.Name y py] kt pt] (.Tuple [a,b] k2 pt2) pos.line X.env=pure false:=by rfl) :
  SS X c (.Assign [.Tuple [.Name x px,.Name y py] kt pt] (.Tuple [a,b] k2 pt2) pos) (qL np i j f):=PS.weak (G9 hc hN hi hj uC hx hy ha.pa hw hs) λD σ H ⟨δ,k,q⟩=>by
 unfold qL at q;split at q
 ·exact q.elim
 ·rename_i aA;simp only[JU,not_or,Bool.not_eq_true] at aA;have ne:∀ (l:Nat),np.contains l=false->∀ p ∈ c.pin,p.1≠l:=λl hl p pY z=>by
   have:=hp p pY;rw[z,hl] at this
   cases this
  unfold eF at q;rw[bw] at q;refine⟨δ,k,aW q λds δ1 q1 vs H1 a1 r1=>?_⟩;match ds,q1,r1 with
  | [],q1,_=>exact q1.elim
  | [_],q1,_=>exact q1.elim
  | _ :: _ :: _ :: _,q1,_=>exact q1.elim
  | [d,e],q1,r1 =>
   match vs,r1 with
   | [],r1=>exact absurd r1.1 (by simp)
   | [_],r1=>exact absurd r1.1 (by simp)
   | _ :: _ :: _ :: _,r1=>exact absurd r1.1 (by simp)
   | [v,w],r1 =>
    have x0:=Ok.set (i:=i) (v:=v) (r:=.pure d) (aS.refl a1.ok) r1.head (ne i aA.1);have x1:=Ok.set (i:=j) (v:=w) (r:=.pure e) (a1.trans x0) (Rep.dZ r1.tail.head x0) (ne j aA.2);exact⟨v,w,rfl,q1 _ H1 x1⟩
end DV
namespace L2
open PySem PySem.Spec PyProof.Rows
section
variable {X:Cx} {pins:List (Addr×Obj)} {σ:St} {H:Hp} {s:W2} {a:Addr} {kvs:List (Key×V)} {k:Key} {u:Value} {A:Wq} {E:Value->W2->Prop}
theorem OF(I:Inv X pins σ H s)(e:H a=some (.dK kvs))(ry:RelV (kV k) u)(rv:RelV v r)(lz:kvs.length < W6)
  (h1:∀ v' w' s',dF kvs k=some v'->Inv X pins σ H s'->RelV v' w'->Q w' s') (h2:dF kvs k=none->∀ s',Inv X pins σ (upd H a (.dK (putK kvs k v))) s'->Q r s') :
  W5 (model X.prog X.w) A (call (.builtin "dict.setdefault") [.ref a,u,r]) Q E s:=by
 obtain⟨z,hd,vs,rel,dd⟩:=nN I.aD e;have rk:=rel.val k;refine call_meetsIn PySem.F.slot_dict_setdefault dd.typeIs PySem.F.entry_dict_setdefault (PySem.F.args_dict_setdefault_3 _ _ _) (kt_meets_setdefault (eB X.prog X.w) a (kb ry) hd r) ⟨vs,dd,by rw[<- rel.length]; exact z,λw' hw=>?_,λhn h' ig hs=>?_⟩
 ·cases l:dF kvs k with
  | none =>
   rw[l] at rk;rw[eX.none_of rk] at hw
   cases hw
  | some v' =>
   rw[l] at rk;obtain⟨w2,e2,r2⟩:=eX.some_of rk;rw[hw] at e2
   cases e2;exact h1 v' w' _ l (I.tok _) r2
 ·have l:dF kvs k=none:=by
   cases l:dF kvs k with
   | none=>rfl
   | some v' =>
    rw[l] at rk;obtain⟨w2,e2,r2⟩:=eX.some_of rk;rw[hn] at e2; cases e2
  have hl:(putK kvs k v).length<=W6:=by have:=nM kvs k v; omega
  have he:∃ q,h'.get? a=some q:=let ⟨q,_,_,hq,_⟩:=ig; ⟨q,hq⟩
  exact h2 l _ (pL I (by rw[e]; exact True.intro) hs he (rX hl hd (rel.put k rv) ig))
end
def OG(td ty tx:TE):TE:=λσ H Q=>td σ H λx H1=>∃ a,x = .ref a/\u6 H1 a/\ty σ H1 λy H2=>tx σ H2 λz H3=>∃ kvs k,H3 a=some (.dK kvs)/\y=kV k/\kvs.length < W6 /\
 (∀ v,dF kvs k=some v->Q v H3)/\(dF kvs k=none->Q z (upd H3 a (.dK (putK kvs k z))))
section
variable {X:Cx} {o e f:Expr} {apos bE:Pos} {td ty tx:TE}
theorem OH (ho:PE X o td) (he:PE X e ty) (hf:PE X f tx) (m:M2 X o "setdefault" apos e f bE):PE X (.Call (.Attribute o "setdefault" apos) [e,f] [] bE) (OG td ty tx):=by
 intro pins s σ H Q I h;refine wpAny_Call_method m.base m.u5 m.line PySem.F.plainAttrs_dict PySem.F.slot_dict_setdefault PySem.F.type_dict_setdefault (aQ (ho pins s σ H _ I h) λu s1 ⟨x,H1,I1,rx,a,ex,d,q1⟩=>?_);subst ex;obtain rfl:u=Value.ref a:=rx;obtain⟨t1,t2,_⟩:=Bn I1 d;refine⟨t1,t2,?_⟩;rw[m.trees];refine Calls.callWith_builtin rfl (Calls.evalArgs_plain (Calls.spliced_cons (aQ (he pins s1 σ H1 _ I1 q1) λiv s2 ⟨y,H2,I2,ry,q2⟩ =>
  Calls.spliced_cons (aQ (hf pins s2 σ H2 _ I2 q2) λfv s3 ⟨z,H3,I3,rz,kvs,k,ea,ey,lz,q3,q4⟩=>Calls.spliced_nil ?_))))
 subst ey;exact OF I3 ea ry rz lz (λv' w' s' l I4 r4=>⟨v',_,I4,r4,q3 v' l⟩) λl s' I4=>⟨z,_,I4,rz,q4 l⟩
end
end L2
namespace DV
open PySem PySem.Spec PyProof.Rows L2
section
variable {X:Cx} {c:Fc} {e:Expr} {fe:DE} {pos:Pos}
def kH(i:Nat)(fk fv:DE):DS:=λδ=>if kE δ i then(fk δ).bind λk δ1=>(fv δ1).bind λr δ2=>match δ2[i]? with
  | some (some (.own (.aM ds)))=>match cD k.d with
   | some kk=>if ds.length < W6 then .ok .next (match b_ ds kk with
    | some _=>δ2
    | none=>δ2.set i (some (.own (.aM (putD ds kk r.d))))) else .stuck
   | none=>.stuck
  | _=>.stuck else .stuck
theorem OI (ho:PE X o (dW i)) (hk:SE X c ke fk) (hv:SE X c ve fv) (m:M2 X o "setdefault" apos ke ve bE)
  (mn:QZ (.Call (.Attribute o "setdefault" apos) [ke,ve] [] bE) none pos.line X.env=pure false:=by rfl):SS X c (.Expr (.Call (.Attribute o "setdefault" apos) [ke,ve] [] bE) pos) (kH i fk fv) :=
 PS.weak (uB (OH ho hk hv m) mn) λD σ H ⟨δ,k,q⟩=>by
  unfold kH eF at q;split at q
  case isFalse=>exact q.elim
  rename_i hown;obtain⟨ds0,e0⟩:=Dp hown;obtain⟨a,ea,oa,_⟩:=k.own i _ e0;rw[bw] at q;refine⟨.ref a,ea,a,rfl,?_,δ,k,aW q λkx δ1 q1 u H1 a1 r1=>?_⟩
  ·obtain⟨ws,ha,_⟩:=oa;exact .inl ⟨ws,.of ha⟩
  rw[bw] at q1;refine⟨δ1,a1.ok,aW q1 λr δ2 q2 v H2 a2 r2=>?_⟩;split at q2
  ·rename_i ds e2;split at q2
   ·rename_i kk hk;split at q2
    ·rename_i hz;obtain⟨a',e_,oa,_⟩:=a2.ok.own i _ e2;rw[ea] at e_; cases e_
     obtain⟨ws,ha,hk1,hk2⟩:=id oa;have dr:DR H2 (Av c σ δ2) ws ds:=DR.of hk1 hk2;have pV:=ou hk r1.b;have hlen:ws.length=ds.length:=by have:=congrArg Qx hk1; simpa using this
     have rv:Rep H2 (Av c σ δ2) v r.d:=r2.rep;refine⟨ws,cL kk,ha,pV,by rw[hlen]; exact hz,λv' l=>?_,λl=>?_⟩
     ·rcases dr.val kk with ⟨n1,n2⟩ | ⟨v2,d2,m1,m2,_⟩
      ·rw[n2] at l; cases l
      ·rw[m1] at q2;exact q2 σ _ (a1.trans a2)
     ·rcases dr.val kk with ⟨n1,n2⟩ | ⟨v2,d2,m1,m2,_⟩
      ·rw[n1] at q2;exact q2 σ _ (a1.trans (a2.trans (Ok.Dn a2.ok e2 ea (dr.put rv))))
      ·rw[m2] at l; cases l
    ·exact q2.elim
   ·exact q2.elim
  ·exact q2.elim
end
section
variable {X:Cx}
def Eu(K:W1)(neg:Bool):R2:=λx y H Q=>∃ p vs ds d,y = .ref p/\cj K H p vs/\aI H cE vs ds/\Rep H cE x d/\flat 49 d=true/\(∀ e ∈ ds,flat 49 e=true)/\Q (.bl (if neg then !ds.any (λe=>aB e d) else ds.any (λe=>aB e d))) H
theorem OJ(hu:X.A.units + 64 < WO)(I:L2.Inv X pins σ H s)(rx:RelV x v)(r1:Rep H cE x d)(f1:flat 49 d=true)(rv:Vals vs ae)(rs:aI H cE vs ds)(fs:∀ e ∈ ds,flat 49 e=true) :
  ∃ e:Value->Bool,(∀ y ∈ ae.toArray,Ju X.A.in1 s y v (e y))/\ae.toArray.any e=ds.any (λe=>aB e d):=by
 have pre:=sv I (A:=X.A) 50 (by omega);obtain⟨_,it⟩:=pre;have lv:=rv.length;have at_:∀ (i:Nat) (y:Value) (e:D),ae[i]? = some y->ds[i]? = some e->Ju X.A.in1 s y v (aB e d):=λi y e h1 h2=>by
  have hi:i < vs.length:=by rw[rs.1]; exact(Wd.mp h2).1
  have hv:vs[i]? = some vs[i]:=Wc hi;obtain⟨y',e1,ry⟩:=rv.get hv;rw[h1] at e1
  cases e1;exact it _ _ _ _ _ _ _ (show X.A.units + 1 + 49 + 1 < WO by omega) (fs e (WC h2)) f1 (rs.2 i _ _ hv h2) r1 ry rx
 have dec:∀ p:Prop,Decidable p:=Classical.propDecidable;refine⟨λy=>decide (∃ (i:Nat) (e:D),ae[i]? = some y/\ds[i]? = some e/\aB e d=true),λy hy=>?_,?_⟩
 ·have xM:y ∈ ae:=by simpa using hy
  obtain⟨i,h1⟩:=Jw xM;have hi:i < ds.length:=by
   have:=(Wd.mp h1).1;rw[<- rs.1,lv]; exact this
  have h2:ds[i]? = some ds[i]:=Wc hi;by_cases q:∃ (i:Nat) (e:D),ae[i]? = some y/\ds[i]? = some e/\aB e d=true
  ·obtain⟨j,e,q1,q2,q3⟩:=id q;have:=at_ j y e q1 q2;rw[q3] at this;show Ju X.A.in1 s y v (decide _);rw[decide_eq_true q];exact this
  ·have:=at_ i y _ h1 h2;have hf:aB ds[i] d=false:=by
    cases z:aB ds[i] d with
    | false=>rfl
    | true=>exact absurd ⟨i,_,h1,h2,z⟩ q
   rw[hf] at this;show Ju X.A.in1 s y v (decide _);rw[decide_eq_false q];exact this
 ·rw[Ql,List.any_eq_true];simp only[List.any_toArray,List.any_eq_true,decide_eq_true_eq];constructor
  ·rintro ⟨y,_,i,e,h1,h2,h3⟩;exact⟨e,WC h2,h3⟩
  ·rintro ⟨e,he,h3⟩;obtain⟨i,h2⟩:=Jw he;have hi:i < ae.length:=by
    rw[<- lv,rs.1]; exact(Wd.mp h2).1
   have h1:ae[i]? = some ae[i]:=Wc hi;exact⟨ae[i],Qc hi,i,e,h1,h2,h3⟩
theorem OK(hu:X.A.units + 64 < WO):bz X (Wz .In) (Eu X.K false):=by
 intro pins s σ H x y v u Q I rx ry h;obtain⟨p,vs,ds,d,rfl,hq,rs,r1,f1,fs,q⟩:=h
 cases ry;obtain⟨ae,r,pl,hz⟩:=I.list hq;obtain⟨e,h1,h2⟩:=OJ hu I rx r1 f1 r rs fs;refine SeqAt.in_listAt e pl.isList h1 ⟨.bl _,H,I,rfl,?_⟩;rw[h2];exact q
def nc(neg:Bool)(x y:D):Option S:=match y with
 | .lst ds=>if flat 49 x && ds.all (flat 49) then some (.pure (.bl (if neg then !ds.any (λe=>aB e x) else ds.any (λe=>aB e x)))) else none
 | _=>none
theorem OL{K:W1}(neg:Bool):cu (Eu K neg) (nc neg):=by
 intro c σ δ H x y d e s Q k rx ry hp q
 cases e <;> first | (simp[nc] at hp; done) | skip
 rename_i ds;simp only[nc] at hp;split at hp
 ·rename_i hf
  cases hp;simp only[Wk,List.all_eq_true] at hf;obtain⟨a,vs,ea,ha,r⟩:=ry.lst;exact⟨a,vs,ds,d,ea,.inl ha,aI.bf r (λ_ z=>z.elim),rx.un,hf.1,hf.2,q _ H (.refl k) (.bl _)⟩
 ·cases hp
end
end DV
namespace L2
open PySem PySem.Spec PyProof.Rows PySem.SeqAt DV
theorem OM(h:RelV v u)(k:RelV w u):v=w:=by
 cases v <;> cases u <;> simp[RelV] at h <;> cases w <;> simp[RelV] at k <;> simp_all
open Classical in
noncomputable def fnI (ae:List Value) (ds:List D) (d:D) (y:Value):Bool:=decide (∃ (i:Nat) (e:D),ae[i]? = some y/\ds[i]? = some e/\aB e d=true)
theorem ON:fnI ae ds d y=true ↔ ∃ (i:Nat) (e:D),ae[i]? = some y/\ds[i]? = some e/\aB e d=true:=by
 unfold fnI;exact @decide_eq_true_iff _ (Classical.propDecidable _)
def Ew(K:W1):V->List V->Hp->VK->Prop:=λx xs H Q=>∃ (p:Addr) (vs:List V) (ds:List D) (z:V) (d:D),x = .ref p/\xs=[z]/\cj K H p vs/\aI H cE vs ds/\Rep H cE z d/\flat 49 d=true/\(∀ e ∈ ds,flat 49 e=true)/\ds.findIdx (λe=>aB e d) < ds.length/\ds.length<=1000/\Q (.int (ds.findIdx (λe=>aB e d):Nat)) H
section
variable {X:Cx}
theorem OO (hu:X.A.units + 64 < WO):uT X "list.index" (Ew X.K):=by
 intro pins s σ H x xs v us Q I rx rs h;obtain⟨a,vs,ds,z,d,rfl,rfl,hq,rps,r1,f1,fs,hj,hl,q⟩:=h;obtain⟨u,rfl,ru⟩:=fW rs
 cases rx;obtain⟨ae,r',p,_⟩:=I.list hq;obtain⟨⟨cls,dd,data,sl⟩,ho,hc,n,hd⟩:=p.isList;simp only at hc hd;subst hc; subst hd
 have pre:=sv I (A:=X.A) 50 (by omega);obtain⟨_,it⟩:=pre;have lv:=r'.length;have hlen:ae.length=ds.length:=by rw[<- lv,rps.1]
 have xN:∀ (i:Nat) (y:Value) (e:D),ae[i]? = some y->ds[i]? = some e->∃ w,RelV w y/\Rep H cE w e:=λi y e h1 h2=>by
  have hi:i < vs.length:=by rw[rps.1]; exact(Wd.mp h2).1
  have hv:vs[i]? = some vs[i]:=Wc hi;obtain⟨y',e1,ry⟩:=r'.get hv;rw[h1] at e1
  cases e1;exact⟨_,ry,rps.2 i _ _ hv h2⟩
 have at_:∀ (i:Nat) (y:Value) (e:D),ae[i]? = some y->ds[i]? = some e->Ju X.A.in1 s y u (aB e d):=λi y e h1 h2=>by
  obtain⟨w,ry,rr⟩:=xN i y e h1 h2;exact it _ _ _ _ _ _ _ (show X.A.units + 1 + 49 + 1 < WO by omega) (fs e (WC h2)) f1 rr r1 ry ru
 have xO:∀ (i:Nat) (y:Value) (e:D),ae[i]? = some y->ds[i]? = some e->fnI ae ds d y=aB e d:=λi y e h1 h2=>by
  rw[Ql,ON];constructor
  ·rintro ⟨j,e',g1,g2,g3⟩;obtain⟨w,ry,rr⟩:=xN i y e h1 h2;obtain⟨w',ry',rr'⟩:=xN j y e' g1 g2;have:=OM ry ry';subst this;rw[Rep.inj rr (fs e (WC h2)) (fs e' (WC g2)) rr'];exact g3
  ·exactλg=>⟨i,e,h1,h2,g⟩
 have Ex:ds.findIdx (λe=>aB e d) < ae.length:=by omega
 refine Jv PySem.F.slot_list_index ⟨_,ho,rfl⟩ PySem.F.entry_list_index (PySem.F.args_list_index_2 _ _) (list_indexAt a _ n dd sl u (fnI ae ds d) (ds.findIdx (λe=>aB e d)) (by simpa using Ex) (by omega) ?_ ?_) ⟨ho,λy hy=>?_,⟨.int (ds.findIdx (λe=>aB e d):Nat),H,I.tok _,⟨_,rfl⟩,q⟩⟩
 ·simp only[List.getElem_toArray];rw[xO _ _ _ (Wc Ex) (Wc hj)];exact List.findIdx_getElem (p:=λe=>aB e d) (w:=hj)
 ·intro m xu bx;have Ey:m < ae.length:=by simpa using xu
  simp only[List.getElem_toArray];rw[xO _ _ _ (Wc Ey) (Wc (show m < ds.length by omega))];have:=List.not_of_lt_findIdx (p:=λe=>aB e d) bx;simpa using this
 ·have xM:y ∈ ae:=by simpa using hy
  obtain⟨j,hjj,rfl⟩:=List.getElem_of_mem xM;rw[xO _ _ _ (Wc hjj) (Wc (show j < ds.length by omega))];exact at_ j _ _ (Wc hjj) (Wc (show j < ds.length by omega))
end
end L2
namespace DV
open PySem PySem.Spec PyProof.Rows L2
def qM:D->Option S
 | .int i=>some (.pure (.int (if i < 0 then -i else i)))
 | _=>none
def oC(x y:D):Option S:=match x with
 | .lst ds=>if flat 49 y && ds.all (flat 49) && decide (ds.findIdx (λe=>aB e y) < ds.length/\ds.length<=1000) then some (.pure (.int (ds.findIdx (λe=>aB e y):Nat))) else none
 | _=>none
def qN(i:Nat)(fb:DE):DE:=λδ=>match δ[i]? with
 | some (some s)=>if DH s.d then(fb δ).bind λy δ1=>match δ1[i]? with
  | some (some s)=>p2 oC s.d y.d δ1
  | _=>.stuck else .stuck
 | _=>.stuck
section
variable {X:Cx} {c:Fc} {o e:Expr} {fa fb:DE}
theorem OP {fb:BE} {pp pos:Pos} (hg:Gl X "abs") (hm:X.mg "abs" = none) (he:SB X c e fb) (hs:Wb [e] X.env=(false,eval e X.env) :: Wb [] X.env:=by rfl):SE X c (.Call (.Name "abs" pp) [e] [] pos) (aY qM fb) :=
 vS (r:=λv H Q=>∃ i,v = .int i/\Q (.int (if i < 0 then -i else i)) H) HA (λv H Q ⟨i,e,h⟩=>⟨i,by rw[e],h⟩) (λc σ δ H x d s Q k rx hp q=>by
  cases d with
  | int i =>
   simp only[qM,W7] at hp;subst hp;exact⟨i,rx.int,q _ H (.refl k) (.int _)⟩
  | _=>simp[qM] at hp) hg hm PyProof.Rows.boot_abs he (by decide) (by decide) hs
theorem OQ{K:W1}:cu (λx y H Q=>Ew K x [y] H Q) oC:=by
 intro c σ δ H x y d e s Q k rx ry hp q
 cases d with
 | lst ds =>
  simp only[oC] at hp;split at hp
  ·rename_i hf
   cases hp;simp only[Wk,List.all_eq_true,decide_eq_true_eq] at hf;obtain⟨a,vs,ea,ha,r⟩:=rx.lst;exact⟨a,vs,ds,y,e,ea,rfl,.inl ha,aI.bf r (λ_ z=>z.elim),ry.un,hf.1.1,hf.1.2,hf.2.1,hf.2.2,q _ H (.refl k) (.int _)⟩
  ·cases hp
 | _=>simp[oC] at hp
theorem OR(hu:X.A.units + 64 < WO)(he:PE X o (dW i))(hx:SE X c e fb)
  (l8:Jg o "index" X.env (eval o X.env)=eval o X.env:=by rfl)
  (l9:((Q9 bE (Wb [e] X.env)).all (λx=>!x.1) && (backToKw bE (Jm [] X.env)).all (λx=>x.1.isSome)
   && decide ([e].length + ([]:List Keyword).length + (if ([]:List Keyword).isEmpty then 0 else 1) < 30))=true:=by rfl)
  (gK:(apos.endLine == bE.line)=true:=by rfl) (hs:Wb [e] X.env=(false,eval e X.env) :: Wb [] X.env:=by rfl) :
  SE X c (.Call (.Attribute o "index" apos) [e] [] bE) (qN i fb):=by
 refine PE.weak (uV PySem.F.plainAttrs_list PySem.F.slot_list_index PySem.F.type_list_index (OO hu) he (fJ hx gI hs) l8 l9 gK hs rfl) λσ H Q h=>?_
 obtain⟨δ,k,q⟩:=h;unfold qN at q
 cases e0:δ[i]? with
 | none=>rw[e0] at q; exact q.elim
 | some o =>
  cases o with
  | none=>rw[e0] at q; exact q.elim
  | some w =>
   rw[e0] at q;simp only at q;split at q
   case isFalse=>exact q.elim
   rename_i hL;obtain⟨v,ev⟩:=pZ k e0;have rb:=qh k e0 ev;have ty:uU X.K "list" v H:=by
    cases hd:w.d <;> rw[hd] at hL <;> try cases hL
    rw[hd] at rb;obtain⟨a,vs,ea,ha,_⟩:=rb.lst;subst ea;exact .inl ⟨rfl,_,.inl ha⟩
   rw[bw] at q;refine⟨v,ev,ty,δ,k,aW q λy δ1 q1 u H1 a1 r1=>?_⟩
   cases e:δ1[i]? with
   | none=>rw[e] at q1; exact q1.elim
   | some o =>
    cases o with
    | none=>rw[e] at q1; exact q1.elim
    | some w1 =>
     rw[e] at q1;have OS:=qh a1.ok e ev;exact vI OQ a1.ok OS (.inl r1.rep) (aW q1 λs δ3 q3 v' H3 a3 r3=>q3 v' H3 (a1.trans a3) (bp.back r3 a1))
end
end DV
namespace K52
open PySem.W (nsIn keepIn codeIn findIn mroIn kitOne mg_of)
open PySem PySem.Spec PyProof.Rows L2 DV
theorem aq{a b:Prop}(h:a\/b:=by first|exact Or.inl rfl|exact Or.inr rfl):a\/b:=h
def top(i:Nat):Stmt:=PySem.Challenge.pw_tilegrow_k52_why_a_rule_does_not_mix.main.body.getD i (.Pass ⟨0,0,0,0⟩)
abbrev xP:Stmt:=top 20
abbrev xQ:Stmt:=top 22
abbrev xR:Stmt:=top 21
abbrev xS:Stmt:=top 23
abbrev xT:Stmt:=top 26
abbrev xU:Stmt:=top 25
abbrev xV:Stmt:=top 27
abbrev xW:Stmt:=top 33
abbrev xX:Stmt:=top 9
abbrev xY:Stmt:=top 12
abbrev xZ:Stmt:=top 11
abbrev jV:Stmt:=top 13
abbrev x6:Stmt:=top 15
abbrev x8:Stmt:=top 8
abbrev x9:Stmt:=top 14
abbrev x_:Stmt:=top 16
abbrev ya:Stmt:=top 1
abbrev yb:Stmt:=top 2
abbrev yc:Stmt:=top 17
abbrev yd:Stmt:=top 3
abbrev ye:Stmt:=top 18
abbrev yf:Stmt:=top 24
abbrev yg:Stmt:=top 28
abbrev yh:Stmt:=top 30
abbrev yi:Stmt:=top 31
abbrev yj:Stmt:=top 32
abbrev yk:Stmt:=top 34
abbrev kI:Stmt:=top 35
def fR:Pos:=match (dY jV).getLast? with | some (.Return (some (.Call _ [_,.Lambda _ _ _ p] _ _)) _)=>p | _=>⟨0,0,0,0⟩
def fS:Str:=("tile_sets" : Str) ++ ".<locals>." ++ "<lambda>"
structure Txt(K:W1)(mg:Str->Option Value):Prop where
 qO:mg "abs" = none
 nh:mg "bool" = none
 ni:mg "dict" = none
 oE:mg "enumerate" = none
 nj:mg "int" = none
 g8:mg "isinstance" = none
 fI:mg "len" = none
 nk:mg "list" = none
 oF:mg "max" = none
 i6:mg "range" = none
 qP:mg "set" = none
 nq:mg "sorted" = none
 nr:mg "str" = none
 kJ:mg "tuple" = none
 ty_bool:jj K "bool"
 ty_int:jj K "int"
 ty_str:jj K "str"
 ty_tuple:jj K "tuple"
def yl:DS:=(au (bN (ay (ag iz 1 (aj (aY bI (ah 0))))) (a_ (ag az 0 (ah 1))) bO) (a_ (eD (.int 0))))
def nt:DF:=bX [] 2 yl
theorem OT:cK nt:=dq
theorem OU:ck ["script","k"] ["script","k"] (bc xP):=scc
theorem OV {K:W1} (F:bS K "_law_cell_at" "_law_cell_at" xP f fd) (hm:mg "_law_cell_at" = some (.ref f)) (hb:Binds K fd ["script","k"] []) (T:Txt K mg):bH P w K mg base 1 "_law_cell_at" 2 nt :=
 eJ (np:=[]) (fb:=yl) F hm hb OU (λc aJ A outer s H E hr aA=>by
  have hq:=cZ hr;refine(aN ?_ ?_)
  ·refine(cY ?_ ?_ ?_)
   ·exact(km qc qd (pv 1) (aC (gU rfl T.fI (aX (pv 0)) (by rfl))) (cQ _))
   ·refine(a0 ?_);refine(bQ ?_);exact(bF bC bD (pv 0) (aX (pv 1)) (λ_ _=>rfl))
   ·exact cX
  refine(a0 ?_);refine(bQ ?_);exact aG) λss y h=>di h
def ym:DS:=(au (aw (mF (aa 0) (aE fz (eD (.int 0)) (ah 0))) (ao [] 1)) (a_ (dO (aF (aa 1) (aF (aY n5 (aj (ag mD 1 (aj (aE nZ (eD (.int 10)) (aj (eD (.int 18)))))))) (aF (ag cO 1 (aj (eD (.int 1000003)))) bL))))))
def nu:DF:=bX [] 2 ym
theorem OW:cK nu:=dq
theorem Ez:ck ["cell","left"] ["cell"] (bc xQ):=scc
theorem OX {K:W1} (F:bS K "_law_pen_of" "_law_pen_of" xQ f fd) (hm:mg "_law_pen_of" = some (.ref f)) (hb:Binds K fd ["cell"] []) (T:Txt K mg):bH P w K mg base 1 "_law_pen_of" 1 nu :=
 eJ (np:=[]) (fb:=ym) F hm hb Ez (λc aJ A outer s H E hr aA=>by
  have hq:=cZ hr;refine(aN ?_ ?_)
  ·exact(@bP _ _ _ _ _ _ ([]) (1) _ aA Ez.nd rfl aq (Cd rfl rfl T.oF (aH (pv 0)) (cn j8 ko aG (aX (pv 0))) (by rfl) (by rfl) (by rfl)) rfl aq)
  refine(a0 ?_);refine(bQ ?_);exact(iA (br (aH (pv 1)) (br (Lb rfl T.nj (aC (vJ vQ mC (pv 1) (aC (cn Az B6 aG (aC aG))) (cQ _))) (by rfl)) (br (dA ib ir (pv 1) (aC aG)) cW (by rfl)) (by rfl)) (by rfl)) (by decide))) λss y h=>di h
def yn:DS:=(au (aw (aE cO (ag aT 0 (aj (eD (.int 7919)))) (aj (eD (.int 2147483647)))) (ao [] 0)) (a_ (aE cO (aE aT (aE aT (ag f_ 0 (ah 0)) (aj (aE f_ (eD (.int 48271)) (ah 0)))) (aj (eD (.int 12345)))) (aj (eD (.int 2147483629))))))
def nv:DF:=bX [] 1 yn
theorem EA:cK nv:=dq
theorem EB:ck ["seed"] ["seed"] (bc xR):=scc
theorem OY {K:W1} (F:bS K "_law_next" "_law_next" xR f fd) (hm:mg "_law_next" = some (.ref f)) (hb:Binds K fd ["seed"] []) (T:Txt K mg):bH P w K mg base 1 "_law_next" 1 nv :=
 eJ (np:=[]) (fb:=yn) F hm hb EB (λc aJ A outer s H E hr aA=>by
  have hq:=cZ hr;refine(aN ?_ ?_)
  ·exact(@bP _ _ _ _ _ _ ([]) (0) _ aA EB.nd rfl aq (cn ib ir (dA cU cV (pv 0) (aC aG)) (aC aG)) rfl aq)
  refine(a0 ?_);refine(bQ ?_);exact(cn ib ir (cn cU cV (cn cU cV (dA qu qv (pv 0) (aX (pv 0))) (aC (cn qu qv aG (aX (pv 0))))) (aC aG)) (aC aG))) λss y h=>di h
def yo:DS:=(au (bN (ay (aE bU (ag az 0 (aj (eD (.int 1)))) (aj (eD (.int 1))))) (au (aw (aE cO (ag az 0 (aj (eD (.int 0)))) (ah 1)) (ao [0] 2)) (au (oh 0 (eD (.int 0)) (aE qB (ag az 0 (aj (eD (.int 0)))) (ah 1))) (a_ (aa 2)))) bO) (au (oh 0 (eD (.int 2)) (ar nv [.val (aE aT (ar nv [.val (ag az 0 (aj (eD (.int 2))))]) (aj (eD (.int 7))))])) (a_ (aE cO (aE sI (ag az 0 (aj (eD (.int 2)))) (aj (eD (.int 64)))) (ah 1)))))
def bV:DF:=bX [0] 3 yo
theorem dR:cK bV:=dq
theorem EC:ck ["pen","many","found"] ["pen","many"] (bc xS):=scc
theorem OZ {K:W1} (F:bS K "_law_draw" "_law_draw" xS f fd) (hm:mg "_law_draw" = some (.ref f)) (hb:Binds K fd ["pen","many"] []) (T:Txt K mg) (t4:bH P w K mg base 1 "_law_next" 1 nv):bH P w K mg base 2 "_law_draw" 2 bV :=
 eJ (np:=[0]) (fb:=yo) F hm hb EC (λc aJ A outer s H E hr aA=>by
  have hq:=cZ hr;refine(aN ?_ ?_)
  ·refine(cY ?_ ?_ ?_)
   ·exact(cT (ik hq) iu (bF bC bD (pv 0) (aC aG) (λ_ _=>rfl)) (aC aG) (cQ _))
   ·refine(aN ?_ ?_)
    ·exact(@bP _ _ _ _ _ _ ([0]) (2) _ aA EC.nd rfl aq (cn ib ir (bF bC bD (pv 0) (aC aG) (λ_ _=>rfl)) (aX (pv 1))) rfl aq)
    refine(aN ?_ ?_)
    ·exact(Cq (pv 0) aG (cn Ds Dt (bF bC bD (pv 0) (aC aG) (λ_ _=>rfl)) (aX (pv 1))) (by intro _; rfl) (by rfl) (by rfl) (by rfl))
    refine(a0 ?_);refine(bQ ?_);exact(aH (pv 2))
   ·exact cX
  refine(aN ?_ ?_)
  ·exact(Cq (pv 0) aG (@bM _ _ _ _ _ (1) _ _ _ _ _ t4 EA (hr.mono (by decide)) rfl (aP (cn cU cV (@bM _ _ _ _ _ (1) _ _ _ _ _ t4 EA (hr.mono (by decide)) rfl (aP (bF bC bD (pv 0) (aC aG) (λ_ _=>rfl)) bu (by rfl)) rfl (by decide) (by rfl) (by rfl)) (aC aG)) bu (by rfl)) rfl (by decide) (by rfl) (by rfl)) (by intro _; rfl) (by rfl) (by rfl) (by rfl))
  refine(a0 ?_);refine(bQ ?_);exact(cn ib ir (cn Hm K5 (bF bC bD (pv 0) (aC aG) (λ_ _=>rfl)) (aC aG)) (aX (pv 1)))) λss y h=>di h
def yp:DS:=(au (aw (aE aT (eD (.int 1)) (aj (ar bV [.io 0,.val (eD (.int 3))]))) (ao [0] 1)) (au (aw (aE aT (eD (.int 1)) (aj (ar bV [.io 0,.val (eD (.int 3))]))) (ao [0] 2)) (au (bN (ay (aE bU (ar bV [.io 0,.val (eD (.int 8))]) (aj (eD (.int 0))))) (aw (aE az (wu [.tup [.int 4,.int 1],.tup [.int 1,.int 4],.tup [.int 4,.int 4],.tup [.int 4,.int 3],.tup [.int 1,.int 2],.tup [.int 2,.int 1]]) (aj (ar bV [.io 0,.val (eD (.int 6))]))) (bT 2 (aU (ao [0] 1) (aU (ao [0] 2) bW)))) bO) (au (bN (ay (aE bU (ag aT 1 (ah 2)) (aj (eD (.int 2))))) (aw (eD (.int 2)) (ao [0] 2)) bO) (a_ (cP (aF (aa 1) (aF (aa 2) bL))))))))
def oG:DF:=bX [0] 3 yp
theorem O0:cK oG:=dq
theorem oH:ck ["pen","high","wide"] ["pen"] (bc xT):=scc
theorem O1 {K:W1} (F:bS K "_law_sizes_by" "_law_sizes_by" xT f fd) (hm:mg "_law_sizes_by" = some (.ref f)) (hb:Binds K fd ["pen"] []) (T:Txt K mg) (cz:bH P w K mg base 2 "_law_draw" 2 bV):bH P w K mg base 3 "_law_sizes_by" 1 oG :=
 eJ (np:=[0]) (fb:=yp) F hm hb oH (λc aJ A outer s H E hr aA=>by
  have hq:=cZ hr;refine(@aN _ _ _ _ _ _ ?_ ?_)
  ·exact(@bP _ _ _ _ _ _ ([0]) (1) _ aA oH.nd rfl aq (@cn _ _ _ _ _ _ _ _ _ _ cU cV (@aG _ _ _ _ _) (@aC _ _ _ _ (@bM _ _ _ _ _ (2) _ _ _ _ _ cz dR (hr.mono (by decide)) rfl (@dj _ _ _ _ _ _ (pv 0) (@aP _ _ _ _ _ _ (@aG _ _ _ _ _) (@bu _ _) (by rfl)) (by rfl)) rfl (by decide) (by rfl) (by rfl)))) rfl aq)
  refine(@aN _ _ _ _ _ _ ?_ ?_)
  ·exact(@bP _ _ _ _ _ _ ([0]) (2) _ aA oH.nd rfl aq (@cn _ _ _ _ _ _ _ _ _ _ cU cV (@aG _ _ _ _ _) (@aC _ _ _ _ (@bM _ _ _ _ _ (2) _ _ _ _ _ cz dR (hr.mono (by decide)) rfl (@dj _ _ _ _ _ _ (pv 0) (@aP _ _ _ _ _ _ (@aG _ _ _ _ _) (@bu _ _) (by rfl)) (by rfl)) rfl (by decide) (by rfl) (by rfl)))) rfl aq)
  refine(@aN _ _ _ _ _ _ ?_ ?_)
  ·refine(@cY _ _ _ _ _ _ _ _ _ ?_ ?_ ?_)
   ·exact(@cT _ _ _ _ _ _ _ _ _ _ (ik hq) iu (@bM _ _ _ _ _ (2) _ _ _ _ _ cz dR (hr.mono (by decide)) rfl (@dj _ _ _ _ _ _ (pv 0) (@aP _ _ _ _ _ _ (@aG _ _ _ _ _) (@bu _ _) (by rfl)) (by rfl)) rfl (by decide) (by rfl) (by rfl)) (@aC _ _ _ _ (@aG _ _ _ _ _)) (cQ _))
   ·refine(@a0 _ _ _ _ ?_);refine(@ku _ _ _ _ _ _ _ ?_ ?_ (by rfl) (by rfl) (by rfl))
    ·exact(@vK _ _ _ _ _ _ _ _ _ bC bD (@L9 _ _ _ _ _ (by rfl) (by decide)) (@aC _ _ _ _ (@bM _ _ _ _ _ (2) _ _ _ _ _ cz dR (hr.mono (by decide)) rfl (@dj _ _ _ _ _ _ (pv 0) (@aP _ _ _ _ _ _ (@aG _ _ _ _ _) (@bu _ _) (by rfl)) (by rfl)) rfl (by decide) (by rfl) (by rfl))) (λ_ _=>rfl))
    ·exact(@iU _ _ _ _ _ _ _ rfl (@dh _ _ _ _ _ _ (@cf _ _ _ ([0]) (1) _ aA oH.nd rfl aq aq) (@dh _ _ _ _ _ _ (@cf _ _ _ ([0]) (2) _ aA oH.nd rfl aq aq) (@iT _ _) (by rfl)) (by rfl)) (by rfl) (by rfl))
   ·exact cX
  refine(@aN _ _ _ _ _ _ ?_ ?_)
  ·refine(@cY _ _ _ _ _ _ _ _ _ ?_ ?_ ?_)
   ·exact(@cT _ _ _ _ _ _ _ _ _ _ (ik hq) iu (@dA _ _ _ _ _ _ _ _ _ _ cU cV (pv 1) (@aX _ _ _ _ (pv 2))) (@aC _ _ _ _ (@aG _ _ _ _ _)) (cQ _))
   ·refine(@a0 _ _ _ _ ?_);exact(@bP _ _ _ _ _ _ ([0]) (2) _ aA oH.nd rfl aq (@aG _ _ _ _ _) rfl aq)
   ·exact cX
  refine(@a0 _ _ _ _ ?_);refine(@bQ _ _ _ _ _ ?_);exact(@fY _ _ _ _ _ _ (@br _ _ _ _ _ _ (@aH _ _ _ _ (pv 1)) (@br _ _ _ _ _ _ (@aH _ _ _ _ (pv 2)) (@cW _ _) (by rfl)) (by rfl)) (by decide))) λss y h=>di h
def yq:DS:=(au (bN (ay (ag bU 3 (aj (eD (.int 1))))) (a_ (ag az 1 (aj (ar bV [.io 0,.val (ag aT 2 (aj (eD (.int 1))))])))) bO) (au (bN (ay (ag bU 3 (aj (eD (.int 2))))) (a_ (ag az 1 (aj (aE cO (ag aT 2 (aj (eD (.int 1)))) (aj (aY bI (ah 1))))))) bO) (au (bN (iP (ay (ag bU 3 (aj (eD (.int 3))))) (ay (aE vP (ar bV [.io 0,.val (eD (.int 4))]) (aj (eD (.int 0)))))) (a_ (ag az 1 (ah 2))) bO) (a_ (ag az 1 (aj (ar bV [.io 0,.val (aY bI (ah 1))])))))))
def i7:DF:=bX [0] 4 yq
theorem O2:cK i7:=dq
theorem O3:ck ["pen","tiles","place","way"] ["pen","tiles","place","way"] (bc xU):=scc
theorem O4 {K:W1} (F:bS K "_law_pick" "_law_pick" xU f fd) (hm:mg "_law_pick" = some (.ref f)) (hb:Binds K fd ["pen","tiles","place","way"] []) (T:Txt K mg) (cz:bH P w K mg base 2 "_law_draw" 2 bV):bH P w K mg base 3 "_law_pick" 4 i7 :=
 eJ (np:=[0]) (fb:=yq) F hm hb O3 (λc aJ A outer s H E hr aA=>by
  have hq:=cZ hr;refine(aN ?_ ?_)
  ·refine(cY ?_ ?_ ?_)
   ·exact(km (ik hq) iu (pv 3) (aC aG) (cQ _))
   ·refine(a0 ?_);refine(bQ ?_);exact(bF bC bD (pv 1) (aC (@bM _ _ _ _ _ (2) _ _ _ _ _ cz dR (hr.mono (by decide)) rfl (dj (pv 0) (aP (dA cU cV (pv 2) (aC aG)) bu (by rfl)) (by rfl)) rfl (by decide) (by rfl) (by rfl))) (λ_ _=>rfl))
   ·exact cX
  refine(aN ?_ ?_)
  ·refine(cY ?_ ?_ ?_)
   ·exact(km (ik hq) iu (pv 3) (aC aG) (cQ _))
   ·refine(a0 ?_);refine(bQ ?_);exact(bF bC bD (pv 1) (aC (cn ib ir (dA cU cV (pv 2) (aC aG)) (aC (gU rfl T.fI (aX (pv 1)) (by rfl))))) (λ_ _=>rfl))
   ·exact cX
  refine(aN ?_ ?_)
  ·refine(cY ?_ ?_ ?_)
   ·exact(gR (p9 (km (ik hq) iu (pv 3) (aC aG) (cQ _)) (p8 (cT K6 mC (@bM _ _ _ _ _ (2) _ _ _ _ _ cz dR (hr.mono (by decide)) rfl (dj (pv 0) (aP aG bu (by rfl)) (by rfl)) rfl (by decide) (by rfl) (by rfl)) (aC aG) (cQ _)))))
   ·refine(a0 ?_);refine(bQ ?_);exact(bF bC bD (pv 1) (aX (pv 2)) (λ_ _=>rfl))
   ·exact cX
  refine(a0 ?_);refine(bQ ?_);exact(bF bC bD (pv 1) (aC (@bM _ _ _ _ _ (2) _ _ _ _ _ cz dR (hr.mono (by decide)) rfl (dj (pv 0) (aP (gU rfl T.fI (aX (pv 1)) (by rfl)) bu (by rfl)) (by rfl)) rfl (by decide) (by rfl) (by rfl))) (λ_ _=>rfl))) λss y h=>di h
def yr:DS:=(au (aw (ar oG [.io 0]) (bT 2 (aU (ao [0] 2) (aU (ao [0] 3) bW)))) (au (aw (aE aT (eD (.int 1)) (aj (ar bV [.io 0,.val (aa 1)]))) (ao [0] 4)) (au (aw (ar bV [.io 0,.val (eD (.int 26))]) (ao [0] 5)) (au (aw (eD (.str [97,98,99,100,101,102,103,104,105,106,107,108,109,110,111,112,113,114,115,116,117,118,119,120,121,122])) (ao [0] 6)) (au (aw (aY mE (aj (fc [13] (dQ (aa 4)) (ao [0] 13) dI (ag az 6 (aj (aE cO (ag aT 5 (aj (aE f_ (eD (.int 5)) (ah 13)))) (aj (eD (.int 26))))))))) (ao [0] 7)) (au (aw (ar bV [.io 0,.val (eD (.int 5))]) (ao [0] 8)) (au (aw (dO bL) (ao [0] 9)) (au (cG (dQ (aa 4)) (ao [0] 10) (au (aw (dO bL) (ao [0] 11)) (au (cG (dQ (aa 2)) (ao [0] 12) (fB 11 (aY (dP []) (aj (fc [14] (dQ (aa 3)) (ao [0] 14) dI (ar i7 [.io 0,.val (aa 7),.val (aa 10),.val (aa 8)])))))) (fB 9 (cP (aF (ag az 7 (ah 10)) (aF (aY gW (ah 11)) bL))))))) (a_ (cP (aF (aa 2) (aF (aa 3) (aF (aY gW (ah 9)) bL)))))))))))))
def lJ:DF:=bX [0] 15 yr
theorem O5:cK lJ:=dq
theorem g9:ck ["pen","most","high","wide","size","first","letters","tiles","way","blocks","place","block","row","k","column"] ["pen","most"] (bc xV):=scc
theorem O6 {K:W1} (F:bS K "_law_rule_by" "_law_rule_by" xV f fd) (hm:mg "_law_rule_by" = some (.ref f)) (hb:Binds K fd ["pen","most"] []) (T:Txt K mg) (cz:bH P w K mg base 2 "_law_draw" 2 bV) (yt:bH P w K mg base 3 "_law_sizes_by" 1 oG) (yu:bH P w K mg base 3 "_law_pick" 4 i7):bH P w K mg base 4 "_law_rule_by" 2 lJ :=
 eJ (np:=[0]) (fb:=yr) F hm hb g9 (λc aJ A outer s H E hr aA=>by
  have hq:=cZ hr;refine(@aN _ _ _ _ _ _ ?_ ?_)
  ·refine(@ku _ _ _ _ _ _ _ ?_ ?_ (by rfl) (by rfl) (by rfl))
   ·exact(@bM _ _ _ _ _ (3) _ _ _ _ _ yt O0 (hr.mono (by decide)) rfl (@dj _ _ _ _ _ _ (pv 0) (@bu _ _) (by rfl)) rfl (by decide) (by rfl) (by rfl))
   ·exact(@iU _ _ _ _ _ _ _ rfl (@dh _ _ _ _ _ _ (@cf _ _ _ ([0]) (2) _ aA g9.nd rfl aq aq) (@dh _ _ _ _ _ _ (@cf _ _ _ ([0]) (3) _ aA g9.nd rfl aq aq) (@iT _ _) (by rfl)) (by rfl)) (by rfl) (by rfl))
  refine(@aN _ _ _ _ _ _ ?_ ?_)
  ·exact(@bP _ _ _ _ _ _ ([0]) (4) _ aA g9.nd rfl aq (@cn _ _ _ _ _ _ _ _ _ _ cU cV (@aG _ _ _ _ _) (@aC _ _ _ _ (@bM _ _ _ _ _ (2) _ _ _ _ _ cz dR (hr.mono (by decide)) rfl (@dj _ _ _ _ _ _ (pv 0) (@aP _ _ _ _ _ _ (@aH _ _ _ _ (pv 1)) (@bu _ _) (by rfl)) (by rfl)) rfl (by decide) (by rfl) (by rfl)))) rfl aq)
  refine(@aN _ _ _ _ _ _ ?_ ?_)
  ·exact(@bP _ _ _ _ _ _ ([0]) (5) _ aA g9.nd rfl aq (@bM _ _ _ _ _ (2) _ _ _ _ _ cz dR (hr.mono (by decide)) rfl (@dj _ _ _ _ _ _ (pv 0) (@aP _ _ _ _ _ _ (@aG _ _ _ _ _) (@bu _ _) (by rfl)) (by rfl)) rfl (by decide) (by rfl) (by rfl)) rfl aq)
  refine(@aN _ _ _ _ _ _ ?_ ?_)
  ·exact(@bP _ _ _ _ _ _ ([0]) (6) _ aA g9.nd rfl aq (@nX _ _ _ _ _ [97,98,99,100,101,102,103,104,105,106,107,108,109,110,111,112,113,114,115,116,117,118,119,120,121,122] (by decide +kernel)) rfl aq)
  refine(@aN _ _ _ _ _ _ ?_ ?_)
  ·exact(@bP _ _ _ _ _ _ ([0]) (7) _ aA g9.nd rfl aq (@Cc _ _ _ _ _ _ rfl T.nq (@aC _ _ _ _ (@om _ _ ([13]) _ _ _ _ _ _ _ _ _ _ rfl (@lA _ _ _ rfl rfl) (@lq _ _ _ _ _ _ _ rfl T.i6 (@aH _ _ _ _ (pv 4)) (by rfl)) (λl s0 H0 ex=>(@jR _ _ _ _ ([0]) (13) _ aA g9.nd rfl aq aq (by decide))) (λl s0 H0 ex=>(@lr _ _)) (λl s0 H0 ex=>(@bF _ _ _ _ _ _ _ _ _ bC bD (pv 6) (@aC _ _ _ _ (@cn _ _ _ _ _ _ _ _ _ _ ib ir (@dA _ _ _ _ _ _ _ _ _ _ cU cV (pv 5) (@aC _ _ _ _ (@cn _ _ _ _ _ _ _ _ _ _ qu qv (@aG _ _ _ _ _) (@aX _ _ _ _ (pv 13))))) (@aC _ _ _ _ (@aG _ _ _ _ _)))) (λ_ _=>rfl))) (ly aA rfl) (by intro _; rfl))) (by rfl)) rfl aq)
  refine(@aN _ _ _ _ _ _ ?_ ?_)
  ·exact(@bP _ _ _ _ _ _ ([0]) (8) _ aA g9.nd rfl aq (@bM _ _ _ _ _ (2) _ _ _ _ _ cz dR (hr.mono (by decide)) rfl (@dj _ _ _ _ _ _ (pv 0) (@aP _ _ _ _ _ _ (@aG _ _ _ _ _) (@bu _ _) (by rfl)) (by rfl)) rfl (by decide) (by rfl) (by rfl)) rfl aq)
  refine(@aN _ _ _ _ _ _ ?_ ?_)
  ·exact(@bP _ _ _ _ _ _ ([0]) (9) _ aA g9.nd rfl aq (@iA _ _ _ _ _ (@cW _ _) (by decide)) rfl aq)
  refine(@aN _ _ _ _ _ _ ?_ ?_)
  ·refine(@gA _ _ _ _ _ _ _ _ _ PassesOwn.never rfl ?_ ?_ ?_ (by intro _; rfl))
   ·exact(@lq _ _ _ _ _ _ _ rfl T.i6 (@aH _ _ _ _ (pv 4)) (by rfl))
   ·exact(@cf _ _ _ ([0]) (10) _ aA g9.nd rfl aq aq)
   ·refine(@aN _ _ _ _ _ _ ?_ ?_)
    ·exact(@bP _ _ _ _ _ _ ([0]) (11) _ aA g9.nd rfl aq (@iA _ _ _ _ _ (@cW _ _) (by decide)) rfl aq)
    refine(@aN _ _ _ _ _ _ ?_ ?_)
    ·refine(@gA _ _ _ _ _ _ _ _ _ PassesOwn.never rfl ?_ ?_ ?_ (by intro _; rfl))
     ·exact(@lq _ _ _ _ _ _ _ rfl T.i6 (@aH _ _ _ _ (pv 2)) (by rfl))
     ·exact(@cf _ _ _ ([0]) (12) _ aA g9.nd rfl aq aq)
     ·refine(@a0 _ _ _ _ ?_);exact(@tu _ _ _ _ _ _ _ _ _ (pv 11) (@qj _ _ _ _ _ _ _ _ _ [] (@aC _ _ _ _ (@om _ _ ([14]) _ _ _ _ _ _ _ _ _ _ rfl (@lA _ _ _ rfl rfl) (@lq _ _ _ _ _ _ _ rfl T.i6 (@aH _ _ _ _ (pv 3)) (by rfl)) (λl s0 H0 ex=>(@jR _ _ _ _ ([0]) (14) _ aA g9.nd rfl aq aq (by decide))) (λl s0 H0 ex=>(@lr _ _)) (λl s0 H0 ex=>(@bM _ _ _ _ _ (3) _ _ _ _ _ yu O2 (hr.mono (by decide)) rfl (@dj _ _ _ _ _ _ (pv 0) (@aP _ _ _ _ _ _ (@aH _ _ _ _ (pv 7)) (@aP _ _ _ _ _ _ (@aH _ _ _ _ (pv 10)) (@aP _ _ _ _ _ _ (@aH _ _ _ _ (pv 8)) (@bu _ _) (by rfl)) (by rfl)) (by rfl)) (by rfl)) rfl (by decide) (by rfl) (by rfl))) (ly aA rfl) (by intro _; rfl))) (by decide +kernel) (by rfl) (by rfl) (by rfl) (by rfl)) (by rfl) (by rfl) (by rfl) (by rfl) (by rfl))
    refine(@a0 _ _ _ _ ?_);exact(@tu _ _ _ _ _ _ _ _ _ (pv 9) (@fY _ _ _ _ _ _ (@br _ _ _ _ _ _ (@bF _ _ _ _ _ _ _ _ _ bC bD (pv 7) (@aX _ _ _ _ (pv 10)) (λ_ _=>rfl)) (@br _ _ _ _ _ _ (@vT _ _ _ _ _ _ rfl T.kJ (@aX _ _ _ _ (pv 11)) (by rfl)) (@cW _ _) (by rfl)) (by rfl)) (by decide)) (by rfl) (by rfl) (by rfl) (by rfl) (by rfl))
  refine(@a0 _ _ _ _ ?_);refine(@bQ _ _ _ _ _ ?_);exact(@fY _ _ _ _ _ _ (@br _ _ _ _ _ _ (@aH _ _ _ _ (pv 2)) (@br _ _ _ _ _ _ (@aH _ _ _ _ (pv 3)) (@br _ _ _ _ _ _ (@vT _ _ _ _ _ _ rfl T.kJ (@aX _ _ _ _ (pv 9)) (by rfl)) (@cW _ _) (by rfl)) (by rfl)) (by rfl)) (by decide))) λss y h=>di h
def yv:DS:=(au (aw (aE aT (eD (.int 2)) (aj (ar bV [.io 0,.val (eD (.int 5))]))) (ao [0] 1)) (au (aw (kr (eD (.str [97,98,99,100,101,102])) gz (eU (aa 1))) (ao [0] 2)) (au (aw (dO bL) (ao [0] 3)) (au (cG (dQ (aa 1)) (ao [0] 4) (au (aw (ag az 2 (aj (aE cO (ag aT 4 (aj (eD (.int 1)))) (ah 1)))) (ao [0] 5)) (au (bN (iP (ay (ag bU 4 (aj (eD (.int 0))))) (ay (aE bU (ar bV [.io 0,.val (eD (.int 4))]) (aj (eD (.int 0)))))) (aw (ag aT 5 (aj (ag az 2 (aj (ar bV [.io 0,.val (aa 1)]))))) (ao [0] 5)) bO) (fB 3 (cP (aF (ag az 2 (ah 4)) (aF (cP (aF (kr (ag aT 5 (ah 5)) gz (eU (eD (.int 2)))) bL)) bL))))))) (a_ (cP (aF (eD (.int 1)) (aF (eD (.int 2)) (aF (aY gW (ah 3)) bL)))))))))
def ny:DF:=bX [0] 6 yv
theorem O7:cK ny:=dq
theorem nz:ck ["pen","size","tiles","blocks","place","other"] ["pen"] (bc xW):=scc
theorem O8 {K:W1} (F:bS K "_law_ring" "_law_ring" xW f fd) (hm:mg "_law_ring" = some (.ref f)) (hb:Binds K fd ["pen"] []) (T:Txt K mg) (cz:bH P w K mg base 2 "_law_draw" 2 bV):bH P w K mg base 3 "_law_ring" 1 ny :=
 eJ (np:=[0]) (fb:=yv) F hm hb nz (λc aJ A outer s H E hr aA=>by
  have hq:=cZ hr;refine(aN ?_ ?_)
  ·exact(@bP _ _ _ _ _ _ ([0]) (1) _ aA nz.nd rfl aq (cn cU cV aG (aC (@bM _ _ _ _ _ (2) _ _ _ _ _ cz dR (hr.mono (by decide)) rfl (dj (pv 0) (aP aG bu (by rfl)) (by rfl)) rfl (by decide) (by rfl) (by rfl)))) rfl aq)
  refine(aN ?_ ?_)
  ·exact(@bP _ _ _ _ _ _ ([0]) (2) _ aA nz.nd rfl aq (Ci (nX [97,98,99,100,101,102] (by decide +kernel)) qg (mG (aH (pv 1)))) rfl aq)
  refine(aN ?_ ?_)
  ·exact(@bP _ _ _ _ _ _ ([0]) (3) _ aA nz.nd rfl aq (iA cW (by decide)) rfl aq)
  refine(aN ?_ ?_)
  ·refine(gA PassesOwn.never rfl ?_ ?_ ?_ (by intro _; rfl))
   ·exact(lq rfl T.i6 (aH (pv 1)) (by rfl))
   ·exact(@cf _ _ _ ([0]) (4) _ aA nz.nd rfl aq aq)
   ·refine(aN ?_ ?_)
    ·exact(@bP _ _ _ _ _ _ ([0]) (5) _ aA nz.nd rfl aq (bF bC bD (pv 2) (aC (cn ib ir (dA cU cV (pv 4) (aC aG)) (aX (pv 1)))) (λ_ _=>rfl)) rfl aq)
    refine(aN ?_ ?_)
    ·refine(cY ?_ ?_ ?_)
     ·exact(gR (p9 (km (ik hq) iu (pv 4) (aC aG) (cQ _)) (p8 (cT (ik hq) iu (@bM _ _ _ _ _ (2) _ _ _ _ _ cz dR (hr.mono (by decide)) rfl (dj (pv 0) (aP aG bu (by rfl)) (by rfl)) rfl (by decide) (by rfl) (by rfl)) (aC aG) (cQ _)))))
     ·refine(a0 ?_);exact(@bP _ _ _ _ _ _ ([0]) (5) _ aA nz.nd rfl aq (dA cU cV (pv 5) (aC (bF bC bD (pv 2) (aC (@bM _ _ _ _ _ (2) _ _ _ _ _ cz dR (hr.mono (by decide)) rfl (dj (pv 0) (aP (aH (pv 1)) bu (by rfl)) (by rfl)) rfl (by decide) (by rfl) (by rfl))) (λ_ _=>rfl)))) rfl aq)
     ·exact cX
    refine(a0 ?_);exact(tu (pv 3) (fY (br (bF bC bD (pv 2) (aX (pv 4)) (λ_ _=>rfl)) (br (fY (br (Ci (dA cU cV (pv 5) (aX (pv 5))) qg (mG aG)) cW (by rfl)) (by decide)) cW (by rfl)) (by rfl)) (by decide)) (by rfl) (by rfl) (by rfl) (by rfl) (by rfl))
  refine(a0 ?_);refine(bQ ?_);exact(fY (br aG (br aG (br (vT rfl T.kJ (aX (pv 3)) (by rfl)) cW (by rfl)) (by rfl)) (by rfl)) (by decide))) λss y h=>di h
def yw:DS:=(a_ (fc [1,2] (cp (ag az 0 (aj (eD (.int 2))))) (bT 2 (aU (ao [] 1) (aU (ao [] 2) bW))) dI (aa 1)))
def iI:DF:=bX [] 3 yw
theorem t5:cK iI:=dq
theorem yx:ck ["rule","tile","block"] ["rule"] (bc xX):=scc
theorem O9 {K:W1} (F:bS K "rule_tiles" "rule_tiles" xX f fd) (hm:mg "rule_tiles" = some (.ref f)) (hb:Binds K fd ["rule"] []) (T:Txt K mg):bH P w K mg base 1 "rule_tiles" 1 iI :=
 eJ (np:=[]) (fb:=yw) F hm hb yx (λc aJ A outer s H E hr aA=>by
  have hq:=cZ hr;refine(a0 ?_);refine(bQ ?_);exact(@om _ _ ([1,2]) _ _ _ _ _ _ _ _ _ _ rfl (lA rfl rfl) (iF (bF bC bD (pv 0) (aC aG) (λ_ _=>rfl))) (λl s0 H0 ex=>(Cv rfl (sS (@jR _ _ _ _ ([]) (1) _ aA yx.nd rfl aq aq (by decide)) (sS (@jR _ _ _ _ ([]) (2) _ aA yx.nd rfl aq aq (by decide)) Cu (by rfl)) (by rfl)) (by rfl) (by rfl))) (λl s0 H0 ex=>lr) (λl s0 H0 ex=>(aH (pv 1))) (ly aA rfl) (by intro _; rfl))) λss y h=>di h
def yy:DS:=(a_ (aY (dP []) (aj (aY oy (aj (aY (dP []) (aj (fc [2] (cp (aa 1)) (ao [] 2) dI (ag jr 0 (ah 2))))))))))
def jw:DF:=bX [] 3 yy
theorem ED:cK jw:=dq
theorem EE:ck ["text_of","tiles","tile"] ["text_of","tiles"] (bc xY):=scc
theorem O_ {K:W1} (F:bS K "tiles_grown" "tiles_grown" xY f fd) (hm:mg "tiles_grown" = some (.ref f)) (hb:Binds K fd ["text_of","tiles"] []) (T:Txt K mg):bH P w K mg base 1 "tiles_grown" 2 jw :=
 eJ (np:=[]) (fb:=yy) F hm hb EE (λc aJ A outer s H E hr aA=>by
  have hq:=cZ hr;refine(a0 ?_);refine(bQ ?_);exact(qj [] (aC (N6 rfl rfl T.nq rfl T.qP (aC (qj [] (aC (@om _ _ ([2]) _ _ _ _ _ _ _ _ _ _ rfl (lA rfl rfl) (iF (aH (pv 1))) (λl s0 H0 ex=>(@jR _ _ _ _ ([]) (2) _ aA EE.nd rfl aq aq (by decide))) (λl s0 H0 ex=>lr) (λl s0 H0 ex=>(bF (wY hq) wO (pv 0) (aX (pv 2)) (λ_ _=>rfl))) (ly aA rfl) (by intro _; rfl))) (by decide +kernel) (by rfl) (by rfl) (by rfl) (by rfl))))) (by decide +kernel) (by rfl) (by rfl) (by rfl) (by rfl))) λss y h=>di h
theorem t6:ck ["first","step","number_of","here"] ["first","step"] (bc xZ):=scc
theorem Pa {K:W1} (F:bS K "walked" "walked" xZ f fd) (hm:mg "walked" = some (.ref f)) (hb:Binds K fd ["first","step"] []) (T:Txt K mg):xG P w K mg base 2 "walked" 4 tZ :=
 ⟨f,fd,_,_,_,["first","step","number_of","here"],rfl,hm,F.kp,hb,rfl,Oi F t6 rfl (λc aJ A outer s H E fa Fn hr aA xF=>by
  have hq:=cZ hr;refine(aN ?_ ?_)
  ·exact(@bP _ _ _ _ _ _ ([]) (2) _ aA t6.nd rfl aq wC rfl aq)
  refine(aN ?_ ?_)
  ·exact(@bP _ _ _ _ _ _ ([]) (3) _ aA t6.nd rfl aq (aH (pv 0)) rfl aq)
  refine(aN ?_ ?_)
  ·refine(v7 1000000 (λh1 h2=>uD PassesOwn.never h1 h2) ?_ ?_)
   ·exact(cT (De hq) (qy true) (aH (pv 3)) (aX (pv 2)) rfl)
   ·refine(aN ?_ ?_)
    ·exact(Dq hq (pv 2) (aH (pv 3)) (gU rfl T.fI (aX (pv 2)) (by rfl)) (by rfl))
    refine(a0 ?_);exact(@bP _ _ _ _ _ _ ([]) (3) _ aA t6.nd rfl aq (Od xF (pv 1) (aH (pv 3))) rfl aq)
  refine(a0 ?_);refine(bQ ?_);exact(fY (br (Ei rfl rfl T.nk (aX (pv 2))) (br (bF (wY hq) wO (pv 2) (aX (pv 3)) (λ_ _=>rfl)) cW (by rfl)) (by rfl)) (by decide)))⟩
def yz:DS:=(au (aw (aY jq (aj (fc [3,4] (cp (ag az 0 (aj (eD (.int 2))))) (bT 2 (aU (ao [] 3) (aU (ao [] 4) bW))) dI (cP (aF (aa 3) (aF (ar jw [.val (qC (aa 3) (aY (dP []) (ah 4))),.val (aa 3)]) bL)))))) (ao [] 2)) (a_ (tY (aa 1) [2] (ar jw [.val (aa 1),.val (aa 0)]) qJ)))
def gD:DF:=bX [] 5 yz
theorem t7:cK gD:=dq
theorem t8:ck ["rule","tile","text_of","own","block"] ["rule","tile"] (bc jV):=scc
theorem Pb {K:W1} {df qQ:Addr} (F:bS K "tile_sets" "tile_sets" jV f fd) (hm:mg "tile_sets" = some (.ref f)) (hb:Binds K fd ["rule","tile"] []) (T:Txt K mg) (Pc:∃ oc od kV doc pm an ct eC,K.lookup f=some ⟨oc,od,.func (WZ "tile_sets" "tile_sets" (gL jV) (dY jV) (bc jV) .none kV doc pm an (.ref qQ) ct),eC⟩) (dT:Jb K qQ df=true) (gT:Ws≠df) (tT:base.BuiltinsAt mg df) (t9:bH P w K mg base 1 "tiles_grown" 2 jw) (yA:xG P w K mg base 2 "walked" 4 tZ):gf P w K mg base [(df,fR,fS)] 4 "tile_sets" 2 gD :=
 qK (np:=[]) (fb:=yz) F hm hb t8 (λc aJ A outer s H E hr aA ft kB=>by
  have hq:=cZ hr;refine(aN ?_ ?_)
  ·exact(@bP _ _ _ _ _ _ ([]) (2) _ aA t8.nd rfl aq (wH rfl rfl T.ni (aC (@om _ _ ([3,4]) _ _ _ _ _ _ _ _ _ _ rfl (lA rfl rfl) (iF (bF bC bD (pv 0) (aC aG) (λ_ _=>rfl))) (λl s0 H0 ex=>(Cv rfl (sS (@jR _ _ _ _ ([]) (3) _ aA t8.nd rfl aq aq (by decide)) (sS (@jR _ _ _ _ ([]) (4) _ aA t8.nd rfl aq aq (by decide)) Cu (by rfl)) (by rfl)) (by rfl) (by rfl))) (λl s0 H0 ex=>lr) (λl s0 H0 ex=>(fY (br (aH (pv 3)) (br (@bM _ _ _ _ _ (1) _ _ _ _ _ t9 ED (hr.mono (by decide)) rfl (aP (M6 (λc=>(aH (pv 3))) (λc=>(qj [] (aX (pv 4)) (by decide +kernel) (by rfl) (by rfl) (by rfl) (by rfl)))) (aP (aH (pv 3)) bu (by rfl)) (by rfl)) rfl (by decide) (by rfl) (by rfl)) cW (by rfl)) (by rfl)) (by decide))) (ly aA rfl) (by intro _; rfl))) (by rfl)) rfl aq)
  refine(a0 ?_);refine(bQ ?_);exact(Om (P:=df) (kl:=1) (kw:=2) (fr:=["text_of"]) (js:=[2]) (p:="tiles") yA OC ft Wl (hr.mono (by decide)) (by decide) rfl (aH (pv 1)) (λ_=>rfl) rfl rfl (OD kB Pc) dT gT tT (Oj (Na rfl)) Ol rfl (λi x j e1 e2=>by rcases i with _ | i; (cases e1; cases e2; exact⟨rfl,rfl,_,rfl⟩); cases e1) (λ_ _ _ _=>rfl) (λc fa cd A outer s H hr hp=>by have hq:=cZ hr; exact(@bM _ _ _ _ _ (1) _ _ _ _ _ t9 ED (hr.mono (by decide)) rfl (aP (aH (pv 1)) (aP (aH (pv 0)) bu (by rfl)) (by rfl)) rfl (by decide) (by rfl) (by rfl))))) λss y h=>di h
def yB:DS:=(au (aw (ar iI [.val (aa 0)]) (ao [] 1)) (au (aw (eD (.int 1)) (ao [] 2)) (au (cG (cp (aa 1)) (ao [] 3) (au (aw (ar gD [.val (aa 0),.val (aa 3)]) (bT 2 (aU (ao [] 4) (aU (ao [] 5) bW)))) (au (bN (ay (aE iz (aY bI (aj (ag az 4 (ah 5)))) (aj (aY bI (ah 1))))) (a_ (eD .ax)) bO) (aw (mF (aa 2) (aa 5)) (ao [] 2))))) (a_ (aa 2)))))
def iJ:DF:=bX [] 6 yB
theorem EF:cK iJ:=dq
theorem nA:ck ["rule","tiles","longest","tile","sets","start"] ["rule"] (bc x6):=scc
theorem Pd {K:W1} {df:Addr} (F:bS K "mixing_time" "mixing_time" x6 f fd) (hm:mg "mixing_time" = some (.ref f)) (hb:Binds K fd ["rule"] []) (T:Txt K mg) (i8:bH P w K mg base 1 "rule_tiles" 1 iI) (i9:gf P w K mg base [(df,fR,fS)] 4 "tile_sets" 2 gD):gf P w K mg base [(df,fR,fS)] 5 "mixing_time" 1 iJ :=
 qK (np:=[]) (fb:=yB) F hm hb nA (λc aJ A outer s H E hr aA ft kB=>by
  have hq:=cZ hr;refine(aN ?_ ?_)
  ·exact(@bP _ _ _ _ _ _ ([]) (1) _ aA nA.nd rfl aq (@bM _ _ _ _ _ (1) _ _ _ _ _ i8 t5 (hr.mono (by decide)) rfl (aP (aH (pv 0)) bu (by rfl)) rfl (by decide) (by rfl) (by rfl)) rfl aq)
  refine(aN ?_ ?_)
  ·exact(@bP _ _ _ _ _ _ ([]) (2) _ aA nA.nd rfl aq aG rfl aq)
  refine(aN ?_ ?_)
  ·refine(gA PassesOwn.never rfl ?_ ?_ ?_ (by intro _; rfl))
   ·exact(iF (aH (pv 1)))
   ·exact(@cf _ _ _ ([]) (3) _ aA nA.nd rfl aq aq)
   ·refine(aN ?_ ?_)
    ·refine(ku ?_ ?_ (by rfl) (by rfl) (by rfl))
     ·exact(jU (k:=4) i9 ft t7 (hr.mono (by decide)) rfl (aP (aH (pv 0)) (aP (aH (pv 3)) bu (by rfl)) (by rfl)) rfl)
     ·exact(iU rfl (dh (@cf _ _ _ ([]) (4) _ aA nA.nd rfl aq aq) (dh (@cf _ _ _ ([]) (5) _ aA nA.nd rfl aq aq) iT (by rfl)) (by rfl)) (by rfl) (by rfl))
    refine(aN ?_ ?_)
    ·refine(cY ?_ ?_ ?_)
     ·exact(cT qc qd (gU rfl T.fI (aC (bF bC bD (pv 4) (aX (pv 5)) (λ_ _=>rfl))) (by rfl)) (aC (gU rfl T.fI (aX (pv 1)) (by rfl))) (cQ _))
     ·refine(a0 ?_);refine(bQ ?_);exact jL
     ·exact cX
    refine(a0 ?_);exact(@bP _ _ _ _ _ _ ([]) (2) _ aA nA.nd rfl aq (Cd rfl rfl T.oF (aH (pv 2)) (aH (pv 5)) (by rfl) (by rfl) (by rfl)) rfl aq)
  refine(a0 ?_);refine(bQ ?_);exact(aH (pv 2))) λss y h=>di h
def yC:DS:=(bN (dH (e7 (ay (dm "str" (ah 1)))) (ay (aE (eK true) (aa 1) (aj (aY jq (aj (ag az 0 (aj (eD (.int 2)))))))))) Ck bO)
def oI:DF:=bX [] 2 yC
theorem Pe:cK oI:=dq
theorem Pf:ck ["rule","thing"] ["rule","thing"] (bc x8):=scc
theorem Pg {K:W1} (F:bS K "refuse_no_tile" "refuse_no_tile" x8 f fd) (hm:mg "refuse_no_tile" = some (.ref f)) (hb:Binds K fd ["rule","thing"] []) (T:Txt K mg):bH P w K mg base 1 "refuse_no_tile" 2 oI :=
 eJ (np:=[]) (fb:=yC) F hm hb Pf (λc aJ A outer s H E hr aA=>by
  have hq:=cZ hr;refine(a0 ?_);refine(cY ?_ ?_ ?_)
  ·exact(gR (iQ (jO (jh (jP T.ty_str rfl T.g8 rfl T.nr boot_str (aX (pv 1)) (by decide) (by decide) (by rfl) (by rfl)) (by intro _; rfl))) (kn (cT (De hq) (qy true) (aH (pv 1)) (aC (wH rfl rfl T.ni (aC (bF bC bD (pv 0) (aC aG) (λ_ _=>rfl))) (by rfl))) rfl))))
  ·refine(a0 ?_);exact Lp
  ·exact cX) λss y h=>di h
def yD:DS:=(au (og (ar oI [.val (aa 0),.val (aa 1)])) (au (aw (ar gD [.val (aa 0),.val (aa 1)]) (bT 2 (aU (ao [] 2) (aU (ao [] 3) bW)))) (au (aw mO (ao [] 4)) (au (cG (kD (aa 2)) (bT 2 (aU (ao [] 5) (aU (ao [] 6) bW))) (cG (cp (aa 6)) (ao [] 7) (kH 4 (aa 7) (aa 5)))) (a_ (fc [7] (cp (ar iI [.val (aa 0)])) (ao [] 7) dI (cP (aF (aa 7) (aF (qz 4 (aa 7)) bL)))))))))
def lK:DF:=bX [] 8 yD
theorem Ph:cK lK:=dq
theorem lL:ck ["rule","tile","sets","start","often_of","often","tiles","other"] ["rule","tile"] (bc x9):=scc
theorem Pj {K:W1} {df:Addr} (F:bS K "comes_after" "comes_after" x9 f fd) (hm:mg "comes_after" = some (.ref f)) (hb:Binds K fd ["rule","tile"] []) (T:Txt K mg) (i8:bH P w K mg base 1 "rule_tiles" 1 iI) (i9:gf P w K mg base [(df,fR,fS)] 4 "tile_sets" 2 gD) (yE:bH P w K mg base 1 "refuse_no_tile" 2 oI):gf P w K mg base [(df,fR,fS)] 5 "comes_after" 2 lK :=
 qK (np:=[]) (fb:=yD) F hm hb lL (λc aJ A outer s H E hr aA ft kB=>by
  have hq:=cZ hr;refine(aN ?_ ?_)
  ·exact(L_ (@bM _ _ _ _ _ (1) _ _ _ _ _ yE Pe (hr.mono (by decide)) rfl (aP (aH (pv 0)) (aP (aH (pv 1)) bu (by rfl)) (by rfl)) rfl (by decide) (by rfl) (by rfl)) (by rfl))
  refine(aN ?_ ?_)
  ·refine(ku ?_ ?_ (by rfl) (by rfl) (by rfl))
   ·exact(jU (k:=4) i9 ft t7 (hr.mono (by decide)) rfl (aP (aH (pv 0)) (aP (aH (pv 1)) bu (by rfl)) (by rfl)) rfl)
   ·exact(iU rfl (dh (@cf _ _ _ ([]) (2) _ aA lL.nd rfl aq aq) (dh (@cf _ _ _ ([]) (3) _ aA lL.nd rfl aq aq) iT (by rfl)) (by rfl)) (by rfl) (by rfl))
  refine(aN ?_ ?_)
  ·exact(@bP _ _ _ _ _ _ ([]) (4) _ aA lL.nd rfl aq wC rfl aq)
  refine(aN ?_ ?_)
  ·refine(gA PassesOwn.never rfl ?_ ?_ ?_ (by intro _; rfl))
   ·exact(Di rfl T.oE (aH (pv 2)) (by rfl))
   ·exact(iU rfl (dh (@cf _ _ _ ([]) (5) _ aA lL.nd rfl aq aq) (dh (@cf _ _ _ ([]) (6) _ aA lL.nd rfl aq aq) iT (by rfl)) (by rfl)) (by rfl) (by rfl))
   ·refine(a0 ?_);refine(gA PassesOwn.never rfl ?_ ?_ ?_ (by intro _; rfl))
    ·exact(iF (aH (pv 6)))
    ·exact(@cf _ _ _ ([]) (7) _ aA lL.nd rfl aq aq)
    ·refine(a0 ?_);exact(OI (pv 4) (aH (pv 7)) (aH (pv 5)) ⟨rfl,rfl,rfl,rfl⟩)
  refine(a0 ?_);refine(bQ ?_);exact(@om _ _ ([7]) _ _ _ _ _ _ _ _ _ _ rfl (lA rfl rfl) (iF (@bM _ _ _ _ _ (1) _ _ _ _ _ i8 t5 (hr.mono (by decide)) rfl (aP (aH (pv 0)) bu (by rfl)) rfl (by decide) (by rfl) (by rfl))) (λl s0 H0 ex=>(@jR _ _ _ _ ([]) (7) _ aA lL.nd rfl aq aq (by decide))) (λl s0 H0 ex=>lr) (λl s0 H0 ex=>(fY (br (aH (pv 7)) (br (MU hq (pv 4) (aH (pv 7)) (by rfl) (by rfl) (by rfl) (by rfl)) cW (by rfl)) (by rfl)) (by decide))) (ly aA rfl) (by intro _; rfl))) λss y h=>di h
def t_:DS:=(au (bN (ay (aE (dJ true) (ar iJ [.val (aa 0)]) (aj (eD .ax)))) (a_ (eD .ax)) bO) (au (aw (ar iI [.val (aa 0)]) (ao [] 1)) (au (cG (cp (aa 1)) (ao [] 2) (cG (cp (ar lK [.val (aa 0),.val (aa 2)])) (bT 2 (aU (ao [] 3) (aU (ao [] 4) bW))) (bN (ay (aE (dJ false) (aa 4) (aj (eD .ax)))) (a_ (cP (aF (aa 2) (aF (aa 3) (aF (eD (.int 1)) (aF (eD (.int 0)) bL)))))) bO))) (au (aw (ar gD [.val (aa 0),.val (ag az 1 (aj (eD (.int 0))))]) (bT 2 (aU (ao [] 5) (aU (ao [] 6) bW)))) (a_ (cP (aF (ag az 1 (aj (eD (.int 0)))) (aF (ag az 1 (aj (eD (.int 0)))) (aF (aE fz (aY bI (ah 5)) (ah 6)) (aF (eD (.int 1)) bL))))))))))
def jW:DF:=bX [] 7 t_
theorem Pk:cK jW:=dq
theorem nB:ck ["rule","tiles","tile","other","often","sets","start"] ["rule"] (bc x_):=scc
theorem Pl {K:W1} {df:Addr} (F:bS K "why_unmixed" "why_unmixed" x_ f fd) (hm:mg "why_unmixed" = some (.ref f)) (hb:Binds K fd ["rule"] []) (T:Txt K mg) (i8:bH P w K mg base 1 "rule_tiles" 1 iI) (i9:gf P w K mg base [(df,fR,fS)] 4 "tile_sets" 2 gD) (oJ:gf P w K mg base [(df,fR,fS)] 5 "mixing_time" 1 iJ) (yF:gf P w K mg base [(df,fR,fS)] 5 "comes_after" 2 lK):gf P w K mg base [(df,fR,fS)] 6 "why_unmixed" 1 jW :=
 qK (np:=[]) (fb:=t_) F hm hb nB (λc aJ A outer s H E hr aA ft kB=>by
  have hq:=cZ hr;refine(aN ?_ ?_)
  ·refine(cY ?_ ?_ ?_)
   ·exact(cT uJ wX (jU (k:=5) oJ ft EF (hr.mono (by decide)) rfl (aP (aH (pv 0)) bu (by rfl)) rfl) (aC jL) rfl)
   ·refine(a0 ?_);refine(bQ ?_);exact jL
   ·exact cX
  refine(aN ?_ ?_)
  ·exact(@bP _ _ _ _ _ _ ([]) (1) _ aA nB.nd rfl aq (@bM _ _ _ _ _ (1) _ _ _ _ _ i8 t5 (hr.mono (by decide)) rfl (aP (aH (pv 0)) bu (by rfl)) rfl (by decide) (by rfl) (by rfl)) rfl aq)
  refine(aN ?_ ?_)
  ·refine(gA PassesOwn.never rfl ?_ ?_ ?_ (by intro _; rfl))
   ·exact(iF (aH (pv 1)))
   ·exact(@cf _ _ _ ([]) (2) _ aA nB.nd rfl aq aq)
   ·refine(a0 ?_);refine(gA PassesOwn.never rfl ?_ ?_ ?_ (by intro _; rfl))
    ·exact(iF (jU (k:=5) yF ft Ph (hr.mono (by decide)) rfl (aP (aH (pv 0)) (aP (aH (pv 2)) bu (by rfl)) (by rfl)) rfl))
    ·exact(iU rfl (dh (@cf _ _ _ ([]) (3) _ aA nB.nd rfl aq aq) (dh (@cf _ _ _ ([]) (4) _ aA nB.nd rfl aq aq) iT (by rfl)) (by rfl)) (by rfl) (by rfl))
    ·refine(a0 ?_);refine(cY ?_ ?_ ?_)
     ·exact(cT AB Dm (aH (pv 4)) (aC jL) rfl)
     ·refine(a0 ?_);refine(bQ ?_);exact(fY (br (aH (pv 2)) (br (aH (pv 3)) (br aG (br aG cW (by rfl)) (by rfl)) (by rfl)) (by rfl)) (by decide))
     ·exact cX
  refine(aN ?_ ?_)
  ·refine(ku ?_ ?_ (by rfl) (by rfl) (by rfl))
   ·exact(jU (k:=4) i9 ft t7 (hr.mono (by decide)) rfl (aP (aH (pv 0)) (aP (bF bC bD (pv 1) (aC aG) (λ_ _=>rfl)) bu (by rfl)) (by rfl)) rfl)
   ·exact(iU rfl (dh (@cf _ _ _ ([]) (5) _ aA nB.nd rfl aq aq) (dh (@cf _ _ _ ([]) (6) _ aA nB.nd rfl aq aq) iT (by rfl)) (by rfl)) (by rfl) (by rfl))
  refine(a0 ?_);refine(bQ ?_);exact(fY (br (bF bC bD (pv 1) (aC aG) (λ_ _=>rfl)) (br (bF bC bD (pv 1) (aC aG) (λ_ _=>rfl)) (br (cn j8 ko (gU rfl T.fI (aX (pv 5)) (by rfl)) (aX (pv 6))) (br aG cW (by rfl)) (by rfl)) (by rfl)) (by rfl)) (by decide))) λss y h=>di h
def yG:DS:=(a_ (d_ (dm "int" (ah 0)) (d_ (mz (dm "bool" (ah 0))) (ag vO 1 (ah 0)))))
def kK:DF:=bX [] 2 yG
theorem EG:cK kK:=dq
theorem Pm:ck ["thing","least"] ["thing","least"] (bc ya):=scc
theorem Pn {K:W1} (F:bS K "whole_from" "whole_from" ya f fd) (hm:mg "whole_from" = some (.ref f)) (hb:Binds K fd ["thing","least"] []) (T:Txt K mg):bH P w K mg base 1 "whole_from" 2 kK :=
 eJ (np:=[]) (fb:=yG) F hm hb Pm (λc aJ A outer s H E hr aA=>by
  have hq:=cZ hr;refine(a0 ?_);refine(bQ ?_);exact(mB (jP T.ty_int rfl T.g8 rfl T.nj boot_int (aX (pv 0)) (by decide) (by decide) (by rfl) (by rfl)) (mB (B3 (jP T.ty_bool rfl T.g8 rfl T.nh boot_bool (aX (pv 0)) (by decide) (by decide) (by rfl) (by rfl))) (sG (vJ B8 mC (pv 1) (aX (pv 0)) (cQ _)))))) λss y h=>di h
def yH:DS:=(a_ (d_ (ar kK [.val (aa 0),.val (aa 1)]) (ag vO 0 (ah 2))))
def nC:DF:=bX [] 3 yH
theorem Po:cK nC:=dq
theorem Pp:ck ["thing","least","most"] ["thing","least","most"] (bc yb):=scc
theorem Pq {K:W1} (F:bS K "whole_within" "whole_within" yb f fd) (hm:mg "whole_within" = some (.ref f)) (hb:Binds K fd ["thing","least","most"] []) (T:Txt K mg) (oK:bH P w K mg base 1 "whole_from" 2 kK):bH P w K mg base 2 "whole_within" 3 nC :=
 eJ (np:=[]) (fb:=yH) F hm hb Pp (λc aJ A outer s H E hr aA=>by
  have hq:=cZ hr;refine(a0 ?_);refine(bQ ?_);exact(mB (@bM _ _ _ _ _ (1) _ _ _ _ _ oK EG (hr.mono (by decide)) rfl (aP (aH (pv 0)) (aP (aH (pv 1)) bu (by rfl)) (by rfl)) rfl (by decide) (by rfl) (by rfl)) (sG (vJ B8 mC (pv 0) (aX (pv 2)) (cQ _))))) λss y h=>di h
def qR:DS:=(au (bN (dH (e7 (ay (dm "tuple" (ah 1)))) (ay (aE fO (aY bI (ah 1)) (aj (eD (.int 4)))))) (a_ (eD (.bl false))) bO) (au (aw (aa 1) (bT 4 (aU (ao [] 2) (aU (ao [] 3) (aU (ao [] 4) (aU (ao [] 5) bW)))))) (au (aw (ar iI [.val (aa 0)]) (ao [] 6)) (a_ (d_ (aE (iH false) (aa 2) (ah 6)) (d_ (aE (iH false) (aa 3) (ah 6)) (d_ (ar kK [.val (aa 4),.val (eD (.int 1))]) (ar nC [.val (aa 5),.val (eD (.int 0)),.val (ag fz 4 (aj (eD (.int 1))))]))))))))
def i_:DF:=bX [] 7 qR
theorem Pr:cK i_:=dq
theorem oM:ck ["rule","thing","tile","other","lap","rest","tiles"] ["rule","thing"] (bc yc):=scc
theorem Pt {K:W1} (F:bS K "unmixed_good" "unmixed_good" yc f fd) (hm:mg "unmixed_good" = some (.ref f)) (hb:Binds K fd ["rule","thing"] []) (T:Txt K mg) (i8:bH P w K mg base 1 "rule_tiles" 1 iI) (oK:bH P w K mg base 1 "whole_from" 2 kK) (yJ:bH P w K mg base 2 "whole_within" 3 nC):bH P w K mg base 3 "unmixed_good" 2 i_ :=
 eJ (np:=[]) (fb:=qR) F hm hb oM (λc aJ A outer s H E hr aA=>by
  have hq:=cZ hr;refine(aN ?_ ?_)
  ·refine(cY ?_ ?_ ?_)
   ·exact(gR (iQ (jO (jh (jP T.ty_tuple rfl T.g8 rfl T.kJ boot_tuple (aX (pv 1)) (by decide) (by decide) (by rfl) (by rfl)) (by intro _; rfl))) (kn (cT (pW hq) qb (gU rfl T.fI (aX (pv 1)) (by rfl)) (aC aG) (cQ _)))))
   ·refine(a0 ?_);refine(bQ ?_);exact eS
   ·exact cX
  refine(aN ?_ ?_)
  ·refine(ku ?_ ?_ (by rfl) (by rfl) (by rfl))
   ·exact(aH (pv 1))
   ·exact(iU rfl (dh (@cf _ _ _ ([]) (2) _ aA oM.nd rfl aq aq) (dh (@cf _ _ _ ([]) (3) _ aA oM.nd rfl aq aq) (dh (@cf _ _ _ ([]) (4) _ aA oM.nd rfl aq aq) (dh (@cf _ _ _ ([]) (5) _ aA oM.nd rfl aq aq) iT (by rfl)) (by rfl)) (by rfl)) (by rfl)) (by rfl) (by rfl))
  refine(aN ?_ ?_)
  ·exact(@bP _ _ _ _ _ _ ([]) (6) _ aA oM.nd rfl aq (@bM _ _ _ _ _ (1) _ _ _ _ _ i8 t5 (hr.mono (by decide)) rfl (aP (aH (pv 0)) bu (by rfl)) rfl (by decide) (by rfl) (by rfl)) rfl aq)
  refine(a0 ?_);refine(bQ ?_);exact(mB (sF (Dy hq) (tJ false) (aH (pv 2)) (aX (pv 6)) rfl) (mB (sF (Dy hq) (tJ false) (aH (pv 3)) (aX (pv 6)) rfl) (mB (@bM _ _ _ _ _ (1) _ _ _ _ _ oK EG (hr.mono (by decide)) rfl (aP (aH (pv 4)) (aP aG bu (by rfl)) (by rfl)) rfl (by decide) (by rfl) (by rfl)) (sG (@bM _ _ _ _ _ (2) _ _ _ _ _ yJ Po (hr.mono (by decide)) rfl (aP (aH (pv 5)) (aP aG (aP (dA j8 ko (pv 4) (aC aG)) bu (by rfl)) (by rfl)) (by rfl)) rfl (by decide) (by rfl) (by rfl))))))) λss y h=>di h
def yK:DS:=(au (dB (ay (ag fO 1 (aj (eD (.int 0))))) (qL [] 0 1 (aF (aa 1) (aF (ag cO 0 (ah 1)) bL))) 1000000) (a_ (aY qM (ah 0))))
def oN:DF:=bX [] 2 yK
theorem Pu:cK oN:=dq
theorem EH:ck ["one","other"] ["one","other"] (bc yd):=scc
theorem Pw {K:W1} (F:bS K "common_divisor" "common_divisor" yd f fd) (hm:mg "common_divisor" = some (.ref f)) (hb:Binds K fd ["one","other"] []) (T:Txt K mg):bH P w K mg base 1 "common_divisor" 2 oN :=
 eJ (np:=[]) (fb:=yK) F hm hb EH (λc aJ A outer s H E hr aA=>by
  have hq:=cZ hr;refine(aN ?_ ?_)
  ·refine(v7 1000000 (λh1 h2=>uD PassesOwn.never h1 h2) ?_ ?_)
   ·exact(km (pW hq) qb (pv 1) (aC aG) (cQ _))
   ·refine(a0 ?_);exact(OE (np:=[]) (i:=0) (j:=1) aA rfl EH.nd rfl rfl (by decide) rfl rfl (br (aH (pv 1)) (br (dA ib ir (pv 0) (aX (pv 1))) cW (by rfl)) (by rfl)))
  refine(a0 ?_);refine(bQ ?_);exact(OP rfl T.qO (aX (pv 0)))) λss y h=>di h
def ua:DS:=(au (bN (e7 (ay (ar i_ [.val (aa 0),.val (aa 1)]))) (a_ (eD (.bl false))) bO) (au (aw (aa 1) (bT 4 (aU (ao [] 2) (aU (ao [] 3) (aU (ao [] 4) (aU (ao [] 5) bW)))))) (au (aw (ar gD [.val (aa 0),.val (aa 2)]) (bT 2 (aU (ao [] 6) (aU (ao [] 7) bW)))) (au (aw (ar oN [.val (aE fz (aY bI (ah 6)) (ah 7)),.val (aa 4)]) (ao [] 8)) (au (cG (kD (aa 6)) (bT 2 (aU (ao [] 9) (aU (ao [] 10) bW))) (bN (ay (aE (eK false) (aa 3) (ah 10))) (bN (dH (ay (aE bU (ag cO 9 (ah 4)) (ah 5))) (iP (ay (ag mD 9 (ah 7))) (ay (aE bU (aE cO (ag fz 5 (ah 9)) (ah 8)) (aj (eD (.int 0))))))) (a_ (eD (.bl false))) bO) bO)) (a_ (eD (.bl true))))))))
def g_:DF:=bX [] 11 ua
theorem EI:cK g_:=dq
theorem jX:ck ["rule","thing","tile","other","lap","rest","sets","start","common","often","tiles"] ["rule","thing"] (bc ye):=scc
theorem Px {K:W1} {df:Addr} (F:bS K "unmixed_holds" "unmixed_holds" ye f fd) (hm:mg "unmixed_holds" = some (.ref f)) (hb:Binds K fd ["rule","thing"] []) (T:Txt K mg) (i9:gf P w K mg base [(df,fR,fS)] 4 "tile_sets" 2 gD) (yL:bH P w K mg base 3 "unmixed_good" 2 i_) (yM:bH P w K mg base 1 "common_divisor" 2 oN):gf P w K mg base [(df,fR,fS)] 5 "unmixed_holds" 2 g_ :=
 qK (np:=[]) (fb:=ua) F hm hb jX (λc aJ A outer s H E hr aA ft kB=>by
  have hq:=cZ hr;refine(aN ?_ ?_)
  ·refine(cY ?_ ?_ ?_)
   ·exact(jO (jh (@bM _ _ _ _ _ (3) _ _ _ _ _ yL Pr (hr.mono (by decide)) rfl (aP (aH (pv 0)) (aP (aH (pv 1)) bu (by rfl)) (by rfl)) rfl (by decide) (by rfl) (by rfl)) (by intro _; rfl)))
   ·refine(a0 ?_);refine(bQ ?_);exact eS
   ·exact cX
  refine(aN ?_ ?_)
  ·refine(ku ?_ ?_ (by rfl) (by rfl) (by rfl))
   ·exact(aH (pv 1))
   ·exact(iU rfl (dh (@cf _ _ _ ([]) (2) _ aA jX.nd rfl aq aq) (dh (@cf _ _ _ ([]) (3) _ aA jX.nd rfl aq aq) (dh (@cf _ _ _ ([]) (4) _ aA jX.nd rfl aq aq) (dh (@cf _ _ _ ([]) (5) _ aA jX.nd rfl aq aq) iT (by rfl)) (by rfl)) (by rfl)) (by rfl)) (by rfl) (by rfl))
  refine(aN ?_ ?_)
  ·refine(ku ?_ ?_ (by rfl) (by rfl) (by rfl))
   ·exact(jU (k:=4) i9 ft t7 (hr.mono (by decide)) rfl (aP (aH (pv 0)) (aP (aH (pv 2)) bu (by rfl)) (by rfl)) rfl)
   ·exact(iU rfl (dh (@cf _ _ _ ([]) (6) _ aA jX.nd rfl aq aq) (dh (@cf _ _ _ ([]) (7) _ aA jX.nd rfl aq aq) iT (by rfl)) (by rfl)) (by rfl) (by rfl))
  refine(aN ?_ ?_)
  ·exact(@bP _ _ _ _ _ _ ([]) (8) _ aA jX.nd rfl aq (@bM _ _ _ _ _ (1) _ _ _ _ _ yM Pu (hr.mono (by decide)) rfl (aP (cn j8 ko (gU rfl T.fI (aX (pv 6)) (by rfl)) (aX (pv 7))) (aP (aH (pv 4)) bu (by rfl)) (by rfl)) rfl (by decide) (by rfl) (by rfl)) rfl aq)
  refine(aN ?_ ?_)
  ·refine(gA PassesOwn.never rfl ?_ ?_ ?_ (by intro _; rfl))
   ·exact(Di rfl T.oE (aH (pv 6)) (by rfl))
   ·exact(iU rfl (dh (@cf _ _ _ ([]) (9) _ aA jX.nd rfl aq aq) (dh (@cf _ _ _ ([]) (10) _ aA jX.nd rfl aq aq) iT (by rfl)) (by rfl)) (by rfl) (by rfl))
   ·refine(a0 ?_);refine(cY ?_ ?_ ?_)
    ·exact(cT (wK hq) (qy false) (aH (pv 3)) (aX (pv 10)) rfl)
    ·refine(a0 ?_);refine(cY ?_ ?_ ?_)
     ·exact(gR (iQ (cT (ik hq) iu (dA ib ir (pv 9) (aX (pv 4))) (aX (pv 5)) (cQ _)) (kn (gR (p9 (km vQ mC (pv 9) (aX (pv 7)) (cQ _)) (p8 (cT (ik hq) iu (cn ib ir (dA j8 ko (pv 5) (aX (pv 9))) (aX (pv 8))) (aC aG) (cQ _))))))))
     ·refine(a0 ?_);refine(bQ ?_);exact eS
     ·exact cX
    ·exact cX
  refine(a0 ?_);refine(bQ ?_);exact eS) λss y h=>di h
def yN:DS:=(a_ (d_ (dm "int" (ah 0)) (mz (dm "bool" (ah 0)))))
def kL:DF:=bX [] 1 yN
theorem EJ:cK kL:=dq
theorem Py:ck ["found"] ["found"] (bc yf):=scc
theorem Pz {K:W1} (F:bS K "_law_whole" "_law_whole" yf f fd) (hm:mg "_law_whole" = some (.ref f)) (hb:Binds K fd ["found"] []) (T:Txt K mg):bH P w K mg base 1 "_law_whole" 1 kL :=
 eJ (np:=[]) (fb:=yN) F hm hb Py (λc aJ A outer s H E hr aA=>by
  have hq:=cZ hr;refine(a0 ?_);refine(bQ ?_);exact(mB (jP T.ty_int rfl T.g8 rfl T.nj boot_int (aX (pv 0)) (by decide) (by decide) (by rfl) (by rfl)) (sG (B3 (jP T.ty_bool rfl T.g8 rfl T.nh boot_bool (aX (pv 0)) (by decide) (by decide) (by rfl) (by rfl)))))) λss y h=>di h
def yP:DS:=(au (aw (aY jq (aj (ag az 0 (aj (eD (.int 2)))))) (ao [] 2)) (au (aw mO (ao [] 3)) (au (cG (cp (aa 1)) (ao [] 4) (cG (cp (aY (dP []) (aj (ag jr 2 (ah 4))))) (ao [] 5) (jt 3 (aa 5) (eD (.bl true))))) (a_ (aY mE (aj (aY oA (ah 3))))))))
def kM:DF:=bX [] 6 yP
theorem PB:cK kM:=dq
theorem qS:ck ["rule","some","blocks","found","tile","sign"] ["rule","some"] (bc yg):=scc
theorem PD {K:W1} (F:bS K "_law_next_tiles" "_law_next_tiles" yg f fd) (hm:mg "_law_next_tiles" = some (.ref f)) (hb:Binds K fd ["rule","some"] []) (T:Txt K mg):bH P w K mg base 1 "_law_next_tiles" 2 kM :=
 eJ (np:=[]) (fb:=yP) F hm hb qS (λc aJ A outer s H E hr aA=>by
  have hq:=cZ hr;refine(aN ?_ ?_)
  ·exact(@bP _ _ _ _ _ _ ([]) (2) _ aA qS.nd rfl aq (wH rfl rfl T.ni (aC (bF bC bD (pv 0) (aC aG) (λ_ _=>rfl))) (by rfl)) rfl aq)
  refine(aN ?_ ?_)
  ·exact(@bP _ _ _ _ _ _ ([]) (3) _ aA qS.nd rfl aq wC rfl aq)
  refine(aN ?_ ?_)
  ·refine(gA PassesOwn.never rfl ?_ ?_ ?_ (by intro _; rfl))
   ·exact(iF (aH (pv 1)))
   ·exact(@cf _ _ _ ([]) (4) _ aA qS.nd rfl aq aq)
   ·refine(a0 ?_);refine(gA PassesOwn.never rfl ?_ ?_ ?_ (by intro _; rfl))
    ·exact(iF (qj [] (aC (bF (wY hq) wO (pv 2) (aX (pv 4)) (λ_ _=>rfl))) (by decide +kernel) (by rfl) (by rfl) (by rfl) (by rfl)))
    ·exact(@cf _ _ _ ([]) (5) _ aA qS.nd rfl aq aq)
    ·refine(a0 ?_);exact(Dq hq (pv 3) (aH (pv 5)) eS (by rfl))
  refine(a0 ?_);refine(bQ ?_);exact(Cc rfl T.nq (aC (Ei rfl rfl T.nk (aX (pv 3)))) (by rfl))) λss y h=>di h
def yQ:DS:=(au (aw (dO (aF (dO (aF (aa 1) bL)) bL)) (ao [] 2)) (dB (ay (eD (.bl true))) (au (aw (ar kM [.val (aa 0),.val (ag az 2 (aj (aY jT (aj (eD (.int 1))))))]) (ao [] 3)) (au (bN (ay (aE (nc false) (aa 3) (ah 2))) (a_ (cP (aF (aa 2) (aF (qN 2 (aa 3)) bL)))) bO) (fB 2 (aa 3)))) 1000000))
def oO:DF:=bX [] 4 yQ
theorem PF:cK oO:=dq
theorem yR:ck ["rule","tile","seen","more"] ["rule","tile"] (bc yh):=scc
theorem PH {K:W1} (F:bS K "_law_walk" "_law_walk" yh f fd) (hm:mg "_law_walk" = some (.ref f)) (hb:Binds K fd ["rule","tile"] []) (T:Txt K mg) (yS:bH P w K mg base 1 "_law_next_tiles" 2 kM):bH P w K mg base 2 "_law_walk" 2 oO :=
 eJ (np:=[]) (fb:=yQ) F hm hb yR (λc aJ A outer s H E hr aA=>by
  have hq:=cZ hr;refine(aN ?_ ?_)
  ·exact(@bP _ _ _ _ _ _ ([]) (2) _ aA yR.nd rfl aq (iA (br (iA (br (aH (pv 1)) cW (by rfl)) (by decide)) cW (by rfl)) (by decide)) rfl aq)
  refine(a0 ?_);refine(v7 1000000 (λh1 h2=>uD PassesOwn.never h1 h2) ?_ ?_)
  ·exact(jh eS (by intro _; rfl))
  ·refine(aN ?_ ?_)
   ·exact(@bP _ _ _ _ _ _ ([]) (3) _ aA yR.nd rfl aq (@bM _ _ _ _ _ (1) _ _ _ _ _ yS PB (hr.mono (by decide)) rfl (aP (aH (pv 0)) (aP (bF bC bD (pv 2) (aC (Dk (aC aG))) (λ_ _=>rfl)) bu (by rfl)) (by rfl)) rfl (by decide) (by rfl) (by rfl)) rfl aq)
   refine(aN ?_ ?_)
   ·refine(cY ?_ ?_ ?_)
    ·exact(cT (OK hq) (OL false) (aH (pv 3)) (aX (pv 2)) rfl)
    ·refine(a0 ?_);refine(bQ ?_);exact(fY (br (aH (pv 2)) (br (OR hq (pv 2) (aH (pv 3))) cW (by rfl)) (by rfl)) (by decide))
    ·exact cX
   refine(a0 ?_);exact(tu (pv 2) (aH (pv 3)) (by rfl) (by rfl) (by rfl) (by rfl) (by rfl))) λss y h=>di h
def yT:DS:=(au (aw (ar oO [.val (aa 0),.val (aa 1)]) (bT 2 (aU (ao [] 5) (aU (ao [] 6) bW)))) (au (aw (aE fz (aY bI (ah 5)) (ah 6)) (ao [] 7)) (au (cG (dQ (aY bI (ah 5))) (ao [] 8) (bN (iP (ay (aE bU (ag cO 8 (ah 3)) (ah 4))) (ay (aE (eK false) (aa 2) (aj (ag az 5 (ah 8)))))) (a_ (eD (.bl false))) bO)) (au (aw (aa 4) (ao [] 9)) (au (bN (ay (ag iz 9 (ah 6))) (aw (ag aT 4 (aj (aE f_ (aE qB (aE fz (aE aT (ag fz 6 (ah 4)) (ah 3)) (aj (eD (.int 1)))) (ah 3)) (ah 3)))) (ao [] 9)) bO) (au (cG (dQ (aa 7)) (ao [] 10) (bN (ay (aE (eK false) (aa 2) (aj (ag az 5 (aj (ag aT 6 (aj (aE cO (aE fz (ag aT 9 (aj (ag f_ 10 (ah 3)))) (ah 6)) (ah 7))))))))) (a_ (eD (.bl false))) bO)) (a_ (eD (.bl true)))))))))
def lM:DF:=bX [] 11 yT
theorem PJ:cK lM:=dq
theorem lN:ck ["rule","tile","other","lap","rest","seen","start","size","growings","first","turn"] ["rule","tile","other","lap","rest"] (bc yi):=scc
theorem PL {K:W1} (F:bS K "_law_never" "_law_never" yi f fd) (hm:mg "_law_never" = some (.ref f)) (hb:Binds K fd ["rule","tile","other","lap","rest"] []) (T:Txt K mg) (yU:bH P w K mg base 2 "_law_walk" 2 oO):bH P w K mg base 3 "_law_never" 5 lM :=
 eJ (np:=[]) (fb:=yT) F hm hb lN (λc aJ A outer s H E hr aA=>by
  have hq:=cZ hr;refine(aN ?_ ?_)
  ·refine(ku ?_ ?_ (by rfl) (by rfl) (by rfl))
   ·exact(@bM _ _ _ _ _ (2) _ _ _ _ _ yU PF (hr.mono (by decide)) rfl (aP (aH (pv 0)) (aP (aH (pv 1)) bu (by rfl)) (by rfl)) rfl (by decide) (by rfl) (by rfl))
   ·exact(iU rfl (dh (@cf _ _ _ ([]) (5) _ aA lN.nd rfl aq aq) (dh (@cf _ _ _ ([]) (6) _ aA lN.nd rfl aq aq) iT (by rfl)) (by rfl)) (by rfl) (by rfl))
  refine(aN ?_ ?_)
  ·exact(@bP _ _ _ _ _ _ ([]) (7) _ aA lN.nd rfl aq (cn j8 ko (gU rfl T.fI (aX (pv 5)) (by rfl)) (aX (pv 6))) rfl aq)
  refine(aN ?_ ?_)
  ·refine(gA PassesOwn.never rfl ?_ ?_ ?_ (by intro _; rfl))
   ·exact(lq rfl T.i6 (gU rfl T.fI (aX (pv 5)) (by rfl)) (by rfl))
   ·exact(@cf _ _ _ ([]) (8) _ aA lN.nd rfl aq aq)
   ·refine(a0 ?_);refine(cY ?_ ?_ ?_)
    ·exact(gR (p9 (cT (ik hq) iu (dA ib ir (pv 8) (aX (pv 3))) (aX (pv 4)) (cQ _)) (p8 (cT (wK hq) (qy false) (aH (pv 2)) (aC (bF bC bD (pv 5) (aX (pv 8)) (λ_ _=>rfl))) rfl))))
    ·refine(a0 ?_);refine(bQ ?_);exact eS
    ·exact cX
  refine(aN ?_ ?_)
  ·exact(@bP _ _ _ _ _ _ ([]) (9) _ aA lN.nd rfl aq (aH (pv 4)) rfl aq)
  refine(aN ?_ ?_)
  ·refine(cY ?_ ?_ ?_)
   ·exact(km qc qd (pv 9) (aX (pv 6)) (cQ _))
   ·refine(a0 ?_);exact(@bP _ _ _ _ _ _ ([]) (9) _ aA lN.nd rfl aq (dA cU cV (pv 4) (aC (cn qu qv (cn Ds Dt (cn j8 ko (cn cU cV (dA j8 ko (pv 6) (aX (pv 4))) (aX (pv 3))) (aC aG)) (aX (pv 3))) (aX (pv 3))))) rfl aq)
   ·exact cX
  refine(aN ?_ ?_)
  ·refine(gA PassesOwn.never rfl ?_ ?_ ?_ (by intro _; rfl))
   ·exact(lq rfl T.i6 (aH (pv 7)) (by rfl))
   ·exact(@cf _ _ _ ([]) (10) _ aA lN.nd rfl aq aq)
   ·refine(a0 ?_);refine(cY ?_ ?_ ?_)
    ·exact(cT (wK hq) (qy false) (aH (pv 2)) (aC (bF bC bD (pv 5) (aC (dA cU cV (pv 6) (aC (cn ib ir (cn j8 ko (dA cU cV (pv 9) (aC (dA qu qv (pv 10) (aX (pv 3))))) (aX (pv 6))) (aX (pv 7)))))) (λ_ _=>rfl))) rfl)
    ·refine(a0 ?_);refine(bQ ?_);exact eS
    ·exact cX
  refine(a0 ?_);refine(bQ ?_);exact eS) λss y h=>di h
def qT:DS:=(au (bN (dH (e7 (ay (dm "tuple" (ah 1)))) (ay (aE fO (aY bI (ah 1)) (aj (eD (.int 4)))))) (a_ (eD (.bl false))) bO) (au (aw (fc [3] (cp (ag az 0 (aj (eD (.int 2))))) (ao [] 3) dI (ag az 3 (aj (eD (.int 0))))) (ao [] 2)) (au (bN (dH (e7 (ay (dm "str" (aj (ag az 1 (aj (eD (.int 0)))))))) (dH (e7 (ay (dm "str" (aj (ag az 1 (aj (eD (.int 1)))))))) (e7 (ay (ar kL [.val (ag az 1 (aj (eD (.int 2))))]))))) (a_ (eD (.bl false))) bO) (au (bN (dH (ay (aE (iH true) (ag az 1 (aj (eD (.int 0)))) (ah 2))) (dH (ay (aE (iH true) (ag az 1 (aj (eD (.int 1)))) (ah 2))) (e7 (ay (ar kL [.val (ag az 1 (aj (eD (.int 3))))]))))) (a_ (eD (.bl false))) bO) (au (bN (dH (ay (aE iz (ag az 1 (aj (eD (.int 2)))) (aj (eD (.int 1))))) (dH (ay (aE iz (ag az 1 (aj (eD (.int 3)))) (aj (eD (.int 0))))) (ay (aE mD (ag az 1 (aj (eD (.int 3)))) (aj (ag az 1 (aj (eD (.int 2))))))))) (a_ (eD (.bl false))) bO) (a_ (ar lM [.val (aa 0),.val (ag az 1 (aj (eD (.int 0)))),.val (ag az 1 (aj (eD (.int 1)))),.val (ag az 1 (aj (eD (.int 2)))),.val (ag az 1 (aj (eD (.int 3))))])))))))
def gi:DF:=bX [] 4 qT
theorem EK:cK gi:=dq
theorem yV:ck ["rule","thing","tiles","pair"] ["rule","thing"] (bc yj):=scc
theorem PM {K:W1} (F:bS K "_law_due" "_law_due" yj f fd) (hm:mg "_law_due" = some (.ref f)) (hb:Binds K fd ["rule","thing"] []) (T:Txt K mg) (ub:bH P w K mg base 1 "_law_whole" 1 kL) (yW:bH P w K mg base 3 "_law_never" 5 lM):bH P w K mg base 4 "_law_due" 2 gi :=
 eJ (np:=[]) (fb:=qT) F hm hb yV (λc aJ A outer s H E hr aA=>by
  have hq:=cZ hr;refine(aN ?_ ?_)
  ·refine(cY ?_ ?_ ?_)
   ·exact(gR (iQ (jO (jh (jP T.ty_tuple rfl T.g8 rfl T.kJ boot_tuple (aX (pv 1)) (by decide) (by decide) (by rfl) (by rfl)) (by intro _; rfl))) (kn (cT (pW hq) qb (gU rfl T.fI (aX (pv 1)) (by rfl)) (aC aG) (cQ _)))))
   ·refine(a0 ?_);refine(bQ ?_);exact eS
   ·exact cX
  refine(aN ?_ ?_)
  ·exact(@CI _ _ ([3]) _ _ _ _ _ _ _ _ _ _ ([]) (2) _ _ _ aA rfl (lA rfl rfl) yV.nd rfl rfl (iF (bF bC bD (pv 0) (aC aG) (λ_ _=>rfl))) (λl s0 H0 ex=>(@jR _ _ _ _ ([]) (3) _ aA yV.nd rfl aq aq (by decide))) (λl s0 H0 ex=>lr) (λl s0 H0 ex=>(bF bC bD (pv 3) (aC aG) (λ_ _=>rfl))) (ly aA rfl) (by rfl) (by intro _; rfl))
  refine(aN ?_ ?_)
  ·refine(cY ?_ ?_ ?_)
   ·exact(gR (iQ (jO (jh (jP T.ty_str rfl T.g8 rfl T.nr boot_str (aC (bF bC bD (pv 1) (aC aG) (λ_ _=>rfl))) (by decide) (by decide) (by rfl) (by rfl)) (by intro _; rfl))) (iQ (jO (jh (jP T.ty_str rfl T.g8 rfl T.nr boot_str (aC (bF bC bD (pv 1) (aC aG) (λ_ _=>rfl))) (by decide) (by decide) (by rfl) (by rfl)) (by intro _; rfl))) (kn (jO (jh (@bM _ _ _ _ _ (1) _ _ _ _ _ ub EJ (hr.mono (by decide)) rfl (aP (bF bC bD (pv 1) (aC aG) (λ_ _=>rfl)) bu (by rfl)) rfl (by decide) (by rfl) (by rfl)) (by intro _; rfl)))))))
   ·refine(a0 ?_);refine(bQ ?_);exact eS
   ·exact cX
  refine(aN ?_ ?_)
  ·refine(cY ?_ ?_ ?_)
   ·exact(gR (iQ (cT (Dz hq) (tJ true) (bF bC bD (pv 1) (aC aG) (λ_ _=>rfl)) (aX (pv 2)) rfl) (iQ (cT (Dz hq) (tJ true) (bF bC bD (pv 1) (aC aG) (λ_ _=>rfl)) (aX (pv 2)) rfl) (kn (jO (jh (@bM _ _ _ _ _ (1) _ _ _ _ _ ub EJ (hr.mono (by decide)) rfl (aP (bF bC bD (pv 1) (aC aG) (λ_ _=>rfl)) bu (by rfl)) rfl (by decide) (by rfl) (by rfl)) (by intro _; rfl)))))))
   ·refine(a0 ?_);refine(bQ ?_);exact eS
   ·exact cX
  refine(aN ?_ ?_)
  ·refine(cY ?_ ?_ ?_)
   ·exact(gR (iQ (cT qc qd (bF bC bD (pv 1) (aC aG) (λ_ _=>rfl)) (aC aG) (cQ _)) (iQ (cT qc qd (bF bC bD (pv 1) (aC aG) (λ_ _=>rfl)) (aC aG) (cQ _)) (kn (cT vQ mC (bF bC bD (pv 1) (aC aG) (λ_ _=>rfl)) (aC (bF bC bD (pv 1) (aC aG) (λ_ _=>rfl))) (cQ _))))))
   ·refine(a0 ?_);refine(bQ ?_);exact eS
   ·exact cX
  refine(a0 ?_);refine(bQ ?_);exact(@bM _ _ _ _ _ (3) _ _ _ _ _ yW PJ (hr.mono (by decide)) rfl (aP (aH (pv 0)) (aP (bF bC bD (pv 1) (aC aG) (λ_ _=>rfl)) (aP (bF bC bD (pv 1) (aC aG) (λ_ _=>rfl)) (aP (bF bC bD (pv 1) (aC aG) (λ_ _=>rfl)) (aP (bF bC bD (pv 1) (aC aG) (λ_ _=>rfl)) bu (by rfl)) (by rfl)) (by rfl)) (by rfl)) (by rfl)) rfl (by decide) (by rfl) (by rfl))) λss y h=>di h
def uc:DS:=(au (aw (fc [8] (cp (ag az 0 (aj (eD (.int 2))))) (ao [1] 8) dI (ag az 8 (aj (eD (.int 0))))) (ao [1] 2)) (au (aw (aE aT (eD (.int 1)) (aj (ar bV [.io 1,.val (aE az (dO (aF (eD (.int 6)) (aF (eD (.int 12)) (aF (aE nZ (eD (.int 10)) (aj (eD (.int 30)))) bL)))) (aj (ar bV [.io 1,.val (eD (.int 3))])))]))) (ao [1] 3)) (au (aw (cP (aF (ag az 2 (aj (ar bV [.io 1,.val (aY bI (ah 2))]))) (aF (ag az 2 (aj (ar bV [.io 1,.val (aY bI (ah 2))]))) (aF (aa 3) (aF (ar bV [.io 1,.val (aa 3)]) bL))))) (ao [1] 4)) (au (bN (ay (aE bU (ar bV [.io 1,.val (eD (.int 2))]) (aj (eD (.int 0))))) (a_ (aa 4)) bO) (au (aw (ar bV [.io 1,.val (eD (.int 4))]) (ao [1] 5)) (au (aw (dO (aF (eD .ax) (aF (eD (.bl true)) (aF (eD (.str [65])) (aF (eD (.str [])) (aF (eD (.int 0)) (aF (aY jT (aj (eD (.int 1)))) bL))))))) (ao [1] 6)) (au (aw (aE az (ag aT 6 (aj (dO (aF (aa 3) (aF (ag aT 3 (aj (eD (.int 1)))) (aF (cP (aF (ag az 2 (aj (eD (.int 0)))) bL)) (aF (aE aT (ag az 2 (aj (eD (.int 0)))) (aj (ag az 2 (aj (eD (.int 0)))))) (aF (eD (.str [49])) bL)))))))) (aj (ar bV [.io 1,.val (eD (.int 11))]))) (ao [1] 6)) (au (aw (dO (aF (aE aT (aE aT (iR 4 gz (eU (aa 5))) (aj (cP (aF (aa 6) bL)))) (aj (iR 4 (eU (ag aT 5 (aj (eD (.int 1))))) gz))) (aF (iR 4 (eU (eD (.int 1))) gz) (aF (ag aT 4 (aj (eD (.tup [.int 0])))) bL)))) (ao [1] 7)) (au (aw (ag aT 7 (aj (dO (aF (aY ot (ah 4)) (aF (eD .ax) (aF (aY lD (ah 4)) bL)))))) (ao [1] 7)) (a_ (ag az 7 (aj (ar bV [.io 1,.val (eD (.int 6))])))))))))))))
def lO:DF:=bX [1] 9 uc
theorem PN:cK lO:=dq
theorem jY:ck ["rule","pen","tiles","lap","thing","spot","odd","some","pair"] ["rule","pen"] (bc yk):=scc
theorem PQ {K:W1} (F:bS K "_law_by_anybody" "_law_by_anybody" yk f fd) (hm:mg "_law_by_anybody" = some (.ref f)) (hb:Binds K fd ["rule","pen"] []) (T:Txt K mg) (cz:bH P w K mg base 2 "_law_draw" 2 bV):bH P w K mg base 3 "_law_by_anybody" 2 lO :=
 eJ (np:=[1]) (fb:=uc) F hm hb jY (λc aJ A outer s H E hr aA=>by
  have hq:=cZ hr;refine(aN ?_ ?_)
  ·exact(@CI _ _ ([8]) _ _ _ _ _ _ _ _ _ _ ([1]) (2) _ _ _ aA rfl (lA rfl rfl) jY.nd rfl rfl (iF (bF bC bD (pv 0) (aC aG) (λ_ _=>rfl))) (λl s0 H0 ex=>(@jR _ _ _ _ ([1]) (8) _ aA jY.nd rfl aq aq (by decide))) (λl s0 H0 ex=>lr) (λl s0 H0 ex=>(bF bC bD (pv 8) (aC aG) (λ_ _=>rfl))) (ly aA rfl) (by rfl) (by intro _; rfl))
  refine(aN ?_ ?_)
  ·exact(@bP _ _ _ _ _ _ ([1]) (3) _ aA jY.nd rfl aq (cn cU cV aG (aC (@bM _ _ _ _ _ (2) _ _ _ _ _ cz dR (hr.mono (by decide)) rfl (dj (pv 1) (aP (vK bC bD (iA (br aG (br aG (br (cn Az B6 aG (aC aG)) cW (by rfl)) (by rfl)) (by rfl)) (by decide)) (aC (@bM _ _ _ _ _ (2) _ _ _ _ _ cz dR (hr.mono (by decide)) rfl (dj (pv 1) (aP aG bu (by rfl)) (by rfl)) rfl (by decide) (by rfl) (by rfl))) (λ_ _=>rfl)) bu (by rfl)) (by rfl)) rfl (by decide) (by rfl) (by rfl)))) rfl aq)
  refine(aN ?_ ?_)
  ·exact(@bP _ _ _ _ _ _ ([1]) (4) _ aA jY.nd rfl aq (fY (br (bF bC bD (pv 2) (aC (@bM _ _ _ _ _ (2) _ _ _ _ _ cz dR (hr.mono (by decide)) rfl (dj (pv 1) (aP (gU rfl T.fI (aX (pv 2)) (by rfl)) bu (by rfl)) (by rfl)) rfl (by decide) (by rfl) (by rfl))) (λ_ _=>rfl)) (br (bF bC bD (pv 2) (aC (@bM _ _ _ _ _ (2) _ _ _ _ _ cz dR (hr.mono (by decide)) rfl (dj (pv 1) (aP (gU rfl T.fI (aX (pv 2)) (by rfl)) bu (by rfl)) (by rfl)) rfl (by decide) (by rfl) (by rfl))) (λ_ _=>rfl)) (br (aH (pv 3)) (br (@bM _ _ _ _ _ (2) _ _ _ _ _ cz dR (hr.mono (by decide)) rfl (dj (pv 1) (aP (aH (pv 3)) bu (by rfl)) (by rfl)) rfl (by decide) (by rfl) (by rfl)) cW (by rfl)) (by rfl)) (by rfl)) (by rfl)) (by decide)) rfl aq)
  refine(aN ?_ ?_)
  ·refine(cY ?_ ?_ ?_)
   ·exact(cT (ik hq) iu (@bM _ _ _ _ _ (2) _ _ _ _ _ cz dR (hr.mono (by decide)) rfl (dj (pv 1) (aP aG bu (by rfl)) (by rfl)) rfl (by decide) (by rfl) (by rfl)) (aC aG) (cQ _))
   ·refine(a0 ?_);refine(bQ ?_);exact(aH (pv 4))
   ·exact cX
  refine(aN ?_ ?_)
  ·exact(@bP _ _ _ _ _ _ ([1]) (5) _ aA jY.nd rfl aq (@bM _ _ _ _ _ (2) _ _ _ _ _ cz dR (hr.mono (by decide)) rfl (dj (pv 1) (aP aG bu (by rfl)) (by rfl)) rfl (by decide) (by rfl) (by rfl)) rfl aq)
  refine(aN ?_ ?_)
  ·exact(@bP _ _ _ _ _ _ ([1]) (6) _ aA jY.nd rfl aq (iA (br jL (br eS (br (nX [65] (by decide +kernel)) (br (nX [] (by decide +kernel)) (br aG (br (Dk (aC aG)) cW (by rfl)) (by rfl)) (by rfl)) (by rfl)) (by rfl)) (by rfl)) (by decide)) rfl aq)
  refine(aN ?_ ?_)
  ·exact(@bP _ _ _ _ _ _ ([1]) (6) _ aA jY.nd rfl aq (vK bC bD (dA cU cV (pv 6) (aC (iA (br (aH (pv 3)) (br (dA cU cV (pv 3) (aC aG)) (br (fY (br (bF bC bD (pv 2) (aC aG) (λ_ _=>rfl)) cW (by rfl)) (by decide)) (br (cn cU cV (bF bC bD (pv 2) (aC aG) (λ_ _=>rfl)) (aC (bF bC bD (pv 2) (aC aG) (λ_ _=>rfl)))) (br (nX [49] (by decide +kernel)) cW (by rfl)) (by rfl)) (by rfl)) (by rfl)) (by rfl)) (by decide)))) (aC (@bM _ _ _ _ _ (2) _ _ _ _ _ cz dR (hr.mono (by decide)) rfl (dj (pv 1) (aP aG bu (by rfl)) (by rfl)) rfl (by decide) (by rfl) (by rfl))) (λ_ _=>rfl)) rfl aq)
  refine(aN ?_ ?_)
  ·exact(@bP _ _ _ _ _ _ ([1]) (7) _ aA jY.nd rfl aq (iA (br (cn cU cV (cn cU cV (sL (pv 4) qg (mG (aH (pv 5)))) (aC (fY (br (aH (pv 6)) cW (by rfl)) (by decide)))) (aC (sL (pv 4) (mG (dA cU cV (pv 5) (aC aG))) qg))) (br (sL (pv 4) (mG aG) qg) (br (dA cU cV (pv 4) (aC (L8 (by rfl)))) cW (by rfl)) (by rfl)) (by rfl)) (by decide)) rfl aq)
  refine(aN ?_ ?_)
  ·exact(@bP _ _ _ _ _ _ ([1]) (7) _ aA jY.nd rfl aq (dA cU cV (pv 7) (aC (iA (br (Mm rfl rfl T.nk (aX (pv 4)) (by rfl)) (br jL (br (MS (aX (pv 4)) KN) cW (by rfl)) (by rfl)) (by rfl)) (by decide)))) rfl aq)
  refine(a0 ?_);refine(bQ ?_);exact(bF bC bD (pv 7) (aC (@bM _ _ _ _ _ (2) _ _ _ _ _ cz dR (hr.mono (by decide)) rfl (dj (pv 1) (aP aG bu (by rfl)) (by rfl)) rfl (by decide) (by rfl) (by rfl))) (λ_ _=>rfl))) λss y h=>di h
def yX:DS:=(au (cG (cp (aE aT (dO (aF (ar nt [.val (aa 0),.val (eD (.int 0))]) bL)) (aj (iR 0 (eU (eD (.int 1))) (eU (eD (.int 5))))))) (ao [] 1) (au (aw (ar nu [.val (aa 1)]) (ao [] 2)) (au (aw (ar lJ [.io 2,.val (eD (.int 6))]) (ao [] 3)) (au (bN (ay (aE bU (ar bV [.io 2,.val (eD (.int 2))]) (aj (eD (.int 0))))) (aw (ar ny [.io 2]) (ao [] 3)) bO) (au (aw (ar jW [.val (aa 3)]) (ao [] 4)) (au (bN (ay (aE fO (aE (dJ false) (aa 4) (aj (eD .ax))) (aj (aE (dJ true) (ar iJ [.val (aa 3)]) (aj (eD .ax)))))) (a_ (eD (.bl false))) bO) (au (bN (iP (ay (aE (dJ true) (aa 4) (aj (eD .ax)))) (dH (e7 (ay (ar gi [.val (aa 3),.val (aa 4)]))) (ay (aE (ox true) (ar g_ [.val (aa 3),.val (aa 4)]) (aj (eD (.bl true))))))) (a_ (eD (.bl false))) bO) (cG (dQ (eD (.int 6))) (ao [] 5) (au (aw (ar lO [.val (aa 3),.io 2]) (ao [] 6)) (au (aw (ar g_ [.val (aa 3),.val (aa 6)]) (ao [] 7)) (bN (dH (e7 (ay (dm "bool" (ah 7)))) (ay (ag fO 7 (aj (ar gi [.val (aa 3),.val (aa 6)]))))) (a_ (eD (.bl false))) bO))))))))))) (a_ (eD (.bl true))))
def nD:DF:=bX [] 8 yX
theorem Ul:cK nD:=dq
theorem kN:ck ["script","cell","pen","rule","told","turn","thing","found"] ["script"] (bc kI):=scc
theorem PR {K:W1} {df:Addr} (F:bS K "law" "law" kI f fd) (T:Txt K mg) (yY:bH P w K mg base 1 "_law_cell_at" 2 nt) (yZ:bH P w K mg base 1 "_law_pen_of" 1 nu) (cz:bH P w K mg base 2 "_law_draw" 2 bV) (y0:bH P w K mg base 4 "_law_rule_by" 2 lJ) (y1:bH P w K mg base 3 "_law_ring" 1 ny) (oJ:gf P w K mg base [(df,fR,fS)] 5 "mixing_time" 1 iJ) (y2:gf P w K mg base [(df,fR,fS)] 6 "why_unmixed" 1 jW) (ud:gf P w K mg base [(df,fR,fS)] 5 "unmixed_holds" 2 g_) (ue:bH P w K mg base 4 "_law_due" 2 gi) (y3:bH P w K mg base 3 "_law_by_anybody" 2 lO):gJ P w K mg base dG 7 f fd ["script"] (mZ [(df,fR,fS)] 1 nD) :=
 En (np:=[]) (fb:=yX) F kN (λc aJ A outer s H E hr aA ft kB=>by
  have hq:=cZ hr;refine(@aN _ _ _ _ _ _ ?_ ?_)
  ·refine(@gA _ _ _ _ _ _ _ _ _ PassesOwn.never rfl ?_ ?_ ?_ (by intro _; rfl))
   ·exact(@iF _ _ _ _ _ (@cn _ _ _ _ _ _ _ _ _ _ cU cV (@iA _ _ _ _ _ (@br _ _ _ _ _ _ (@bM _ _ _ _ _ (1) _ _ _ _ _ yY OT (hr.mono (by decide)) rfl (@aP _ _ _ _ _ _ (@aH _ _ _ _ (pv 0)) (@aP _ _ _ _ _ _ (@aG _ _ _ _ _) (@bu _ _) (by rfl)) (by rfl)) rfl (by decide) (by rfl) (by rfl)) (@cW _ _) (by rfl)) (by decide)) (@aC _ _ _ _ (@sL _ _ _ _ _ _ _ _ _ _ (pv 0) (@mG _ _ _ _ (@aG _ _ _ _ _)) (@mG _ _ _ _ (@aG _ _ _ _ _))))))
   ·exact(@cf _ _ _ ([]) (1) _ aA kN.nd rfl aq aq)
   ·refine(@aN _ _ _ _ _ _ ?_ ?_)
    ·exact(@bP _ _ _ _ _ _ ([]) (2) _ aA kN.nd rfl aq (@bM _ _ _ _ _ (1) _ _ _ _ _ yZ OW (hr.mono (by decide)) rfl (@aP _ _ _ _ _ _ (@aH _ _ _ _ (pv 1)) (@bu _ _) (by rfl)) rfl (by decide) (by rfl) (by rfl)) rfl aq)
    refine(@aN _ _ _ _ _ _ ?_ ?_)
    ·exact(@bP _ _ _ _ _ _ ([]) (3) _ aA kN.nd rfl aq (@bM _ _ _ _ _ (4) _ _ _ _ _ y0 O5 (hr.mono (by decide)) rfl (@dj _ _ _ _ _ _ (pv 2) (@aP _ _ _ _ _ _ (@aG _ _ _ _ _) (@bu _ _) (by rfl)) (by rfl)) rfl (by decide) (by rfl) (by rfl)) rfl aq)
    refine(@aN _ _ _ _ _ _ ?_ ?_)
    ·refine(@cY _ _ _ _ _ _ _ _ _ ?_ ?_ ?_)
     ·exact(@cT _ _ _ _ _ _ _ _ _ _ (ik hq) iu (@bM _ _ _ _ _ (2) _ _ _ _ _ cz dR (hr.mono (by decide)) rfl (@dj _ _ _ _ _ _ (pv 2) (@aP _ _ _ _ _ _ (@aG _ _ _ _ _) (@bu _ _) (by rfl)) (by rfl)) rfl (by decide) (by rfl) (by rfl)) (@aC _ _ _ _ (@aG _ _ _ _ _)) (cQ _))
     ·refine(@a0 _ _ _ _ ?_);exact(@bP _ _ _ _ _ _ ([]) (3) _ aA kN.nd rfl aq (@bM _ _ _ _ _ (3) _ _ _ _ _ y1 O7 (hr.mono (by decide)) rfl (@dj _ _ _ _ _ _ (pv 2) (@bu _ _) (by rfl)) rfl (by decide) (by rfl) (by rfl)) rfl aq)
     ·exact cX
    refine(@aN _ _ _ _ _ _ ?_ ?_)
    ·exact(@bP _ _ _ _ _ _ ([]) (4) _ aA kN.nd rfl aq (jU (k:=6) y2 ft Pk (hr.mono (by decide)) rfl (@aP _ _ _ _ _ _ (@aH _ _ _ _ (pv 3)) (@bu _ _) (by rfl)) rfl) rfl aq)
    refine(@aN _ _ _ _ _ _ ?_ ?_)
    ·refine(@cY _ _ _ _ _ _ _ _ _ ?_ ?_ ?_)
     ·exact(@cT _ _ _ _ _ _ _ _ _ _ (pW hq) qb (@sF _ _ _ _ _ _ _ _ _ _ AB Dm (@aH _ _ _ _ (pv 4)) (@aC _ _ _ _ (@jL _ _ _ _)) rfl) (@aC _ _ _ _ (@sF _ _ _ _ _ _ _ _ _ _ uJ wX (jU (k:=5) oJ ft EF (hr.mono (by decide)) rfl (@aP _ _ _ _ _ _ (@aH _ _ _ _ (pv 3)) (@bu _ _) (by rfl)) rfl) (@aC _ _ _ _ (@jL _ _ _ _)) rfl)) (cQ _))
     ·refine(@a0 _ _ _ _ ?_);refine(@bQ _ _ _ _ _ ?_);exact(@eS _ _ _ _ _)
     ·exact cX
    refine(@aN _ _ _ _ _ _ ?_ ?_)
    ·refine(@cY _ _ _ _ _ _ _ _ _ ?_ ?_ ?_)
     ·exact(@gR _ _ _ _ (@p9 _ _ _ _ _ _ _ _ (@cT _ _ _ _ _ _ _ _ _ _ uJ wX (@aH _ _ _ _ (pv 4)) (@aC _ _ _ _ (@jL _ _ _ _)) rfl) (@p8 _ _ _ _ _ (@gR _ _ _ _ (@iQ _ _ _ _ _ _ _ _ (@jO _ _ _ _ _ (@jh _ _ _ _ (@bM _ _ _ _ _ (4) _ _ _ _ _ ue EK (hr.mono (by decide)) rfl (@aP _ _ _ _ _ _ (@aH _ _ _ _ (pv 3)) (@aP _ _ _ _ _ _ (@aH _ _ _ _ (pv 4)) (@bu _ _) (by rfl)) (by rfl)) rfl (by decide) (by rfl) (by rfl)) (by intro _; rfl))) (@kn _ _ _ _ _ (@cT _ _ _ _ _ _ _ _ _ _ MW (MX true) (jU (k:=5) ud ft EI (hr.mono (by decide)) rfl (@aP _ _ _ _ _ _ (@aH _ _ _ _ (pv 3)) (@aP _ _ _ _ _ _ (@aH _ _ _ _ (pv 4)) (@bu _ _) (by rfl)) (by rfl)) rfl) (@aC _ _ _ _ (@eS _ _ _ _ _)) rfl)))))))
     ·refine(@a0 _ _ _ _ ?_);refine(@bQ _ _ _ _ _ ?_);exact(@eS _ _ _ _ _)
     ·exact cX
    refine(@a0 _ _ _ _ ?_);refine(@gA _ _ _ _ _ _ _ _ _ PassesOwn.never rfl ?_ ?_ ?_ (by intro _; rfl))
    ·exact(@lq _ _ _ _ _ _ _ rfl T.i6 (@aG _ _ _ _ _) (by rfl))
    ·exact(@cf _ _ _ ([]) (5) _ aA kN.nd rfl aq aq)
    ·refine(@aN _ _ _ _ _ _ ?_ ?_)
     ·exact(@bP _ _ _ _ _ _ ([]) (6) _ aA kN.nd rfl aq (@bM _ _ _ _ _ (3) _ _ _ _ _ y3 PN (hr.mono (by decide)) rfl (@aP _ _ _ _ _ _ (@aH _ _ _ _ (pv 3)) (@dj _ _ _ _ _ _ (pv 2) (@bu _ _) (by rfl)) (by rfl)) rfl (by decide) (by rfl) (by rfl)) rfl aq)
     refine(@aN _ _ _ _ _ _ ?_ ?_)
     ·exact(@bP _ _ _ _ _ _ ([]) (7) _ aA kN.nd rfl aq (jU (k:=5) ud ft EI (hr.mono (by decide)) rfl (@aP _ _ _ _ _ _ (@aH _ _ _ _ (pv 3)) (@aP _ _ _ _ _ _ (@aH _ _ _ _ (pv 6)) (@bu _ _) (by rfl)) (by rfl)) rfl) rfl aq)
     refine(@a0 _ _ _ _ ?_);refine(@cY _ _ _ _ _ _ _ _ _ ?_ ?_ ?_)
     ·exact(@gR _ _ _ _ (@iQ _ _ _ _ _ _ _ _ (@jO _ _ _ _ _ (@jh _ _ _ _ (@jP _ _ _ _ _ _ _ _ _ T.ty_bool rfl T.g8 rfl T.nh boot_bool (@aX _ _ _ _ (pv 7)) (by decide) (by decide) (by rfl) (by rfl)) (by intro _; rfl))) (@kn _ _ _ _ _ (@km _ _ _ _ _ _ _ _ _ _ (pW hq) qb (pv 7) (@aC _ _ _ _ (@bM _ _ _ _ _ (4) _ _ _ _ _ ue EK (hr.mono (by decide)) rfl (@aP _ _ _ _ _ _ (@aH _ _ _ _ (pv 3)) (@aP _ _ _ _ _ _ (@aH _ _ _ _ (pv 6)) (@bu _ _) (by rfl)) (by rfl)) rfl (by decide) (by rfl) (by rfl))) (cQ _)))))
     ·refine(@a0 _ _ _ _ ?_);refine(@bQ _ _ _ _ _ ?_);exact(@eS _ _ _ _ _)
     ·exact cX
  refine(@a0 _ _ _ _ ?_);refine(@bQ _ _ _ _ _ ?_);exact(@eS _ _ _ _ _)) λss y h=>di h
theorem all_mk {l:PySem.W.OpenLaw} {w:Wp} {K:W1} {h:Heap} {mg:Str->Option Value} {fa:Addr} (X:K.In h) (G:h.Ns Ws mg) (xE:mg "law" = some (.ref fa))
  (d0:du K "_law_cell_at" xP)
  (d1:du K "_law_pen_of" xQ)
  (d2:du K "_law_next" xR)
  (d3:du K "_law_draw" xS)
  (d4:du K "_law_sizes_by" xT)
  (d5:du K "_law_pick" xU)
  (d6:du K "_law_rule_by" xV)
  (d7:du K "_law_ring" xW)
  (d8:du K "rule_tiles" xX)
  (d9:du K "tiles_grown" xY)
  (y4:du K "walked" xZ)
  (nV:nsIn K Ws "tile_sets" = some (some (.ref f11)))
  (uf:K.lookup f11=some ⟨oc11,od11,.func (WZ "tile_sets" "tile_sets" (gL jV) (dY jV) (bc jV) .none kV11 dc11 pm11 an11 (.ref qQ) ct11),sl11⟩)
  (y6:codeIn K (.ref qQ) "tile_sets" = true)
  (y8:keepIn K (.ref f11)=true)
  (dT:Jb K qQ df=true)
  (gT:(Ws == df)=false)
  (y9:du K "mixing_time" x6)
  (y_:du K "refuse_no_tile" x8)
  (zb:du K "comes_after" x9)
  (zc:du K "why_unmixed" x_)
  (zd:du K "whole_from" ya)
  (ze:du K "whole_within" yb)
  (zf:du K "unmixed_good" yc)
  (zg:du K "common_divisor" yd)
  (zh:du K "unmixed_holds" ye)
  (zi:du K "_law_whole" yf)
  (zj:du K "_law_next_tiles" yg)
  (zk:du K "_law_walk" yh)
  (zl:du K "_law_never" yi)
  (zm:du K "_law_due" yj)
  (zo:du K "_law_by_anybody" yk)
  (zq:nsIn K Ws "law" = some (some (.ref f27)))
  (zr:K.lookup f27=some ⟨oc27,od27,.func (WZ "law" "law" (gL kI) (dY kI) (bc kI) .none kV27 dc27 pm27 an27 cd27 ct27),sl27⟩)
  (zt:codeIn K cd27 "law" = true)
  (zu:keepIn K (.ref f27)=true)
  (qO:nsIn K Ws "abs" = some none)
  (nh:nsIn K Ws "bool" = some none)
  (ni:nsIn K Ws "dict" = some none)
  (oE:nsIn K Ws "enumerate" = some none)
  (nj:nsIn K Ws "int" = some none)
  (g8:nsIn K Ws "isinstance" = some none)
  (fI:nsIn K Ws "len" = some none)
  (nk:nsIn K Ws "list" = some none)
  (oF:nsIn K Ws "max" = some none)
  (i6:nsIn K Ws "range" = some none)
  (qP:nsIn K Ws "set" = some none)
  (nq:nsIn K Ws "sorted" = some none)
  (nr:nsIn K Ws "str" = some none)
  (kJ:nsIn K Ws "tuple" = some none)
  : (∃ c,Jb K c df=true)/\∃ fd:WM,(∀ (s:W2) (v:Value),BindsTo s fd ⟨[v],[]⟩ [("script",v)])/\∀ base:Heap,K.In base->base.Ns Ws mg->base.BuiltinsAt mg df->gJ l.prog w K mg base dG 7 fa fd ["script"] (mZ [(df,fR,fS)] 1 nD):=by
 have e:=xE.symm.trans (mg_of X G zq)
 cases e;have T:Txt K mg:=⟨WH X G qO,WH X G nh,WH X G ni,WH X G oE,WH X G nj,WH X G g8,WH X G fI,WH X G nk,WH X G oF,WH X G i6,WH X G qP,WH X G nq,WH X G nr,WH X G kJ,LZ,LY,L4,L5⟩
 obtain⟨f0,fd0,F0,m0⟩:=dz X G d0;obtain⟨f1,fd1,F1,m1⟩:=dz X G d1;obtain⟨f2,fd2,F2,m2⟩:=dz X G d2;obtain⟨f3,fd3,F3,m3⟩:=dz X G d3;obtain⟨f4,fd4,F4,m4⟩:=dz X G d4;obtain⟨f5,fd5,F5,m5⟩:=dz X G d5;obtain⟨f6,fd6,F6,m6⟩:=dz X G d6;obtain⟨f7,fd7,F7,m7⟩:=dz X G d7;obtain⟨f8,fd8,F8,m8⟩:=dz X G d8;obtain⟨f9,fd9,F9,m9⟩:=dz X G d9;obtain⟨f10,fd10,F10,m10⟩:=dz X G y4;have EL:=vg (st:=jV) uf y6 y8;have PU:=mg_of X G nV;obtain⟨f12,fd12,F12,m12⟩:=dz X G y9;obtain⟨f13,fd13,F13,m13⟩:=dz X G y_;obtain⟨f14,fd14,F14,m14⟩:=dz X G zb;obtain⟨f15,fd15,F15,m15⟩:=dz X G zc;obtain⟨f16,fd16,F16,m16⟩:=dz X G zd;obtain⟨f17,fd17,F17,m17⟩:=dz X G ze;obtain⟨f18,fd18,F18,m18⟩:=dz X G zf;obtain⟨f19,fd19,F19,m19⟩:=dz X G zg;obtain⟨f20,fd20,F20,m20⟩:=dz X G zh;obtain⟨f21,fd21,F21,m21⟩:=dz X G zi;obtain⟨f22,fd22,F22,m22⟩:=dz X G zj;obtain⟨f23,fd23,F23,m23⟩:=dz X G zk;obtain⟨f24,fd24,F24,m24⟩:=dz X G zl;obtain⟨f25,fd25,F25,m25⟩:=dz X G zm;obtain⟨f26,fd26,F26,m26⟩:=dz X G zo;have PX:=vg (st:=kI) zr zt zu;refine⟨⟨_,dT⟩,WZ "law" "law" (gL kI) (dY kI) (bc kI) .none kV27 dc27 pm27 an27 cd27 ct27,λs v=>.of_eq rfl,λbase _ _ tT=>?_⟩;have yY:=OV (P:=l.prog) (w:=w) (base:=base) F0 m0 (gb F0 λ_ _ _ _ _ _ _ _=>rfl) T;have yZ:=OX (P:=l.prog) (w:=w) (base:=base) F1 m1 (lE F1 λ_ _ _ _ _ _ _=>rfl) T;have t4:=OY (P:=l.prog) (w:=w) (base:=base) F2 m2 (lE F2 λ_ _ _ _ _ _ _=>rfl) T;have cz:=OZ F3 m3 (gb F3 λ_ _ _ _ _ _ _ _=>rfl) T t4;have yt:=O1 F4 m4 (lE F4 λ_ _ _ _ _ _ _=>rfl) T cz;have yu:=O4 F5 m5 (M9 F5 λ_ _ _ _ _ _ _ _ _ _=>rfl) T cz;have y0:=O6 F6 m6 (gb F6 λ_ _ _ _ _ _ _ _=>rfl) T cz yt yu;have y1:=O8 F7 m7 (lE F7 λ_ _ _ _ _ _ _=>rfl) T cz;have i8:=O9 (P:=l.prog) (w:=w) (base:=base) F8 m8 (lE F8 λ_ _ _ _ _ _ _=>rfl) T;have t9:=O_ (P:=l.prog) (w:=w) (base:=base) F9 m9 (gb F9 λ_ _ _ _ _ _ _ _=>rfl) T;have yA:=Pa (P:=l.prog) (w:=w) (base:=base) F10 m10 (gb F10 λ_ _ _ _ _ _ _ _=>rfl) T;have i9:=Pb EL PU (gb EL λ_ _ _ _ _ _ _ _=>rfl) T ⟨_,_,_,_,_,_,_,_,uf⟩ dT (λz=>by rw[z] at gT; simp at gT) tT t9 yA;have oJ:=Pd F12 m12 (lE F12 λ_ _ _ _ _ _ _=>rfl) T i8 i9;have yE:=Pg (P:=l.prog) (w:=w) (base:=base) F13 m13 (gb F13 λ_ _ _ _ _ _ _ _=>rfl) T;have yF:=Pj F14 m14 (gb F14 λ_ _ _ _ _ _ _ _=>rfl) T i8 i9 yE;have y2:=Pl F15 m15 (lE F15 λ_ _ _ _ _ _ _=>rfl) T i8 i9 oJ yF;have oK:=Pn (P:=l.prog) (w:=w) (base:=base) F16 m16 (gb F16 λ_ _ _ _ _ _ _ _=>rfl) T;have yJ:=Pq F17 m17 (M8 F17 λ_ _ _ _ _ _ _ _ _=>rfl) T oK;have yL:=Pt F18 m18 (gb F18 λ_ _ _ _ _ _ _ _=>rfl) T i8 oK yJ;have yM:=Pw (P:=l.prog) (w:=w) (base:=base) F19 m19 (gb F19 λ_ _ _ _ _ _ _ _=>rfl) T;have ud:=Px F20 m20 (gb F20 λ_ _ _ _ _ _ _ _=>rfl) T i9 yL yM;have ub:=Pz (P:=l.prog) (w:=w) (base:=base) F21 m21 (lE F21 λ_ _ _ _ _ _ _=>rfl) T;have yS:=PD (P:=l.prog) (w:=w) (base:=base) F22 m22 (gb F22 λ_ _ _ _ _ _ _ _=>rfl) T;have yU:=PH F23 m23 (gb F23 λ_ _ _ _ _ _ _ _=>rfl) T yS;have yW:=PL F24 m24 (M_ F24 λ_ _ _ _ _ _ _ _ _ _ _=>rfl) T yU;have ue:=PM F25 m25 (gb F25 λ_ _ _ _ _ _ _ _=>rfl) T ub yW;have y3:=PQ F26 m26 (gb F26 λ_ _ _ _ _ _ _ _=>rfl) T cz;exact PR PX T yY yZ cz y0 y1 oJ y2 ud ue y3
open PySem (sizeLine)
def eL(bs:List (Nat×List Tx))(n:Nat):List Tx:=((bs.find? λb=>decide (b.1=n)).map (·.2)).getD []
theorem oP(h:n ∈ bs.map (·.1)):∃ b ∈ bs,b.1=n/\(bs.find? λb=>decide (b.1=n))=some b/\eL bs n=b.2:=by
 cases e:bs.find? λb=>decide (b.1=n) with
 | none =>
  obtain⟨b,hb,rfl⟩:=WD.mp h;have:=List.find?_eq_none.mp e b hb;simp at this
 | some b =>
  have h1:=List.mem_of_find?_eq_some e;have h2:=List.find?_some e;refine⟨b,h1,by simpa using h2,rfl,?_⟩;unfold eL;rw[e];rfl
theorem PY(R:da h w bs):(bs.map (·.1)).Nodup:=R.up.imp λh=>Wr h
theorem qU:∀ {z σ:List Nat},x ∈ de σ z ↔ x ∈ σ\/x ∈ z
 | [],σ=>by simp[de]
 | n :: r,σ=>by
  unfold de;split
  ·rename_i h;rw[qU (z:=r)];constructor
   ·rintro (q | q)
    ·exact .inl q
    ·exact .inr (Wh _ q)
   ·rintro (q | q)
    ·exact .inl q
    ·rcases We.mp q with q | q
     ·exact .inl (by rw[q]; exact h)
     ·exact .inr q
  ·rw[qU (z:=r)];simp[or_assoc]
theorem ug:∀ {z σ:List Nat},σ.Nodup->(de σ z).Nodup
 | [],σ,h=>by simpa[de] using h
 | n :: r,σ,h=>by
  unfold de;split
  ·exact ug h
  ·rename_i q;refine ug (Jq.mpr ⟨h,by simp,λa ha b hb e=>q ?_⟩);have:b=n:=by simpa using hb
   rw[<- this,<- e]; exact ha
def iK(z:Tx):Tx:=eV (de [] z)
theorem uh{x:Nat}{z:Tx}:x ∈ iK z ↔ x ∈ z:=by unfold iK; rw[qG,qU]; simp
theorem zv(z:Tx):(iK z).Pairwise (· < ·):=tQ (ug List.nodup_nil)
theorem oQ:∀ {a b:List Nat},a.Pairwise (· < ·)->b.Pairwise (· < ·)->(∀ x,x ∈ a ↔ x ∈ b)->a=b
 | [],[],_,_,_=>rfl
 | [],y :: b,_,_,h=>by have:=(h y).mpr Wl; cases this
 | x :: a,[],_,_,h=>by have:=(h x).mp Wl; cases this
 | x :: a,y :: b,ha,hb,h=>by
  obtain⟨a1,a2⟩:=Qn.mp ha;obtain⟨b1,b2⟩:=Qn.mp hb;have e:x=y:=by
   rcases We.mp ((h x).mp Wl) with q | q
   ·exact q
   ·rcases We.mp ((h y).mpr Wl) with p | p
    ·exact p.symm
    ·have:=a1 y p;have:=b1 x q;omega
  subst e;congr 1
  refine oQ a2 b2 λz=>?_
  constructor
  ·intro hz;rcases We.mp ((h z).mp (Wh _ hz)) with q | q
   ·have:=a1 z hz; omega
   ·exact q
  ·intro hz;rcases We.mp ((h z).mpr (Wh _ hz)) with q | q
   ·have:=b1 z hz; omega
   ·exact q
theorem qV{a:List Nat}(h:a.Pairwise (· < ·)):a.Nodup:=h.imp λh=>Wr h
theorem kO:∀ {l ts:List Nat},l.Nodup->(∀ x ∈ l,x ∈ ts)->l.length<=ts.length
 | [],_,_,_=>Qf _
 | a :: r,ts,nd,h=>by
  obtain⟨n1,n2⟩:=WP.mp nd;have ha:=h a Wl;have:=kO (l:=r) (ts:=ts.erase a) n2 λx hx=>by
   have:x≠a:=λe=>n1 (by rw[<- e]; exact hx)
   exact(List.mem_erase_of_ne this).mpr (h x (Wh _ hx))
  rw[List.length_erase_of_mem ha] at this;have:=List.length_pos_of_mem ha;simp;omega
theorem qW:∀ {l ts:List Tx},l.Nodup->(∀ x ∈ l,x ∈ ts)->l.length<=ts.length
 | [],_,_,_=>Qf _
 | a :: r,ts,nd,h=>by
  obtain⟨n1,n2⟩:=WP.mp nd;have ha:=h a Wl;have:=qW (l:=r) (ts:=ts.erase a) n2 λx hx=>by
   have:x≠a:=λe=>n1 (by rw[<- e]; exact hx)
   exact(List.mem_erase_of_ne this).mpr (h x (Wh _ hx))
  rw[List.length_erase_of_mem ha] at this;have:=List.length_pos_of_mem ha;simp;omega
def tx(bs:List (Nat×List Tx))(n:Nat):Tx:=iK (eL bs n).flatten
def fq(bs:List (Nat×List Tx))(S:Tx):Tx:=iK (S.flatMap (tx bs))
def sq(bs:List (Nat×List Tx))(t:Nat):Nat->Tx
 | 0=>[t]
 | k + 1=>fq bs (sq bs t k)
theorem jx{bs:List (Nat×List Tx)}{S:Tx}{x:Nat}:x ∈ fq bs S ↔ ∃ y ∈ S,x ∈ (eL bs y).flatten:=by
 unfold fq;rw[uh,List.mem_flatMap];unfold tx;constructor
 ·rintro ⟨y,h1,h2⟩; exact⟨y,h1,uh.mp h2⟩
 ·rintro ⟨y,h1,h2⟩; exact⟨y,h1,uh.mpr h2⟩
theorem jZ(bs:List (Nat×List Tx))(t:Nat):∀ k,(sq bs t k).Pairwise (· < ·)
 | 0=>by simp[sq]
 | k + 1=>zv _
theorem oR{h w n x:Nat}{bs:List (Nat×List Tx)}(R:da h w bs)(hn:n ∈ bs.map (·.1))(hx:x ∈ (eL bs n).flatten):x ∈ bs.map (·.1):=by
 obtain⟨b,hb,_,_,e⟩:=oP hn;rw[e] at hx;obtain⟨r,hr,hx⟩:=List.mem_flatten.mp hx;exact((R.eL b hb).2 r hr).2 x hx
theorem jy{h w t:Nat}{bs:List (Nat×List Tx)}(R:da h w bs)(ht:t ∈ bs.map (·.1)):∀ k,∀ x ∈ sq bs t k,x ∈ bs.map (·.1)
 | 0,x,hx=>by
  have:x=t:=by simpa[sq] using hx
  rw[this]; exact ht
 | k + 1,x,hx=>by
  obtain⟨y,hy,hx⟩:=jx.mp hx;exact oR R (jy R ht k y hy) hx
theorem zw{h w t:Nat}{bs:List (Nat×List Tx)}(R:da h w bs)(ht:t ∈ bs.map (·.1))(k:Nat):(sq bs t k).length<=bs.length:=by
 have:=kO (qV (jZ bs t k)) (jy R ht k);simpa using this
theorem EM{P:Nat->Prop}[DecidablePred P]:∀ i,P i->∃ j,j<=i/\P j/\∀ k,k < j->¬ P k
 | 0,h=>⟨0,W8 _,h,λk hk=>absurd hk (Nat.not_lt_zero _)⟩
 | i + 1,h=>by
  by_cases q:∃ k,k < i + 1/\P k
  ·obtain⟨k,hk,hp⟩:=q;obtain⟨j,a,b,c⟩:=EM k hp;exact⟨j,by omega,b,c⟩
  ·exact⟨i + 1,W8 _,h,λk hk hp=>q ⟨k,hk,hp⟩⟩
 termination_by i=>i
theorem EO{h w t:Nat}{bs:List (Nat×List Tx)}(R:da h w bs)(ht:t ∈ bs.map (·.1)):∀ (i x:Nat),x ∈ sq bs t i->(∀ k,k < i->x ∉ sq bs t k)->∃ l:List Nat,l.length=i + 1/\l.Nodup/\(∀ y ∈ l,y ∈ bs.map (·.1))/\∀ y ∈ l,∃ j,j<=i/\y ∈ sq bs t j
 | 0,x,hx,_=>⟨[x],rfl,by simp,λy hy=>by
   have:y=x:=by simpa using hy
   rw[this]; exact jy R ht 0 x hx,λy hy=>by
   have:y=x:=by simpa using hy
   rw[this]; exact⟨0,W8 _,hx⟩⟩
 | i + 1,x,hx,hn=>by
  obtain⟨y,hy,sC⟩:=jx.mp hx;have fy:∀ k,k < i->y ∉ sq bs t k:=λk hk PZ=>hn (k + 1) (by omega) (jx.mpr ⟨y,PZ,sC⟩)
  obtain⟨l,l1,l2,l3,l4⟩:=EO R ht i y hy fy;refine⟨x :: l,by simp[l1],WP.mpr ⟨λj6=>?_,l2⟩,λz hz=>?_,λz hz=>?_⟩
  ·obtain⟨j,hj,hxj⟩:=l4 x j6;exact hn j (by omega) hxj
  ·rcases We.mp hz with rfl | hz
   ·exact jy R ht (i + 1) z hx
   ·exact l3 z hz
  ·rcases We.mp hz with rfl | hz
   ·exact⟨i + 1,W8 _,hx⟩
   ·obtain⟨j,hj,q⟩:=l4 z hz;exact⟨j,by omega,q⟩
theorem P0{h w t:Nat}{bs:List (Nat×List Tx)}(R:da h w bs)(ht:t ∈ bs.map (·.1)){x i:Nat}(hx:x ∈ sq bs t i):∃ j,j < bs.length/\x ∈ sq bs t j:=by
 obtain⟨j,_,hj,hm⟩:=EM (P:=λi=>x ∈ sq bs t i) i hx;obtain⟨l,l1,l2,l3,_⟩:=EO R ht j x hj hm;have:=kO l2 l3;rw[l1] at this;exact⟨j,by simp at this; omega,hj⟩
def dS(S:Nat->Tx)(x m:Nat):Option Nat:=(Wf m).find? λi=>decide (x ∈ S i)
theorem P1(S:Nat->Tx)(x m:Nat):dS S x (m + 1)=match dS S x m with
  | some i=>some i
  | none=>if x ∈ S m then some m else none:=by
 unfold dS;rw[QP,List.find?_append]
 cases (Wf m).find? λi=>decide (x ∈ S i) with
 | some i=>rfl
 | none =>
  by_cases h:x ∈ S m <;> simp[h]
theorem ER{F:D->Option D}{S:Nat->Tx}{L:List Tx}(hL:∀ k,S k ∈ L)(hF:∀ k,F (.str (S k))=some (.str (S (k + 1)))):∀ (n m:Nat),((Wf m).map S).Nodup->L.length + 1<=n + m->1<=n ->
  ∃ M s,wk F n ((Wf m).map S) (S m)=some ((Wf M).map S,s)/\s < M/\S M=S s/\M<=L.length/\((Wf M).map S).Nodup
 | 0,m,_,_,h=>by omega
 | n + 1,m,nd,hl,_=>by
  have hs:=qW nd (ts:=L) λx hx=>by
   obtain⟨i,_,rfl⟩:=WD.mp hx;exact hL i
  simp at hs;unfold wk;by_cases h:S m ∈ (Wf m).map S
  ·rw[if_pos h];have hi:=List.idxOf_lt_length_of_mem h;have e:=List.getElem_idxOf hi;refine⟨m,_,rfl,by simpa using hi,?_,hs,nd⟩;simp only[List.getElem_map,List.getElem_range] at e;exact e.symm
  ·rw[if_neg h,hF m];have e:(Wf m).map S ++ [S m]=(Wf (m + 1)).map S:=by rw[QP,WY]; rfl
   simp only[e];have fZ:((Wf (m + 1)).map S).Nodup:=by
    rw[<- e];exact Jq.mpr ⟨nd,by simp,λa ha b hb q=>h (by
     have:b=S m:=by simpa using hb
     rw[<- this,<- q]; exact ha)⟩
   have iO:=qW fZ (ts:=L) λx hx=>by
    obtain⟨i,_,rfl⟩:=WD.mp hx;exact hL i
   simp at iO;exact ER hL hF n (m + 1) fZ (by omega) (by omega)
theorem zx{S:Nat->Tx}{M s:Nat}(hS:∀ i j,S i=S j->S (i + 1)=S (j + 1))(hs:s < M)(e:S M=S s):∀ k,∃ j,j < M/\S k=S j
 | k=>by
  by_cases h:k < M
  ·exact⟨k,h,rfl⟩
  ·have sh:∀ d,S (M + d)=S (s + d):=λd=>by
    induction d with
    | zero=>exact e
    | succ d ih=>exact hS _ _ ih
   obtain⟨j,hj,ej⟩:=zx hS hs e (s + (k - M));refine⟨j,hj,?_⟩;rw[<- ej,<- sh,show M + (k - M)=k by omega]
 termination_by k=>k
 decreasing_by omega
def jz:List Nat->List Tx
 | []=>[[]]
 | a :: r=>jz r ++ (jz r).map (a :: ·)
theorem ES:∀ l:List Nat,(jz l).length=2 ^ l.length
 | []=>rfl
 | a :: r=>by
  show(jz r ++ (jz r).map (a :: ·)).length=_;rw[Q2,WA,ES r,WS,Nat.pow_succ];omega
theorem zy(p:Nat->Bool):∀ l:List Nat,l.filter p ∈ jz l
 | []=>by simp[jz]
 | a :: r=>by
  show _ ∈ jz r ++ (jz r).map (a :: ·)
  cases h:p a with
  | true =>
   rw[List.filter_cons_of_pos h];exact WJ _ (WD.mpr ⟨_,zy p r,rfl⟩)
  | false =>
   rw[List.filter_cons_of_neg (by simp[h])];exact List.mem_append_left _ (zy p r)
theorem P2{S ts:List Nat}(h1:S.Pairwise (· < ·))(h2:ts.Pairwise (· < ·))(h:∀ x ∈ S,x ∈ ts):S ∈ jz ts:=by
 have:S=ts.filter λx=>decide (x ∈ S):=oQ h1 (h2.filter _) λx=>by
  rw[List.mem_filter];constructor
  ·intro hx; exact⟨h x hx,by simpa using hx⟩
  ·intro hx; simpa using hx.2
 rw[this];exact zy _ ts
structure fu(h w:Nat)(bs:List (Nat×List Tx)):Prop where
 R:da h w bs
 fin:∀ t ∈ bs.map (·.1),∃ L:List Tx,L.length<=64/\∀ k,sq bs t k ∈ L
 len:∀ n ∈ bs.map (·.1),(tx bs n).length * bs.length < 64
theorem P4(bs:List (Nat×List Tx))(n:Nat):(tx bs n).Pairwise (· < ·):=zv _
theorem P5{h w n:Nat}{bs:List (Nat×List Tx)}(R:da h w bs)(hn:n ∈ bs.map (·.1)){x:Nat}(hx:x ∈ tx bs n):x ∈ bs.map (·.1):=oR R hn (uh.mp hx)
theorem P6{h w n:Nat}{bs:List (Nat×List Tx)}(R:da h w bs)(hn:n ∈ bs.map (·.1)):(tx bs n).length<=bs.length:=by
 have:=kO (qV (P4 bs n)) λx hx=>P5 R hn hx
 simpa using this
theorem ET{h w:Nat}{bs:List (Nat×List Tx)}(R:da h w bs)(h6:bs.length<=6):fu h w bs:=by
 refine⟨R,λt ht=>⟨jz (bs.map (·.1)),?_,λk=>P2 (jZ bs t k) R.up (jy R ht k)⟩,λn hn=>?_⟩
 ·rw[ES,WA];exact WU (Nat.pow_le_pow_right (by decide) h6) (by decide)
 ·have:=P6 R hn;have:=JK this (W8 bs.length);have:=JK h6 h6;omega
theorem EU{bs:List (Nat×List Tx)}{t j:Nat}(e:sq bs t (j + 1)=sq bs t j):∀ d,sq bs t (j + d)=sq bs t j
 | 0=>rfl
 | d + 1=>by
  have:=EU e d;show fq bs (sq bs t (j + d))=_;rw[this];exact e
theorem P7{h w:Nat}{bs:List (Nat×List Tx)}(G:fu h w bs):∀ S:Tx,(∀ n ∈ S,n ∈ bs.map (·.1))->S.length<=bs.length->(S.flatMap (tx bs)).length < 64:=by
 have n0:=G.R.n0;have key:∀ (c:Nat) (S:Tx),(∀ n ∈ S,n ∈ bs.map (·.1))->(∀ n ∈ bs.map (·.1),(tx bs n).length<=c)->(S.flatMap (tx bs)).length<=c * S.length:=λc S=>by
  induction S with
  | nil=>intro _ _; simp
  | cons a r ih =>
   intro h1 h2;have:=ih (λn hn=>h1 n (Wh _ hn)) h2;have:=h2 a (h1 a Wl);simp only[List.flatMap_cons,Q2,WS,Nat.mul_add,Nat.mul_one];omega
 intro S h1 h2;have hc:∀ n ∈ bs.map (·.1),(tx bs n).length<=63 / bs.length:=λn hn=>by
  have:=G.len n hn;exact(Nat.le_div_iff_mul_le n0).mpr (by omega)
 have a:=key _ S h1 hc;have b:=JK (W8 (63 / bs.length)) h2;have c:=Nat.div_mul_le_self 63 bs.length;omega
theorem lP(bs:List (Nat×List Tx))(t a x:Nat):∀ b,x ∈ sq bs t (a + b) ↔ ∃ y ∈ sq bs t a,x ∈ sq bs y b:=λb=>by
 induction b generalizing x with
 | zero =>
  constructor
  ·intro h; exact⟨x,h,by simp[sq]⟩
  ·rintro ⟨y,h1,h2⟩;have:x=y:=by simpa[sq] using h2
   rw[this]; exact h1
 | succ b ih =>
  show x ∈ fq bs (sq bs t (a + b)) ↔ ∃ y ∈ sq bs t a,x ∈ fq bs (sq bs y b);rw[jx];constructor
  ·rintro ⟨z,h1,h2⟩;obtain⟨y,h3,h4⟩:=(ih z).mp h1;exact⟨y,h3,jx.mpr ⟨z,h4,h2⟩⟩
  ·rintro ⟨y,h1,h2⟩;obtain⟨z,h3,h4⟩:=jx.mp h2;exact⟨z,(ih z).mpr ⟨y,h1,h3⟩,h4⟩
theorem zA{bs:List (Nat×List Tx)}{t a b:Nat}(e:sq bs t a=sq bs t b):∀ c,sq bs t (a + c)=sq bs t (b + c)
 | 0=>e
 | c + 1=>by
  show fq bs (sq bs t (a + c))=fq bs (sq bs t (b + c));rw[zA e c]
section
variable {h w t:Nat} {bs:List (Nat×List Tx)} (R:da h w bs) (ht:t ∈ bs.map (·.1))
include R ht
theorem qX(k:Nat):sq bs t k=bs.map (·.1) ↔ ∀ n ∈ bs.map (·.1),n ∈ sq bs t k:=by
 constructor
 ·intro e n hn; rw[e]; exact hn
 ·intro hf;exact oQ (jZ bs t k) R.up λx=>⟨λhx=>jy R ht k x hx,hf x⟩
theorem EV(k:Nat):sq bs t k=bs.map (·.1) ↔ bs.length<=(sq bs t k).length:=by
 constructor
 ·intro e; rw[e]; simp
 ·intro hl;refine(qX R ht k).mpr λn hn=>?_
  by_cases q:n ∈ sq bs t k
  ·exact q
  ·exfalso
   have:=kO (l:=n :: sq bs t k) (ts:=bs.map (·.1)) (WP.mpr ⟨q,qV (jZ bs t k)⟩) λy hy=>by
    rcases We.mp hy with rfl | hy
    ·exact hn
    ·exact jy R ht k y hy
   simp at this;omega
omit ht in
theorem EW{n:Nat}(hn:n ∈ bs.map (·.1)):∃ x,x ∈ (eL bs n).flatten:=by
 obtain⟨b,hb,_,_,e⟩:=oP hn;obtain⟨h1,h2⟩:=R.eL b hb;have h0:=R.h0;have w0:=R.w0;have i:0 < b.2.length:=by omega
 have hr:=(h2 _ (Qc i)).1;have j:0 < (b.2[0]).length:=by omega
 exact⟨(b.2[0])[0],by rw[e]; exact List.mem_flatten.mpr ⟨_,Qc i,Qc j⟩⟩
theorem ui{k:Nat}(hf:sq bs t k=bs.map (·.1)):sq bs t (k + 1)=bs.map (·.1):=by
 have hm:=(qX R ht k).mp hf;refine(qX R ht (k + 1)).mpr λn hn=>?_
 cases k with
 | zero =>
  have one:∀ n ∈ bs.map (·.1),n=t:=λn hn=>by simpa[sq] using hm n hn
  obtain⟨x,hx⟩:=EW R ht;have:x=n:=by rw[one x (oR R ht hx),one n hn]
  exact jx.mpr ⟨t,by simp[sq],by rw[<- this]; exact hx⟩
 | succ k =>
  obtain⟨y,h1,h2⟩:=jx.mp (hm n hn);exact jx.mpr ⟨y,hm y (jy R ht k y h1),h2⟩
theorem EX{k:Nat}(hf:sq bs t k=bs.map (·.1)):∀ d,sq bs t (k + d)=bs.map (·.1)
 | 0=>hf
 | d + 1=>ui R ht (EX hf d)
theorem zC{k m:Nat}(hf:sq bs t k=bs.map (·.1))(hm:k<=m):sq bs t m=bs.map (·.1):=by
 have:=EX R ht hf (m - k);rw[show k + (m - k)=m by omega] at this;exact this
theorem P8{m:Nat}(hf:sq bs t m=bs.map (·.1)):sq bs t (bs.length * bs.length)=bs.map (·.1):=by
 have n0:=R.n0;have h1:t ∈ sq bs t (1 + m):=by
  have:=ui R ht hf;rw[Nat.add_comm,this]; exact ht
 obtain⟨y,hy,hm⟩:=(lP bs t 1 t m).mp h1;obtain⟨j,hj,hjm⟩:=P0 R (jy R ht 1 y hy) hm;have hs:t ∈ sq bs t (1 + j):=(lP bs t 1 t j).mpr ⟨y,hy,hjm⟩;generalize hS:1 + j=s at hs;have s1:1<=s:=by omega
 have sn:s<=bs.length:=by omega
 have up:∀ i,∀ x ∈ sq bs t (i * s),x ∈ sq bs t ((i + 1) * s):=λi x hx=>by
  rw[Jo,Nat.one_mul,Nat.add_comm];exact(lP bs t s x (i * s)).mpr ⟨t,hs,hx⟩
 have gr:∀ k,(∃ i,i < k/\sq bs t ((i + 1) * s)=sq bs t (i * s))\/k + 1<=(sq bs t (k * s)).length:=λk=>by
  induction k with
  | zero=>exact .inr (by simp[sq])
  | succ k ih =>
   rcases ih with ⟨i,hi,e⟩ | ih
   ·exact .inl ⟨i,by omega,e⟩
   ·by_cases e:sq bs t ((k + 1) * s)=sq bs t (k * s)
    ·exact .inl ⟨k,by omega,e⟩
    ·refine .inr ?_;have h1:=kO (qV (jZ bs t (k * s))) (up k);by_cases e2:(sq bs t ((k + 1) * s)).length=(sq bs t (k * s)).length
     ·exfalso
      apply e;refine oQ (jZ bs t _) (jZ bs t _) λx=>⟨λhx=>?_,up k x⟩
      by_cases hxk:x ∈ sq bs t (k * s)
      ·exact hxk
      ·have:=kO (l:=x :: sq bs t (k * s)) (ts:=sq bs t ((k + 1) * s)) (WP.mpr ⟨hxk,qV (jZ bs t _)⟩) λy hy=>by
        rcases We.mp hy with rfl | hy
        ·exact hx
        ·exact up k y hy
       simp at this;omega
     ·omega
 have key:∃ i,i<=bs.length/\sq bs t (i * s)=bs.map (·.1):=by
  rcases gr bs.length with ⟨i,hi,e⟩ | q
  ·refine⟨i,by omega,?_⟩;have P9:∀ d,sq bs t ((i + d) * s)=sq bs t (i * s):=λd=>by
    induction d with
    | zero=>rfl
    | succ d ih =>
     have:=zA ih s;rw[<- e,Jo i 1,Nat.one_mul,<- this];congr 1
     rw[<- Nat.add_assoc,Jo (i + d) 1,Nat.one_mul]
   rw[<- P9 m];refine zC R ht hf ?_;have:=JK (show m<=i + m by omega) s1;omega
  ·exact⟨bs.length,W8 _,(EV R ht _).mpr (by omega)⟩
 obtain⟨i,hi,e⟩:=key;exact zC R ht e (JK hi sn)
theorem EY{M s:Nat}(hs:s < M)(e:sq bs t M=sq bs t s)(nd:((Wf M).map (sq bs t)).Nodup){m:Nat}(hf:sq bs t m=bs.map (·.1)):sq bs t s=bs.map (·.1)/\∀ j,j < s->sq bs t j≠bs.map (·.1):=by
 have inj:∀ i j,i < M->j < M->sq bs t i=sq bs t j->i=j:=λi j hi hj q=>by
  have a1:((Wf M).map (sq bs t))[i]? = some (sq bs t i):=by simp[hi]
  have a2:((Wf M).map (sq bs t))[j]? = some (sq bs t i):=by simp[hj,q]
  exact(List.getElem?_inj (by simpa using hi) nd).mp (a1.trans a2.symm)
 obtain⟨j,hj,ej⟩:=zx (λi j q=>by show fq bs _=fq bs _; rw[q]) hs e m;have fj:sq bs t j=bs.map (·.1):=by rw[<- ej]; exact hf
 have jM:j + 1=M:=by
  by_cases q:j + 1 < M
  ·have:=inj j (j + 1) hj q (by rw[fj,ui R ht fj]);omega
  ·omega
 have js:s=j:=inj s j hs hj (by rw[<- e,<- jM,ui R ht fj,fj]);subst js;refine⟨fj,λi hi q=>?_⟩;have:=inj i s (by omega) hs (by rw[q,fj]);omega
end
def All(bs:List (Nat×List Tx))(k:Nat):Prop:=∀ t ∈ bs.map (·.1),sq bs t k=bs.map (·.1)
def Res(bs:List (Nat×List Tx)):Option Nat->Prop
 | some m=>1<=m/\All bs m/\∀ j,1<=j->j < m->¬ All bs j
 | none=>∀ j,¬ All bs j
theorem P_(m n:Nat):∃ a b:Int,a * m + b * n=(QQ m n:Nat):=by
 induction m,n using Nat.gcd.induction with
 | H0 n=>exact⟨0,1,by simp⟩
 | H1 m n hm ih =>
  obtain⟨a,b,e⟩:=ih;refine⟨b - a * ((n / m:Nat):Int),a,?_⟩;rw[Nat.gcd_rec m n,<- e];have h:(n:Int)=(m:Int) * ((n / m:Nat):Int) + ((n % m:Nat):Int):=by
   have:=Qt n m;exact_mod_cast this.symm
  generalize ((n / m:Nat):Int)=q at *;generalize ((n % m:Nat):Int)=r at *;rw[h];simp only[Int.sub_mul,Int.mul_add];have e1:a * q * (m:Int)=a * ((m:Int) * q):=by rw[Jx,Int.mul_comm q]
  rw[e1];omega
section
variable {S:Nat->List Nat} {M s:Nat}
theorem zD(hs:s < M)(hp:∀ n,s<=n->S (n + (M - s))=S n)(n:Nat)(hn:s<=n):S n=S (s + (n - s) % (M - s)):=by
 have k:∀ q r,S (s + r + q * (M - s))=S (s + r):=λq r=>by
  induction q with
  | zero=>simp
  | succ q ih =>
   have e:=hp (s + r + q * (M - s)) (by omega);rw[show s + r + (q + 1) * (M - s)=s + r + q * (M - s) + (M - s) by rw[Jo]; omega,e,ih]
 have:=k ((n - s) / (M - s)) ((n - s) % (M - s));rw[<- this];congr 1
 have:=Qt (n - s) (M - s);rw[J9] at this;omega
def Ev(S:Nat->List Nat)(o lap rest:Nat):Prop:=∃ n,n % lap=rest/\o ∈ S n
theorem Q_(hs:s < M)(hp:∀ n,s<=n->S (n + (M - s))=S n){o lap rest:Nat}(hl:rest < lap) :
  Ev S o lap rest ↔ ∃ i,i < M/\o ∈ S i/\(i % lap=rest\/(s<=i/\((rest:Int) - (i:Int)) % (QQ (M - s) lap:Nat)=0)):=by
 have Ra:((QQ (M - s) lap:Nat):Int) ∣ ((M - s:Nat):Int):=Int.ofNat_dvd.mpr (Nat.gcd_dvd_left _ _);have Rb:((QQ (M - s) lap:Nat):Int) ∣ (lap:Int):=Int.ofNat_dvd.mpr (Nat.gcd_dvd_right _ _);constructor
 ·rintro ⟨n,h1,h2⟩;by_cases hn:n < M
  ·exact⟨n,hn,h2,.inl h1⟩
  ·have pA:s<=n:=by omega
   have hm:=QY (n - s) (show 0 < M - s by omega);rw[zD hs hp n pA] at h2;refine⟨_,?_,h2,.inr ⟨by omega,?_⟩⟩
   ·omega
   ·refine Int.emod_eq_zero_of_dvd ?_;have e1:=Qt (n - s) (M - s);have e2:=Qt n lap;have k1:((rest:Int) - ((s + (n - s) % (M - s):Nat):Int))=((M - s:Nat):Int) * (((n - s) / (M - s):Nat):Int) - (lap:Int) * ((n / lap:Nat):Int):=by
     have vV:((M - s:Nat):Int) * (((n - s) / (M - s):Nat):Int) + (((n - s) % (M - s):Nat):Int)=((n - s:Nat):Int):=by exact_mod_cast e1
     have oz:(lap:Int) * ((n / lap:Nat):Int) + ((n % lap:Nat):Int)=(n:Int):=by exact_mod_cast e2
     have e3:((s + (n - s) % (M - s):Nat):Int)=(s:Int) + (((n - s) % (M - s):Nat):Int):=JV _ _;have e4:((n - s:Nat):Int)=(n:Int) - (s:Int):=by omega
     have e5:((n % lap:Nat):Int)=(rest:Int):=by rw[h1]
     omega
    rw[k1];exact Int.dvd_sub (Int.dvd_mul_of_dvd_left Ra) (Int.dvd_mul_of_dvd_left Rb)
 ·rintro ⟨i,hi,ho,h | ⟨h1,h2⟩⟩
  ·exact⟨i,h,ho⟩
  ·obtain⟨c,hc⟩:=Int.dvd_of_emod_eq_zero h2;obtain⟨a,b,e⟩:=P_ (M - s) lap;have Um:(0:Int) < (lap:Int):=by omega
   have k0:=JW (a * c) (show(lap:Int)≠0 by omega);obtain⟨k,hk⟩:=QF k0;have Rc:=Int.mul_ediv_add_emod (a * c) (lap:Int);rw[hk] at Rc;refine⟨i + k * (M - s),?_,?_⟩
   ·have key:((i + k * (M - s):Nat):Int)=(rest:Int) + (lap:Int) * (-(b * c) - (a * c / (lap:Int)) * ((M - s:Nat):Int)):=by
     have e1:((i + k * (M - s):Nat):Int)=(i:Int) + (k:Int) * ((M - s:Nat):Int):=by
      rw[JV,JA]
     rw[e1];have mf:(k:Int)=a * c - (lap:Int) * (a * c / (lap:Int)):=by omega
     rw[mf];rw[<- e] at hc;generalize ((M - s:Nat):Int)=z at *;generalize (a * c / (lap:Int))=w at *;have gH:(rest:Int) - (i:Int)=a * c * z + b * c * (lap:Int):=by
      rw[hc,Int.add_mul];congr 1
      ·rw[Jx,Int.mul_comm z c,<- Jx]
      ·rw[Jx,Int.mul_comm (lap:Int) c,<- Jx]
     have t1:(a * c - (lap:Int) * w) * z=a * c * z - (lap:Int) * (w * z):=by rw[Int.sub_mul,Jx (lap:Int)]
     have t2:(lap:Int) * (-(b * c) - w * z) = -(b * c * (lap:Int)) - (lap:Int) * (w * z):=by rw[Int.mul_sub,Int.mul_neg,Int.mul_comm (lap:Int) (b * c)]
     rw[t1,t2];omega
    have m1:((i + k * (M - s):Nat):Int) % (lap:Int)=(rest:Int):=by
     rw[key,Int.add_mul_emod_self_left];exact Int.emod_eq_of_lt (by omega) (by omega)
    exact_mod_cast m1
   ·have kk:∀ q,S (i + q * (M - s))=S i:=λq=>by
     induction q with
     | zero=>simp
     | succ q ih =>
      have e:=hp (i + q * (M - s)) (by have:0<=q * (M - s):=Qf _; omega);rw[show i + (q + 1) * (M - s)=i + q * (M - s) + (M - s) by rw[Jo]; omega,e,ih]
    rw[kk];exact ho
def gj(s lap rest:Nat):Nat:=if rest < s then rest + (s - rest + lap - 1) / lap * lap else rest
theorem EZ{lap rest:Nat}(hl:rest < lap)(s:Nat):s<=gj s lap rest/\gj s lap rest % lap=rest/\∀ n,s<=n->n % lap=rest->∃ t,n=gj s lap rest + t * lap:=by
 have Rf:0 < lap:=by omega
 unfold gj;split
 ·rename_i h;have e:=Qt (s - rest + lap - 1) lap;have m:=QY (s - rest + lap - 1) Rf;generalize hq:(s - rest + lap - 1) / lap=q at *;have e':q * lap=lap * q:=J9 _ _;refine⟨by omega,?_,λn h1 h2=>?_⟩
  ·rw[Nat.add_mul_mod_self_right];exact Nat.mod_eq_of_lt hl
  ·have en:=Qt n lap;rw[h2] at en;generalize n / lap=p at *;have Rg:q<=p:=by
    by_cases c:q<=p
    ·exact c
    ·have c1:p + 1<=q:=by omega
     have c2:lap * (p + 1)<=lap * q:=Nat.mul_le_mul_left _ c1;rw[Nat.mul_add] at c2;omega
   refine⟨p - q,?_⟩;rw[Nat.sub_mul,J9 p lap,e'];have c2:lap * q<=lap * p:=Nat.mul_le_mul_left _ Rg;omega
 ·rename_i h;refine⟨by omega,Nat.mod_eq_of_lt hl,λn h1 h2=>⟨n / lap,?_⟩⟩;have en:=Qt n lap;rw[h2,J9] at en;omega
theorem Rh(hs:s < M)(hp:∀ n,s<=n->S (n + (M - s))=S n){o lap rest:Nat}(hl:rest < lap) :
  Ev S o lap rest ↔ (∃ i,i < M/\i % lap=rest/\o ∈ S i)\/∃ k,k < M - s/\o ∈ S (s + (gj s lap rest + k * lap - s) % (M - s)):=by
 obtain⟨f1,f2,f3⟩:=EZ hl s;generalize gj s lap rest=f at *;constructor
 ·rintro ⟨n,h1,h2⟩;by_cases hn:n < M
  ·exact .inl ⟨n,hn,h1,h2⟩
  ·obtain⟨t,rfl⟩:=f3 n (by omega) h1;have hz:0 < M - s:=by omega
   refine .inr ⟨t % (M - s),QY _ hz,?_⟩;rw[zD hs hp _ (by omega)] at h2;have e:(f + t * lap - s) % (M - s)=(f + t % (M - s) * lap - s) % (M - s):=by
    have e1:=Qt t (M - s);generalize hq:t / (M - s)=q at *;generalize hr:t % (M - s)=r at *;have e2:t * lap=r * lap + (M - s) * (q * lap):=by
     rw[<- e1,Jo,Nat.mul_assoc,Nat.add_comm]
    rw[e2,show f + (r * lap + (M - s) * (q * lap)) - s=f + r * lap - s + (M - s) * (q * lap) by omega,Nat.add_mul_mod_self_left]
   rw[<- e];exact h2
 ·rintro (⟨i,_,h1,h2⟩ | ⟨k,_,h⟩)
  ·exact⟨i,h1,h2⟩
  ·refine⟨f + k * lap,?_,?_⟩
   ·rw[Nat.add_mul_mod_self_right,f2]
   ·rw[zD hs hp _ (by omega)];exact h
end
theorem zE(hs:s < M)(e:sq bs t M=sq bs t s):∀ n,s<=n->sq bs t (n + (M - s))=sq bs t n:=λn hn=>by
 have:=zA e (n - s);rw[show M + (n - s)=n + (M - s) by omega,show s + (n - s)=n by omega] at this;exact this
section
variable {h w t:Nat} {bs:List (Nat×List Tx)} (R:da h w bs) (ht:t ∈ bs.map (·.1))
include R ht
theorem E1(hc:∀ a ∈ bs.map (·.1),∀ b ∈ bs.map (·.1),∃ k,b ∈ sq bs a k)(dX:∀ n,s<=n->sq bs t n=sq bs t s):All bs (bs.length * bs.length):=by
 obtain⟨x,hx⟩:=EW R ht;have Ri:x ∈ sq bs t 1:=jx.mpr ⟨t,by simp[sq],hx⟩;obtain⟨k',mf⟩:=hc x (oR R ht hx) t ht;have hj:t ∈ sq bs t (1 + k'):=(lP bs t 1 t k').mpr ⟨x,Ri,mf⟩;have back:∀ i,t ∈ sq bs t (i * (1 + k')):=λi=>by
  induction i with
  | zero=>simp[sq]
  | succ i ih =>
   rw[Jo,Nat.one_mul];exact(lP bs t _ t _).mpr ⟨t,ih,hj⟩
 have full:sq bs t s=bs.map (·.1):=(qX R ht s).mpr λo ho=>by
  obtain⟨k,hk⟩:=hc t ht o ho;have h1:o ∈ sq bs t (s * (1 + k') + k):=(lP bs t _ o _).mpr ⟨t,back s,hk⟩;rw[dX _ (by rw[Nat.mul_add]; omega)] at h1;exact h1
 intro a ha;obtain⟨m,hm⟩:=hc a ha t ht;refine P8 R ha (m:=m + s) ((qX R ha _).mpr λo ho=>?_);exact(lP bs a m o s).mpr ⟨t,hm,by rw[full]; exact ho⟩
theorem Rj(hn:∀ j,¬ All bs j)(hc:∀ a ∈ bs.map (·.1),∀ b ∈ bs.map (·.1),∃ k,b ∈ sq bs a k)(hs:s < M)(e:sq bs t M=sq bs t s):1 < M - s/\¬ Ev (sq bs t) t (M - s) 1:=by
 have hp:=zE hs e;have E3:∀ j,sq bs t (j + 1)=sq bs t j->∀ n,j<=n->sq bs t n=sq bs t j:=λj ej n hj=>by
  have:=EU ej (n - j);rw[show j + (n - j)=n by omega] at this;exact this
 have h1:1 < M - s:=by
  by_cases q:1 < M - s
  ·exact q
  ·have e1:=hp s (W8 _);rw[show M - s=1 by omega] at e1;exact absurd (E1 R ht hc (E3 s e1)) (hn _)
 refine⟨h1,λ⟨n,n1,n2⟩=>hn _ (E1 R ht hc (s:=s) (E3 s ?_))⟩;have sub:∀ m,s<=m->∀ x ∈ sq bs t m,x ∈ sq bs t (m + 1):=λm hm x hx=>by
  have k1:x ∈ sq bs t (n + m):=(lP bs t n x m).mpr ⟨t,n2,hx⟩;have k2:∀ q,sq bs t (m + 1 + q * (M - s))=sq bs t (m + 1):=λq=>by
   induction q with
   | zero=>simp
   | succ q ih =>
    have e:=hp (m + 1 + q * (M - s)) (by have:0<=q * (M - s):=Qf _; omega);rw[show m + 1 + (q + 1) * (M - s)=m + 1 + q * (M - s) + (M - s) by rw[Jo]; omega,e,ih]
  have k3:=Qt n (M - s);rw[n1,J9] at k3;rw[show n + m=m + 1 + n / (M - s) * (M - s) by omega,k2] at k1;exact k1
 have subs:∀ j m,s<=m->∀ x ∈ sq bs t m,x ∈ sq bs t (m + j):=λj=>by
  induction j with
  | zero=>exactλm _ x hx=>hx
  | succ j ih=>exactλm hm x hx=>sub (m + j) (by omega) x (ih m hm x hx)
 refine oQ (jZ bs t _) (jZ bs t _) λx=>⟨λhx=>?_,sub s (W8 _) x⟩
 have:=subs (M - s - 1) (s + 1) (by omega) x hx;rw[show s + 1 + (M - s - 1)=s + (M - s) by omega,hp s (W8 _)] at this;exact this
end
theorem iL(f:DE)(δ:Dl):cp f δ=(f δ).bind λr δ1=>match r.d with
 | .lst ds=>.ok ds δ1
 | .tup ds=>.ok ds δ1
 | .str x=>.ok (x.map λn=>.str [n]) δ1
 | _=>.stuck:=id rfl
theorem Uo(neg:Bool)(fa f g:DE)(δ:Dl):Mn neg fa f g δ=(fa δ).bind λv δ1=>(f δ1).bind λlo δ2=>(g δ2).bind λhi δ3=>match v.d,lo.d,hi.d with
 | .int i,.int l,.int h=>.ok (.pure (.bl (if neg then !(decide (l<=i) && decide (i < h)) else(decide (l<=i) && decide (i < h))))) δ3
 | _,_,_=>.stuck:=id rfl
def nx(s:Int):Int:=(((s + 7919) % 2147483647) * ((s + 7919) % 2147483647) + 48271 * ((s + 7919) % 2147483647) + 12345) % 2147483629
theorem Rk(s:Int):nv [.pure (.int s)]=some (.pure (.int (nx s)),[.pure (.int s)]):=by
 unfold nv bX yn ef;have h1:=JW (s + 7919) (b:=2147483647) (by decide);have h2:=Int.emod_lt_of_pos (s + 7919) (b:=2147483647) (by decide);have c1:ji ((s + 7919) % 2147483647) ((s + 7919) % 2147483647)=true:=by unfold ji; simp; omega
 have c2:ji 48271 ((s + 7919) % 2147483647)=true:=by unfold ji; simp
 simp[cw,bo,aw,ag,bb,ah,aT,cO,e8,f_,sH,c1,c2,cJ,b8];rfl
def cg(d:D):Prop:=∃ l f s:Int,d = .lst [.int l,.int f,.int s]/\0<=l
theorem uj(hp:cg d)(m:Nat)(h0:0 < m)(h1:m < 10000000000000000000000000000000):∃ (r:Nat) (d':D),bV [.own d,.pure (.int m)]=some (.pure (.int r),[.own d',.pure (.int m)])/\r < m/\cg d':=by
 obtain⟨l,f,s,rfl,hl⟩:=hp;have hm:(0:Int) < (m:Int):=by omega
 have hB:(10000000000000000000000000000000:Int)<=mT:=by decide +kernel
 have hd:=Du l m hm (by omega);unfold bV bX yo ef;by_cases hf:f=1
 ·subst hf;have e1:=JW l (b:=(m:Int)) (by omega);have e2:=Int.emod_lt_of_pos l hm;refine⟨(l % (m:Int)).toNat,.lst [.int (l / m),.int 1,.int s],?_,by omega,⟨_,_,_,rfl,Int.ediv_nonneg hl (by omega)⟩⟩;simp[cw,bo,aw,ag,bb,ah,aa,az,bU,aB,flat,qE,xk,xj,ay,cO,sI,e8,h0,hd,qa,oh,jl,putL,cJ,b8,fw];omega
 ·have e1:=JW (nx (nx s + 7) / 64) (b:=(m:Int)) (by omega);have e2:=Int.emod_lt_of_pos (nx (nx s + 7) / 64) hm;refine⟨(nx (nx s + 7) / 64 % (m:Int)).toNat,.lst [.int l,.int f,.int (nx (nx s + 7))],?_,by omega,⟨_,_,_,rfl,hl⟩⟩;simp[cw,bo,aw,ag,bb,ah,aa,az,bU,aB,flat,qE,xk,xj,ay,cO,sI,e8,h0,hd,qa,oh,jl,putL,cJ,b8,fw,hf,ar,aO,bG,bh,ba,aV,Rk,aT,aK,qa];omega
theorem Rm(c:Int):∃ d,nu [.pure (.int c)]=some (.own d,[.pure (.int c)])/\cg d:=by
 unfold nu bX ym ef;refine⟨.lst [.int (if 0 - c > c then 0 - c else c),.int (if decide (1000000000000000000<=(if 0 - c > c then 0 - c else c)) then 1 else 0),.int ((if 0 - c > c then 0 - c else c) % 1000003)],?_,⟨_,_,_,rfl,by split <;> omega⟩⟩;simp[cw,bo,aw,ag,bb,ah,aa,sJ,fz,e8,n5,mD,iw,nZ,vM,cO,cJ,b8]
theorem Rn(ns:List Int):∃ c:Int,nt [.pure (.lst (ns.map .int)),.pure (.int 0)]=some (.pure (.int c),[.pure (.lst (ns.map .int)),.pure (.int 0)]):=by
 unfold nt bX yl ef
 cases ns with
 | nil=>exact⟨0,by simp[cw,bo,ag,bb,ah,iz,iw,ay,bI,cJ,b8]⟩
 | cons n r=>exact⟨n,by
   have:(0:Int) < (r.length:Int) + 1:=by omega
   simp[cw,bo,ag,bb,ah,iz,iw,ay,bI,cJ,b8,az,qE,this]⟩
theorem eM(hp:cg d)(m:Nat)(i:Int)(hi:i=m)(h0:0 < m)(h1:m < 10000000000000000000000000000000):∃ (r:Nat) (d':D),bV [.own d,.pure (.int i)]=some (.pure (.int r),[.own d',.pure (.int i)])/\r < m/\cg d':=by
 subst hi;exact uj hp m h0 h1
def lQ:Tx:=[97,98,99,100,101,102,103,104,105,106,107,108,109,110,111,112,113,114,115,116,117,118,119,120,121,122]
theorem Ro(hp:cg d):∃ (h w:Nat) (d':D),oG [.own d]=some (.pure (.tup [.int h,.int w]),[.own d'])/\0 < h/\h<=4/\0 < w/\w<=4/\2 < h + w/\cg d':=by
 obtain⟨r1,d1,e1,l1,p1⟩:=eM hp 3 3 rfl (by decide) (by decide);obtain⟨r2,d2,e2,l2,p2⟩:=eM p1 3 3 rfl (by decide) (by decide);obtain⟨r3,d3,e3,l3,p3⟩:=eM p2 8 8 rfl (by decide) (by decide);obtain⟨r4,d4,e4,l4,p4⟩:=eM p3 6 6 rfl (by decide) (by decide);unfold oG bX yp ef;by_cases h3:r3=0
 ·subst h3;have:r4=0\/r4=1\/r4=2\/r4=3\/r4=4\/r4=5:=by omega
  rcases this with rfl | rfl | rfl | rfl | rfl | rfl
  ·exact⟨4,1,d4,by simp[cw,bo,aw,ar,aO,bh,bG,ba,aV,e1,e2,e3,e4,aK,aT,bU,aB,flat,ay,az,cR,fw,bT,aU,bW,ag,bb,ah,aa,cJ,b8],by decide,by decide,by decide,by decide,by decide,p4⟩
  ·exact⟨1,4,d4,by simp[cw,bo,aw,ar,aO,bh,bG,ba,aV,e1,e2,e3,e4,aK,aT,bU,aB,flat,ay,az,cR,fw,bT,aU,bW,ag,bb,ah,aa,cJ,b8],by decide,by decide,by decide,by decide,by decide,p4⟩
  ·exact⟨4,4,d4,by simp[cw,bo,aw,ar,aO,bh,bG,ba,aV,e1,e2,e3,e4,aK,aT,bU,aB,flat,ay,az,cR,fw,bT,aU,bW,ag,bb,ah,aa,cJ,b8],by decide,by decide,by decide,by decide,by decide,p4⟩
  ·exact⟨4,3,d4,by simp[cw,bo,aw,ar,aO,bh,bG,ba,aV,e1,e2,e3,e4,aK,aT,bU,aB,flat,ay,az,cR,fw,bT,aU,bW,ag,bb,ah,aa,cJ,b8],by decide,by decide,by decide,by decide,by decide,p4⟩
  ·exact⟨1,2,d4,by simp[cw,bo,aw,ar,aO,bh,bG,ba,aV,e1,e2,e3,e4,aK,aT,bU,aB,flat,ay,az,cR,fw,bT,aU,bW,ag,bb,ah,aa,cJ,b8],by decide,by decide,by decide,by decide,by decide,p4⟩
  ·exact⟨2,1,d4,by simp[cw,bo,aw,ar,aO,bh,bG,ba,aV,e1,e2,e3,e4,aK,aT,bU,aB,flat,ay,az,cR,fw,bT,aU,bW,ag,bb,ah,aa,cJ,b8],by decide,by decide,by decide,by decide,by decide,p4⟩
 ·by_cases hs:r1=0/\r2=0
  ·obtain⟨rfl,rfl⟩:=hs;refine⟨1,2,d3,?_,by decide,by decide,by decide,by decide,by decide,p3⟩;simp[cw,bo,aw,ar,aO,bh,bG,ba,aV,e1,e2,e3,aK,aT,bU,aB,flat,ay,h3,ag,bb,ah,aa,cJ,b8]
  ·have hn:¬ (1 + (r1:Int) + (1 + (r2:Int))=2):=by omega
   refine⟨1 + r1,1 + r2,d3,?_,by omega,by omega,by omega,by omega,by omega,p3⟩;simp[cw,bo,aw,ar,aO,bh,bG,ba,aV,e1,e2,e3,aK,aT,bU,aB,flat,ay,h3,hn,ag,bb,ah,aa,cJ,b8]
theorem qY(ts:List Nat)(r:Nat)(h:r < ts.length):az (.lst (ts.map λn=>.str [n])) (.int r)=some (.pure (.str [ts.getD r 0])):=by
 simp[az,iY,h]
theorem Rp(hp:cg d)(ts:List Nat)(place way:Nat)(h1:place < ts.length)(h2:ts.length<=64):∃ (n:Nat) (d':D),
  i7 [.own d,.pure (.lst (ts.map λn=>.str [n])),.pure (.int place),.pure (.int way)]=some (.pure (.str [n]),[.own d',.pure (.lst (ts.map λn=>.str [n])),.pure (.int place),.pure (.int way)])/\n ∈ ts/\cg d':=by
 have mem:∀ r,r < ts.length->ts.getD r 0 ∈ ts:=λr h=>by simp[h]
 unfold i7 bX yq ef;by_cases w1:way=1
 ·subst w1;obtain⟨r,d1,e1,l1,p1⟩:=eM hp (place + 1) ((place:Int) + 1) (by omega) (by omega) (by omega);refine⟨ts.getD r 0,d1,?_,mem r (by omega),p1⟩;simp[cw,bo,ag,bb,ah,bU,aB,flat,ay,ar,aO,bh,bG,ba,aT,aV,e1,aK,az,iY,cJ,b8,show r < ts.length by omega]
 ·by_cases w2:way=2
  ·subst w2;have hr:(place + 1) % ts.length < ts.length:=QY _ (by omega);refine⟨ts.getD ((place + 1) % ts.length) 0,d,?_,mem _ hr,hp⟩;have hm:cO (.int ((place:Int) + 1)) (.int ts.length)=some (.pure (.int (((place + 1) % ts.length:Nat):Int))):=by
    simp only[cO,e8];rw[if_pos (by simp; omega)];simp
   simp[cw,bo,ag,bb,ah,bU,aB,flat,ay,aT,bI,hm,cJ,b8];have hx:=qY ts ((place + 1) % ts.length) hr;simp at hx;simp[hx]
  ·by_cases w3:way=3
   ·subst w3;obtain⟨r,d1,e1,l1,p1⟩:=eM hp 4 4 rfl (by decide) (by decide);by_cases hr:0 < r
    ·refine⟨ts.getD place 0,d1,?_,mem place h1,p1⟩;simp[cw,bo,ag,bb,ah,bU,aB,flat,ay,ar,aO,bh,bG,ba,aV,e1,aK,vP,iw,hr,az,iY,h1,cJ,b8]
    ·obtain⟨r',d2,e2,l2,p2⟩:=uj p1 ts.length (by omega) (by omega);refine⟨ts.getD r' 0,d2,?_,mem r' l2,p2⟩;simp[cw,bo,ag,bb,ah,bU,aB,flat,ay,ar,aO,bh,bG,ba,aV,e1,aK,vP,iw,hr,bI,e2,az,iY,l2,cJ,b8]
   ·obtain⟨r',d2,e2,l2,p2⟩:=uj hp ts.length (by omega) (by omega);refine⟨ts.getD r' 0,d2,?_,mem r' l2,p2⟩;have c1:¬ (way:Int)=1:=by omega
    have c2:¬ (way:Int)=2:=by omega
    have c3:¬ (way:Int)=3:=by omega
    simp[cw,bo,ag,bb,ah,bU,aB,flat,ay,ar,aO,bh,bG,ba,aV,aK,c1,c2,c3,bI,e2,az,iY,l2,cJ,b8]
theorem Rq:∀ k,k < 26->lQ.getD k 0=97 + k:=by decide
theorem E4(xs:List Nat)(h:xs.length < 64):mE (.lst (xs.map λn=>.str [n]))=some (.own (.lst ((eV xs).map λn=>.str [n]))):=by
 have e:(xs.map λn=>D.str [n])=(xs.map λn=>[n]).map D.str:=by simp
 unfold mE;simp only[e,qF];rw[if_pos (by simpa using h),xn];simp
def jA(f n:Nat):List Nat:=(Wf n).map λk=>97 + (f + 5 * k) % 26
theorem Rr(f n:Nat)(hn:n<=26):(jA f n).Nodup:=by
 unfold jA;rw[List.nodup_iff_pairwise_ne,QW];refine(List.pairwise_lt_range (n:=n)).imp_of_mem ?_;intro a b ha hb jN e;simp at ha hb;omega
def rb(pd:D)(m h w n f:Nat)(s7:S)(wy:Nat)(blocks:List D)(a b c:Option S):Dl :=
 [some (.own pd),some (.pure (.int m)),some (.pure (.int h)),some (.pure (.int w)),some (.pure (.int (1 + (n:Int)))),some (.pure (.int f)),some (.pure (.str lQ)),some s7,some (.pure (.int wy)),some (.own (.lst blocks)),a,b,c,none,none]
def tD(ts:List Nat):D:=.lst (ts.map λn=>.str [n])
def sT(ts:List Nat)(s:S):Prop:=s = .own (tD ts)\/s = .pure (tD ts)
theorem Rt(oS:ts.length<=64)(hw:w<=4)(jB:cg pd)(h7:sT ts s7)(blocks:List D)(place:Nat)(dE:place < ts.length)(block:List D)(row:Nat) :
  ∃ (x:Tx) (cm:D) (gE:S),eG [14] (ao [0] 14) dI (ar i7 [.io 0,.val (aa 7),.val (aa 10),.val (aa 8)]) (cF 0 w) (rb pd m h w n f s7 wy blocks (some (.pure (.int place))) (some (.own (.lst block))) (some (.pure (.int row)))) []
   = .ok (x.map λn=>.str [n]) (rb cm m h w n f gE wy blocks (some (.pure (.int place))) (some (.own (.lst block))) (some (.pure (.int row))))/\x.length=w/\(∀ n ∈ x,n ∈ ts)/\cg cm/\sT ts gE:=by
 obtain⟨xs,δ',e,⟨cm,gE,hpd',h7',rfl⟩,hn,hf⟩:=xl (cs:=[14]) (g:=ao [0] 14) (t:=dI) (el:=ar i7 [.io 0,.val (aa 7),.val (aa 10),.val (aa 8)]) (λδ=>∃ pd s7,cg pd/\sT ts s7/\δ=rb pd m h w n f s7 wy blocks (some (.pure (.int place))) (some (.own (.lst block))) (some (.pure (.int row))))
  (λ_ x=>∃ n,n ∈ ts/\x = .str [n]) (cF 0 w) _ [] ⟨pd,s7,jB,h7,rfl⟩ (by rw[er]; simp; omega) (λd hd δ ⟨pd,s7,jB,h7,e⟩=>by
   subst e;obtain⟨i,hi,rfl⟩:=D7 hd;obtain⟨k,d',e,hk,p⟩:=Rp jB ts place wy dE oS;have e':i7 [.own pd,.pure (tD ts),.pure (.int place),.pure (.int wy)]=some (.pure (.str [k]),[.own d',.pure (tD ts),.pure (.int place),.pure (.int wy)]):=e;refine⟨_,_,.pure (.str [k]),(rb d' m h w n f (.pure (tD ts)) wy blocks (some (.pure (.int place))) (some (.own (.lst block))) (some (.pure (.int row)))).set 14 (some (.pure (.int i))),rfl,rfl,?_,⟨d',_,p,.inr rfl,rfl⟩,⟨_,hk,rfl⟩⟩;rcases h7 with rfl | rfl
   ·simp[rb,ar,aO,bh,bG,ba,aa,aV,e',aK]
   ·simp[rb,ar,aO,bh,bG,ba,aa,aV,e',aK])
 obtain⟨x,rfl,hx⟩:=Eb (P:=λn=>n ∈ ts) (N4 hn hf λd x _ h=>h);exact⟨x,cm,gE,by simpa using e,by simpa using hn,hx,hpd',h7'⟩
theorem Ru(oS:ts.length<=64)(hw:w<=4)(hh:h<=4)(jB:cg pd)(h7:sT ts s7)(blocks:List D)(place:Nat)(dE:place < ts.length)(rs:Option S) :
  ∃ (fl:List Tx) (cm:D) (gE:S) (qZ:Option S),forL (ao [0] 12) (fB 11 (aY (dP []) (aj (fc [14] (dQ (aa 3)) (ao [0] 14) dI (ar i7 [.io 0,.val (aa 7),.val (aa 10),.val (aa 8)]))))) (cF 0 h) (rb pd m h w n f s7 wy blocks (some (.pure (.int place))) (some (.own (.lst []))) rs)
   = .ok .next (rb cm m h w n f gE wy blocks (some (.pure (.int place))) (some (.own (.lst (fl.map .str)))) qZ)/\fl.length=h/\(∀ r ∈ fl,r.length=w/\∀ n ∈ r,n ∈ ts)/\cg cm/\sT ts gE:=by
 obtain⟨δ',e3,cm,gE,fl,qZ,hpd',h7',mm,gx,rfl⟩:=mU (g:=ao [0] 12) (b:=fB 11 (aY (dP []) (aj (fc [14] (dQ (aa 3)) (ao [0] 14) dI (ar i7 [.io 0,.val (aa 7),.val (aa 10),.val (aa 8)]))))) (λk δ=>∃ (pd:D) (s7:S) (fl:List Tx) (rs:Option S),cg pd/\sT ts s7/\fl.length=k/\(∀ r ∈ fl,r.length=w/\∀ n ∈ r,n ∈ ts)/\δ=rb pd m h w n f s7 wy blocks (some (.pure (.int place))) (some (.own (.lst (fl.map .str)))) rs)
  (cF 0 h) 0 _ ⟨pd,s7,[],rs,jB,h7,rfl,by simp,rfl⟩ (λi d δ hd ⟨pd,s7,fl,rs,jB,h7,mm,gx,e⟩=>by
   subst e;obtain⟨hi,rfl⟩:=xm hd;obtain⟨x,cm,gE,e,hx,hxt,hpd',h7'⟩:=Rt (m:=m) (h:=h) (n:=n) (f:=f) (wy:=wy) oS hw jB h7 blocks place dE (fl.map .str) i;have hz:fl.length < W6:=by rw[er]; omega
   have ej:=N1 x (by omega);refine⟨_,rb cm m h w n f gE wy blocks (some (.pure (.int place))) (some (.own (.lst ((fl ++ [x]).map .str)))) (some (.pure (.int i))),rfl,?_,⟨cm,gE,fl ++ [x],_,hpd',h7',by simp[mm],?_,rfl⟩⟩
   ·unfold rb at e ⊢;simp[fB,jl,aa,mV w (by omega),bG,bR];rw[e];simp[ej,dC,putL,hz]
   ·intro r hr;rcases Qr.mp hr with hr | hr
    ·exact gx r hr
    ·simp at hr; subst hr; exact⟨hx,hxt⟩)
 exact⟨fl,cm,gE,qZ,e3,by simpa using mm,gx,hpd',h7'⟩
theorem Rv(hp:cg d)(m:Nat)(Rw:0 < m)(Ey:m<=26):∃ (h w:Nat) (bs:List (Nat×List Tx)) (d':D),
  lJ [.own d,.pure (.int m)]=some (.pure (ak h w bs),[.own d',.pure (.int m)])/\da h w bs/\bs.length<=m/\cg d':=by
 obtain⟨h,w,d1,e1,h0,h1,w0,w1,hw,p1⟩:=Ro hp;obtain⟨r,d2,e2,l2,p2⟩:=uj p1 m Rw (by omega);obtain⟨f,d3,e3,l3,p3⟩:=eM p2 26 26 rfl (by decide) (by decide);obtain⟨wy,d4,e4,l4,p4⟩:=eM p3 5 5 rfl (by decide) (by decide);-- the tiles
 have ec:=NX (cs:=[13]) (g:=ao [0] 13) (t:=dI) (el:=ag az 6 (aj (aE cO (ag aT 5 (aj (aE f_ (eD (.int 5)) (ah 13)))) (aj (eD (.int 26)))))) (λd=>match d with | .int k=>.str [97 + (f + 5 * k.toNat) % 26] | _=>.ax)
  [some (.own d3),some (.pure (.int m)),some (.pure (.int h)),some (.pure (.int w)),some (.pure (.int (1 + (r:Int)))),some (.pure (.int f)),some (.pure (.str lQ)),none,none,none,none,none,none,none,none] (cF 0 (1 + r)) [] (by rw[er]; simp; omega) (λd hd=>by
   obtain⟨i,hi,rfl⟩:=D7 hd;refine⟨_,_,.pure (.str [97 + (f + 5 * i) % 26]),[some (.own d3),some (.pure (.int m)),some (.pure (.int h)),some (.pure (.int w)),some (.pure (.int (1 + (r:Int)))),some (.pure (.int f)),some (.pure (.str lQ)),none,none,none,none,none,none,some (.pure (.int i)),none],rfl,rfl,?_,rfl,rfl⟩;have hk:(f + 5 * i) % 26 < 26:=QY _ (by decide);have hx:=D6 lQ ((f + 5 * i) % 26) hk (by decide);rw[Rq _ hk] at hx;have hc:((f:Int) + 5 * (i:Int)) % 26=(((f + 5 * i) % 26:Nat):Int):=by omega
   have hmul:f_ (.int 5) (.int i)=some (.pure (.int (5 * (i:Int)))):=by
    unfold f_ sH e8;have:ji 5 i=true:=by unfold ji; simp
    simp only[this,if_true]
   have Rx:cO (.int ((f:Int) + 5 * (i:Int))) (.int 26)=some (.pure (.int (((f + 5 * i) % 26:Nat):Int))):=by
    rw[<- hc]; rfl
   generalize lQ=lt at hx ⊢;simp only[ag,bb,ah,NT,NU,NS,ju,NW,List.set_cons_succ,List.set_cons_zero,Jf,List.getElem?_cons_zero,NR,hmul,aT,Rx,hx])
 have Ry:List.map (λ(d:D)=>match d with | .int k=>D.str [97 + (f + 5 * k.toNat) % 26] | _=>.ax) (cF 0 (1 + r))=(jA f (1 + r)).map λn=>.str [n]:=by
  simp[cF,jA]
 rw[Ry] at ec;simp only[QA] at ec;have E5:(jA f (1 + r)).length=1 + r:=by simp[jA]
 have es:=E4 (jA f (1 + r)) (by rw[E5]; omega);have oS:(eV (jA f (1 + r))).length=1 + r:=by rw[xp,E5]
 have bx:=tQ (Rr f (1 + r) (by omega));have hle:∀ t ∈ eV (jA f (1 + r)),97<=t/\t<=122:=λt ht=>by
  rw[qG] at ht;simp[jA] at ht;obtain⟨k,_,rfl⟩:=ht;omega
 generalize eV (jA f (1 + r))=ts at es oS bx hle;-- the blocks
 obtain⟨δ',e5,pd,s7,bs,a,b,c,jB,h7,hbl,hbt,gx,rfl⟩:=mU (g:=ao [0] 10) (b:=(au (aw (dO bL) (ao [0] 11)) (au (cG (dQ (aa 2)) (ao [0] 12) (fB 11 (aY (dP []) (aj (fc [14] (dQ (aa 3)) (ao [0] 14) dI (ar i7 [.io 0,.val (aa 7),.val (aa 10),.val (aa 8)])))))) (fB 9 (cP (aF (ag az 7 (ah 10)) (aF (aY gW (ah 11)) bL)))))))
  (λk δ=>∃ (pd:D) (s7:S) (bs:List (Nat×List Tx)) (a b c:Option S),cg pd/\sT ts s7/\bs.length=k/\bs.map (·.1)=ts.take k/\(∀ b ∈ bs,b.2.length=h/\∀ r ∈ b.2,r.length=w/\∀ n ∈ r,n ∈ ts)/\δ=rb pd m h w r f s7 wy (bs.map cb) a b c)
  (cF 0 (1 + r)) 0 (rb d4 m h w r f (.own (tD ts)) wy [] none none none) ⟨d4,_,[],none,none,none,p4,.inl rfl,rfl,rfl,by simp,rfl⟩ (λi d δ hd ⟨pd,s7,bs,a,b,c,jB,h7,hbl,hbt,gx,e⟩=>by
   subst e;obtain⟨hi,rfl⟩:=xm hd;rw[J7] at hbl hbt;obtain⟨fl,cm,gE,qZ,e,mm,hflt,hpd',h7'⟩:=Ru (m:=m) (n:=r) (f:=f) (wy:=wy) (ts:=ts) (by omega) w1 h1 jB h7 (bs.map cb) i (by omega) c;have hz:bs.length < W6:=by rw[er]; omega
   have hx:=qY ts i (by omega);refine⟨_,rb cm m h w r f gE wy ((bs ++ [(ts.getD i 0,fl)]).map cb) (some (.pure (.int i))) (some (.own (.lst (fl.map .str)))) qZ,rfl,?_,⟨cm,gE,bs ++ [(ts.getD i 0,fl)],_,_,_,hpd',h7',by simp[hbl],?_,?_,rfl⟩⟩
   ·unfold rb at e ⊢;simp[aw,aa,mV h (by omega)];rw[e];rcases h7' with rfl | rfl
    ·simp[fB,jl,ag,bb,ah,tD,hx,gW,putL,hz,cb]
    ·simp[fB,jl,ag,bb,ah,tD,hx,gW,putL,hz,cb]
   ·rw[J7,WY,hbt,List.take_add_one];simp[show i < ts.length by omega]
   ·intro b hb;rcases Qr.mp hb with hb | hb
    ·exact gx b hb
    ·simp at hb; subst hb; exact⟨mm,hflt⟩)
 have Up:bs.length=1 + r:=by simpa using hbl
 have zF:bs.map (·.1)=ts:=by
  rw[hbt,List.take_of_length_le];simp[oS]
 refine⟨h,w,bs,pd,?_,⟨h0,h1,w0,w1,hw,by omega,by omega,by rw[zF]; exact bx,λb hb=>hle _ (by rw[<- zF]; exact WQ hb),λb hb=>by rw[zF]; exact gx b hb⟩,by omega,jB⟩;unfold lJ bX yr ef;unfold lQ at ec;simp[cw,bo,aw,ar,aO,bh,bG,ba,aV,e1,aK,bT,aU,bW,aa,e2,aT,e3,Ec r (by omega),bR];rw[ec];simp[dC,es,e4,aK,aa,Ec r (by omega)];unfold rb lQ tD at e5;rw[e5];simp[ah,gW,cJ,b8,aa]
theorem le_int(i j:Int):vO (.int i) (.int j)=some (.pure (.bl (decide (i<=j)))):=rfl
theorem jC(i j:Int):bU (.int i) (.int j)=some (.pure (.bl (i == j))):=rfl
theorem q_(i j:Int):fO (.int i) (.int j)=some (.pure (.bl (!(i == j)))):=rfl
theorem add_int(i j:Int):aT (.int i) (.int j)=some (.pure (.int (i + j))):=rfl
theorem oU(h w:Nat)(bs:List (Nat×List Tx)):az (ak h w bs) (.int 0)=some (.pure (.int h))/\az (ak h w bs) (.int 1)=some (.pure (.int w))/\az (ak h w bs) (.int 2)=some (.pure (.tup (bs.map cb))):=by
 refine⟨?_,?_,?_⟩
 ·simp[az,qE]
 ·simp[az,xk]
 ·simp[az,xj]
theorem nE(np:List Nat)(n:Nat)(b:DS)(ss:List S):bX np n b ss=if cw np 0 ss then(match b (bo n ss) with
 | .ok fl δ=>(cJ fl).bind λr=>(b8 0 ss δ).map λaR=>(r,aR)
 | _=>none) else none:=rfl
def j0(bs:List (Nat×List Tx)):D:=.aM (bs.map λb=>(Sum.inr [b.1],fH b.2))
theorem Rz(n:Nat):cF 0 n=(Wf n).map λk:Nat=>D.int (k:Int):=by simp[cF]
theorem zG:∀ (kps acc:List (bA×D)),((acc ++ kps).map (·.1)).Nodup->mQ kps acc=acc ++ kps
 | [],acc,_=>by simp[mQ]
 | p :: r,acc,h=>by
  have hn:(acc.any λkv=>decide (kv.1=p.1))=false:=by
   rw[List.any_eq_false];intro kv hkv;simp only[decide_eq_true_eq];intro e;rw[WY,List.nodup_append] at h;exact h.2.2 kv.1 (WQ hkv) p.1 (WQ Wl) e
  have hp:putD acc p.1 p.2=acc ++ [p]:=by
   unfold putD;rw[hn];simp
  show mQ r (putD acc p.1 p.2)=_;rw[hp,zG r (acc ++ [p]) (by simpa using h)];simp
theorem E6:∀ bs:List (Nat×List Tx),iW (bs.map cb)=some (bs.map λb=>(Sum.inr [b.1],fH b.2))
 | []=>rfl
 | b :: r=>by
  have:=E6 r;simp only[Wn];simp[iW,cD,this]
theorem E7(R:da h w bs):jq (.tup (bs.map cb))=some (.own (j0 bs)):=by
 unfold jq;simp only[E6,WF,WA];have hz:W6=16777216:=rfl;rw[if_pos (by have:=R.n1; omega),zG]
 ·rfl
 ·simp only[QA,Wx];rw[List.nodup_iff_pairwise_ne,QW];have:=R.up;rw[QW] at this;exact this.imp λ{a b} jN=>by simp; omega
theorem E8(bs:List (Nat×List Tx))(n:Nat):b_ (bs.map λb=>((Sum.inr [b.1]:bA),fH b.2)) (.inr [n])=(bs.find? λb=>decide (b.1=n)).map λb=>fH b.2:=by
 unfold b_;rw[List.find?_map];simp[Function.comp_def]
theorem RA(h:n ∈ bs.map (·.1)):jr (j0 bs) (.str [n])=some (.pure (fH (eL bs n))):=by
 obtain⟨b,hb,_,e,e2⟩:=oP h;show((cD (.str [n])).bind λk=>(b_ (bs.map λb=>((Sum.inr [b.1]:bA),fH b.2)) k).map S.pure)=_;simp only[cD,WF,E8,e,WI,e2]
theorem RC(h:n ∈ bs.map (·.1)):eK true (.str [n]) (j0 bs)=some (.pure (.bl false)):=by
 obtain⟨b,hb,_,e,e2⟩:=oP h;show((cD (.str [n])).map λk=>S.pure (.bl (if true then !(b_ (bs.map λb=>((Sum.inr [b.1]:bA),fH b.2)) k).isSome else(b_ (bs.map λb=>((Sum.inr [b.1]:bA),fH b.2)) k).isSome)))=_;simp only[cD,WI,E8,e,WI];rfl
theorem RD(xs:List Tx)(m:Nat)(h:∀ x ∈ xs,x.length<=m):gX xs<=xs.length * m:=by
 induction xs with
 | nil=>simp[gX]
 | cons x r ih =>
  have h1:=h x Wl;have h2:=ih λy hy=>h y (Wh _ hy)
  have e:gX (x :: r)=x.length + gX r:=by simp[gX]
  rw[e,WS,Nat.succ_mul];omega
theorem E9(xs:List Tx)(h:gX xs<=16777216):dP [] (.lst (xs.map .str))=some (.pure (.str xs.flatten)):=by
 unfold dP;simp only[qF,tP];rw[if_pos (by simpa using h)]
theorem gF(e:b (bo n [.pure x,.pure y]) = .ok (.ret v) δ1):bX [] n b [.pure x,.pure y]=some (v,[.pure x,.pure y]):=by
 rw[nE,e]; rfl
theorem RE(e:b (bo n [.pure x,.pure y]) = .ok .next δ1):bX [] n b [.pure x,.pure y]=some (.pure .ax,[.pure x,.pure y]):=by
 rw[nE,e]; rfl
theorem RF(e:b (bo n [.pure x,.pure y,.pure z]) = .ok (.ret v) δ1):bX [] n b [.pure x,.pure y,.pure z]=some (v,[.pure x,.pure y,.pure z]):=by
 rw[nE,e]; rfl
theorem oV(e:b (bo n [.pure x]) = .ok (.ret v) δ1):bX [] n b [.pure x]=some (v,[.pure x]):=by
 rw[nE,e]; rfl
theorem bj(h:a δ = .ok .next δ1):au a b δ=b δ1:=by unfold au; rw[h]; rfl
theorem kP(h:a δ = .ok (.ret v) δ1):au a b δ = .ok (.ret v) δ1:=by unfold au; rw[h]; rfl
theorem eW(h:it δ = .ok ds δ1):cG it g b δ=forL g b ds δ1:=by unfold cG; rw[h]; rfl
theorem RG(x:Tx)(h:x.length<=1000):bI (.str x)=some (.pure (.int x.length)):=by
 unfold bI;have:W6=16777216:=rfl;simp only;rw[if_pos (by omega)]
theorem E_(ds:List D):bI (.tup ds)=some (.pure (.int ds.length)):=rfl
theorem Fb(ts:List Nat):e9 (ts.map λn=>D.str [n])=some (ts.map λn=>[n]):=by
 have:=qF (ts.map λn=>[n]);simpa[Wx,Function.comp_def] using this
theorem Fd(xs:List Tx)(h:gX xs<=16777216):dP [] (fH xs)=some (.pure (.str xs.flatten)):=by
 unfold dP;simp only[qF,tP];rw[if_pos (by simpa using h)]
theorem nG(h1:g (.pure d) δ=some δ1)(h2:b δ1 = .ok .next δ2):forL g b (d :: r) δ=forL g b r δ2:=by
 conv=>lhs; unfold forL
 rw[h1];simp only[h2,ju]
theorem oW:∀ xs:List Tx,gX xs=xs.flatten.length
 | []=>rfl
 | x :: r=>by
  have:=oW r;show x.length + gX r=_;rw[this,QC,Q2]
theorem zH:∀ z:Tx,(z.map λn=>([n]:Tx)).flatten=z
 | []=>rfl
 | n :: r=>by simp[zH r]
theorem RH(z:Tx)(h:z.length<=1000):dP [] (.lst (z.map λn=>.str [n]))=some (.pure (.str z)):=by
 have:=E9 (z.map λn=>[n]) (by rw[oW,zH]; omega);rw[zH,Wx] at this;exact this
theorem RI(z:Tx):(iK z).length<=z.length:=by
 unfold iK;rw[xp];have:=tR z [];simpa using this
theorem Fe(DD:D)(f:Nat->Tx)(z:Tx)(hd:∀ n ∈ z,jr DD (.str [n])=some (.pure (.str (f n))))(hz:z.length<=100)(hl:(z.flatMap f).length < 64) :
  jw [.pure DD,.pure (.str z)]=some (.pure (.str (iK (z.flatMap f))),[.pure DD,.pure (.str z)]):=by
 have c:=mW (cs:=[2]) (g:=ao [] 2) (t:=dI) (el:=ag jr 0 (ah 2)) (λn:Nat=>D.str [n]) (λn=>D.str (f n)) [some (.pure DD),some (.pure (.str z)),none] z [] (by rw[er]; simp; omega) (λn hn=>by
  have q:=hd n hn;refine⟨[some (.pure DD),some (.pure (.str z)),some (.pure (.str [n]))],_,.pure (.str (f n)),[some (.pure DD),some (.pure (.str z)),some (.pure (.str [n]))],rfl,rfl,?_,rfl,rfl⟩;simp[ag,bb,ah,q])
 have j1:dP [] (.lst (z.map λn=>D.str (f n)))=some (.pure (.str (z.flatMap f))):=by
  have:=E9 (z.map f) (by rw[oW,<- List.flatMap_def]; omega);rw[Wx,<- List.flatMap_def] at this;exact this
 have s1:oy (.str (z.flatMap f))=some (.own (.lst ((iK (z.flatMap f)).map λn=>.str [n]))):=by
  simp only[oy];rw[if_pos hl];rfl
 have j2:=RH (iK (z.flatMap f)) (by have:=RI (z.flatMap f); omega);rw[jw,yy];refine gF (δ1:=[some (.pure DD),some (.pure (.str z)),none]) ?_;generalize iK (z.flatMap f)=W at *;generalize hY:(z.map λn=>D.str (f n))=Y at *;generalize z.flatMap f=X at *;generalize hZ:(z.map λn=>D.str [n])=ZS at *;have e:cp (aa 1) [some (.pure DD),some (.pure (.str z)),none] = .ok ZS [some (.pure DD),some (.pure (.str z)),none]:=by
  rw[<- hZ];simp[iL,aa]
 simp only[bo];simp[e,bG,bR];rw[c];simp[dC,j1,s1,j2]
def j3(bs:List (Nat×List Tx)):D:=.aM (bs.map λb=>(Sum.inr [b.1],.str (tx bs b.1)))
theorem Ff(g:Nat->Tx):∀ bs:List (Nat×List Tx),iW (bs.map λb=>.tup [.str [b.1],.str (g b.1)])=some (bs.map λb=>(Sum.inr [b.1],.str (g b.1)))
 | []=>rfl
 | b :: r=>by
  have:=Ff g r;simp only[Wn];simp[iW,cD,this]
theorem RJ{h w:Nat}{bs:List (Nat×List Tx)}(R:da h w bs):jq (.lst (bs.map λb=>.tup [.str [b.1],.str (tx bs b.1)]))=some (.own (j3 bs)):=by
 unfold jq;simp only[Ff (tx bs),WF,WA];have hz:W6=16777216:=rfl;rw[if_pos (by have:=R.n1; omega),zG]
 ·rfl
 ·simp only[QA,Wx];rw[List.nodup_iff_pairwise_ne,QW];have:=R.up;rw[QW] at this;exact this.imp λ{a b} jN=>by simp; omega
theorem RK{bs:List (Nat×List Tx)}{n:Nat}(h:n ∈ bs.map (·.1)):jr (j3 bs) (.str [n])=some (.pure (.str (tx bs n))):=by
 have key:∀ l:List (Nat×List Tx),n ∈ l.map (·.1)->b_ (l.map λb=>((Sum.inr [b.1]:bA),D.str (tx bs b.1))) (.inr [n])=some (.str (tx bs n)):=λl=>by
  induction l with
  | nil=>intro h; simp at h
  | cons b r ih =>
   intro h;unfold b_ at ih ⊢;rw[Wn,Q4];by_cases e:b.1=n
   ·simp[e]
   ·have:decide ((Sum.inr [b.1]:bA)=Sum.inr [n])=false:=by simp[e]
    simp only[this];refine ih ?_;simp at h ⊢;rcases h with h | h
    ·exact absurd h.symm e
    ·exact h
 show((cD (.str [n])).bind λk=>(b_ (bs.map λb=>((Sum.inr [b.1]:bA),D.str (tx bs b.1))) k).map S.pure)=_;simp[cD,key bs h]
abbrev oX:DE:=ar jw [.val (aa 1),.val (aa 0)]
theorem RL{h w:Nat}{bs:List (Nat×List Tx)}(G:fu h w bs){z:Tx}(hz:∀ n ∈ z,n ∈ bs.map (·.1))(hl:z.length<=bs.length):gZ oX [j3 bs] (.str z)=some (.str (fq bs z)):=by
 have n1:=G.R.n1;have e:=Fe (j3 bs) (tx bs) z (λn hn=>RK (hz n hn)) (by omega) (P7 G z hz hl);unfold gZ oX fq;generalize j3 bs=DD at *;generalize iK (z.flatMap (tx bs))=W at *;simp[ar,aO,bh,ba,aa,aV,e,aK,S.d]
abbrev dg(bs:List (Nat×List Tx))(t M:Nat):D:=.lst ((Wf M).map λk=>.str (sq bs t k))
theorem Fg{b:Nat×List Tx}:∀ {l:List (Nat×List Tx)},(l.map (·.1)).Nodup->b ∈ l->l.find? (λx=>decide (x.1=b.1))=some b
 | a :: r,nd,hb=>by
  rw[Wn] at nd;obtain⟨n1,n2⟩:=WP.mp nd;rw[Q4];rcases We.mp hb with rfl | hb
  ·simp
  ·have:a.1≠b.1:=λe=>n1 (by rw[e]; exact WQ hb)
   simp only[this,decide_false];exact Fg n2 hb
theorem Fh{h w:Nat}{bs:List (Nat×List Tx)}(R:da h w bs){b:Nat×List Tx}(hb:b ∈ bs):b.2.flatten.length<=16/\eL bs b.1=b.2:=by
 obtain⟨h1,h2⟩:=R.eL b hb;have hh:=R.h1;have hw:=R.w1;refine⟨?_,?_⟩
 ·have:=RD b.2 4 λr hr=>by have:=(h2 r hr).1; omega
  rw[oW] at this;omega
 ·obtain⟨b',fo,e1,e3,e2⟩:=oP (bs:=bs) (n:=b.1) (WQ hb);rw[e2];have:=Fg (PY R) hb;rw[this] at e3
  cases e3;rfl
theorem uk{h w t:Nat}{bs:List (Nat×List Tx)}(G:fu h w bs)(ht:t ∈ bs.map (·.1)):∃ M s,s < M/\sq bs t M=sq bs t s/\M<=64/\((Wf M).map (sq bs t)).Nodup /\
  gD [.pure (ak h w bs),.pure (.str [t])]=some (.pure (.tup [dg bs t M,.int (s:Nat)]),[.pure (ak h w bs),.pure (.str [t])]):=by
 have R:=G.R;have n1:=R.n1;obtain⟨L,hL,jm⟩:=G.fin t ht;obtain⟨M,s,hk,hs,e,hM,hnd⟩:=ER (F:=gZ oX [j3 bs]) jm (λk=>RL G (jy R ht k) (zw R ht k)) 1000000 0 (by simp) (by omega) (by decide);refine⟨M,s,hs,e,by omega,hnd,?_⟩;have hW:qJ (gZ oX [j3 bs]) (.str [t])=some (.tup [dg bs t M,.int (s:Nat)]):=by
  show(wk (gZ oX [j3 bs]) 1000000 [] [t]).map _=_;have:wk (gZ oX [j3 bs]) 1000000 [] [t]=some ((Wf M).map (sq bs t),s):=hk;rw[this];simp
 have x2:=(oU h w bs).2.2;have hd:=RJ R;have c:=mW (cs:=[3,4]) (g:=bT 2 (aU (ao [] 3) (aU (ao [] 4) bW))) (t:=dI) (el:=cP (aF (aa 3) (aF (ar jw [.val (qC (aa 3) (aY (dP []) (ah 4))),.val (aa 3)]) bL))) cb (λb=>D.tup [.str [b.1],.str (tx bs b.1)]) [some (.pure (ak h w bs)),some (.pure (.str [t])),none,none,none] bs [] (by rw[er]; simp; omega) (λb hb=>by
  obtain⟨l1,l2⟩:=Fh R hb;have j:dP [] (fH b.2)=some (.pure (.str b.2.flatten)):=Fd b.2 (by rw[oW]; omega);have g:=Fe (.aM [(Sum.inr [b.1],.str b.2.flatten)]) (λ_=>b.2.flatten) [b.1] (λn hn=>by
   have:n=b.1:=by simpa using hn
   rw[this];show((cD (.str [b.1])).bind λk=>(b_ [((Sum.inr [b.1]:bA),D.str b.2.flatten)] k).map S.pure)=_;simp[cD,b_]) (by simp) (by rw[show([b.1].flatMap λ_=>b.2.flatten)=b.2.flatten by simp]; omega)
  have e:iK ([b.1].flatMap λ_=>b.2.flatten)=tx bs b.1:=by
   unfold tx;rw[l2];simp
  rw[e] at g;refine⟨[some (.pure (ak h w bs)),some (.pure (.str [t])),none,some (.pure (.str [b.1])),some (.pure (fH b.2))],_,.pure (.tup [.str [b.1],.str (tx bs b.1)]),[some (.pure (ak h w bs)),some (.pure (.str [t])),none,some (.pure (.str [b.1])),some (.pure (fH b.2))],rfl,rfl,?_,rfl,rfl⟩;generalize fH b.2=B at *;generalize b.2.flatten=BF at *;generalize tx bs b.1=TX at *;generalize ak h w bs=ru at *;simp[qC,aa,ah,j,cD,ar,aO,bh,ba,aV,g,aK])
 rw[gD,yz];generalize ak h w bs=ru at *;generalize hB:bs.map cb=B at *;generalize (bs.map λb=>D.tup [.str [b.1],.str (tx bs b.1)])=Y at *;generalize j3 bs=DD at *;refine gF (δ1:=[some (.pure ru),some (.pure (.str [t])),some (.pure DD),none,none]) ?_;rw[bj (δ1:=[some (.pure ru),some (.pure (.str [t])),some (.own DD),none,none]) (by
  have i:cp (ag az 0 (aj (eD (.int 2)))) [some (.pure ru),some (.pure (.str [t])),none,none,none] = .ok B [some (.pure ru),some (.pure (.str [t])),none,none,none]:=by
   simp[iL,ag,bb,ah,x2]
  simp only[bo];simp[aw,i,bG,bR];rw[c];simp[dC,hd])]
 have RM:qJ (gZ (ar jw [.val (aa 1),.val (aa 0)]) [DD]) (.str [t])=some (.tup [dg bs t M,.int (s:Nat)]):=hW;clear hW hk;generalize ar jw [.val (aa 1),.val (aa 0)]=FB at *;simp[tY,aa,jv,S.d,RM]
theorem RN(R:da h w bs)(ht:t0 ∈ bs.map (·.1)):oI [.pure (ak h w bs),.pure (.str [t0])]=some (.pure .ax,[.pure (ak h w bs),.pure (.str [t0])]):=by
 have x2:=(oU h w bs).2.2;have hd:=E7 R;have hi:=RC ht;rw[oI,yC];generalize ak h w bs=ru at *;generalize D.tup (bs.map cb)=bd at *;generalize j0 bs=dd at *;refine RE (δ1:=[some (.pure ru),some (.pure (.str [t0]))]) ?_;simp[bo,ay,dm,fP,ah,aa,ag,bb,x2,hd,hi]
def iD(o:Option Nat):Option D:=o.map λj=>D.int (j:Int)
structure Iv(S:Nat->Tx)(ds:List (bA×D))(i:Nat)(l:Tx):Prop where
 val:∀ x,b_ ds (.inr [x])=iD (match dS S x i with
  | some j=>some j
  | none=>if x ∈ l then some i else none)
 len:ds.length<=26 * i + l.length
def pN(ds:List (bA×D))(a i:Nat):List (bA×D):=match b_ ds (.inr [a]) with
 | some _=>ds
 | none=>ds ++ [(.inr [a],.int (i:Int))]
theorem RO(ds:List (bA×D))(k:bA)(v:D)(k':bA):b_ (ds ++ [(k,v)]) k'=match b_ ds k' with
  | some d=>some d
  | none=>if k=k' then some v else none:=by
 unfold b_;rw[List.find?_append]
 cases ds.find? λkv=>decide (kv.1=k') with
 | some p=>rfl
 | none =>
  by_cases h:k=k' <;> simp[h]
theorem Fi{ds:List (bA×D)}{k:bA}{v:D}(h:b_ ds k=none):putD ds k v=ds ++ [(k,v)]:=by
 unfold putD;rw[if_neg];intro q;obtain⟨kv,h1,h2⟩:=JS.mp q;unfold b_ at h;have:=List.find?_eq_none.mp (by
  cases e:ds.find? λkv=>decide (kv.1=k) with
  | none=>rfl
  | some p=>rw[e] at h; cases h) kv h1
 exact this h2
theorem Iv.put{S:Nat->Tx}{ds:List (bA×D)}{i:Nat}{l:Tx}(I:Iv S ds i l)(a:Nat):Iv S (pN ds a i) i (l ++ [a]):=by
 have va:=I.val a;have hl:=I.len;unfold pN
 cases e:b_ ds (.inr [a]) with
 | some d =>
  refine⟨λx=>?_,by simp; omega⟩;simp only;rw[I.val x]
  cases f:dS S x i with
  | some j=>rfl
  | none =>
   simp only;by_cases hx:x ∈ l
   ·simp[hx]
   ·have:x≠a:=λz=>by
     rw[e,<- z,f] at va;simp[hx,iD] at va
    simp[hx,this]
 | none =>
  refine⟨λx=>?_,by simp; omega⟩;simp only;rw[RO,I.val x]
  cases f:dS S x i with
  | some j=>rfl
  | none =>
   simp only;by_cases hx:x ∈ l
   ·simp[hx,iD]
   ·by_cases z:x=a
    ·subst z;simp[hx,iD]
    ·have z':a≠x:=λq=>z q.symm
     simp[hx,iD,z,z']
theorem Iv.next{S:Nat->Tx}{ds:List (bA×D)}{i:Nat}(I:Iv S ds i (S i))(h:(S i).length<=26):Iv S ds (i + 1) []:=by
 have hl:=I.len;refine⟨λx=>?_,by simp; omega⟩;rw[I.val x,P1]
 cases dS S x i with
 | some j=>rfl
 | none =>
  by_cases hx:x ∈ S i <;> simp[hx]
abbrev s8(ru tt L st:D)(ds:List (bA×D))(o5 o6:Option S)(o7:Option D):Dl:=[some (.pure ru),some (.pure tt),some (.pure L),some (.pure st),some (.own (.aM ds)),o5,o6,o7.map .pure]
theorem RP(ru tt L st:D)(ds:List (bA×D))(o6:Option S)(i a:Nat)(hz:ds.length < W6):kH 4 (aa 7) (aa 5) (s8 ru tt L st ds (some (.pure (.int (i:Int)))) o6 (some (.str [a]))) = .ok .next (s8 ru tt L st (pN ds a i) (some (.pure (.int (i:Int)))) o6 (some (.str [a]))):=by
 unfold pN
 cases e:b_ ds (.inr [a]) with
 | some d=>simp[kH,kE,aa,S.d,cD,hz,e]
 | none=>simp[kH,kE,aa,S.d,cD,hz,e,Fi e]
theorem Fj(ru tt L st:D)(S:Nat->Tx)(i:Nat)(hi:i<=100)(o6:Option DV.S):∀ (l done:Tx) (ds:List (bA×D)) (o7:Option D),Iv S ds i done->(done ++ l).length<=26 ->
  ∃ cM o7',Iv S cM i (done ++ l)/\forL (ao [] 7) (kH 4 (aa 7) (aa 5)) (l.map λn=>D.str [n]) (s8 ru tt L st ds (some (.pure (.int (i:Int)))) o6 o7) = .ok .next (s8 ru tt L st cM (some (.pure (.int (i:Int)))) o6 o7')
 | [],done,ds,o7,I,_=>⟨ds,o7,by rw[Qz]; exact I,rfl⟩
 | a :: l,done,ds,o7,I,hl=>by
  have hd:=I.len;have kU:done.length + (l.length + 1)<=26:=by simpa using hl
  obtain⟨cM,o7',I',e⟩:=Fj ru tt L st S i hi o6 l (done ++ [a]) (pN ds a i) (some (.str [a])) (I.put a) (by rw[JL]; exact hl);refine⟨cM,o7',by rw[JL] at I'; exact I',?_⟩;rw[Wn,nG (δ1:=s8 ru tt L st ds (some (.pure (.int (i:Int)))) o6 (some (.str [a]))) rfl (RP ru tt L st ds o6 i a (by rw[er]; omega))];exact e
theorem RQ(ru tt L st:D)(S:Nat->Tx)(M:Nat)(hM:M<=100)(hS:∀ k,(S k).length<=26):∃ ds o5 o6 o7,Iv S ds M []/\forL (bT 2 (aU (ao [] 5) (aU (ao [] 6) bW))) (cG (cp (aa 6)) (ao [] 7) (kH 4 (aa 7) (aa 5))) (gY ((Wf M).map λk=>D.str (S k))) (s8 ru tt L st [] none none none) = .ok .next (s8 ru tt L st ds o5 o6 o7):=by
 obtain⟨δ',e,ds,o5,o6,o7,I,rfl⟩:=mU (g:=bT 2 (aU (ao [] 5) (aU (ao [] 6) bW))) (b:=cG (cp (aa 6)) (ao [] 7) (kH 4 (aa 7) (aa 5)))
  (λn δ=>∃ ds o5 o6 o7,Iv S ds n []/\δ=s8 ru tt L st ds o5 o6 o7) (gY ((Wf M).map λk=>D.str (S k))) 0 (s8 ru tt L st [] none none none) ⟨[],none,none,none,⟨λx=>by simp[b_,dS,iD],by simp⟩,rfl⟩ (λi d δ hd ⟨ds,o5,o6,o7,I,e⟩=>by
   subst e;obtain⟨d',h1,rfl⟩:=wW hd;have hi:i < M:=by
    have:=(Wd.mp h1).1;simpa using this
   have:d' = .str (S i):=by
    rw[Wv,Qj hi] at h1;simpa using h1.symm
   subst this;rw[J7] at I ⊢;obtain⟨cM,o7',I',e⟩:=Fj ru tt L st S i (by omega) (some (.pure (.str (S i)))) (S i) [] ds o7 I (by simpa using hS i);rw[QA] at I';refine⟨s8 ru tt L st ds (some (.pure (.int (i:Int)))) (some (.pure (.str (S i)))) o7,s8 ru tt L st cM (some (.pure (.int (i:Int)))) (some (.pure (.str (S i)))) o7',rfl,?_,cM,_,_,o7',I'.next (hS i),rfl⟩;have iq:cp (aa 6) (s8 ru tt L st ds (some (.pure (.int (i:Int)))) (some (.pure (.str (S i)))) o7) = .ok ((S i).map λn=>D.str [n]) (s8 ru tt L st ds (some (.pure (.int (i:Int)))) (some (.pure (.str (S i)))) o7):=by
    simp[iL,aa]
   exact(eW iq).trans e)
 refine⟨ds,o5,o6,o7,?_,e⟩;have:0 + (gY ((Wf M).map λk=>D.str (S k))).length=M:=by simp[gY]
 rw[this] at I;exact I
theorem um(R:da h w bs):iI [.pure (ak h w bs)]=some (.own (tD (bs.map (·.1))),[.pure (ak h w bs)]):=by
 have n1:=R.n1;have x2:=(oU h w bs).2.2;have c:=mW (cs:=[1,2]) (g:=bT 2 (aU (ao [] 1) (aU (ao [] 2) bW))) (t:=dI) (el:=aa 1) cb (λb=>D.str [b.1]) [some (.pure (ak h w bs)),none,none] bs [] (by rw[er]; simp; omega) (λb hb=>⟨[some (.pure (ak h w bs)),some (.pure (.str [b.1])),some (.pure (fH b.2))],_,.pure (.str [b.1]),[some (.pure (ak h w bs)),some (.pure (.str [b.1])),some (.pure (fH b.2))],rfl,rfl,by simp[aa],rfl,rfl⟩);have et:tD (bs.map (·.1)) = .lst (bs.map λb=>D.str [b.1]):=by unfold tD; rw[Wx]; rfl
 rw[iI,yw,et];generalize ak h w bs=ru at *;generalize hB:bs.map cb=B at *;generalize (bs.map λb=>D.str [b.1])=Y at *;refine oV (δ1:=[some (.pure ru),none,none]) ?_;have i:cp (ag az 0 (aj (eD (.int 2)))) [some (.pure ru),none,none] = .ok B [some (.pure ru),none,none]:=by
  simp[iL,ag,bb,ah,x2]
 simp only[bo];simp[i,bG,bR];rw[c];simp[dC]
def lR(bs:List (Nat×List Tx))(f:Nat->Option Nat):List D:=bs.map λb=>D.tup [.str [b.1],(iD (f b.1)).getD .ax]
theorem Iv.get{S:Nat->Tx}{ds:List (bA×D)}{i:Nat}(I:Iv S ds i [])(x:Nat):(b_ ds (.inr [x])).getD .ax=(iD (dS S x i)).getD .ax:=by
 rw[I.val x]
 cases dS S x i with
 | some j=>rfl
 | none=>rfl
theorem RS{h w t:Nat}{bs:List (Nat×List Tx)}(G:fu h w bs)(ht:t ∈ bs.map (·.1)):∃ M,(∀ k,∃ j,j < M/\sq bs t k=sq bs t j) /\
  lK [.pure (ak h w bs),.pure (.str [t])]=some (.own (.lst (lR bs λx=>dS (sq bs t) x M)),[.pure (ak h w bs),.pure (.str [t])]):=by
 have R:=G.R;have n1:=R.n1;obtain⟨M,s,hs,e,hM,_,gs⟩:=uk G ht;refine⟨M,zx (λi j q=>by show fq bs _=fq bs _; rw[q]) hs e,?_⟩;have g0:=RN R ht;have gt:=um R;obtain⟨ds,o5,o6,o7,I,el⟩:=RQ (ak h w bs) (.str [t]) (dg bs t M) (.int (s:Nat)) (sq bs t) M (by omega) (λk=>WU (zw R ht k) n1);have c:=mW (cs:=[7]) (g:=ao [] 7) (t:=dI) (el:=cP (aF (aa 7) (aF (qz 4 (aa 7)) bL))) (λb:Nat×List Tx=>D.str [b.1]) (λb=>D.tup [.str [b.1],(iD (dS (sq bs t) b.1 M)).getD .ax]) (s8 (ak h w bs) (.str [t]) (dg bs t M) (.int (s:Nat)) ds o5 o6 none) bs [] (by rw[er]; simp; omega) (λb hb=>by
  have q:=I.get b.1;refine⟨s8 (ak h w bs) (.str [t]) (dg bs t M) (.int (s:Nat)) ds o5 o6 (some (.str [b.1])),_,.pure (.tup [.str [b.1],(iD (dS (sq bs t) b.1 M)).getD .ax]),s8 (ak h w bs) (.str [t]) (dg bs t M) (.int (s:Nat)) ds o5 o6 (some (.str [b.1])),rfl,rfl,?_,rfl,rfl⟩;rw[<- q];generalize dg bs t M=L at *;generalize ak h w bs=ru at *;simp[aa,qz,tH,S.d,cD])
 have et:tD (bs.map (·.1)) = .lst (bs.map λb=>D.str [b.1]):=by unfold tD; rw[Wx]; rfl
 have RT:∀ δ:Dl,δ[2]? = some (some (.pure (dg bs t M)))->kD (aa 2) δ = .ok (gY ((Wf M).map λk=>D.str (sq bs t k))) δ:=λδ hδ=>by
  have Uq:δ.set 2 (some (.pure (dg bs t M)))=δ:=by
   apply JM;intro i;by_cases hi:2=i
   ·subst hi;rw[Wu (Wd.mp hδ).1,hδ]
   ·rw[Wa hi]
  simp[kD,aa,hδ,S.d]
 rw[lK,yD];have hR:lR bs (λx=>dS (sq bs t) x M)=bs.map λb=>D.tup [.str [b.1],(iD (dS (sq bs t) b.1 M)).getD .ax]:=rfl
 rw[hR];generalize (bs.map λb=>D.tup [.str [b.1],(iD (dS (sq bs t) b.1 M)).getD .ax])=Y at *;generalize gY ((Wf M).map λk=>D.str (sq bs t k))=EN at *;generalize dg bs t M=L at *;generalize hTD:tD (bs.map (·.1))=T at *;generalize (bs.map λb:Nat×List Tx=>D.str [b.1])=TS at *;generalize ak h w bs=ru at *;refine gF (δ1:=s8 ru (.str [t]) L (.int (s:Nat)) ds o5 o6 o7) ?_;rw[bj (δ1:=[some (.pure ru),some (.pure (.str [t])),none,none,none,none,none,none]) (by
  simp[bo,og,ar,aO,bh,ba,aa,aV,g0,aK])]
 rw[bj (δ1:=[some (.pure ru),some (.pure (.str [t])),some (.pure L),some (.pure (.int (s:Nat))),none,none,none,none]) (by
  simp[aw,ar,aO,bh,ba,aa,aV,gs,aK,bT,aU,bW])]
 rw[bj (δ1:=s8 ru (.str [t]) L (.int (s:Nat)) [] none none none) (by simp[aw,mO])];rw[bj ((eW (RT _ rfl)).trans el)];have i:cp (ar iI [.val (aa 0)]) (s8 ru (.str [t]) L (.int (s:Nat)) ds o5 o6 o7) = .ok TS (s8 ru (.str [t]) L (.int (s:Nat)) ds o5 o6 o7):=by
  simp[iL,ar,aO,bh,ba,aa,aV,gt,aK,S.d,et]
 have j_:([7]:List Nat).any (bG (s8 ru (.str [t]) L (.int (s:Nat)) ds o5 o6 o7))=false:=by cases o7 <;> rfl
 have oB:bR [7] (s8 ru (.str [t]) L (.int (s:Nat)) ds o5 o6 o7)=s8 ru (.str [t]) L (.int (s:Nat)) ds o5 o6 none:=rfl;show((fc _ _ _ _ _ _).bind _)=_;rw[NV,i];simp only[ju];rw[j_,oB,c];rfl
def kd(K:List Nat):List (bA×D):=K.map λn=>(.inr [n],.bl true)
theorem RW(K:List Nat)(n:Nat):b_ (kd K) (.inr [n])=if n ∈ K then some (.bl true) else none:=by
 induction K with
 | nil=>rfl
 | cons a r ih =>
  unfold b_ kd at ih ⊢;rw[Wn,Q4];by_cases e:a=n
  ·simp[e]
  ·have e':n≠a:=λz=>e z.symm
   have:decide ((Sum.inr [a]:bA)=Sum.inr [n])=false:=by simp[e]
   simp only[this,ih];simp[e']
theorem RX(K:List Nat)(n:Nat):putD (kd K) (.inr [n]) (.bl true)=kd (if n ∈ K then K else K ++ [n]):=by
 by_cases h:n ∈ K
 ·rw[if_pos h];unfold putD;have:(kd K).any (λkv=>decide (kv.1 = .inr [n]))=true:=List.any_eq_true.mpr ⟨(.inr [n],.bl true),WD.mpr ⟨n,h,rfl⟩,by simp⟩;rw[if_pos this];unfold kd;rw[Wx];refine List.map_congr_left λa _=>?_
  simp only[Function.comp];split
  ·rfl
  ·rfl
 ·rw[if_neg h,Fi (by rw[RW,if_neg h])];unfold kd;rw[WY];rfl
abbrev s6(ru so dd:D)(K:List Nat)(o4 o5:Option S):Dl:=[some (.pure ru),some (.pure so),some (.own dd),some (.own (.aM (kd K))),o4,o5]
theorem Fm(ru so dd:D)(ts:List Nat)(ht:ts.length<=26)(o4:Option S):∀ (z:Tx) (K:List Nat) (o5:Option S),(∀ n ∈ z,n ∈ ts)->K.Nodup->(∀ n ∈ K,n ∈ ts) ->
  ∃ o5',forL (ao [] 5) (jt 3 (aa 5) (eD (.bl true))) (z.map λn=>D.str [n]) (s6 ru so dd K o4 o5) = .ok .next (s6 ru so dd (de K z) o4 o5')
 | [],K,o5,_,_,_=>⟨o5,rfl⟩
 | a :: z,K,o5,hz,nd,hK=>by
  have hl:=kO nd hK;have fZ:(if a ∈ K then K else K ++ [a]).Nodup:=by
   split
   ·exact nd
   ·rename_i q;refine Jq.mpr ⟨nd,by simp,λx hx y hy e=>q ?_⟩;have:y=a:=by simpa using hy
    rw[<- this,<- e]; exact hx
  have zI:∀ n ∈ (if a ∈ K then K else K ++ [a]),n ∈ ts:=λn hn=>by
   split at hn
   ·exact hK n hn
   ·rcases Qr.mp hn with q | q
    ·exact hK n q
    ·have:n=a:=by simpa using q
     rw[this]; exact hz a Wl
  obtain⟨o5',e⟩:=Fm ru so dd ts ht o4 z _ (some (.pure (.str [a]))) (λn hn=>hz n (Wh _ hn)) fZ zI;have ed:de K (a :: z)=de (if a ∈ K then K else K ++ [a]) z:=by
   conv=>lhs; unfold de
   split <;> rfl
  refine⟨o5',?_⟩;rw[ed,<- e,Wn,nG (δ1:=s6 ru so dd K o4 (some (.pure (.str [a])))) rfl];have RY:(kd K).length < W6:=by rw[er]; unfold kd; rw[WA]; omega
  have:=RX K a;unfold s6;rw[<- this];generalize kd K=ds at *;simp[jt,kE,aa,S.d,cD,RY]
theorem Fo{h w:Nat}{bs:List (Nat×List Tx)}(R:da h w bs)(ru so:D):∀ (z:Tx) (K:List Nat) (o4 o5:Option S),(∀ n ∈ z,n ∈ bs.map (·.1))->K.Nodup->(∀ n ∈ K,n ∈ bs.map (·.1)) ->
  ∃ K' o4' o5',K'.Nodup/\(∀ n ∈ K',n ∈ bs.map (·.1))/\(∀ x,x ∈ K' ↔ x ∈ K\/∃ y ∈ z,x ∈ (eL bs y).flatten) /\
   forL (ao [] 4) (cG (cp (aY (dP []) (aj (ag jr 2 (ah 4))))) (ao [] 5) (jt 3 (aa 5) (eD (.bl true)))) (z.map λn=>D.str [n]) (s6 ru so (j0 bs) K o4 o5) = .ok .next (s6 ru so (j0 bs) K' o4' o5')
 | [],K,o4,o5,_,nd,hK=>⟨K,o4,o5,nd,hK,λx=>by simp,rfl⟩
 | a :: z,K,o4,o5,hz,nd,hK=>by
  have n1:=R.n1;have ha:=hz a Wl;obtain⟨o5',e⟩:=Fm ru so (j0 bs) (bs.map (·.1)) (by simpa using n1) (some (.pure (.str [a]))) (eL bs a).flatten K o5 (λn hn=>oR R ha hn) nd hK;have fZ:=ug (z:=(eL bs a).flatten) nd;have zI:∀ n ∈ de K (eL bs a).flatten,n ∈ bs.map (·.1):=λn hn=>by
   rcases qU.mp hn with q | q
   ·exact hK n q
   ·exact oR R ha q
  obtain⟨K',p4,p5,a1,a2,a3,e2⟩:=Fo R ru so z _ (some (.pure (.str [a]))) o5' (λn hn=>hz n (Wh _ hn)) fZ zI;refine⟨K',p4,p5,a1,a2,λx=>?_,?_⟩
  ·rw[a3 x,qU];constructor
   ·rintro ((q | q) | ⟨y,q1,q2⟩)
    ·exact .inl q
    ·exact .inr ⟨a,Wl,q⟩
    ·exact .inr ⟨y,Wh _ q1,q2⟩
   ·rintro (q | ⟨y,q1,q2⟩)
    ·exact .inl (.inl q)
    ·rcases We.mp q1 with rfl | q1
     ·exact .inl (.inr q2)
     ·exact .inr ⟨y,q1,q2⟩
  ·have hx:=RA ha;obtain⟨b,hb,_,_,eb⟩:=oP ha;have j:dP [] (fH (eL bs a))=some (.pure (.str (eL bs a).flatten)):=Fd _ (by
    rw[oW,eb];have:=(Fh R hb).1;omega)
   rw[<- e2,Wn,nG (δ1:=s6 ru so (j0 bs) K (some (.pure (.str [a]))) o5) rfl];refine(eW (ds:=(eL bs a).flatten.map λn=>D.str [n]) ?_).trans e;unfold s6;generalize (eL bs a).flatten=BF at *;generalize fH (eL bs a)=BB at *;generalize j0 bs=DD at *;simp[iL,ag,bb,ah,hx,j,S.d]
theorem RZ{h w:Nat}{bs:List (Nat×List Tx)}(R:da h w bs){z:Tx}(hz:∀ n ∈ z,n ∈ bs.map (·.1)):kM [.pure (ak h w bs),.pure (tD z)]=some (.own (tD (fq bs z)),[.pure (ak h w bs),.pure (tD z)]):=by
 have n1:=R.n1;have x2:=(oU h w bs).2.2;have hd:=E7 R;obtain⟨K,o4,o5,nd,hK,hm,e⟩:=Fo R (ak h w bs) (tD z) z [] none none hz List.nodup_nil (by simp);have hl:=kO nd hK;rw[WA] at hl;have hs:eV K=fq bs z:=oQ (tQ nd) (zv _) λx=>by
  rw[qG,hm x,jx];simp
 have p1:oA (.aM (kd K))=some (.own (.lst (K.map λn=>.str [n]))):=by
  show some (S.own (D.lst ((kd K).map λp=>lH p.1)))=_;unfold kd;rw[Wx];rfl
 have p2:=E4 K (by omega);rw[hs] at p2;have ez:tD z = .lst (z.map λn=>D.str [n]):=rfl;have et:tD (fq bs z) = .lst ((fq bs z).map λn=>D.str [n]):=rfl;rw[kM,yP,et];generalize ((fq bs z).map λn=>D.str [n])=Y at *;generalize (z.map λn=>D.str [n])=ZS at *;generalize tD z=T at *;generalize ak h w bs=ru at *;generalize D.tup (bs.map cb)=bd at *;generalize j0 bs=dd at *;refine gF (δ1:=s6 ru T dd K o4 o5) ?_;rw[bj (δ1:=[some (.pure ru),some (.pure T),some (.own dd),none,none,none]) (by simp[bo,aw,ag,bb,ah,x2,hd])];rw[bj (δ1:=s6 ru T dd [] none none) (by simp[aw,mO,kd])];have i:cp (aa 1) (s6 ru T dd [] none none) = .ok ZS (s6 ru T dd [] none none):=by simp[iL,aa,S.d,ez]
 rw[bj ((eW i).trans e)];unfold s6;generalize kd K=kk at *;simp[ah,p1,p2]
def oD:Option Nat->D
 | some m=>.int (m:Int)
 | none=>.ax
theorem lt_int(i j:Int):iz (.int i) (.int j)=some (.pure (.bl (decide (i < j)))):=rfl
theorem R0(i j:Int):sJ (.int i) (.int j)=some (.pure (.int (if j > i then j else i))):=rfl
abbrev v6(ru ti:D)(L:Nat)(o3 o4 o5:Option S):Dl:=[some (.pure ru),some (.pure ti),some (.pure (.int (L:Int))),o3,o4,o5]
abbrev vB:DS:=(au (aw (ar gD [.val (aa 0),.val (aa 3)]) (bT 2 (aU (ao [] 4) (aU (ao [] 5) bW)))) (au (bN (ay (aE iz (aY bI (aj (ag az 4 (ah 5)))) (aj (aY bI (ah 1))))) (a_ (eD .ax)) bO) (aw (mF (aa 2) (aa 5)) (ao [] 2))))
theorem R3{h w t:Nat}{bs:List (Nat×List Tx)}(G:fu h w bs)(ht:t ∈ bs.map (·.1))(L:Nat)(o4 o5:Option S) :
  (∃ δ',vB (v6 (ak h w bs) (tD (bs.map (·.1))) L (some (.pure (.str [t]))) o4 o5) = .ok (.ret (.pure .ax)) δ'/\∀ m,sq bs t m≠bs.map (·.1)) \/
  (∃ (s:Nat) (q4 q5:Option S),vB (v6 (ak h w bs) (tD (bs.map (·.1))) L (some (.pure (.str [t]))) o4 o5) = .ok .next (v6 (ak h w bs) (tD (bs.map (·.1))) (max L s) (some (.pure (.str [t]))) q4 q5)/\sq bs t s=bs.map (·.1)/\∀ j,j < s->sq bs t j≠bs.map (·.1)):=by
 have R:=G.R;have n1:=R.n1;obtain⟨M,s,hs,e,hM,nd,g⟩:=uk G ht;have hx:az (dg bs t M) (.int (s:Int))=some (.pure (.str (sq bs t s))):=by
  show(cR ((Wf M).map λk=>D.str (sq bs t k)) (s:Int)).map S.pure=_;rw[iY,Wv,Qj hs];rfl
 have hl:=zw R ht s;have l1:=RG (sq bs t s) (by omega);have hlen:bI (tD (bs.map (·.1)))=some (.pure (.int ((bs.length:Nat):Int))):=by simp[tD,bI]
 have fl:=EV R ht s;have k1:aw (ar gD [.val (aa 0),.val (aa 3)]) (bT 2 (aU (ao [] 4) (aU (ao [] 5) bW))) (v6 (ak h w bs) (tD (bs.map (·.1))) L (some (.pure (.str [t]))) o4 o5) = .ok .next (v6 (ak h w bs) (tD (bs.map (·.1))) L (some (.pure (.str [t]))) (some (.pure (dg bs t M))) (some (.pure (.int (s:Nat))))):=by
  generalize dg bs t M=LL at *;generalize tD (bs.map (·.1))=TS at *;generalize ak h w bs=ru at *;simp[aw,ar,aO,bh,ba,aa,aV,g,aK,bT,aU,bW]
 by_cases q:sq bs t s=bs.map (·.1)
 ·refine .inr ⟨s,some (.pure (dg bs t M)),some (.pure (.int (s:Nat))),?_,q,(EY R ht hs e nd q).2⟩;have my:=fl.mp q;have hn:¬ ((Qx (sq bs t s):Nat):Int) < ((bs.length:Nat):Int):=by omega
  rw[vB,bj k1];have em:(if (s:Int) > (L:Int) then(s:Int) else(L:Int))=((max L s:Nat):Int):=by
   split <;> omega
  have mx:=R0 (L:Int) (s:Int);rw[em] at mx;generalize max L s=LM at *;generalize sq bs t s=SQ at *;generalize dg bs t M=LL at *;generalize tD (bs.map (·.1))=TS at *;generalize ak h w bs=ru at *;simp[ay,ag,bb,ah,hx,l1,hlen,lt_int,hn,aw,mF,aa,S.d,mx]
 ·refine .inl ⟨v6 (ak h w bs) (tD (bs.map (·.1))) L (some (.pure (.str [t]))) (some (.pure (dg bs t M))) (some (.pure (.int (s:Nat)))),?_,λm hm=>q (EY R ht hs e nd hm).1⟩;have hn:((Qx (sq bs t s):Nat):Int) < ((bs.length:Nat):Int):=by
   by_cases z:bs.length<=(sq bs t s).length
   ·exact absurd (fl.mpr z) q
   ·omega
  rw[vB,bj k1];refine kP ?_;clear q;generalize sq bs t s=SQ at *;generalize dg bs t M=LL at *;generalize tD (bs.map (·.1))=TS at *;generalize ak h w bs=ru at *;simp[ay,ag,bb,ah,hx,l1,hlen,lt_int,hn]
theorem Fp{h w:Nat}{bs:List (Nat×List Tx)}(G:fu h w bs):∀ (l:List Nat) (L:Nat) (o3 o4 o5:Option S),(∀ t ∈ l,t ∈ bs.map (·.1)) ->
  (∃ δ',forL (ao [] 3) vB (l.map λn=>D.str [n]) (v6 (ak h w bs) (tD (bs.map (·.1))) L o3 o4 o5) = .ok (.ret (.pure .ax)) δ'/\∃ t ∈ bs.map (·.1),∀ m,sq bs t m≠bs.map (·.1)) \/
  (∃ (L':Nat) (q3 q4 q5:Option S),forL (ao [] 3) vB (l.map λn=>D.str [n]) (v6 (ak h w bs) (tD (bs.map (·.1))) L o3 o4 o5) = .ok .next (v6 (ak h w bs) (tD (bs.map (·.1))) L' q3 q4 q5)/\L<=L'/\(∀ t ∈ l,sq bs t L'=bs.map (·.1))/\(L'=L\/∃ t ∈ bs.map (·.1),∀ j,j < L'->sq bs t j≠bs.map (·.1)))
 | [],L,o3,o4,o5,_=>.inr ⟨L,o3,o4,o5,rfl,W8 _,(λt h=>by cases h),.inl rfl⟩
 | a :: l,L,o3,o4,o5,hl=>by
  have ha:=hl a Wl;rcases R3 G ha L o4 o5 with ⟨δ',e,hn⟩ | ⟨s,q4,q5,e,hf,hm⟩
  ·refine .inl ⟨δ',?_,a,ha,hn⟩;rw[Wn];show(vB _).bind _=_;rw[show((v6 (ak h w bs) (tD (bs.map (·.1))) L o3 o4 o5).set 3 (some (.pure (.str [a]))))=v6 (ak h w bs) (tD (bs.map (·.1))) L (some (.pure (.str [a]))) o4 o5 from rfl,e];rfl
  ·have st:forL (ao [] 3) vB ((a :: l).map λn=>D.str [n]) (v6 (ak h w bs) (tD (bs.map (·.1))) L o3 o4 o5)=forL (ao [] 3) vB (l.map λn=>D.str [n]) (v6 (ak h w bs) (tD (bs.map (·.1))) (max L s) (some (.pure (.str [a]))) q4 q5):=by
    rw[Wn,nG (δ1:=v6 (ak h w bs) (tD (bs.map (·.1))) L (some (.pure (.str [a]))) o4 o5) rfl e]
   rcases Fp G l (max L s) (some (.pure (.str [a]))) q4 q5 (λt ht=>hl t (Wh _ ht)) with ⟨δ',e2,hn⟩ | ⟨L',p3,p4,p5,e2,hL,gx,hmin⟩
   ·exact .inl ⟨δ',by rw[st]; exact e2,hn⟩
   ·refine .inr ⟨L',p3,p4,p5,by rw[st]; exact e2,by omega,λt ht=>?_,?_⟩
    ·rcases We.mp ht with rfl | ht
     ·exact zC G.R ha hf (by omega)
     ·exact gx t ht
    ·rcases hmin with z | z
     ·by_cases q:s<=L
      ·exact .inl (by omega)
      ·exact .inr ⟨a,ha,λj hj=>hm j (by omega)⟩
     ·exact .inr z
theorem R4{h w:Nat}{bs:List (Nat×List Tx)}(G:fu h w bs):∃ o,Res bs o/\iJ [.pure (ak h w bs)]=some (.pure (oD o),[.pure (ak h w bs)]):=by
 have gt:=um G.R;have eT:tD (bs.map (·.1)) = .lst ((bs.map (·.1)).map λt=>D.str [t]):=rfl;have iq:cp (aa 1) [some (.pure (ak h w bs)),some (.own (tD (bs.map (·.1)))),some (.pure (.int 1)),none,none,none] = .ok ((bs.map (·.1)).map λt=>D.str [t]) (v6 (ak h w bs) (tD (bs.map (·.1))) 1 none none none):=by
  simp[iL,aa,S.d,tD]
 have b7:∀ o δ2,(au (cG (cp (aa 1)) (ao [] 3) vB) (a_ (aa 2))) [some (.pure (ak h w bs)),some (.own (tD (bs.map (·.1)))),some (.pure (.int 1)),none,none,none] = .ok (.ret (.pure (oD o))) δ2->iJ [.pure (ak h w bs)]=some (.pure (oD o),[.pure (ak h w bs)]):=λo δ2 e2=>by
  rw[iJ,yB];clear iq;generalize tD (bs.map (·.1))=TS at *;generalize ak h w bs=ru at *;refine oV (δ1:=δ2) ?_;rw[bj (δ1:=[some (.pure ru),some (.own TS),none,none,none,none]) (by simp[bo,aw,ar,aO,bh,ba,aa,aV,gt,aK])];rw[bj (δ1:=[some (.pure ru),some (.own TS),some (.pure (.int 1)),none,none,none]) (by simp[aw])];exact e2
 rcases Fp G (bs.map (·.1)) 1 none none none (λt h=>h) with ⟨δ',e,t,ht,hn⟩ | ⟨L',q3,q4,q5,e,hL,gx,hmin⟩
 ·exact⟨none,λj hj=>hn j (hj t ht),b7 none δ' (kP ((eW iq).trans e))⟩
 ·refine⟨some L',⟨hL,gx,λj h1 h2 hj=>?_⟩,b7 (some L') (v6 (ak h w bs) (tD (bs.map (·.1))) L' q3 q4 q5) (by
   rw[bj ((eW iq).trans e)];clear iq e b7;generalize tD (bs.map (·.1))=TS at *;generalize ak h w bs=ru at *;simp[aa,oD])⟩
  rcases hmin with z | ⟨t,ht,hm⟩
  ·omega
  ·exact hm j h2 (hj t ht)
def rT(n:Nat):Tx:=(Wf n).map (97 + ·)
theorem Fq(n:Nat):(rT n).length=n:=by unfold rT; simp
theorem R5{n k:Nat}(h:k < n):(rT n).getD k 0=97 + k:=by
 unfold rT;rw[List.getD_eq_getElem?_getD,Wv,Qj h];rfl
theorem zJ{n k:Nat}(h:k < n)(hn:n<=6):az (.str (rT n)) (.int (k:Int))=some (.pure (.str [97 + k])):=by
 rw[D6 (rT n) k (by rw[Fq]; exact h) (by rw[Fq]; omega),R5 h]
theorem R6(n:Nat)(h:n<=6):fA none (some (n:Int)) (.str [97,98,99,100,101,102])=some (.pure (.str (rT n))):=by
 have:n=0\/n=1\/n=2\/n=3\/n=4\/n=5\/n=6:=by omega
 have hz:([97,98,99,100,101,102]:Tx).length<=W6:=by rw[er]; decide
 simp only[fA];rw[if_pos hz];rcases this with rfl | rfl | rfl | rfl | rfl | rfl | rfl <;> rfl
structure RB(n k:Nat)(bs:List (Nat×List Tx)):Prop where
 fs:bs.map (·.1)=(Wf k).map (97 + ·)
 bl:∀ b ∈ bs,∃ x y,b.2=[[x,y]]/\97<=x/\x < 97 + n/\97<=y/\y < 97 + n
theorem RB.R7{n:Nat}{bs:List (Nat×List Tx)}(B:RB n n bs)(h2:2<=n)(h6:n<=6):da 1 2 bs/\bs.length=n:=by
 have hl:bs.length=n:=by
  have:=congrArg Qx B.fs;simpa using this
 have mem:∀ x,97<=x->x < 97 + n->x ∈ bs.map (·.1):=λx h1 h2=>by
  rw[B.fs];exact WD.mpr ⟨x - 97,WL.mpr (by omega),by omega⟩
 have back:∀ x ∈ bs.map (·.1),97<=x/\x < 97 + n:=λx hx=>by
  rw[B.fs] at hx;obtain⟨k,hk,rfl⟩:=WD.mp hx;have:=WL.mp hk;omega
 refine⟨⟨by decide,by decide,by decide,by decide,by decide,by omega,by omega,?_,λb hb=>?_,λb hb=>?_⟩,hl⟩
 ·rw[B.fs,QW];exact List.pairwise_lt_range.imp λh=>by omega
 ·have:=back b.1 (WQ hb);omega
 ·obtain⟨x,y,e,h1,h2,h3,h4⟩:=B.bl b hb;rw[e];refine⟨rfl,λr hr=>?_⟩;have:r=[x,y]:=by simpa using hr
  subst this;refine⟨rfl,λn hn=>?_⟩;rcases We.mp hn with rfl | hn
  ·exact mem _ h1 h2
  ·have:n=y:=by simpa using hn
   rw[this]; exact mem _ h3 h4
abbrev r6(d:D)(n:Nat)(bs:List (Nat×List Tx))(o4 o5:Option S):Dl:=[some (.own d),some (.pure (.int (n:Int))),some (.pure (.str (rT n))),some (.own (.lst (bs.map cb))),o4,o5]
abbrev x1:DS:=(aw (ag az 2 (aj (aE cO (ag aT 4 (aj (eD (.int 1)))) (ah 1)))) (ao [0] 5))
abbrev x2:DS:=(bN (iP (ay (ag bU 4 (aj (eD (.int 0))))) (ay (aE bU (ar bV [.io 0,.val (eD (.int 4))]) (aj (eD (.int 0)))))) (aw (ag aT 5 (aj (ag az 2 (aj (ar bV [.io 0,.val (aa 1)]))))) (ao [0] 5)) bO)
abbrev x3:DS:=(fB 3 (cP (aF (ag az 2 (ah 4)) (aF (cP (aF (kr (ag aT 5 (ah 5)) gz (eU (eD (.int 2)))) bL)) bL))))
theorem oY(i j:Int)(h:0 < j):cO (.int i) (.int j)=some (.pure (.int (i % j))):=by
 simp only[cO,e8]; rw[if_pos (by simpa using h)]
theorem uo(a b:Tx)(h:a.length + b.length<=100):aT (.str a) (.str b)=some (.pure (.str (a ++ b))):=by
 simp only[aT];rw[if_pos (by rw[er]; omega)]
theorem R8(a b:Nat):fA none (some 2) (.str ([a] ++ [b]))=some (.pure (.str [a,b])):=by
 simp only[fA];rw[if_pos (by rw[er]; simp)];rfl
theorem R9(a b c d:Nat):fA none (some 2) (.str ([a,b] ++ [c,d]))=some (.pure (.str [a,b])):=by
 simp only[fA];rw[if_pos (by rw[er]; simp)];rfl
theorem R_{n k:Nat}(h2:2<=n)(h6:n<=6)(hk:k < n){d:D}(hd:cg d){bs:List (Nat×List Tx)}(B:RB n k bs)(o5:Option S):∃ d' kq q5,cg d'/\RB n (k + 1) kq /\
  (au x1 (au x2 x3)) (r6 d n bs (some (.pure (.int (k:Int)))) o5) = .ok .next (r6 d' n kq (some (.pure (.int (k:Int)))) q5):=by
 have hm:=QY (k + 1) (show 0 < n by omega);have md:=oY ((k:Int) + 1) (n:Int) (by omega);have em:((k:Int) + 1) % (n:Int)=(((k + 1) % n:Nat):Int):=by push_cast; rfl
 rw[em] at md;have i1:=zJ hm h6;generalize (k + 1) % n=m at *;have k1:x1 (r6 d n bs (some (.pure (.int (k:Int)))) o5) = .ok .next (r6 d n bs (some (.pure (.int (k:Int)))) (some (.pure (.str [97 + m])))):=by
  unfold r6;generalize rT n=T at *;generalize bs.map cb=BB at *;simp[x1,aw,ag,bb,ah,add_int,md,i1]
 have k2:∃ d' z,cg d'/\(z=[97 + m]\/∃ y,97<=y/\y < 97 + n/\z=[97 + m,y])/\x2 (r6 d n bs (some (.pure (.int (k:Int)))) (some (.pure (.str [97 + m])))) = .ok .next (r6 d' n bs (some (.pure (.int (k:Int)))) (some (.pure (.str z)))):=by
  by_cases hk0:k=0
  ·obtain⟨r1,d1,e1,l1,p1⟩:=eM hd 4 4 rfl (by decide) (by decide);have q0:bU (.int (k:Int)) (.int 0)=some (.pure (.bl true)):=by rw[jC,hk0]; rfl
   by_cases hr:r1=0
   ·obtain⟨r2,d2,e2,l2,p2⟩:=eM p1 n (n:Int) rfl (by omega) (by omega);have i2:=zJ l2 h6;have q1:bU (.int (r1:Int)) (.int 0)=some (.pure (.bl true)):=by rw[jC,hr]; rfl
    have ad:=uo [97 + m] [97 + r2] (by simp);refine⟨d2,[97 + m,97 + r2],p2,.inr ⟨97 + r2,by omega,by omega,rfl⟩,?_⟩;have ad:aT (.str [97 + m]) (.str [97 + r2])=some (.pure (.str [97 + m,97 + r2])):=ad;unfold r6;generalize rT n=T at *;generalize bs.map cb=BB at *;simp[x2,ay,aw,ag,bb,ah,q0,ar,aO,bh,bG,ba,aa,aV,e1,e2,aK,q1,i2,ad]
   ·have q1:bU (.int (r1:Int)) (.int 0)=some (.pure (.bl false)):=by
     rw[jC];have:((r1:Int) == 0)=false:=by simpa using hr
     rw[this]
    refine⟨d1,[97 + m],p1,.inl rfl,?_⟩;unfold r6;generalize rT n=T at *;generalize bs.map cb=BB at *;simp[x2,ay,ag,bb,ah,q0,ar,aO,bh,bG,ba,aa,aV,e1,aK,q1]
  ·have q0:bU (.int (k:Int)) (.int 0)=some (.pure (.bl false)):=by
    rw[jC];have:((k:Int) == 0)=false:=by simpa using hk0
    rw[this]
   refine⟨d,[97 + m],hd,.inl rfl,?_⟩;unfold r6;generalize rT n=T at *;generalize bs.map cb=BB at *;simp[x2,ay,ag,bb,ah,q0]
 obtain⟨d',z,p',hz,k2⟩:=k2;have Sa:∃ x y,97<=x/\x < 97 + n/\97<=y/\y < 97 + n/\aT (.str z) (.str z)=some (.pure (.str (z ++ z)))/\fA none (some 2) (.str (z ++ z))=some (.pure (.str [x,y])):=by
  rcases hz with rfl | ⟨y,h1,h2,rfl⟩
  ·exact⟨97 + m,97 + m,by omega,by omega,by omega,by omega,uo _ _ (by simp),R8 _ _⟩
  ·exact⟨97 + m,y,by omega,by omega,h1,h2,uo _ _ (by simp),R9 _ _ _ _⟩
 obtain⟨x,y,a1,a2,a3,a4,ad,sl⟩:=Sa;have i4:=zJ hk h6;have hl:bs.length=k:=by
  have:=congrArg Qx B.fs;simpa using this
 refine⟨d',bs ++ [(97 + k,[[x,y]])],some (.pure (.str z)),p',⟨?_,λb hb=>?_⟩,?_⟩
 ·rw[WY,B.fs,QP,WY];rfl
 ·rcases Qr.mp hb with hb | hb
  ·exact B.bl b hb
  ·have:b=(97 + k,[[x,y]]):=by simpa using hb
   rw[this];exact⟨x,y,rfl,a1,a2,a3,a4⟩
 ·rw[bj k1,bj k2];have eb:(bs ++ [(97 + k,[[x,y]])]).map cb=bs.map cb ++ [.tup [.str [97 + k],.tup [.str [x,y]]]]:=by rw[WY]; rfl
  unfold r6;rw[eb];have hz:(bs.map cb).length < W6:=by rw[er,WA]; omega
  generalize rT n=T at *;generalize bs.map cb=BB at *;generalize z ++ z=zz at *;simp[x3,fB,jl,putL,ag,bb,ah,i4,kr,gz,eU,ad,sl,S.d,hz]
theorem Sb{d:D}(hd:cg d):∃ (bs:List (Nat×List Tx)) (d':D),da 1 2 bs/\bs.length<=6/\cg d'/\ny [.own d]=some (.pure (ak 1 2 bs),[.own d']):=by
 obtain⟨r,d1,e1,l1,p1⟩:=eM hd 5 5 rfl (by decide) (by decide);have hn:(2:Int) + (r:Int)=((2 + r:Nat):Int):=by omega
 have sl:=R6 (2 + r) (by omega);have h2:2<=2 + r:=by omega
 have h6:2 + r<=6:=by omega
 generalize 2 + r=n at *;obtain⟨δ',e,d',bs,o4,o5,p',B,rfl⟩:=mU (g:=ao [0] 4) (b:=(au x1 (au x2 x3)))
  (λi δ=>∃ d' bs o4 o5,cg d'/\RB n i bs/\δ=r6 d' n bs o4 o5) (cF 0 n) 0 (r6 d1 n [] none none) ⟨d1,[],none,none,p1,⟨by simp,by simp⟩,rfl⟩ (λi x δ hx ⟨d',bs,o4,o5,p',B,e⟩=>by
   subst e;obtain⟨hi,rfl⟩:=Cr hx;rw[Int.zero_add];rw[J7] at B ⊢;obtain⟨d2,bs2,q5,p2,B2,e2⟩:=R_ h2 h6 hi p' B o5;exact⟨_,_,rfl,e2,d2,bs2,_,q5,p2,B2,rfl⟩)
 have hlen:0 + (cF 0 n).length=n:=by simp[cF]
 rw[hlen] at B;obtain⟨R,hl⟩:=B.R7 h2 h6;refine⟨bs,d',R,by omega,p',?_⟩;have Sd:ak 1 2 bs = .tup [.int 1,.int 2,.tup (bs.map cb)]:=rfl;have pt:gW (.lst (bs.map cb))=some (.pure (.tup (bs.map cb))):=rfl;rw[ny,nE,yv,Sd];have e':forL (ao [0] 4) (au x1 (au x2 x3)) (cF 0 n) [some (.own d1),some (.pure (.int (n:Int))),some (.pure (.str (rT n))),some (.own (.lst [])),none,none] = .ok .next [some (.own d'),some (.pure (.int (n:Int))),some (.pure (.str (rT n))),some (.own (.lst (bs.map cb))),o4,o5]:=e;generalize bs.map cb=BB at *;generalize rT n=T at *;have ad:=add_int 2 (r:Int);rw[hn] at ad;have rn:=mV n (by omega);have fin:(au (aw (aE aT (eD (.int 2)) (aj (ar bV [.io 0,.val (eD (.int 5))]))) (ao [0] 1)) (au (aw (kr (eD (.str [97,98,99,100,101,102])) gz (eU (aa 1))) (ao [0] 2)) (au (aw (dO bL) (ao [0] 3)) (au (cG (dQ (aa 1)) (ao [0] 4) (au x1 (au x2 x3))) (a_ (cP (aF (eD (.int 1)) (aF (eD (.int 2)) (aF (aY gW (ah 3)) bL))))))))) [some (.own d),none,none,none,none,none] = .ok (.ret (.pure (.tup [.int 1,.int 2,.tup BB]))) [some (.own d'),some (.pure (.int (n:Int))),some (.pure (.str T)),some (.own (.lst BB)),o4,o5]:=by
  rw[bj (δ1:=[some (.own d1),some (.pure (.int (n:Int))),none,none,none,none]) (by simp[aw,ar,aO,bh,bG,ba,aa,aV,e1,aK,ad])];rw[bj (δ1:=[some (.own d1),some (.pure (.int (n:Int))),some (.pure (.str T)),none,none,none]) (by simp[aw,kr,gz,eU,aa,S.d,sl])];rw[bj (δ1:=[some (.own d1),some (.pure (.int (n:Int))),some (.pure (.str T)),some (.own (.lst [])),none,none]) (by simp[aw])];have iq:dQ (aa 1) [some (.own d1),some (.pure (.int (n:Int))),some (.pure (.str T)),some (.own (.lst [])),none,none] = .ok (cF 0 n) [some (.own d1),some (.pure (.int (n:Int))),some (.pure (.str T)),some (.own (.lst [])),none,none]:=by
   simp[aa,rn]
  rw[bj ((eW iq).trans e')];simp[ah,pt]
 rw[show bo 6 [.own d]=[some (.own d),none,none,none,none,none] from rfl,fin];simp[cw,cJ,b8]
theorem Fs(h1:t δ = .ok true δ1)(h2:b δ1 = .ok .next δ2):dB t b (n + 1) δ=dB t b n δ2:=by
 show(t δ).bind _=_;rw[h1]; simp only[ju,if_true,h2]
theorem Se(h1:t δ = .ok false δ1):dB t b (n + 1) δ = .ok .next δ1:=by
 show(t δ).bind _=_;rw[h1]; rfl
theorem Sf(h1:t δ = .ok true δ1)(h2:b δ1 = .ok (.ret v) δ2):dB t b (n + 1) δ = .ok (.ret v) δ2:=by
 show(t δ).bind _=_;rw[h1]; simp only[ju,if_true,h2]
abbrev gT:DT:=ay (ag fO 1 (aj (eD (.int 0))))
abbrev gB:DS:=qL [] 0 1 (aF (aa 1) (aF (ag cO 0 (ah 1)) bL))
abbrev g2(a b:Int):Dl:=[some (.pure (.int a)),some (.pure (.int b))]
theorem Ft(a b:Nat)(h:0 < b)(n:Nat):dB gT gB (n + 1) (g2 a b)=dB gT gB n (g2 b ((a % b:Nat):Int)):=by
 have q:fO (.int (b:Int)) (.int 0)=some (.pure (.bl true)):=by
  rw[q_];have:((b:Int) == 0)=false:=by simp; omega
  rw[this]; rfl
 have md:=oY (a:Int) (b:Int) (by omega);have em:(a:Int) % (b:Int)=((a % b:Nat):Int):=by push_cast; rfl
 rw[em] at md;generalize ((a % b:Nat):Int)=c at *;generalize (b:Int)=bi at *;generalize (a:Int)=ai at *;refine Fs (δ1:=g2 ai bi) ?_ ?_
 ·simp[gT,ay,ag,bb,ah,q]
 ·simp[gB,qL,aa,ag,bb,ah,md]
theorem Fu:∀ (n a b f:Nat),b<=n->n < f->dB gT gB f (g2 a b) = .ok .next (g2 (QQ a b:Nat) 0)
 | n,a,0,f,_,hf=>by
  obtain⟨f,rfl⟩:∃ k,f=k + 1:=⟨f - 1,by omega⟩
  rw[Nat.gcd_zero_right];refine Se ?_;have q:fO (.int 0) (.int 0)=some (.pure (.bl false)):=by rw[q_]; rfl
  generalize (a:Int)=ai at *;simp[gT,ay,ag,bb,ah,q]
 | 0,a,b + 1,f,h,_=>by omega
 | n + 1,a,b + 1,f,h,hf=>by
  obtain⟨f,rfl⟩:∃ k,f=k + 1:=⟨f - 1,by omega⟩
  have hm:=QY a (show 0 < b + 1 by omega);rw[Ft a (b + 1) (by omega) f,Fu n (b + 1) (a % (b + 1)) f (by omega) (by omega)];rw[Nat.gcd_comm a (b + 1),Nat.gcd_rec (b + 1) a,Nat.gcd_comm]
theorem Sg(a b:Nat)(ha:a<=1000)(hb:0 < b):oN [.pure (.int a),.pure (.int b)]=some (.pure (.int (QQ a b:Nat)),[.pure (.int a),.pure (.int b)]):=by
 have hm:=Nat.mod_le a b;have e:dB gT gB 1000000 (g2 a b) = .ok .next (g2 (QQ a b:Nat) 0):=by
  rw[Ft a b hb 999999,Fu 1000 b (a % b) 999999 (by omega) (by decide)];rw[Nat.gcd_comm a b,Nat.gcd_rec b a,Nat.gcd_comm]
 rw[oN,yK];refine gF (δ1:=g2 (QQ a b:Nat) 0) ?_;have e':dB gT gB 1000000 (bo 2 [.pure (.int (a:Int)),.pure (.int (b:Int))]) = .ok .next (g2 (QQ a b:Nat) 0):=e;rw[bj e'];have ab:qM (.int ((QQ a b:Nat):Int))=some (.pure (.int ((QQ a b:Nat):Int))):=by
  show some (S.pure (.int (if ((QQ a b:Nat):Int) < 0 then _ else _)))=_;rw[if_neg (by omega)]
 generalize ((QQ a b:Nat):Int)=g at *;simp[ah,ab]
theorem Fv:∀ a b:List Nat,fX (a.map λn=>D.str [n]) (b.map λn=>D.str [n])=decide (a=b)
 | [],[]=>rfl
 | [],_ :: _=>rfl
 | _ :: _,[]=>rfl
 | x :: a,y :: b=>by
  rw[Wn,Wn];show(aB (.str [x]) (.str [y]) && fX (a.map λn=>D.str [n]) (b.map λn=>D.str [n]))=_;rw[Fv a b];show((([x]:Tx) == [y]) && decide (a=b))=_;by_cases h1:x=y <;> by_cases h2:a=b <;> simp[h1,h2]
theorem Fw:∀ a:List Nat,jg 48 (a.map λn=>D.str [n])=true
 | []=>rfl
 | x :: a=>by
  show(flat 48 (.str [x]) && jg 48 (a.map λn=>D.str [n]))=true;rw[Fw a];rfl
theorem uq(a b:List Nat):aB (tD a) (tD b)=decide (a=b):=Fv a b
theorem zK(a:List Nat):flat 49 (tD a)=true:=Fw a
abbrev bB(bs:List (Nat×List Tx))(t m:Nat):List D:=(Wf m).map λk=>tD (sq bs t k)
theorem Fx(bs:List (Nat×List Tx))(t m:Nat):(bB bs t m).all (flat 49)=true:=by
 rw[List.all_eq_true];intro e he;obtain⟨k,_,rfl⟩:=WD.mp he;exact zK _
theorem Sh(bs:List (Nat×List Tx))(t m:Nat)(z:Tx):nc false (tD z) (.lst (bB bs t m))=some (.pure (.bl (decide (z ∈ (Wf m).map (sq bs t))))):=by
 simp only[nc,zK,Fx,Bool.and_self,if_true];have:(bB bs t m).any (λe=>aB e (tD z))=decide (z ∈ (Wf m).map (sq bs t)):=by
  rw[Ql,List.any_eq_true,decide_eq_true_eq];constructor
  ·rintro ⟨e,he,q⟩;obtain⟨k,hk,rfl⟩:=WD.mp he;rw[uq,decide_eq_true_eq] at q;exact WD.mpr ⟨k,hk,q⟩
  ·intro hm;obtain⟨k,hk,e⟩:=WD.mp hm;exact⟨_,WD.mpr ⟨k,hk,rfl⟩,by rw[uq,e,decide_eq_true_eq]⟩
 rw[this];rfl
theorem Si(bs:List (Nat×List Tx))(t m:Nat)(hm:m<=1000)(z:Tx)(hz:z ∈ (Wf m).map (sq bs t)):∃ s,s < m/\sq bs t s=z/\oC (.lst (bB bs t m)) (tD z)=some (.pure (.int (s:Nat))):=by
 have hl:(bB bs t m).length=m:=by simp
 have hj:(bB bs t m).findIdx (λe=>aB e (tD z)) < (bB bs t m).length:=by
  refine List.findIdx_lt_length_of_exists ?_;obtain⟨k,hk,e⟩:=WD.mp hz;exact⟨_,WD.mpr ⟨k,hk,rfl⟩,by rw[uq,e,decide_eq_true_eq]⟩
 refine⟨(bB bs t m).findIdx (λe=>aB e (tD z)),by omega,?_,?_⟩
 ·have:=List.findIdx_getElem (p:=λe=>aB e (tD z)) (w:=hj);rw[List.getElem_map,List.getElem_range,uq,decide_eq_true_eq] at this;exact this
 ·simp only[oC];rw[if_pos];rw[zK,Fx,Bool.true_and,Bool.true_and,decide_eq_true_eq];exact⟨hj,by omega⟩
theorem Sj(bs:List (Nat×List Tx))(t m:Nat):az (.lst (bB bs t (m + 1))) (.int (-1))=some (.pure (tD (sq bs t m))):=by
 have hl:(bB bs t (m + 1)).length=m + 1:=by simp
 have e:cR (bB bs t (m + 1)) (-1)=some (tD (sq bs t m)):=by
  unfold cR fw;rw[hl,if_neg (by decide),if_pos (by omega)];have:((-1:Int) + ((m + 1:Nat):Int)).toNat=m:=by omega
  simp only[this];show(bB bs t (m + 1))[m]? = _;rw[Wv,Qj (by omega)];rfl
 simp only[az];rw[e];rfl
abbrev w4(ru tt:D)(L:List D)(o3:Option S):Dl:=[some (.pure ru),some (.pure tt),some (.own (.lst L)),o3]
abbrev wT:DT:=ay (eD (.bl true))
abbrev wB:DS:=(au (aw (ar kM [.val (aa 0),.val (ag az 2 (aj (aY jT (aj (eD (.int 1))))))]) (ao [] 3)) (au (bN (ay (aE (nc false) (aa 3) (ah 2))) (a_ (cP (aF (aa 2) (aF (qN 2 (aa 3)) bL)))) bO) (fB 2 (aa 3))))
theorem Sk(R:da h w bs)(ht:t ∈ bs.map (·.1))(hm:m + 1<=1000)(o3:Option S) :
  (∃ s δ',s < m + 1/\sq bs t (m + 1)=sq bs t s/\wB (w4 (ak h w bs) (.str [t]) (bB bs t (m + 1)) o3) = .ok (.ret (.pure (.tup [.lst (bB bs t (m + 1)),.int (s:Nat)]))) δ') \/
  (sq bs t (m + 1) ∉ (Wf (m + 1)).map (sq bs t)/\∃ o3',wB (w4 (ak h w bs) (.str [t]) (bB bs t (m + 1)) o3) = .ok .next (w4 (ak h w bs) (.str [t]) (bB bs t (m + 1 + 1)) o3')):=by
 have g:kM [.pure (ak h w bs),.pure (tD (sq bs t m))]=some (.own (tD (sq bs t (m + 1))),[.pure (ak h w bs),.pure (tD (sq bs t m))]):=RZ R (jy R ht m);have il:=Sj bs t m;have ii:=Sh bs t (m + 1) (sq bs t (m + 1));have ng:jT (.int 1)=some (.pure (.int (-1))):=rfl;have hlen:(bB bs t (m + 1)).length < W6:=by rw[er]; simp; omega
 have es:bB bs t (m + 1 + 1)=bB bs t (m + 1) ++ [tD (sq bs t (m + 1))]:=by
  unfold bB;rw[QP,WY];rfl
 have k1:aw (ar kM [.val (aa 0),.val (ag az 2 (aj (aY jT (aj (eD (.int 1))))))]) (ao [] 3) (w4 (ak h w bs) (.str [t]) (bB bs t (m + 1)) o3) = .ok .next (w4 (ak h w bs) (.str [t]) (bB bs t (m + 1)) (some (.own (tD (sq bs t (m + 1)))))):=by
  clear ii es hlen;generalize bB bs t (m + 1)=L at *;generalize ak h w bs=ru at *;generalize tD (sq bs t (m + 1))=N at *;generalize tD (sq bs t m)=N0 at *;simp[aw,ar,aO,bh,ba,aa,ah,aV,aK,ag,bb,ng,il,g,S.d]
 by_cases hz:sq bs t (m + 1) ∈ (Wf (m + 1)).map (sq bs t)
 ·obtain⟨s,h1,h2,h3⟩:=Si bs t (m + 1) hm _ hz;rw[decide_eq_true hz] at ii;refine .inl ⟨s,[some (.pure (ak h w bs)),some (.pure (.str [t])),some (.pure (.lst (bB bs t (m + 1)))),some (.pure (tD (sq bs t (m + 1))))],h1,h2.symm,?_⟩;rw[wB,bj k1];clear k1 es hlen il;generalize bB bs t (m + 1)=L at *;generalize ak h w bs=ru at *;generalize tD (sq bs t (m + 1))=N at *;simp[ay,aa,ah,S.d,ii,qN,DH,h3]
 ·rw[decide_eq_false hz] at ii;refine .inr ⟨hz,some (.pure (tD (sq bs t (m + 1)))),?_⟩;rw[wB,bj k1,es];clear k1 es il;generalize bB bs t (m + 1)=L at *;generalize ak h w bs=ru at *;generalize tD (sq bs t (m + 1))=N at *;simp[ay,aa,ah,S.d,ii,fB,jl,putL,hlen]
theorem Fy{h w t:Nat}{bs:List (Nat×List Tx)}(R:da h w bs)(ht:t ∈ bs.map (·.1)){L:List Tx}(hL:∀ k,sq bs t k ∈ L)(hl:L.length<=64):∀ (n m:Nat) (o3:Option S),((Wf (m + 1)).map (sq bs t)).Nodup->L.length + 1<=n + (m + 1)->1<=n ->
  ∃ M s δ',s < M/\M<=64/\sq bs t M=sq bs t s/\dB wT wB n (w4 (ak h w bs) (.str [t]) (bB bs t (m + 1)) o3) = .ok (.ret (.pure (.tup [.lst (bB bs t M),.int (s:Nat)]))) δ'
 | 0,_,_,_,_,h1=>by omega
 | n + 1,m,o3,nd,hn,_=>by
  have hs:=qW nd (ts:=L) λx hx=>by
   obtain⟨i,_,rfl⟩:=WD.mp hx;exact hL i
  simp at hs;rcases Sk R ht (m:=m) (by omega) o3 with ⟨s,δ',h1,h2,e⟩ | ⟨h1,o3',e⟩
  ·exact⟨m + 1,s,δ',h1,by omega,h2,Sf rfl e⟩
  ·have fZ:((Wf (m + 1 + 1)).map (sq bs t)).Nodup:=by
    rw[QP,WY];refine Jq.mpr ⟨nd,by simp,λa ha b hb q=>h1 ?_⟩;have:b=sq bs t (m + 1):=by simpa using hb
    rw[<- this,<- q];exact ha
   have n9:=qW fZ (ts:=L) λx hx=>by
    obtain⟨i,_,rfl⟩:=WD.mp hx;exact hL i
   simp at n9;obtain⟨M,s,δ',a1,a2,a3,a4⟩:=Fy R ht hL hl n (m + 1) o3' fZ (by omega) (by omega);exact⟨M,s,δ',a1,a2,a3,(Fs (t:=wT) (b:=wB) rfl e).trans a4⟩
theorem Sl{h w t:Nat}{bs:List (Nat×List Tx)}(G:fu h w bs)(ht:t ∈ bs.map (·.1)):∃ M s,s < M/\M<=64/\sq bs t M=sq bs t s /\
  oO [.pure (ak h w bs),.pure (.str [t])]=some (.pure (.tup [.lst (bB bs t M),.int (s:Nat)]),[.pure (ak h w bs),.pure (.str [t])]):=by
 obtain⟨L,hl,hL⟩:=G.fin t ht;obtain⟨M,s,δ',h1,h2,h3,e⟩:=Fy G.R ht hL hl 1000000 0 none (by simp) (by omega) (by decide);refine⟨M,s,h1,h2,h3,?_⟩;rw[oO,yQ];refine gF (δ1:=δ') ?_;have e0:bB bs t (0 + 1)=[.lst [.str [t]]]:=rfl;rw[e0] at e;generalize bB bs t M=LM at *;generalize ak h w bs=ru at *;rw[bj (δ1:=w4 ru (.str [t]) [.lst [.str [t]]] none) (by simp[bo,aw,aa])];exact e
theorem ur(st:A->Dl)(bad:Nat->Bool)(r:S)(f:Nat->D):∀ (l:List Nat) (v:A),(∀ i ∈ l,∀ v,∃ δ1,g (.pure (f i)) (st v)=some δ1/\((bad i=true/\∃ δ2,b δ1 = .ok (.ret r) δ2)\/(bad i=false/\∃ v',b δ1 = .ok .next (st v')))) ->
  (l.any bad=true/\∃ δ',forL g b (l.map f) (st v) = .ok (.ret r) δ')\/(l.any bad=false/\∃ v',forL g b (l.map f) (st v) = .ok .next (st v'))
 | [],v,_=>.inr ⟨rfl,v,rfl⟩
 | i :: l,v,hs=>by
  obtain⟨δ1,e1,⟨hb,δ2,e2⟩ | ⟨hb,v',e2⟩⟩:=hs i Wl v
  ·refine .inl ⟨by simp[hb],δ2,?_⟩;rw[Wn];unfold forL;rw[e1];simp only[e2,ju]
  ·rw[Wn,nG e1 e2];rcases ur st bad r f l v' (λi hi=>hs i (Wh _ hi)) with ⟨h1,h2⟩ | ⟨h1,h2⟩
   ·exact .inl ⟨by simp[h1],h2⟩
   ·exact .inr ⟨by simp[hb,h1],h2⟩
theorem Sn{b:DS}{n:Nat}{x1 x2 x3 x4 x5:D}{v:S}{δ1:Dl}(e:b (bo n [.pure x1,.pure x2,.pure x3,.pure x4,.pure x5]) = .ok (.ret v) δ1):bX [] n b [.pure x1,.pure x2,.pure x3,.pure x4,.pure x5]=some (v,[.pure x1,.pure x2,.pure x3,.pure x4,.pure x5]):=by
 rw[nE,e]; rfl
theorem Fz(o:Nat)(z:Tx):eK false (.str [o]) (tD z)=some (.pure (.bl (decide (o ∈ z)))):=by
 have e:tD z = .lst (z.map λn=>.str [n]):=rfl;rw[e];simp only[eK,Fb];have:(z.map λn=>([n]:Tx)).contains [o]=decide (o ∈ z):=by
  rw[Ql,decide_eq_true_eq,List.contains_iff_mem];simp
 rw[this];rfl
theorem FA(bs:List (Nat×List Tx))(t:Nat)(h:i < M):az (.lst (bB bs t M)) (.int (i:Int))=some (.pure (tD (sq bs t i))):=by
 simp only[az];rw[iY,Wv,Qj h];rfl
theorem FC(i j:Int)(h0:0<=i)(h1:i<=1000):f_ (.int i) (.int j)=some (.pure (.int (i * j))):=by
 show(if ji i j then some (S.pure (.int (i * j))) else none)=_;have:ji i j=true:=by
  unfold ji;have a1:decide (-(2 ^ 64) < i)=true:=decide_eq_true (by omega);have a2:decide (i < 2 ^ 64)=true:=decide_eq_true (by omega);rw[a1,a2]; rfl
 rw[this]; rfl
theorem lT(i j:Int):fz (.int i) (.int j)=some (.pure (.int (i - j))):=rfl
abbrev eN(ru tt:D)(o lap rest:Nat)(L:D)(s z:Nat)(o8 o9 gG:Option S):Dl:=[some (.pure ru),some (.pure tt),some (.pure (.str [o])),some (.pure (.int (lap:Int))),some (.pure (.int (rest:Int))),some (.pure L),some (.pure (.int (s:Int))),some (.pure (.int (z:Int))),o8,o9,gG]
abbrev lU:DS:=(bN (iP (ay (aE bU (ag cO 8 (ah 3)) (ah 4))) (ay (aE (eK false) (aa 2) (aj (ag az 5 (ah 8)))))) (a_ (eD (.bl false))) bO)
abbrev oZ:DS:=(bN (ay (aE (eK false) (aa 2) (aj (ag az 5 (aj (ag aT 6 (aj (aE cO (aE fz (ag aT 9 (aj (ag f_ 10 (ah 3)))) (ah 6)) (ah 7))))))))) (a_ (eD (.bl false))) bO)
abbrev nF:DS:=(bN (ay (ag iz 9 (ah 6))) (aw (ag aT 4 (aj (aE f_ (aE qB (aE fz (aE aT (ag fz 6 (ah 4)) (ah 3)) (aj (eD (.int 1)))) (ah 3)) (ah 3)))) (ao [] 9)) bO)
theorem FD(a b:Nat):((a:Int) == (b:Int))=decide (a=b):=by
 rw[Ql,beq_iff_eq,decide_eq_true_eq];omega
theorem So{ru tt:D}{bs:List (Nat×List Tx)}{t o lap rest M s z i:Nat}(hl:rest < lap)(hi:i < M)(o9 gG:Option S) :
  ((decide (i % lap=rest) && decide (o ∈ sq bs t i))=true/\∃ δ2,lU (eN ru tt o lap rest (.lst (bB bs t M)) s z (some (.pure (.int (i:Int)))) o9 gG) = .ok (.ret (.pure (.bl false))) δ2) \/
  ((decide (i % lap=rest) && decide (o ∈ sq bs t i))=false/\lU (eN ru tt o lap rest (.lst (bB bs t M)) s z (some (.pure (.int (i:Int)))) o9 gG) = .ok .next (eN ru tt o lap rest (.lst (bB bs t M)) s z (some (.pure (.int (i:Int)))) o9 gG)):=by
 have md:=oY (i:Int) (lap:Int) (by omega);have em:(i:Int) % (lap:Int)=((i % lap:Nat):Int):=by push_cast; rfl
 rw[em] at md;have eq:=jC ((i % lap:Nat):Int) (rest:Int);rw[FD] at eq;have ix:=FA bs t hi;have it:=Fz o (sq bs t i);generalize D.lst (bB bs t M)=L at *;generalize tD (sq bs t i)=N at *;generalize ((i % lap:Nat):Int)=c at *;by_cases h1:i % lap=rest <;> by_cases h2:o ∈ sq bs t i
 ·refine .inl ⟨by simp[h1,h2],eN ru tt o lap rest L s z (some (.pure (.int (i:Int)))) o9 gG,?_⟩;rw[decide_eq_true h1] at eq;rw[decide_eq_true h2] at it;simp[lU,ay,ag,bb,aa,ah,S.d,md,eq,ix,it]
 ·refine .inr ⟨by simp[h1,h2],?_⟩;rw[decide_eq_true h1] at eq;rw[decide_eq_false h2] at it;simp[lU,ay,ag,bb,aa,ah,S.d,md,eq,ix,it]
 ·refine .inr ⟨by simp[h1,h2],?_⟩;rw[decide_eq_false h1] at eq;simp[lU,ay,ag,bb,aa,ah,S.d,md,eq]
 ·refine .inr ⟨by simp[h1,h2],?_⟩;rw[decide_eq_false h1] at eq;simp[lU,ay,ag,bb,aa,ah,S.d,md,eq]
theorem Sq{ru tt:D}{bs:List (Nat×List Tx)}{t o lap rest M s k f z:Nat}(hs:s < M)(hM:M<=64)(hk:k < z)(hz:M - s=z)(hf:s<=f)(o8:Option S) :
  (decide (o ∈ sq bs t (s + (f + k * lap - s) % z))=true/\∃ δ2,oZ (eN ru tt o lap rest (.lst (bB bs t M)) s z o8 (some (.pure (.int (f:Int)))) (some (.pure (.int (k:Int))))) = .ok (.ret (.pure (.bl false))) δ2) \/
  (decide (o ∈ sq bs t (s + (f + k * lap - s) % z))=false/\oZ (eN ru tt o lap rest (.lst (bB bs t M)) s z o8 (some (.pure (.int (f:Int)))) (some (.pure (.int (k:Int))))) = .ok .next (eN ru tt o lap rest (.lst (bB bs t M)) s z o8 (some (.pure (.int (f:Int)))) (some (.pure (.int (k:Int)))))):=by
 have ml:=FC (k:Int) (lap:Int) (by omega) (by omega);have a1:=add_int (f:Int) ((k:Int) * (lap:Int));have s1:=lT ((f:Int) + (k:Int) * (lap:Int)) (s:Int);have ez:(f:Int) + (k:Int) * (lap:Int) - (s:Int)=((f + k * lap - s:Nat):Int):=by
  have:((k * lap:Nat):Int)=(k:Int) * (lap:Int):=JA _ _;omega
 rw[ez] at s1;have md:=oY ((f + k * lap - s:Nat):Int) (z:Int) (by omega);have em:((f + k * lap - s:Nat):Int) % (z:Int)=(((f + k * lap - s) % z:Nat):Int):=by push_cast; rfl
 rw[em] at md;have a2:=add_int (s:Int) (((f + k * lap - s) % z:Nat):Int);have ea:(s:Int) + (((f + k * lap - s) % z:Nat):Int)=((s + (f + k * lap - s) % z:Nat):Int):=(JV _ _).symm;rw[ea] at a2;have hm:=QY (f + k * lap - s) (show 0 < z by omega);have ix:=FA bs t (show s + (f + k * lap - s) % z < M by omega);have it:=Fz o (sq bs t (s + (f + k * lap - s) % z));clear ez em ea hm;generalize D.lst (bB bs t M)=L at *;generalize tD (sq bs t (s + (f + k * lap - s) % z))=N at *;generalize ((s + (f + k * lap - s) % z:Nat):Int)=c1 at *;generalize (((f + k * lap - s) % z:Nat):Int)=c2 at *;generalize ((f + k * lap - s:Nat):Int)=c3 at *;generalize (f:Int) + (k:Int) * (lap:Int)=c4 at *;generalize (k:Int) * (lap:Int)=c5 at *;generalize (k:Int)=c7 at *;generalize (f:Int)=c8 at *;by_cases h2:o ∈ sq bs t (s + (f + k * lap - s) % z)
 ·refine .inl ⟨decide_eq_true h2,[some (.pure ru),some (.pure tt),some (.pure (.str [o])),some (.pure (.int (lap:Int))),some (.pure (.int (rest:Int))),some (.pure L),some (.pure (.int (s:Int))),some (.pure (.int (z:Int))),o8,some (.pure (.int c8)),some (.pure (.int c7))],?_⟩;rw[decide_eq_true h2] at it;simp[oZ,ay,ag,bb,aa,ah,S.d,ml,a1,s1,md,a2,ix,it]
 ·refine .inr ⟨decide_eq_false h2,?_⟩;rw[decide_eq_false h2] at it;simp[oZ,ay,ag,bb,aa,ah,S.d,ml,a1,s1,md,a2,ix,it]
theorem Sr{ru tt L:D}{o lap rest s z:Nat}(hl:rest < lap)(hB:lap < 10000000000000000000000000000000)(hs:s<=64)(o8 gG:Option S) :
  nF (eN ru tt o lap rest L s z o8 (some (.pure (.int (rest:Int)))) gG) = .ok .next (eN ru tt o lap rest L s z o8 (some (.pure (.int (gj s lap rest:Nat)))) gG):=by
 have Ss:(10000000000000000000000000000000:Int)<=mT:=by decide +kernel
 have lt:=lt_int (rest:Int) (s:Int);by_cases h:rest < s
 ·rw[decide_eq_true (by omega)] at lt;have e1:gj s lap rest=rest + (s - rest + lap - 1) / lap * lap:=by unfold gj; rw[if_pos h]
  have s1:=lT (s:Int) (rest:Int);have a1:=add_int ((s:Int) - (rest:Int)) (lap:Int);have s2:=lT ((s:Int) - (rest:Int) + (lap:Int)) 1;have ez:(s:Int) - (rest:Int) + (lap:Int) - 1=((s - rest + lap - 1:Nat):Int):=by omega
  rw[ez] at s2;have dv:=Du ((s - rest + lap - 1:Nat):Int) (lap:Int) (by omega) (by omega);have ed:((s - rest + lap - 1:Nat):Int) / (lap:Int)=(((s - rest + lap - 1) / lap:Nat):Int):=by push_cast; rfl
  rw[ed] at dv;have hq:(s - rest + lap - 1) / lap<=64:=by
   have c1:s - rest + lap - 1<=64 * lap:=by omega
   have:=Nat.div_le_div_right (c:=lap) c1;rw[Nat.mul_div_cancel _ (by omega)] at this;exact this
  have ml:=FC (((s - rest + lap - 1) / lap:Nat):Int) (lap:Int) (Int.natCast_nonneg _) (Int.ofNat_le.mpr (WU hq (by decide)));have em:(((s - rest + lap - 1) / lap:Nat):Int) * (lap:Int)=(((s - rest + lap - 1) / lap * lap:Nat):Int):=(JA _ _).symm;rw[em] at ml;have a2:=add_int (rest:Int) (((s - rest + lap - 1) / lap * lap:Nat):Int);have ea:(rest:Int) + (((s - rest + lap - 1) / lap * lap:Nat):Int)=((rest + (s - rest + lap - 1) / lap * lap:Nat):Int):=(JV _ _).symm;rw[ea] at a2;rw[e1];clear ez ed em ea e1 hq Ss;generalize ((rest + (s - rest + lap - 1) / lap * lap:Nat):Int)=c1 at *;generalize (((s - rest + lap - 1) / lap * lap:Nat):Int)=c2 at *;generalize (((s - rest + lap - 1) / lap:Nat):Int)=c3 at *;generalize ((s - rest + lap - 1:Nat):Int)=c4 at *;generalize (s:Int) - (rest:Int) + (lap:Int)=c5 at *;generalize (s:Int) - (rest:Int)=c6 at *;simp[nF,ay,aw,ag,bb,aa,ah,S.d,lt,s1,a1,s2,dv,ml,a2]
 ·rw[decide_eq_false (by omega)] at lt;have e1:gj s lap rest=rest:=by unfold gj; rw[if_neg h]
  rw[e1];simp[nF,ay,ag,bb,aa,ah,S.d,lt]
theorem Su(bs:List (Nat×List Tx))(t M:Nat):bI (.lst (bB bs t M))=some (.pure (.int (M:Int))):=by
 simp[bI]
theorem Sv{h w t o lap rest:Nat}{bs:List (Nat×List Tx)}(G:fu h w bs)(ht:t ∈ bs.map (·.1))(hl:rest < lap)(hB:lap < 10000000000000000000000000000000):∃ b:Bool,(b=true ↔ ¬ Ev (sq bs t) o lap rest) /\
  lM [.pure (ak h w bs),.pure (.str [t]),.pure (.str [o]),.pure (.int (lap:Int)),.pure (.int (rest:Int))]=some (.pure (.bl b),[.pure (ak h w bs),.pure (.str [t]),.pure (.str [o]),.pure (.int (lap:Int)),.pure (.int (rest:Int))]):=by
 obtain⟨M,s,hs,hM,e,gw⟩:=Sl G ht;have ev:=Rh hs (zE hs e) (o:=o) hl;have ez:(M:Int) - (s:Int)=((M - s:Nat):Int):=by omega
 have Sw:M - s<=64:=by omega
 obtain⟨z,hz⟩:∃ z,M - s=z:=⟨_,rfl⟩
 rw[hz] at ev ez Sw;have hf:=(EZ hl s).1;have nf:=Sr (ru:=ak h w bs) (tt:=.str [t]) (L:=.lst (bB bs t M)) (o:=o) (z:=z) hl hB (show s<=64 by omega);have l1:=λo9 gG v=>ur (g:=ao [] 8) (b:=lU) (λv:Option S=>eN (ak h w bs) (.str [t]) o lap rest (.lst (bB bs t M)) s z v o9 gG) (λi=>decide (i % lap=rest) && decide (o ∈ sq bs t i)) (.pure (.bl false)) (λi=>.int (i:Int)) (Wf M) v (λi hi v=>by
  refine⟨eN (ak h w bs) (.str [t]) o lap rest (.lst (bB bs t M)) s z (some (.pure (.int (i:Int)))) o9 gG,rfl,?_⟩;rcases So (ru:=ak h w bs) (tt:=.str [t]) (bs:=bs) (t:=t) (o:=o) (s:=s) (z:=z) hl (WL.mp hi) o9 gG with ⟨a,b⟩ | ⟨a,b⟩
  ·exact .inl ⟨a,b⟩
  ·exact .inr ⟨a,_,b⟩)
 have l2:=λo8 v=>ur (g:=ao [] 10) (b:=oZ) (λv:Option S=>eN (ak h w bs) (.str [t]) o lap rest (.lst (bB bs t M)) s z o8 (some (.pure (.int (gj s lap rest:Nat)))) v) (λk=>decide (o ∈ sq bs t (s + (gj s lap rest + k * lap - s) % z))) (.pure (.bl false)) (λi=>.int (i:Int)) (Wf z) v (λi hi v=>by
  refine⟨eN (ak h w bs) (.str [t]) o lap rest (.lst (bB bs t M)) s z o8 (some (.pure (.int (gj s lap rest:Nat)))) (some (.pure (.int (i:Int)))),rfl,?_⟩;rcases Sq (ru:=ak h w bs) (tt:=.str [t]) (bs:=bs) (t:=t) (o:=o) (lap:=lap) (rest:=rest) hs hM (WL.mp hi) hz hf o8 with ⟨a,b⟩ | ⟨a,b⟩
  ·exact .inl ⟨a,b⟩
  ·exact .inr ⟨a,_,b⟩)
 have ls:=Su bs t M;have r1:=mV M (by omega);have r2:=mV z (by omega);have eR:∀ n:Nat,cF 0 n=(Wf n).map λk:Nat=>D.int (k:Int):=Rz
 rw[eR] at r1 r2;have s1:=lT (M:Int) (s:Int);rw[ez] at s1;have b7:∀ b δ',(au (cG (dQ (aY bI (ah 5))) (ao [] 8) lU) (au (aw (aa 4) (ao [] 9)) (au nF (au (cG (dQ (aa 7)) (ao [] 10) oZ) (a_ (eD (.bl true))))))) (eN (ak h w bs) (.str [t]) o lap rest (.lst (bB bs t M)) s z none none none) = .ok (.ret (.pure (.bl b))) δ' ->
   lM [.pure (ak h w bs),.pure (.str [t]),.pure (.str [o]),.pure (.int (lap:Int)),.pure (.int (rest:Int))]=some (.pure (.bl b),[.pure (ak h w bs),.pure (.str [t]),.pure (.str [o]),.pure (.int (lap:Int)),.pure (.int (rest:Int))]):=λb δ' q=>by
  rw[lM,yT];refine Sn (δ1:=δ') ?_;clear l1 l2 nf r1 r2 ev;generalize D.lst (bB bs t M)=L at *;generalize ak h w bs=ru at *;rw[bj (δ1:=[some (.pure ru),some (.pure (.str [t])),some (.pure (.str [o])),some (.pure (.int (lap:Int))),some (.pure (.int (rest:Int))),some (.pure L),some (.pure (.int (s:Int))),none,none,none,none]) (by
   simp[bo,aw,ar,aO,bh,ba,aa,aV,gw,aK,bT,aU,bW,S.d])]
  rw[bj (δ1:=eN ru (.str [t]) o lap rest L s z none none none) (by
   simp[aw,ah,S.d,ls,s1])]
  exact q
 have i1:dQ (aY bI (ah 5)) (eN (ak h w bs) (.str [t]) o lap rest (.lst (bB bs t M)) s z none none none) = .ok ((Wf M).map λk:Nat=>D.int (k:Int)) (eN (ak h w bs) (.str [t]) o lap rest (.lst (bB bs t M)) s z none none none):=by
  clear l1 l2 nf ev b7 gw;generalize D.lst (bB bs t M)=L at *;generalize ak h w bs=ru at *;generalize ((Wf M).map λk:Nat=>D.int (k:Int))=LL at *;simp[ah,ls,r1,S.d]
 have i2:∀ v,dQ (aa 7) (eN (ak h w bs) (.str [t]) o lap rest (.lst (bB bs t M)) s z v (some (.pure (.int (gj s lap rest:Nat)))) none) = .ok ((Wf z).map λk:Nat=>D.int (k:Int)) (eN (ak h w bs) (.str [t]) o lap rest (.lst (bB bs t M)) s z v (some (.pure (.int (gj s lap rest:Nat)))) none):=λv=>by
  clear l1 l2 nf ev b7 gw i1;generalize D.lst (bB bs t M)=L at *;generalize ak h w bs=ru at *;generalize ((Wf z).map λk:Nat=>D.int (k:Int))=LL at *;simp[aa,r2,S.d]
 rcases l1 none none none with ⟨a1,δ',e1⟩ | ⟨a1,v',e1⟩
 ·refine⟨false,⟨λz=>(by cases z),λz=>absurd (ev.mpr (.inl ?_)) z⟩,b7 false δ' (kP ((eW i1).trans e1))⟩;obtain⟨i,hi,q⟩:=JS.mp a1;rw[Wk,decide_eq_true_eq,decide_eq_true_eq] at q;exact⟨i,WL.mp hi,q.1,q.2⟩
 ·have n1:¬ ∃ i,i < M/\i % lap=rest/\o ∈ sq bs t i:=λ⟨i,h1,h2,h3⟩=>by
   have:=Jp.mp a1 i (WL.mpr h1);simp[h2,h3] at this
  have FE:aw (aa 4) (ao [] 9) (eN (ak h w bs) (.str [t]) o lap rest (.lst (bB bs t M)) s z v' none none) = .ok .next (eN (ak h w bs) (.str [t]) o lap rest (.lst (bB bs t M)) s z v' (some (.pure (.int (rest:Int)))) none):=by
   clear l1 l2 nf ev b7 gw i1 i2 e1;generalize D.lst (bB bs t M)=L at *;generalize ak h w bs=ru at *;simp[aw,aa,S.d]
  rcases l2 v' none with ⟨a2,δ',e2⟩ | ⟨a2,v2,e2⟩
  ·refine⟨false,⟨λz=>(by cases z),λz=>absurd (ev.mpr (.inr ?_)) z⟩,b7 false δ' (by
    rw[bj ((eW i1).trans e1),bj FE,bj (nf v' none)];exact kP ((eW (i2 v')).trans e2))⟩
   obtain⟨k,hk,q⟩:=JS.mp a2;rw[decide_eq_true_eq] at q;exact⟨k,WL.mp hk,q⟩
  ·refine⟨true,⟨λ_ z=>?_,λ_=>rfl⟩,b7 true _ (by
    rw[bj ((eW i1).trans e1),bj FE,bj (nf v' none),bj ((eW (i2 v')).trans e2)];rfl)⟩
   rcases ev.mp z with z | ⟨k,hk,q⟩
   ·exact n1 z
   ·have:=Jp.mp a2 k (WL.mpr hk);simp[q] at this
inductive Sm:D->Prop
 | ax:Sm .ax
 | bl (b:Bool):Sm (.bl b)
 | int (i:Int):i < 10000000000000000000000000000000->Sm (.int i)
 | str (x:Tx):Sm (.str x)
 | tup (x:Tx):Sm (.tup [.str x])
def ei(ts:List Nat):D->Bool
 | .str z=>(ts.map λn=>([n]:Tx)).contains z
 | _=>false
def lV:D->Bool
 | .str _=>true
 | _=>false
def wh:D->Bool
 | .int _=>true
 | _=>false
def wf(k:Int):D->Bool
 | .int i=>decide (k<=i)
 | _=>false
def wi(k m:Int):D->Bool
 | .int i=>decide (k<=i) && decide (i<=m)
 | _=>false
theorem uu(ts:List Nat)(h:Sm a)(neg:Bool):iH neg a (tD ts)=some (.pure (.bl (if neg then !ei ts a else ei ts a))):=by
 have e:tD ts = .lst (ts.map λn=>.str [n]):=rfl;rw[e]
 cases h <;> simp only[iH,Fb,ei] <;> cases neg <;> rfl
theorem uv(h:ei ts a=true):∃ t,t ∈ ts/\a = .str [t]:=by
 cases a with
 | str z =>
  simp only[ei] at h;rw[List.contains_iff_mem] at h;obtain⟨t,h1,rfl⟩:=WD.mp h;exact⟨t,h1,rfl⟩
 | _=>simp[ei] at h
theorem FF(h:t ∈ ts):ei ts (.str [t])=true:=by
 simp only[ei];rw[List.contains_iff_mem];exact WD.mpr ⟨t,h,rfl⟩
theorem FG (h:Sm a):fP "str" a=some (lV a):=by cases h <;> rfl
theorem FH(h:Sm a):kL [.pure a]=some (.pure (.bl (wh a)),[.pure a]):=by
 rw[kL,yN];refine oV (δ1:=[some (.pure a)]) ?_
 cases h <;> simp[bo,d_,mz,dm,fP,ah,S.d,wh]
theorem FI(h:Sm a)(k:Int):kK [.pure a,.pure (.int k)]=some (.pure (.bl (wf k a)),[.pure a,.pure (.int k)]):=by
 rw[kK,yG];refine gF (δ1:=[some (.pure a),some (.pure (.int k))]) ?_
 cases h with
 | int i hi =>
  have:=le_int k i;simp[bo,d_,mz,dm,fP,ah,S.d,wf,ag,bb,this]
 | _=>simp[bo,d_,mz,dm,fP,ah,S.d,wf]
theorem Sx(h:Sm a)(k m:Int):nC [.pure a,.pure (.int k),.pure (.int m)]=some (.pure (.bl (wi k m a)),[.pure a,.pure (.int k),.pure (.int m)]):=by
 have g:=FI h k;rw[nC,yH];refine RF (δ1:=[some (.pure a),some (.pure (.int k)),some (.pure (.int m))]) ?_
 cases h with
 | int i hi =>
  have:=le_int i m;by_cases hk:k<=i
  ·simp[bo,d_,ar,aO,bh,ba,aa,aV,g,aK,ah,S.d,wf,wi,ag,bb,this,hk]
  ·simp[bo,d_,ar,aO,bh,ba,aa,aV,g,aK,ah,S.d,wf,wi,hk]
 | _=>simp[bo,d_,ar,aO,bh,ba,aa,aV,g,aK,S.d,wf,wi]
def hJ(ts:List Nat)(a b c e:D):Bool:=ei ts a && (ei ts b && (wf 1 c && (match c with
 | .int l=>wi 0 (l - 1) e
 | _=>false)))
theorem Sy (h:fP "tuple" d=some false):i_ [.pure ru,.pure d]=some (.pure (.bl false),[.pure ru,.pure d]):=by
 rw[i_,qR];refine gF (δ1:=[some (.pure ru),some (.pure d),none,none,none,none,none]) ?_;simp[bo,ay,dm,h,ah,S.d]
theorem Sz (h:fP "tuple" d=some false):gi [.pure ru,.pure d]=some (.pure (.bl false),[.pure ru,.pure d]):=by
 rw[gi,qT];refine gF (δ1:=[some (.pure ru),some (.pure d),none,none]) ?_;simp[bo,ay,dm,h,ah,S.d]
theorem ne4{n:Nat}(h:n≠4):fO (.int (n:Int)) (.int 4)=some (.pure (.bl true)):=by
 rw[q_];have:((n:Int) == 4)=false:=by
  rw[beq_eq_false_iff_ne]; omega
 rw[this]; rfl
theorem FJ{xs:List D}{ru:D}(h:xs.length≠4):i_ [.pure ru,.pure (.tup xs)]=some (.pure (.bl false),[.pure ru,.pure (.tup xs)]):=by
 have l:=E_ xs;have n:=ne4 h;generalize (xs.length:Int)=k at *;rw[i_,qR];refine gF (δ1:=[some (.pure ru),some (.pure (.tup xs)),none,none,none,none,none]) ?_;simp[bo,ay,dm,fP,ah,S.d,l,n]
theorem FK{xs:List D}{ru:D}(h:xs.length≠4):gi [.pure ru,.pure (.tup xs)]=some (.pure (.bl false),[.pure ru,.pure (.tup xs)]):=by
 have l:=E_ xs;have n:=ne4 h;generalize (xs.length:Int)=k at *;rw[gi,qT];refine gF (δ1:=[some (.pure ru),some (.pure (.tup xs)),none,none]) ?_;simp[bo,ay,dm,fP,ah,S.d,l,n]
theorem FL(h:wf k c=true):∃ l,c = .int l/\k<=l:=by
 cases c with
 | int l=>exact⟨l,rfl,by simpa[wf] using h⟩
 | _=>simp[wf] at h
abbrev o_:DE:=(d_ (aE (iH false) (aa 2) (ah 6)) (d_ (aE (iH false) (aa 3) (ah 6)) (d_ (ar kK [.val (aa 4),.val (eD (.int 1))]) (ar nC [.val (aa 5),.val (eD (.int 0)),.val (ag fz 4 (aj (eD (.int 1))))]))))
theorem SD(ha:Sm a)(hb:Sm b)(hc:Sm c)(he:Sm e):o_ [some (.pure ru),some (.pure d),some (.pure a),some (.pure b),some (.pure c),some (.pure e),some (.own (tD ts))] = .ok (.pure (.bl (hJ ts a b c e))) [some (.pure ru),some (.pure d),some (.pure a),some (.pure b),some (.pure c),some (.pure e),some (.own (tD ts))]:=by
 have i1:=uu ts ha false;have i2:=uu ts hb false;have f:=FI hc 1;simp only[JH,if_false] at i1 i2;unfold hJ
 cases h1:ei ts a with
 | false =>
  rw[h1] at i1;generalize tD ts=T at *;simp[o_,d_,aa,ah,S.d,i1]
 | true =>
  rw[h1] at i1
  cases h2:ei ts b with
  | false =>
   rw[h2] at i2;generalize tD ts=T at *;simp[o_,d_,aa,ah,S.d,i1,i2]
  | true =>
   rw[h2] at i2
   cases h3:wf 1 c with
   | false =>
    rw[h3] at f;generalize tD ts=T at *;simp[o_,d_,aa,ah,S.d,i1,i2,ar,aO,bh,ba,aV,f,aK]
   | true =>
    rw[h3] at f;obtain⟨l,rfl,_⟩:=FL h3;have g:=Sx he 0 (l - 1);have sb:=lT l 1;generalize tD ts=T at *;simp[o_,d_,aa,ah,S.d,i1,i2,ar,aO,bh,ba,aV,f,aK,ag,bb,sb,g]
theorem FN(R:da h w bs)(ha:Sm a)(hb:Sm b)(hc:Sm c)(he:Sm e):i_ [.pure (ak h w bs),.pure (.tup [a,b,c,e])]=some (.pure (.bl (hJ (bs.map (·.1)) a b c e)),[.pure (ak h w bs),.pure (.tup [a,b,c,e])]):=by
 have gt:=um R;have ga:=SD (ts:=bs.map (·.1)) (ru:=ak h w bs) (d:=.tup [a,b,c,e]) ha hb hc he;rw[i_,qR];generalize hJ (bs.map (·.1)) a b c e=r at *;generalize tD (bs.map (·.1))=T at *;generalize ak h w bs=ru at *;refine gF (δ1:=[some (.pure ru),some (.pure (.tup [a,b,c,e])),some (.pure a),some (.pure b),some (.pure c),some (.pure e),some (.own T)]) ?_;have l:bI (.tup [a,b,c,e])=some (.pure (.int 4)):=rfl;have n:fO (.int 4) (.int 4)=some (.pure (.bl false)):=by rw[q_]; rfl
 rw[bj (δ1:=[some (.pure ru),some (.pure (.tup [a,b,c,e])),none,none,none,none,none]) (by simp[bo,ay,dm,fP,ah,S.d,l,n])];rw[bj (δ1:=[some (.pure ru),some (.pure (.tup [a,b,c,e])),some (.pure a),some (.pure b),some (.pure c),some (.pure e),none]) (by simp[aw,aa,bT,aU,bW,S.d])];rw[bj (δ1:=[some (.pure ru),some (.pure (.tup [a,b,c,e])),some (.pure a),some (.pure b),some (.pure c),some (.pure e),some (.own T)]) (by simp[aw,ar,aO,bh,ba,aa,aV,gt,aK])];show(o_ _).bind _=_;rw[ga];rfl
abbrev zL:DT:=(dH (e7 (ay (dm "str" (aj (ag az 1 (aj (eD (.int 0)))))))) (dH (e7 (ay (dm "str" (aj (ag az 1 (aj (eD (.int 1)))))))) (e7 (ay (ar kL [.val (ag az 1 (aj (eD (.int 2))))])))))
abbrev zM:DT:=(dH (ay (aE (iH true) (ag az 1 (aj (eD (.int 0)))) (ah 2))) (dH (ay (aE (iH true) (ag az 1 (aj (eD (.int 1)))) (ah 2))) (e7 (ay (ar kL [.val (ag az 1 (aj (eD (.int 3))))])))))
abbrev zN:DT:=(dH (ay (aE iz (ag az 1 (aj (eD (.int 2)))) (aj (eD (.int 1))))) (dH (ay (aE iz (ag az 1 (aj (eD (.int 3)))) (aj (eD (.int 0))))) (ay (aE mD (ag az 1 (aj (eD (.int 3)))) (aj (ag az 1 (aj (eD (.int 2)))))))))
abbrev FO:DS:=(a_ (ar lM [.val (aa 0),.val (ag az 1 (aj (eD (.int 0)))),.val (ag az 1 (aj (eD (.int 1)))),.val (ag az 1 (aj (eD (.int 2)))),.val (ag az 1 (aj (eD (.int 3))))]))
abbrev u4(ru d T:D):Dl:=[some (.pure ru),some (.pure d),some (.own T),none]
theorem uw(a b c e:D):az (.tup [a,b,c,e]) (.int 0)=some (.pure a)/\az (.tup [a,b,c,e]) (.int 1)=some (.pure b)/\az (.tup [a,b,c,e]) (.int 2)=some (.pure c)/\az (.tup [a,b,c,e]) (.int 3)=some (.pure e):=⟨rfl,rfl,rfl,rfl⟩
theorem SF(ha:Sm a)(hb:Sm b)(hc:Sm c):zL (u4 ru (.tup [a,b,c,e]) T) = .ok (!lV a || (!lV b || !wh c)) (u4 ru (.tup [a,b,c,e]) T):=by
 obtain⟨x0,x1,x2,x3⟩:=uw a b c e;have s1:=FG ha;have s2:=FG hb;have g:=FH hc;generalize D.tup [a,b,c,e]=d at *
 cases h1:lV a <;> cases h2:lV b <;> cases h3:wh c <;> rw[h1] at s1 <;> rw[h2] at s2 <;> rw[h3] at g <;>
  simp[zL,ay,dm,ag,bb,aa,ah,S.d,x0,x1,x2,s1,s2,ar,aO,bh,ba,aV,g,aK]
theorem SH(ha:Sm a)(hb:Sm b)(he:Sm e):zM (u4 ru (.tup [a,b,c,e]) (tD ts)) = .ok (!ei ts a || (!ei ts b || !wh e)) (u4 ru (.tup [a,b,c,e]) (tD ts)):=by
 obtain⟨x0,x1,x2,x3⟩:=uw a b c e;have s1:=uu ts ha true;have s2:=uu ts hb true;have g:=FH he;simp only[if_true] at s1 s2;generalize D.tup [a,b,c,e]=d at *;generalize tD ts=T at *
 cases h1:ei ts a <;> cases h2:ei ts b <;> cases h3:wh e <;> rw[h1] at s1 <;> rw[h2] at s2 <;> rw[h3] at g <;>
  simp[zM,ay,ag,bb,aa,ah,S.d,x0,x1,x3,s1,s2,ar,aO,bh,ba,aV,g,aK]
theorem FP(i j:Int):mD (.int i) (.int j)=some (.pure (.bl (decide (j<=i)))):=rfl
theorem SJ:zN (u4 ru (.tup [a,b,.int l,.int r]) T) = .ok (decide (l < 1) || (decide (r < 0) || decide (l<=r))) (u4 ru (.tup [a,b,.int l,.int r]) T):=by
 obtain⟨x0,x1,x2,x3⟩:=uw a b (.int l) (.int r);have s1:=lt_int l 1;have s2:=lt_int r 0;have s3:=FP r l;generalize D.tup [a,b,.int l,.int r]=d at *
 cases h1:decide (l < 1) <;> cases h2:decide (r < 0) <;> cases h3:decide (l<=r) <;> rw[h1] at s1 <;> rw[h2] at s2 <;> rw[h3] at s3 <;>
  simp[zN,ay,ag,bb,aa,ah,S.d,x2,x3,s1,s2,s3]
theorem SK(R:da h w bs)(d:D):aw (fc [3] (cp (ag az 0 (aj (eD (.int 2))))) (ao [] 3) dI (ag az 3 (aj (eD (.int 0))))) (ao [] 2) [some (.pure (ak h w bs)),some (.pure d),none,none] = .ok .next (u4 (ak h w bs) d (tD (bs.map (·.1)))):=by
 have n1:=R.n1;have x2:=(oU h w bs).2.2;have c:=mW (cs:=[3]) (g:=ao [] 3) (t:=dI) (el:=ag az 3 (aj (eD (.int 0)))) cb (λb=>D.str [b.1]) [some (.pure (ak h w bs)),some (.pure d),none,none] bs [] (by rw[er]; simp; omega) (λb hb=>by
  refine⟨[some (.pure (ak h w bs)),some (.pure d),none,some (.pure (cb b))],_,.pure (.str [b.1]),[some (.pure (ak h w bs)),some (.pure d),none,some (.pure (cb b))],rfl,rfl,?_,rfl,rfl⟩;have q:az (cb b) (.int 0)=some (.pure (.str [b.1])):=rfl;generalize cb b=B at *;generalize ak h w bs=ru at *;simp[ag,bb,ah,q])
 have et:tD (bs.map (·.1)) = .lst (bs.map λb=>D.str [b.1]):=by unfold tD; rw[Wx]; rfl
 rw[et];generalize ak h w bs=ru at *;generalize hB:bs.map cb=B at *;generalize (bs.map λb=>D.str [b.1])=Y at *;have i:cp (ag az 0 (aj (eD (.int 2)))) [some (.pure ru),some (.pure d),none,none] = .ok B [some (.pure ru),some (.pure d),none,none]:=by
  simp[iL,ag,bb,ah,x2]
 simp[aw,i,bG,bR];rw[c];simp[dC]
theorem FQ(G:fu h w bs)(ha:Sm a)(hb:Sm b)(hc:Sm c)(he:Sm e):∃ v:Bool,gi [.pure (ak h w bs),.pure (.tup [a,b,c,e])]=some (.pure (.bl v),[.pure (ak h w bs),.pure (.tup [a,b,c,e])])/\(hJ (bs.map (·.1)) a b c e=false->v=false) /\
  (∀ (t o lap rest:Nat),a = .str [t]->b = .str [o]->c = .int lap->e = .int rest->hJ (bs.map (·.1)) a b c e=true->(v=true ↔ ¬ Ev (sq bs t) o lap rest)):=by
 have dt:=SK G.R (.tup [a,b,c,e]);have t1:=SF (ru:=ak h w bs) (T:=tD (bs.map (·.1))) (e:=e) ha hb hc;have t2:=SH (ts:=bs.map (·.1)) (ru:=ak h w bs) (c:=c) ha hb he;have b7:∀ v δ',(au (bN zL (a_ (eD (.bl false))) bO) (au (bN zM (a_ (eD (.bl false))) bO) (au (bN zN (a_ (eD (.bl false))) bO) FO))) (u4 (ak h w bs) (.tup [a,b,c,e]) (tD (bs.map (·.1)))) = .ok (.ret (.pure (.bl v))) δ'->gi [.pure (ak h w bs),.pure (.tup [a,b,c,e])]=some (.pure (.bl v),[.pure (ak h w bs),.pure (.tup [a,b,c,e])]):=λv δ' q=>by
  rw[gi,qT];refine gF (δ1:=δ') ?_;clear t1 t2;have l:bI (.tup [a,b,c,e])=some (.pure (.int 4)):=rfl;have n:fO (.int 4) (.int 4)=some (.pure (.bl false)):=by rw[q_]; rfl
  have ty:fP "tuple" (.tup [a,b,c,e])=some true:=rfl;generalize D.tup [a,b,c,e]=d at *;rw[bj (δ1:=[some (.pure (ak h w bs)),some (.pure d),none,none]) (by
   clear dt q;generalize ak h w bs=ru at *;simp[bo,ay,dm,ty,ah,S.d,l,n])]
  rw[bj dt];exact q
 have rt:∀ {t:DT} {x:DS} {δ:Dl},t δ = .ok true δ->au (bN t (a_ (eD (.bl false))) bO) x δ = .ok (.ret (.pure (.bl false))) δ:=λ{t x δ} q=>by
  simp[q]
 have rn:∀ {t:DT} {x:DS} {δ:Dl},t δ = .ok false δ->au (bN t (a_ (eD (.bl false))) bO) x δ=x δ:=λ{t x δ} q=>by
  simp[q]
 cases q1:(!lV a || (!lV b || !wh c)) with
 | true =>
  rw[q1] at t1;refine⟨false,b7 false _ (rt t1),λ_=>rfl,λt o lap rest ea eb ec ee _=>?_⟩;subst ea; subst eb; subst ec
  simp[lV,wh] at q1
 | false =>
  rw[q1] at t1
  cases q2:(!ei (bs.map (·.1)) a || (!ei (bs.map (·.1)) b || !wh e)) with
  | true =>
   rw[q2] at t2;refine⟨false,b7 false _ (by rw[rn t1]; exact rt t2),λ_=>rfl,λt o lap rest ea eb ec ee hg=>?_⟩;subst ee;unfold hJ at hg;simp only[Wk] at hg;rw[hg.1,hg.2.1] at q2;simp[wh] at q2
  | false =>
   rw[q2] at t2;simp only[Bool.or_eq_false_iff,Bool.not_eq_false'] at q1 q2;obtain⟨t,ht,rfl⟩:=uv q2.1;obtain⟨o,ho,rfl⟩:=uv q2.2.1;obtain⟨l,rfl⟩:∃ l,c = .int l:=by
    cases c with
    | int l=>exact⟨l,rfl⟩
    | _=>simp[wh] at q1
   obtain⟨r,rfl⟩:∃ r,e = .int r:=by
    cases e with
    | int l=>exact⟨l,rfl⟩
    | _=>simp[wh] at q2
   have t3:=SJ (ru:=ak h w bs) (T:=tD (bs.map (·.1))) (a:=.str [t]) (b:=.str [o]) (l:=l) (r:=r);have hg:hJ (bs.map (·.1)) (.str [t]) (.str [o]) (.int l) (.int r) = !(decide (l < 1) || (decide (r < 0) || decide (l<=r))):=by
    unfold hJ;rw[q2.1,q2.2.1];simp only[wf,wi,Bool.true_and];rw[Ql];simp only[Wk,decide_eq_true_eq,Bool.not_eq_true',Bool.or_eq_false_iff,decide_eq_false_iff_not];omega
   rw[hg]
   cases q3:(decide (l < 1) || (decide (r < 0) || decide (l<=r))) with
   | true =>
    rw[q3] at t3;exact⟨false,b7 false _ (by rw[rn t1,rn t2]; exact rt t3),λ_=>rfl,λ_ _ _ _ _ _ _ _ z=>by cases z⟩
   | false =>
    rw[q3] at t3;simp only[Bool.or_eq_false_iff,decide_eq_false_iff_not] at q3;obtain⟨lap,rfl⟩:=QF (show 0<=l by omega);obtain⟨rest,rfl⟩:=QF (show 0<=r by omega);have hB:lap < 10000000000000000000000000000000:=by
     cases hc with
     | int i hi=>omega
    obtain⟨v,hv,gn⟩:=Sv (o:=o) G ht (show rest < lap by omega) hB;refine⟨v,b7 v (u4 (ak h w bs) (.tup [.str [t],.str [o],.int (lap:Int),.int (rest:Int)]) (tD (bs.map (·.1)))) ?_,(λz=>by cases z),λt' o' Ur Us ea eb ec ee _=>?_⟩
    ·rw[rn t1,rn t2,rn t3];obtain⟨x0,x1,x2,x3⟩:=uw (.str [t]) (.str [o]) (.int (lap:Int)) (.int (rest:Int));clear t1 t2 t3 b7 dt rt rn;generalize D.tup [.str [t],.str [o],.int (lap:Int),.int (rest:Int)]=d at *;generalize ak h w bs=ru at *;generalize tD (bs.map (·.1))=T at *;simp[FO,ar,aO,bh,ba,aa,aV,ag,bb,ah,S.d,x0,x1,x2,x3,gn,aK]
    ·cases ea; cases eb; cases ec; cases ee
     exact hv
abbrev jD(ru d:D)(t o:Nat)(lap rest:Int)(L:D)(s g:Int)(o9 gG:Option S):Dl:=[some (.pure ru),some (.pure d),some (.pure (.str [t])),some (.pure (.str [o])),some (.pure (.int lap)),some (.pure (.int rest)),some (.pure L),some (.pure (.int s)),some (.pure (.int g)),o9,gG]
abbrev hB:DS:=(bN (ay (aE (eK false) (aa 3) (ah 10))) (bN (dH (ay (aE bU (ag cO 9 (ah 4)) (ah 5))) (iP (ay (ag mD 9 (ah 7))) (ay (aE bU (aE cO (ag fz 5 (ah 9)) (ah 8)) (aj (eD (.int 0))))))) (a_ (eD (.bl false))) bO) bO)
theorem SM(o:Nat)(z:Tx):eK false (.str [o]) (.str z)=some (.pure (.bl (decide (o ∈ z)))):=rfl
def pb(z:Tx)(o lap rest s g i:Nat):Bool:=decide (o ∈ z) && (decide (i % lap=rest) || (decide (s<=i) && decide (((rest:Int) - (i:Int)) % (g:Int)=0)))
theorem SN{ru d L:D}{z:Tx}{t o lap rest s g i:Nat}(hl:rest < lap)(hg:0 < g) :
  (pb z o lap rest s g i=true/\∃ δ2,hB (jD ru d t o lap rest L s g (some (.pure (.int (i:Int)))) (some (.pure (.str z)))) = .ok (.ret (.pure (.bl false))) δ2) \/
  (pb z o lap rest s g i=false/\hB (jD ru d t o lap rest L s g (some (.pure (.int (i:Int)))) (some (.pure (.str z)))) = .ok .next (jD ru d t o lap rest L s g (some (.pure (.int (i:Int)))) (some (.pure (.str z))))):=by
 have it:=SM o z;have md:=oY (i:Int) (lap:Int) (by omega);have em:(i:Int) % (lap:Int)=((i % lap:Nat):Int):=by push_cast; rfl
 rw[em] at md;have eq:=jC ((i % lap:Nat):Int) (rest:Int);rw[FD] at eq;have ge:=FP (i:Int) (s:Int);have sb:=lT (rest:Int) (i:Int);have mg:=oY ((rest:Int) - (i:Int)) (g:Int) (by omega);have ez:=jC (((rest:Int) - (i:Int)) % (g:Int)) 0;have e1:decide ((s:Int)<=(i:Int))=decide (s<=i):=by
  rw[Ql,decide_eq_true_eq,decide_eq_true_eq]; omega
 rw[e1] at ge;have e2:(((rest:Int) - (i:Int)) % (g:Int) == 0)=decide (((rest:Int) - (i:Int)) % (g:Int)=0):=by
  rw[Ql,beq_iff_eq,decide_eq_true_eq]
 rw[e2] at ez;unfold pb;clear em e1 e2;generalize decide (((rest:Int) - (i:Int)) % (g:Int)=0)=b4 at *;generalize ((rest:Int) - (i:Int)) % (g:Int)=c1 at *;generalize (rest:Int) - (i:Int)=c2 at *;generalize decide (s<=i)=b3 at *;generalize decide (i % lap=rest)=b2 at *;generalize ((i % lap:Nat):Int)=c3 at *;generalize decide (o ∈ z)=b1 at *;have key:∃ fl:Bool,hB (jD ru d t o lap rest L s g (some (.pure (.int (i:Int)))) (some (.pure (.str z)))) = .ok (if fl then .ret (.pure (.bl false)) else .next) (jD ru d t o lap rest L s g (some (.pure (.int (i:Int)))) (some (.pure (.str z))))/\fl=(b1 && (b2 || (b3 && b4))):=by
  generalize (lap:Int)=c5 at *;generalize (rest:Int)=c6 at *;generalize (s:Int)=c7 at *;generalize (g:Int)=c8 at *;generalize (i:Int)=c9 at *
  cases b1 <;> cases b2 <;> cases b3 <;> cases b4 <;> refine⟨_,?_,rfl⟩ <;> simp[hB,ay,ag,bb,aa,ah,S.d,it,md,eq,ge,sb,mg,ez]
 obtain⟨fl,e,hf⟩:=key;rw[<- hf]
 cases fl with
 | true=>exact .inl ⟨rfl,_,e⟩
 | false=>exact .inr ⟨rfl,e⟩
theorem SR(M:Nat)(f:Nat->D):gY ((Wf M).map f)=(Wf M).map λi=>.tup [.int (i:Int),f i]:=by
 apply JM;intro i;unfold gY;rw[List.getElem?_mapIdx,Wv,Wv];by_cases hi:i < M
 ·rw[Qj hi]; rfl
 ·rw[WK (by simpa using hi)]; rfl
theorem ux(g:i_ [.pure (ak h w bs),.pure d]=some (.pure (.bl false),[.pure (ak h w bs),.pure d])):g_ [.pure (ak h w bs),.pure d]=some (.pure (.bl false),[.pure (ak h w bs),.pure d]):=by
 rw[g_,ua];generalize ak h w bs=ru at *;refine gF (δ1:=[some (.pure ru),some (.pure d),none,none,none,none,none,none,none,none,none]) ?_;refine kP ?_;simp[bo,ay,ar,aO,bh,ba,aa,aV,g,aK,S.d]
theorem FR{h w t o lap rest:Nat}{bs:List (Nat×List Tx)}(G:fu h w bs)(ht:t ∈ bs.map (·.1))(hl:rest < lap)
  (g:i_ [.pure (ak h w bs),.pure (.tup [.str [t],.str [o],.int (lap:Int),.int (rest:Int)])]=some (.pure (.bl true),[.pure (ak h w bs),.pure (.tup [.str [t],.str [o],.int (lap:Int),.int (rest:Int)])])) :
  ∃ v:Bool,g_ [.pure (ak h w bs),.pure (.tup [.str [t],.str [o],.int (lap:Int),.int (rest:Int)])]=some (.pure (.bl v),[.pure (ak h w bs),.pure (.tup [.str [t],.str [o],.int (lap:Int),.int (rest:Int)])])/\(v=true ↔ ¬ Ev (sq bs t) o lap rest):=by
 obtain⟨M,s,hs,e,hM,_,gs⟩:=uk G ht;have ev:=Q_ hs (zE hs e) (o:=o) hl;have gg:=Sg (M - s) lap (by omega) (by omega);have hg:0 < QQ (M - s) lap:=Nat.gcd_pos_of_pos_left _ (by omega);have ez:(M:Int) - (s:Int)=((M - s:Nat):Int):=by omega
 have s1:=lT (M:Int) (s:Int);rw[ez] at s1;have ln:bI (dg bs t M)=some (.pure (.int (M:Int))):=by simp[bI]
 generalize QQ (M - s) lap=gc at *;generalize ((M - s:Nat):Int)=z at *;have gT:bT 4 (aU (ao [] 2) (aU (ao [] 3) (aU (ao [] 4) (aU (ao [] 5) bW)))) (.pure (.tup [.str [t],.str [o],.int (lap:Int),.int (rest:Int)])) [some (.pure (ak h w bs)),some (.pure (.tup [.str [t],.str [o],.int (lap:Int),.int (rest:Int)])),none,none,none,none,none,none,none,none,none]=some [some (.pure (ak h w bs)),some (.pure (.tup [.str [t],.str [o],.int (lap:Int),.int (rest:Int)])),some (.pure (.str [t])),some (.pure (.str [o])),some (.pure (.int (lap:Int))),some (.pure (.int (rest:Int))),none,none,none,none,none]:=rfl;generalize D.tup [.str [t],.str [o],.int (lap:Int),.int (rest:Int)]=d at *;have lp:=λv=>ur (g:=bT 2 (aU (ao [] 9) (aU (ao [] 10) bW))) (b:=hB) (λv:Option S×Option S=>jD (ak h w bs) d t o lap rest (dg bs t M) s gc v.1 v.2) (λi=>pb (sq bs t i) o lap rest s gc i) (.pure (.bl false)) (λi=>.tup [.int (i:Int),.str (sq bs t i)]) (Wf M) v (λi hi v=>by
  refine⟨jD (ak h w bs) d t o lap rest (dg bs t M) s gc (some (.pure (.int (i:Int)))) (some (.pure (.str (sq bs t i)))),rfl,?_⟩;rcases SN (ru:=ak h w bs) (d:=d) (L:=dg bs t M) (z:=sq bs t i) (t:=t) (o:=o) (s:=s) (g:=gc) (i:=i) hl hg with ⟨a,b⟩ | ⟨a,b⟩
  ·exact .inl ⟨a,b⟩
  ·exact .inr ⟨a,(_,_),b⟩)
 have en:=SR M (λk=>D.str (sq bs t k));have ie:kD (aa 6) (jD (ak h w bs) d t o lap rest (dg bs t M) s gc none none) = .ok ((Wf M).map λi:Nat=>D.tup [.int (i:Int),.str (sq bs t i)]) (jD (ak h w bs) d t o lap rest (dg bs t M) s gc none none):=by
  rw[<- en];clear lp en ev gs g gT;generalize ak h w bs=ru at *;simp[kD,aa,S.d]
 have b7:∀ v δ',(au (cG (kD (aa 6)) (bT 2 (aU (ao [] 9) (aU (ao [] 10) bW))) hB) (a_ (eD (.bl true)))) (jD (ak h w bs) d t o lap rest (dg bs t M) s gc none none) = .ok (.ret (.pure (.bl v))) δ'->g_ [.pure (ak h w bs),.pure d]=some (.pure (.bl v),[.pure (ak h w bs),.pure d]):=λv δ' q=>by
  rw[g_,ua];refine gF (δ1:=δ') ?_;clear lp en ev ie;generalize dg bs t M=L at *;generalize ak h w bs=ru at *;rw[bj (δ1:=[some (.pure ru),some (.pure d),none,none,none,none,none,none,none,none,none]) (by
   simp[bo,ay,ar,aO,bh,ba,aa,aV,g,aK,S.d])]
  rw[bj (δ1:=[some (.pure ru),some (.pure d),some (.pure (.str [t])),some (.pure (.str [o])),some (.pure (.int (lap:Int))),some (.pure (.int (rest:Int))),none,none,none,none,none]) (by
   show aw (aa 1) (bT 4 _) _=_;simp only[aw,aa];show Rs.bind (Rs.ok (S.pure d) _) _=_;rw[ju,gT])]
  rw[bj (δ1:=[some (.pure ru),some (.pure d),some (.pure (.str [t])),some (.pure (.str [o])),some (.pure (.int (lap:Int))),some (.pure (.int (rest:Int))),some (.pure L),some (.pure (.int (s:Int))),none,none,none]) (by
   simp[aw,ar,aO,bh,ba,aa,aV,gs,aK,bT,aU,bW,S.d])]
  rw[bj (δ1:=jD ru d t o lap rest L s gc none none) (by
   simp[aw,ar,aO,bh,ba,aa,ah,aV,ln,s1,gg,aK,S.d])]
  exact q
 rcases lp (none,none) with ⟨a1,δ',e1⟩ | ⟨a1,v',e1⟩
 ·refine⟨false,b7 false δ' (kP ((eW ie).trans e1)),(λz=>by cases z),λz=>absurd (ev.mpr ?_) z⟩;obtain⟨i,hi,q⟩:=JS.mp a1;unfold pb at q;simp only[Wk,JU,decide_eq_true_eq] at q;exact⟨i,WL.mp hi,q.1,q.2⟩
 ·refine⟨true,b7 true _ (by
   rw[bj ((eW ie).trans e1)];rfl),λ_ z=>?_,λ_=>rfl⟩
  obtain⟨i,hi,q1,q2⟩:=ev.mp z;have:=Jp.mp a1 i (WL.mpr hi);apply this;unfold pb;simp only[Wk,JU,decide_eq_true_eq];exact⟨q1,q2⟩
theorem SV(h:hJ ts a b c e=true):∃ t o lap rest:Nat,t ∈ ts/\o ∈ ts/\a = .str [t]/\b = .str [o]/\c = .int lap/\e = .int rest/\rest < lap:=by
 unfold hJ at h;simp only[Wk] at h;obtain⟨t,ht,rfl⟩:=uv h.1;obtain⟨o,ho,rfl⟩:=uv h.2.1;obtain⟨l,rfl,hl⟩:=FL h.2.2.1;have h3:=h.2.2.2;obtain⟨r,rfl⟩:∃ r,e = .int r:=by
  cases e with
  | int r=>exact⟨r,rfl⟩
  | _=>simp[wi] at h3
 simp only[wi,Wk,decide_eq_true_eq] at h3;obtain⟨lap,rfl⟩:=QF (show 0<=l by omega);obtain⟨rest,rfl⟩:=QF h3.1;exact⟨t,o,lap,rest,ht,ho,rfl,rfl,rfl,rfl,by omega⟩
theorem SY{ts:List Nat}{t o lap rest:Nat}(ht:t ∈ ts)(ho:o ∈ ts)(hl:rest < lap):hJ ts (.str [t]) (.str [o]) (.int lap) (.int rest)=true:=by
 unfold hJ;rw[FF ht,FF ho];simp only[wf,wi,Bool.true_and,Wk,decide_eq_true_eq];omega
def Th (d:D):Prop:=fP "tuple" d=some false\/∃ xs,d = .tup xs/\(xs.length≠4\/∀ x ∈ xs,Sm x)
theorem both{h w:Nat}{bs:List (Nat×List Tx)}(G:fu h w bs){d:D}(T:Th d):∃ v:Bool,g_ [.pure (ak h w bs),.pure d]=some (.pure (.bl v),[.pure (ak h w bs),.pure d])/\gi [.pure (ak h w bs),.pure d]=some (.pure (.bl v),[.pure (ak h w bs),.pure d]):=by
 rcases T with T | ⟨xs,rfl,T | T⟩
 ·exact⟨false,ux (Sy T),Sz T⟩
 ·exact⟨false,ux (FJ T),FK T⟩
 ·by_cases hl:xs.length=4
  ·obtain⟨a,b,c,e,rfl⟩:∃ a b c e,xs=[a,b,c,e]:=by
    match xs,hl with
    | [a,b,c,e],_=>exact⟨a,b,c,e,rfl⟩
   have ha:=T a (by simp);have hb:=T b (by simp);have hc:=T c (by simp);have he:=T e (by simp);have gg:=FN G.R ha hb hc he;obtain⟨v,gd,d1,d2⟩:=FQ G ha hb hc he
   cases q:hJ (bs.map (·.1)) a b c e with
   | false =>
    rw[q] at gg;rw[d1 q] at gd;exact⟨false,ux gg,gd⟩
   | true =>
    rw[q] at gg;obtain⟨t,o,lap,rest,ht,ho,rfl,rfl,rfl,rfl,hr⟩:=SV q;obtain⟨v',gh,hv⟩:=FR G ht hr gg;have S0:=d2 t o lap rest rfl rfl rfl rfl q;have:v'=v:=by
     rw[Ql,hv,S0]
    rw[this] at gh;exact⟨v,gh,gd⟩
  ·exact⟨false,ux (FJ hl),FK hl⟩
theorem S1{h w t o lap rest:Nat}{bs:List (Nat×List Tx)}(G:fu h w bs)(ht:t ∈ bs.map (·.1))(ho:o ∈ bs.map (·.1))(hl:rest < lap)(hB:lap < 10000)(hn:¬ Ev (sq bs t) o lap rest) :
  g_ [.pure (ak h w bs),.pure (.tup [.str [t],.str [o],.int (lap:Int),.int (rest:Int)])]=some (.pure (.bl true),[.pure (ak h w bs),.pure (.tup [.str [t],.str [o],.int (lap:Int),.int (rest:Int)])]) /\
  gi [.pure (ak h w bs),.pure (.tup [.str [t],.str [o],.int (lap:Int),.int (rest:Int)])]=some (.pure (.bl true),[.pure (ak h w bs),.pure (.tup [.str [t],.str [o],.int (lap:Int),.int (rest:Int)])]):=by
 have q:=SY (ts:=bs.map (·.1)) ht ho hl;have ha:Sm (.str [t]):=.str _;have hb:Sm (.str [o]):=.str _;have hc:Sm (.int (lap:Int)):=.int _ (by omega);have he:Sm (.int (rest:Int)):=.int _ (by omega);have gg:=FN G.R ha hb hc he;rw[q] at gg;obtain⟨v,gd,d1,d2⟩:=FQ G ha hb hc he;obtain⟨v',gh,hv⟩:=FR G ht hl gg;rw[(d2 t o lap rest rfl rfl rfl rfl q).mpr hn] at gd;rw[hv.mpr hn] at gh;exact⟨gh,gd⟩
abbrev y7(ru T:D)(o2 o3 o4 o5 o6:Option S):Dl:=[some (.pure ru),some (.pure T),o2,o3,o4,o5,o6]
abbrev yI:DS:=(bN (ay (aE (dJ false) (aa 4) (aj (eD .ax)))) (a_ (cP (aF (aa 2) (aF (aa 3) (aF (eD (.int 1)) (aF (eD (.int 0)) bL)))))) bO)
abbrev yO:DS:=(cG (cp (ar lK [.val (aa 0),.val (aa 2)])) (bT 2 (aU (ao [] 3) (aU (ao [] 4) bW))) yI)
theorem FU(ru T:D)(t:Nat)(f:Nat->Option Nat)(o5 o6:Option S):∀ (l:List (Nat×List Tx)) (o3 o4:Option S),
  (∃ x δ',x ∈ l.map (·.1)/\f x=none/\forL (bT 2 (aU (ao [] 3) (aU (ao [] 4) bW))) yI (lR l f) (y7 ru T (some (.pure (.str [t]))) o3 o4 o5 o6) = .ok (.ret (.pure (.tup [.str [t],.str [x],.int 1,.int 0]))) δ') \/
  ((∀ x ∈ l.map (·.1),f x≠none)/\∃ q3 q4,forL (bT 2 (aU (ao [] 3) (aU (ao [] 4) bW))) yI (lR l f) (y7 ru T (some (.pure (.str [t]))) o3 o4 o5 o6) = .ok .next (y7 ru T (some (.pure (.str [t]))) q3 q4 o5 o6))
 | [],o3,o4=>.inr ⟨(λx h=>by cases h),o3,o4,rfl⟩
 | b :: l,o3,o4=>by
  have eR:lR (b :: l) f = .tup [.str [b.1],(iD (f b.1)).getD .ax] :: lR l f:=rfl;rw[eR];have e1:bT 2 (aU (ao [] 3) (aU (ao [] 4) bW)) (.pure (.tup [.str [b.1],(iD (f b.1)).getD .ax])) (y7 ru T (some (.pure (.str [t]))) o3 o4 o5 o6)=some (y7 ru T (some (.pure (.str [t]))) (some (.pure (.str [b.1]))) (some (.pure ((iD (f b.1)).getD .ax))) o5 o6):=rfl
  cases q:f b.1 with
  | none =>
   rw[q] at e1;refine .inl ⟨b.1,y7 ru T (some (.pure (.str [t]))) (some (.pure (.str [b.1]))) (some (.pure .ax)) o5 o6,by simp,q,?_⟩;unfold forL;rw[e1];simp[yI,ay,aa,iD,dJ,iG,S.d]
  | some j =>
   rw[q] at e1;have e2:yI (y7 ru T (some (.pure (.str [t]))) (some (.pure (.str [b.1]))) (some (.pure ((iD (some j)).getD .ax))) o5 o6) = .ok .next (y7 ru T (some (.pure (.str [t]))) (some (.pure (.str [b.1]))) (some (.pure ((iD (some j)).getD .ax))) o5 o6):=by
    simp[yI,ay,aa,iD,dJ,iG,S.d]
   rw[nG e1 e2];rcases FU ru T t f o5 o6 l (some (.pure (.str [b.1]))) (some (.pure ((iD (some j)).getD .ax))) with ⟨x,δ',h1,h2,h3⟩ | ⟨h1,q3,q4,h2⟩
   ·exact .inl ⟨x,δ',Wh _ h1,h2,h3⟩
   ·refine .inr ⟨λx hx=>?_,q3,q4,h2⟩;rcases We.mp hx with rfl | hx
    ·rw[q]; exactλz=>by cases z
    ·exact h1 x hx
theorem S2{S:Nat->Tx}{x M:Nat}(hM:∀ k,∃ j,j < M/\S k=S j)(h:dS S x M=none):∀ k,x ∉ S k:=λk hk=>by
 obtain⟨j,h1,h2⟩:=hM k;unfold dS at h;have:=List.find?_eq_none.mp h j (WL.mpr h1);rw[<- h2] at this;exact this (decide_eq_true hk)
theorem S3{S:Nat->Tx}{x M:Nat}(h:dS S x M≠none):∃ k,x ∈ S k:=by
 unfold dS at h
 cases q:(Wf M).find? λi=>decide (x ∈ S i) with
 | none=>exact absurd q h
 | some i=>exact⟨i,by simpa using List.find?_some q⟩
theorem FV{h w:Nat}{bs:List (Nat×List Tx)}(G:fu h w bs)(T:D)(o5 o6:Option S):∀ (l:List Nat) (o2 o3 o4:Option S),(∀ t ∈ l,t ∈ bs.map (·.1)) ->
  (∃ t x δ',t ∈ bs.map (·.1)/\x ∈ bs.map (·.1)/\(∀ k,x ∉ sq bs t k)/\forL (ao [] 2) yO (l.map λn=>D.str [n]) (y7 (ak h w bs) T o2 o3 o4 o5 o6) = .ok (.ret (.pure (.tup [.str [t],.str [x],.int 1,.int 0]))) δ') \/
  ((∀ t ∈ l,∀ x ∈ bs.map (·.1),∃ k,x ∈ sq bs t k)/\∃ q2 q3 q4,forL (ao [] 2) yO (l.map λn=>D.str [n]) (y7 (ak h w bs) T o2 o3 o4 o5 o6) = .ok .next (y7 (ak h w bs) T q2 q3 q4 o5 o6))
 | [],o2,o3,o4,_=>.inr ⟨(λt h=>by cases h),o2,o3,o4,rfl⟩
 | t :: l,o2,o3,o4,hl=>by
  have ht:=hl t Wl;obtain⟨M,hM,ga⟩:=RS G ht;have iq:cp (ar lK [.val (aa 0),.val (aa 2)]) (y7 (ak h w bs) T (some (.pure (.str [t]))) o3 o4 o5 o6) = .ok (lR bs λx=>dS (sq bs t) x M) (y7 (ak h w bs) T (some (.pure (.str [t]))) o3 o4 o5 o6):=by
   generalize (lR bs λx=>dS (sq bs t) x M)=RR at *;generalize ak h w bs=ru at *;simp[iL,ar,aO,bh,ba,aa,aV,ga,aK,S.d]
  rw[Wn];have e1:ao [] 2 (.pure (.str [t])) (y7 (ak h w bs) T o2 o3 o4 o5 o6)=some (y7 (ak h w bs) T (some (.pure (.str [t]))) o3 o4 o5 o6):=rfl;rcases FU (ak h w bs) T t (λx=>dS (sq bs t) x M) o5 o6 bs o3 o4 with ⟨x,δ',h1,h2,h3⟩ | ⟨h1,q3,q4,h2⟩
  ·refine .inl ⟨t,x,δ',ht,h1,S2 hM h2,?_⟩;have e2:=(eW iq).trans h3;unfold forL;rw[e1];simp only[yO];rw[e2];rfl
  ·rw[nG e1 ((eW iq).trans h2)];rcases FV G T o5 o6 l (some (.pure (.str [t]))) q3 q4 (λt ht=>hl t (Wh _ ht)) with h | ⟨h3,q2',q3',q4',h4⟩
   ·exact .inl h
   ·refine .inr ⟨λt' nU x hx=>?_,q2',q3',q4',h4⟩;rcases We.mp nU with rfl | nU
    ·exact S3 (h1 x hx)
    ·exact h3 t' nU x hx
theorem S4(G:fu h w bs)(o:Option Nat)(ho:Res bs o)(gm:iJ [.pure (ak h w bs)]=some (.pure (oD o),[.pure (ak h w bs)])) :
  (o≠none/\jW [.pure (ak h w bs)]=some (.pure .ax,[.pure (ak h w bs)])) \/
  (o=none/\∃ t x lap rest:Nat,t ∈ bs.map (·.1)/\x ∈ bs.map (·.1)/\rest < lap/\lap < 10000/\¬ Ev (sq bs t) x lap rest/\jW [.pure (ak h w bs)]=some (.pure (.tup [.str [t],.str [x],.int (lap:Int),.int (rest:Int)]),[.pure (ak h w bs)])):=by
 cases o with
 | some m =>
  refine .inl ⟨(λz=>by cases z),?_⟩;rw[jW,t_];generalize ak h w bs=ru at *;refine oV (δ1:=[some (.pure ru),none,none,none,none,none,none]) (kP ?_);simp[bo,ay,ar,aO,bh,ba,aa,aV,gm,aK,S.d,oD,dJ,iG]
 | none =>
  refine .inr ⟨rfl,?_⟩;have gt:=um G.R;have b7:∀ d δ',(au (cG (cp (aa 1)) (ao [] 2) yO) (au (aw (ar gD [.val (aa 0),.val (ag az 1 (aj (eD (.int 0))))]) (bT 2 (aU (ao [] 5) (aU (ao [] 6) bW)))) (a_ (cP (aF (ag az 1 (aj (eD (.int 0)))) (aF (ag az 1 (aj (eD (.int 0)))) (aF (aE fz (aY bI (ah 5)) (ah 6)) (aF (eD (.int 1)) bL)))))))) [some (.pure (ak h w bs)),some (.own (tD (bs.map (·.1)))),none,none,none,none,none] = .ok (.ret (.pure d)) δ'->jW [.pure (ak h w bs)]=some (.pure d,[.pure (ak h w bs)]):=λd δ' q=>by
   rw[jW,t_];refine oV (δ1:=δ') ?_;generalize tD (bs.map (·.1))=TS at *;generalize ak h w bs=ru at *;rw[bj (δ1:=[some (.pure ru),none,none,none,none,none,none]) (by
    simp[bo,ay,ar,aO,bh,ba,aa,aV,gm,aK,S.d,oD,dJ,iG])]
   rw[bj (δ1:=[some (.pure ru),some (.own TS),none,none,none,none,none]) (by simp[aw,ar,aO,bh,ba,aa,aV,gt,aK])];exact q
  have iq:cp (aa 1) [some (.pure (ak h w bs)),some (.own (tD (bs.map (·.1)))),none,none,none,none,none] = .ok ((bs.map (·.1)).map λt=>D.str [t]) (y7 (ak h w bs) (tD (bs.map (·.1))) none none none none none):=by
   simp[iL,aa,S.d,tD]
  rcases FV G (tD (bs.map (·.1))) none none (bs.map (·.1)) none none none (λt h=>h) with ⟨t,x,δ',ht,hx,hn,e⟩ | ⟨hc,q2,q3,q4,e⟩
  ·exact⟨t,x,1,0,ht,hx,by decide,by decide,λ⟨k,_,z⟩=>hn k z,b7 _ δ' (kP ((eW iq).trans e))⟩
  ·have hz:0 < bs.length:=G.R.n0;obtain⟨t,ht,h0⟩:∃ t,t ∈ bs.map (·.1)/\az (tD (bs.map (·.1))) (.int 0)=some (.pure (.str [t])):=by
    cases bs with
    | nil=>simp at hz
    | cons b r=>exact⟨b.1,by simp,by
      show(cR _ 0).map S.pure=_;rw[qE];rfl⟩
   obtain⟨M,s,hs,e2,hM,_,gs⟩:=uk G ht;obtain⟨w1,w2⟩:=Rj G.R ht ho hc hs e2;have ez:(M:Int) - (s:Int)=((M - s:Nat):Int):=by omega
   have s1:=lT (M:Int) (s:Int);rw[ez] at s1;have ln:bI (dg bs t M)=some (.pure (.int (M:Int))):=by simp[bI]
   refine⟨t,t,M - s,1,ht,ht,w1,by omega,w2,b7 _ (y7 (ak h w bs) (tD (bs.map (·.1))) q2 q3 q4 (some (.pure (dg bs t M))) (some (.pure (.int (s:Int))))) ?_⟩;rw[bj ((eW iq).trans e)];clear b7 iq e w2 ez;generalize ((M - s:Nat):Int)=z at *;generalize dg bs t M=L at *;generalize tD (bs.map (·.1))=TS at *;generalize ak h w bs=ru at *;rw[bj (δ1:=y7 ru TS q2 q3 q4 (some (.pure L)) (some (.pure (.int (s:Int))))) (by
    simp[aw,ar,aO,bh,ba,aa,ah,aV,ag,bb,h0,gs,aK,bT,aU,bW,S.d])]
   simp[ag,bb,ah,h0,ln,s1,S.d]
theorem zO{α:Type}{xs:List α}{l1 l2:Option Int}{x:α}(h:x ∈ bY xs l1 l2):x ∈ xs:=by
 unfold bY at h;exact List.mem_of_mem_drop (List.mem_of_mem_take h)
theorem zP(xs ys:List D)(h:xs.length + ys.length<=1000):aT (.tup xs) (.tup ys)=some (.pure (.tup (xs ++ ys))):=by
 simp only[aT];rw[if_pos (by rw[er]; omega)]
theorem FW(xs ys:List D)(h:xs.length + ys.length<=1000):aT (.lst xs) (.lst ys)=some (.own (.lst (xs ++ ys))):=by
 simp only[aT];rw[if_pos (by rw[er]; omega)]
theorem FX(xs:List D)(h:r < xs.length):∃ x,x ∈ xs/\az (.lst xs) (.int (r:Int))=some (.pure x):=by
 refine⟨xs[r],Qc h,?_⟩;simp only[az];rw[iY,Wc h];rfl
theorem zQ(ds:List D)(lo hi:Option Int):fA lo hi (.tup ds)=some (.pure (.tup (bY ds lo hi))):=rfl
abbrev b9(ru pd T:D)(o3 o4 o5 o6 o7:Option S):Dl:=[some (.pure ru),some (.own pd),some (.own T),o3,o4,o5,o6,o7,none]
theorem S5{h w:Nat}{bs:List (Nat×List Tx)}(R:da h w bs)(pd:D):aw (fc [8] (cp (ag az 0 (aj (eD (.int 2))))) (ao [1] 8) dI (ag az 8 (aj (eD (.int 0))))) (ao [1] 2) [some (.pure (ak h w bs)),some (.own pd),none,none,none,none,none,none,none] = .ok .next (b9 (ak h w bs) pd (tD (bs.map (·.1))) none none none none none):=by
 have n1:=R.n1;have x2:=(oU h w bs).2.2;have c:=mW (cs:=[8]) (g:=ao [1] 8) (t:=dI) (el:=ag az 8 (aj (eD (.int 0)))) cb (λb=>D.str [b.1]) [some (.pure (ak h w bs)),some (.own pd),none,none,none,none,none,none,none] bs [] (by rw[er]; simp; omega) (λb hb=>by
  refine⟨[some (.pure (ak h w bs)),some (.own pd),none,none,none,none,none,none,some (.pure (cb b))],_,.pure (.str [b.1]),[some (.pure (ak h w bs)),some (.own pd),none,none,none,none,none,none,some (.pure (cb b))],rfl,rfl,?_,rfl,rfl⟩;have q:az (cb b) (.int 0)=some (.pure (.str [b.1])):=rfl;generalize cb b=B at *;generalize ak h w bs=ru at *;simp[ag,bb,ah,q])
 have et:tD (bs.map (·.1)) = .lst (bs.map λb=>D.str [b.1]):=by unfold tD; rw[Wx]; rfl
 rw[et];generalize ak h w bs=ru at *;generalize hB:bs.map cb=B at *;generalize (bs.map λb=>D.str [b.1])=Y at *;have i:cp (ag az 0 (aj (eD (.int 2)))) [some (.pure ru),some (.own pd),none,none,none,none,none,none,none] = .ok B [some (.pure ru),some (.own pd),none,none,none,none,none,none,none]:=by
  simp[iL,ag,bb,ah,x2]
 simp[aw,i,bG,bR];rw[c];simp[dC]
theorem S6{ru pd T:D}(hp:cg pd):∃ (lap:Nat) (cm:D),cg cm/\0 < lap/\lap<=1000000000000000000000000000000 /\
  aw (aE aT (eD (.int 1)) (aj (ar bV [.io 1,.val (aE az (dO (aF (eD (.int 6)) (aF (eD (.int 12)) (aF (aE nZ (eD (.int 10)) (aj (eD (.int 30)))) bL)))) (aj (ar bV [.io 1,.val (eD (.int 3))])))]))) (ao [1] 3) (b9 ru pd T none none none none none) = .ok .next (b9 ru cm T (some (.pure (.int (lap:Int)))) none none none none):=by
 obtain⟨r1,d1,e1,l1,p1⟩:=eM hp 3 3 rfl (by decide) (by decide);have pw:nZ (.int 10) (.int 30)=some (.pure (.int 1000000000000000000000000000000)):=rfl;have:∃ m:Nat,0 < m/\m<=1000000000000000000000000000000/\az (.lst [.int 6,.int 12,.int 1000000000000000000000000000000]) (.int (r1:Int))=some (.pure (.int (m:Int))):=by
  have:r1=0\/r1=1\/r1=2:=by omega
  rcases this with rfl | rfl | rfl
  ·exact⟨6,by decide,by decide,rfl⟩
  ·exact⟨12,by decide,by decide,rfl⟩
  ·exact⟨1000000000000000000000000000000,by decide,by decide,rfl⟩
 obtain⟨m,m0,m1,ix⟩:=this;obtain⟨r2,d2,e2,l2,p2⟩:=eM p1 m (m:Int) rfl m0 (by omega);refine⟨1 + r2,d2,p2,by omega,by omega,?_⟩;have ad:=add_int 1 (r2:Int);have ez:(1:Int) + (r2:Int)=((1 + r2:Nat):Int):=by omega
 rw[ez] at ad;clear ez m0 m1 l2;generalize ((1 + r2:Nat):Int)=c at *;generalize (1000000000000000000000000000000:Int)=c30 at *;generalize (m:Int)=mi at *;generalize (r1:Int)=ri at *;simp[aw,ar,aO,bh,bG,ba,aa,ah,aV,e1,e2,aK,pw,ix,ad,S.d]
theorem rg{xs:List D}(h:∀ x ∈ xs,Sm x):Th (.tup xs):=.inr ⟨xs,rfl,.inr h⟩
theorem S7{ru pd:D}{ts:List Nat}(hp:cg pd)(h0:0 < ts.length)(Ut:ts.length<=26){lap:Nat}(hl:0 < lap)(hB:lap<=1000000000000000000000000000000):∃ (xs:List D) (cm:D),cg cm/\xs.length=4/\(∀ x ∈ xs,Sm x) /\
  aw (cP (aF (ag az 2 (aj (ar bV [.io 1,.val (aY bI (ah 2))]))) (aF (ag az 2 (aj (ar bV [.io 1,.val (aY bI (ah 2))]))) (aF (aa 3) (aF (ar bV [.io 1,.val (aa 3)]) bL))))) (ao [1] 4) (b9 ru pd (tD ts) (some (.pure (.int (lap:Int)))) none none none none) = .ok .next (b9 ru cm (tD ts) (some (.pure (.int (lap:Int)))) (some (.pure (.tup xs))) none none none):=by
 obtain⟨r1,d1,e1,l1,p1⟩:=eM hp ts.length (ts.length:Int) rfl h0 (by omega);obtain⟨r2,d2,e2,l2,p2⟩:=eM p1 ts.length (ts.length:Int) rfl h0 (by omega);obtain⟨r3,d3,e3,l3,p3⟩:=eM p2 lap (lap:Int) rfl hl (by omega);have i1:az (tD ts) (.int (r1:Int))=_:=qY ts r1 l1;have i2:az (tD ts) (.int (r2:Int))=_:=qY ts r2 l2;have ln:bI (tD ts)=some (.pure (.int (ts.length:Int))):=by simp[bI,tD]
 refine⟨[.str [ts.getD r1 0],.str [ts.getD r2 0],.int (lap:Int),.int (r3:Int)],d3,p3,rfl,λx hx=>?_,?_⟩
 ·simp only[We,JR,or_false] at hx;rcases hx with rfl | rfl | rfl | rfl
  ·exact .str _
  ·exact .str _
  ·exact .int _ (by omega)
  ·exact .int _ (by omega)
 ·generalize ts.getD r1 0=t1 at *;generalize ts.getD r2 0=t2 at *;generalize tD ts=T at *;generalize (ts.length:Int)=n at *;generalize (r1:Int)=c1 at *;generalize (r2:Int)=c2 at *;generalize (r3:Int)=c3 at *;simp[aw,ar,aO,bh,bG,ba,aa,ah,ag,bb,aV,ln,e1,e2,e3,aK,i1,i2,S.d]
abbrev FY:DS:=(aw (dO (aF (eD .ax) (aF (eD (.bl true)) (aF (eD (.str [65])) (aF (eD (.str [])) (aF (eD (.int 0)) (aF (aY jT (aj (eD (.int 1)))) bL))))))) (ao [1] 6))
abbrev FZ:DS:=(aw (aE az (ag aT 6 (aj (dO (aF (aa 3) (aF (ag aT 3 (aj (eD (.int 1)))) (aF (cP (aF (ag az 2 (aj (eD (.int 0)))) bL)) (aF (aE aT (ag az 2 (aj (eD (.int 0)))) (aj (ag az 2 (aj (eD (.int 0)))))) (aF (eD (.str [49])) bL)))))))) (aj (ar bV [.io 1,.val (eD (.int 11))]))) (ao [1] 6))
theorem S8{ru pd th:D}{ts:List Nat}{spot:Nat}(hp:cg pd)(h0:0 < ts.length){lap:Nat}(hB:lap<=1000000000000000000000000000000):∃ (x cm:D),cg cm/\Sm x /\
  au FY FZ (b9 ru pd (tD ts) (some (.pure (.int (lap:Int)))) (some (.pure th)) (some (.pure (.int (spot:Int)))) none none) = .ok .next (b9 ru cm (tD ts) (some (.pure (.int (lap:Int)))) (some (.pure th)) (some (.pure (.int (spot:Int)))) (some (.pure x)) none):=by
 obtain⟨r1,d1,e1,l1,p1⟩:=eM hp 11 11 rfl (by decide) (by decide);have i0:az (tD ts) (.int ((0:Nat):Int))=_:=qY ts 0 h0;generalize ts.getD 0 0=t0 at *;have i0:az (tD ts) (.int 0)=some (.pure (.str [t0])):=i0;obtain⟨x,hx,ix⟩:=FX ([.ax,.bl true,.str [65],.str [],.int 0,.int (-1)] ++ [.int (lap:Int),.int ((lap:Int) + 1),.tup [.str [t0]],.str ([t0] ++ [t0]),.str [49]]) (r:=r1) (by simpa using l1);have ad:=FW [.ax,.bl true,.str [65],.str [],.int 0,.int (-1)] [.int (lap:Int),.int ((lap:Int) + 1),.tup [.str [t0]],.str ([t0] ++ [t0]),.str [49]] (by simp);have a1:=add_int (lap:Int) 1;have a2:=uo [t0] [t0] (by simp);have ng:jT (.int 1)=some (.pure (.int (-1))):=rfl;refine⟨x,d1,p1,?_,?_⟩
 ·simp only[List.mem_append,We,JR,or_false] at hx;rcases hx with (rfl | rfl | rfl | rfl | rfl | rfl) | (rfl | rfl | rfl | rfl | rfl)
  ·exact .ax
  ·exact .bl _
  ·exact .str _
  ·exact .str _
  ·exact .int _ (by decide)
  ·exact .int _ (by decide)
  ·exact .int _ (by omega)
  ·exact .int _ (by omega)
  ·exact .tup _
  ·exact .str _
  ·exact .str _
 ·clear hx;generalize [t0] ++ [t0]=tt at *;generalize (lap:Int) + 1=l2 at *;generalize (lap:Int)=l1 at *;generalize tD ts=T at *;generalize (r1:Int)=c1 at *;generalize (spot:Int)=sp at *;rw[bj (δ1:=b9 ru pd T (some (.pure (.int l1))) (some (.pure th)) (some (.pure (.int sp))) (some (.own (.lst [.ax,.bl true,.str [65],.str [],.int 0,.int (-1)]))) none) (by simp[FY,aw,ng,S.d])];generalize ([.ax,.bl true,.str [65],.str [],.int 0,.int (-1)] ++ [.int l1,.int l2,.tup [.str [t0]],.str tt,.str [49]]:List D)=LA at *;simp[FZ,aw,ar,aO,bh,bG,ba,aa,ah,ag,bb,aV,e1,aK,i0,a1,a2,ad,ix,S.d]
abbrev zR:DS:=(aw (dO (aF (aE aT (aE aT (iR 4 gz (eU (aa 5))) (aj (cP (aF (aa 6) bL)))) (aj (iR 4 (eU (ag aT 5 (aj (eD (.int 1))))) gz))) (aF (iR 4 (eU (eD (.int 1))) gz) (aF (ag aT 4 (aj (eD (.tup [.int 0])))) bL)))) (ao [1] 7))
abbrev zS:DS:=(aw (ag aT 7 (aj (dO (aF (aY ot (ah 4)) (aF (eD .ax) (aF (aY lD (ah 4)) bL)))))) (ao [1] 7))
abbrev F_:DS:=(a_ (ag az 7 (aj (ar bV [.io 1,.val (eD (.int 6))]))))
theorem S9{ru pd T x:D}{xs:List D}{spot:Nat}(hp:cg pd)(h4:xs.length=4)(hs:∀ x ∈ xs,Sm x)(hx:Sm x)(o3:Option S):∃ (th cm:D) (δ':Dl),cg cm/\Th th/\δ'[1]? = some (some (.own cm)) /\
  au zR (au zS F_) (b9 ru pd T o3 (some (.pure (.tup xs))) (some (.pure (.int (spot:Int)))) (some (.pure x)) none) = .ok (.ret (.pure th)) δ':=by
 obtain⟨r1,d1,e1,l1,p1⟩:=eM hp 6 6 rfl (by decide) (by decide);have c1:=vD xs none (some (spot:Int));have c2:=vD xs (some ((spot:Int) + 1)) none;have s1:=zQ xs none (some (spot:Int));have s2:=zQ xs (some ((spot:Int) + 1)) none;have s3:=zQ xs (some 1) none;have a1:=add_int (spot:Int) 1;have a2:=zP (bY xs none (some (spot:Int))) [x] (by simp; omega);have a3:=zP (bY xs none (some (spot:Int)) ++ [x]) (bY xs (some ((spot:Int) + 1)) none) (by simp; omega);have a4:=zP xs [.int 0] (by simp; omega);have lx:ot (.tup xs)=some (.own (.lst xs)):=rfl;have rv:lD (.tup xs)=some (.pure (.tup xs.reverse)):=rfl;have k1:Th (.tup (bY xs none (some (spot:Int)) ++ [x] ++ bY xs (some ((spot:Int) + 1)) none)):=rg λy hy=>by
  rcases Qr.mp hy with hy | hy
  ·rcases Qr.mp hy with hy | hy
   ·exact hs y (zO hy)
   ·have:y=x:=by simpa using hy
    rw[this]; exact hx
  ·exact hs y (zO hy)
 have k2:Th (.tup (bY xs (some 1) none)):=rg λy hy=>hs y (zO hy)
 have k3:Th (.tup (xs ++ [.int 0])):=rg λy hy=>by
  rcases Qr.mp hy with hy | hy
  ·exact hs y hy
  ·have:y = .int 0:=by simpa using hy
   rw[this]; exact .int _ (by decide)
 have k4:Th (.lst xs):=.inl rfl;have k5:Th .ax:=.inl rfl;have k6:Th (.tup xs.reverse):=rg λy hy=>hs y (List.mem_reverse.mp hy)
 generalize bY xs none (some (spot:Int)) ++ [x] ++ bY xs (some ((spot:Int) + 1)) none=X1 at *;generalize bY xs none (some (spot:Int)) ++ [x]=X0 at *;generalize bY xs none (some (spot:Int))=X2 at *;generalize bY xs (some ((spot:Int) + 1)) none=X3 at *;generalize bY xs (some 1) none=X4 at *;generalize xs ++ [.int 0]=X5 at *;generalize xs.reverse=X6 at *;generalize (spot:Int) + 1=sp1 at *;generalize (spot:Int)=sp at *;have q1:zR (b9 ru pd T o3 (some (.pure (.tup xs))) (some (.pure (.int sp))) (some (.pure x)) none) = .ok .next (b9 ru pd T o3 (some (.pure (.tup xs))) (some (.pure (.int sp))) (some (.pure x)) (some (.own (.lst [.tup X1,.tup X4,.tup X5])))):=by
  simp[zR,aw,iR,aa,ah,ag,bb,gz,eU,s1,s2,s3,a1,a2,a3,a4,S.d]
 have a5:=FW [.tup X1,.tup X4,.tup X5] [.lst xs,.ax,.tup X6] (by simp);obtain⟨y,hy,iy⟩:=FX ([.tup X1,.tup X4,.tup X5] ++ [.lst xs,.ax,.tup X6]) (r:=r1) (by simpa using l1);have ty:Th y:=by
  simp only[List.mem_append,We,JR,or_false] at hy;rcases hy with (rfl | rfl | rfl) | (rfl | rfl | rfl)
  ·exact k1
  ·exact k2
  ·exact k3
  ·exact k4
  ·exact k5
  ·exact k6
 have q2:zS (b9 ru pd T o3 (some (.pure (.tup xs))) (some (.pure (.int sp))) (some (.pure x)) (some (.own (.lst [.tup X1,.tup X4,.tup X5])))) = .ok .next (b9 ru pd T o3 (some (.pure (.tup xs))) (some (.pure (.int sp))) (some (.pure x)) (some (.own (.lst ([.tup X1,.tup X4,.tup X5] ++ [.lst xs,.ax,.tup X6]))))):=by
  generalize ([.tup X1,.tup X4,.tup X5] ++ [.lst xs,.ax,.tup X6]:List D)=L6 at *;generalize ([.tup X1,.tup X4,.tup X5]:List D)=L3 at *;simp[zS,aw,aa,ah,ag,bb,lx,rv,a5,S.d]
 refine⟨y,d1,b9 ru d1 T o3 (some (.pure (.tup xs))) (some (.pure (.int sp))) (some (.pure x)) (some (.own (.lst ([.tup X1,.tup X4,.tup X5] ++ [.lst xs,.ax,.tup X6])))),p1,ty,rfl,?_⟩;rw[bj q1,bj q2];generalize ([.tup X1,.tup X4,.tup X5] ++ [.lst xs,.ax,.tup X6]:List D)=L6 at *;generalize (r1:Int)=ri at *;simp[F_,ar,aO,bh,bG,ba,aa,ah,ag,bb,aV,e1,aK,iy,S.d]
theorem S_{h w:Nat}{bs:List (Nat×List Tx)}(R:da h w bs){pd:D}(hp:cg pd):∃ th cm,cg cm/\Th th/\lO [.pure (ak h w bs),.own pd]=some (.pure th,[.pure (ak h w bs),.own cm]):=by
 have n0:=R.n0;have n1:=R.n1;have g0:=S5 R pd;obtain⟨lap,d1,p1,l0,l1,g1⟩:=S6 (ru:=ak h w bs) (T:=tD (bs.map (·.1))) hp;obtain⟨xs,d2,p2,h4,hs,g2⟩:=S7 (ru:=ak h w bs) (ts:=bs.map (·.1)) p1 (by simpa using n0) (by simpa using n1) l0 l1;obtain⟨r3,d3,e3,l3,p3⟩:=eM p2 2 2 rfl (by decide) (by decide);have fin:∀ (th cm:D) (δ':Dl),δ'[1]? = some (some (.own cm))->uc (bo 9 [.pure (ak h w bs),.own pd]) = .ok (.ret (.pure th)) δ'->lO [.pure (ak h w bs),.own pd]=some (.pure th,[.pure (ak h w bs),.own cm]):=λth cm δ' h1 q=>by
  rw[lO,nE,q];simp[cw,cJ,b8,h1]
 have hS:bo 9 [.pure (ak h w bs),.own pd]=[some (.pure (ak h w bs)),some (.own pd),none,none,none,none,none,none,none]:=rfl;rw[hS,uc] at fin;by_cases hr:r3=0
 ·refine⟨.tup xs,d3,p3,rg hs,fin _ d3 (b9 (ak h w bs) d3 (tD (bs.map (·.1))) (some (.pure (.int (lap:Int)))) (some (.pure (.tup xs))) none none none) rfl ?_⟩;clear fin hS;rw[bj g0,bj g1,bj g2];have hq:bU (.int (r3:Int)) (.int 0)=some (.pure (.bl true)):=by rw[jC,hr]; rfl
  clear g0 g1 g2;generalize tD (bs.map (·.1))=T at *;generalize ak h w bs=ru at *;generalize (r3:Int)=ri at *;refine kP ?_;simp[ay,ar,aO,bh,bG,ba,aa,aV,e3,aK,hq,S.d]
 ·obtain⟨r4,d4,e4,l4,p4⟩:=eM p3 4 4 rfl (by decide) (by decide);obtain⟨x,d5,p5,hx,g5⟩:=S8 (ru:=ak h w bs) (th:=.tup xs) (ts:=bs.map (·.1)) (spot:=r4) p4 (by simpa using n0) l1;obtain⟨th,d6,δ',p6,tt,h1,g6⟩:=S9 (ru:=ak h w bs) (T:=tD (bs.map (·.1))) (spot:=r4) p5 h4 hs hx (some (.pure (.int (lap:Int))));refine⟨th,d6,p6,tt,fin th d6 δ' h1 ?_⟩;clear fin hS;rw[bj g0,bj g1,bj g2];have hq:bU (.int (r3:Int)) (.int 0)=some (.pure (.bl false)):=by
   rw[jC];have:((r3:Int) == 0)=false:=by simpa using hr
   rw[this]
  have a1:∀ {a b c:DS} {δ:Dl},au a (au b c) δ=au (au a b) c δ:=λ{a b c δ}=>by
   show(a δ).bind _=((a δ).bind _).bind _
   cases a δ with
   | ok f δ1=>cases f <;> rfl
   | _=>rfl
  rw[bj (δ1:=b9 (ak h w bs) d3 (tD (bs.map (·.1))) (some (.pure (.int (lap:Int)))) (some (.pure (.tup xs))) none none none) (by
   clear g0 g1 g2 g5 g6 a1;generalize tD (bs.map (·.1))=T at *;generalize ak h w bs=ru at *;generalize (r3:Int)=ri at *;simp[ay,ar,aO,bh,bG,ba,aa,aV,e3,aK,hq,S.d])]
  rw[bj (δ1:=b9 (ak h w bs) d4 (tD (bs.map (·.1))) (some (.pure (.int (lap:Int)))) (some (.pure (.tup xs))) (some (.pure (.int (r4:Int)))) none none) (by
   clear g0 g1 g2 g5 g6 a1;generalize tD (bs.map (·.1))=T at *;generalize ak h w bs=ru at *;generalize (r4:Int)=ri at *;simp[aw,ar,aO,bh,bG,ba,aa,aV,e4,aK,S.d])]
  rw[a1,bj g5];exact g6
theorem zU(a b:Bool):fO (.bl a) (.bl b)=some (.pure (.bl (a != b))):=by cases a <;> cases b <;> rfl
abbrev dD(cA:D)(a1 a2 a3 a4 a5 a6 a7:Option S):Dl:=[some (.pure cA),a1,a2,a3,a4,a5,a6,a7]
abbrev z0:DS:=(aw (ar nu [.val (aa 1)]) (ao [] 2))
abbrev z1:DS:=(aw (ar lJ [.io 2,.val (eD (.int 6))]) (ao [] 3))
abbrev z2:DS:=(bN (ay (aE bU (ar bV [.io 2,.val (eD (.int 2))]) (aj (eD (.int 0))))) (aw (ar ny [.io 2]) (ao [] 3)) bO)
abbrev z3:DS:=(aw (ar jW [.val (aa 3)]) (ao [] 4))
abbrev z4:DS:=(bN (ay (aE fO (aE (dJ false) (aa 4) (aj (eD .ax))) (aj (aE (dJ true) (ar iJ [.val (aa 3)]) (aj (eD .ax)))))) (a_ (eD (.bl false))) bO)
abbrev z5:DS:=(bN (iP (ay (aE (dJ true) (aa 4) (aj (eD .ax)))) (dH (e7 (ay (ar gi [.val (aa 3),.val (aa 4)]))) (ay (aE (ox true) (ar g_ [.val (aa 3),.val (aa 4)]) (aj (eD (.bl true))))))) (a_ (eD (.bl false))) bO)
abbrev zB:DS:=(au (aw (ar lO [.val (aa 3),.io 2]) (ao [] 6)) (au (aw (ar g_ [.val (aa 3),.val (aa 6)]) (ao [] 7)) (bN (dH (e7 (ay (dm "bool" (ah 7)))) (ay (ag fO 7 (aj (ar gi [.val (aa 3),.val (aa 6)]))))) (a_ (eD (.bl false))) bO)))
abbrev z6:DS:=(cG (dQ (eD (.int 6))) (ao [] 5) zB)
theorem Ta(G:fu h w bs)(hp:cg pd)(cA:D)(a1 a4 a5 a6 a7:Option S):∃ cm q6 q7,cg cm/\zB (dD cA a1 (some (.own pd)) (some (.pure (ak h w bs))) a4 a5 a6 a7) = .ok .next (dD cA a1 (some (.own cm)) (some (.pure (ak h w bs))) a4 a5 q6 q7):=by
 obtain⟨th,d1,p1,T,e1⟩:=S_ G.R hp;obtain⟨v,e2,e3⟩:=both G T;refine⟨d1,some (.pure th),some (.pure (.bl v)),p1,?_⟩;have nb:=zU v v;rw[bne_self_eq_false] at nb;generalize ak h w bs=ru at *;rw[zB,bj (δ1:=dD cA a1 (some (.own d1)) (some (.pure ru)) a4 a5 (some (.pure th)) a7) (by simp[aw,ar,aO,bh,bG,ba,aa,aV,e1,aK])];rw[bj (δ1:=dD cA a1 (some (.own d1)) (some (.pure ru)) a4 a5 (some (.pure th)) (some (.pure (.bl v)))) (by simp[aw,ar,aO,bh,bG,ba,aa,aV,e2,aK])];have ty:fP "bool" (.bl v)=some true:=rfl;generalize D.bl v=V at *;simp[ay,dm,ah,S.d,ty,ag,bb,ar,aO,bh,bG,ba,aa,aV,e3,aK,nb]
theorem Tb(R:da h w bs)(h6:bs.length<=6)(hp:cg d)(cA:D)(a1 a4 a5 a6 a7:Option S):∃ (h' w':Nat) (kq:List (Nat×List Tx)) (d':D),fu h' w' kq/\cg d' /\
  z2 (dD cA a1 (some (.own d)) (some (.pure (ak h w bs))) a4 a5 a6 a7) = .ok .next (dD cA a1 (some (.own d')) (some (.pure (ak h' w' kq))) a4 a5 a6 a7):=by
 obtain⟨r,d1,e1,l1,p1⟩:=eM hp 2 2 rfl (by decide) (by decide);by_cases hr:r=0
 ·obtain⟨kq,d2,R',l',p2,e2⟩:=Sb p1;refine⟨1,2,kq,d2,ET R' l',p2,?_⟩;have hq:bU (.int (r:Int)) (.int 0)=some (.pure (.bl true)):=by rw[jC,hr]; rfl
  generalize ak 1 2 kq=rv at *;generalize ak h w bs=ru at *;simp[z2,ay,aw,ar,aO,bh,bG,ba,aa,aV,e1,e2,aK,hq]
 ·refine⟨h,w,bs,d1,ET R h6,p1,?_⟩;have hq:bU (.int (r:Int)) (.int 0)=some (.pure (.bl false)):=by
   rw[jC];have:((r:Int) == 0)=false:=by simpa using hr
   rw[this]
  generalize ak h w bs=ru at *;simp[z2,ay,ar,aO,bh,bG,ba,aa,aV,e1,aK,hq]
theorem Tc(G:fu h w bs)(cA:D)(a1 a4 a5 a6 a7:Option S):∃ q4,∀ x:DS,au z3 (au z4 (au z5 x)) (dD cA a1 (some (.own pd)) (some (.pure (ak h w bs))) a4 a5 a6 a7)=x (dD cA a1 (some (.own pd)) (some (.pure (ak h w bs))) q4 a5 a6 a7):=by
 obtain⟨o,ho,gm⟩:=R4 G;rcases S4 G o ho gm with ⟨hn,gw⟩ | ⟨hn,t,x,lap,rest,ht,hx,hr,hl,he,gw⟩
 ·refine⟨some (.pure .ax),λx=>?_⟩;obtain⟨m,rfl⟩:∃ m,o=some m:=by
   cases o with
   | none=>exact absurd rfl hn
   | some m=>exact⟨m,rfl⟩
  have gm:iJ [.pure (ak h w bs)]=some (.pure (.int (m:Int)),[.pure (ak h w bs)]):=gm;have nb:=zU true true;generalize ak h w bs=ru at *;rw[bj (δ1:=dD cA a1 (some (.own pd)) (some (.pure ru)) (some (.pure .ax)) a5 a6 a7) (by simp[z3,aw,ar,aO,bh,bG,ba,aa,aV,gw,aK])];rw[bj (δ1:=dD cA a1 (some (.own pd)) (some (.pure ru)) (some (.pure .ax)) a5 a6 a7) (by simp[z4,ay,ar,aO,bh,bG,ba,aa,aV,gm,aK,S.d,dJ,iG,nb])];exact bj (by simp[z5,ay,aa,S.d,dJ,iG])
 ·subst hn;obtain⟨gh,gd⟩:=S1 G ht hx hr hl he;have gm:iJ [.pure (ak h w bs)]=some (.pure .ax,[.pure (ak h w bs)]):=gm;have nb:=zU false false;have i1:dJ false (.tup [.str [t],.str [x],.int (lap:Int),.int (rest:Int)]) .ax=some (.pure (.bl false)):=rfl;have i2:dJ true (.tup [.str [t],.str [x],.int (lap:Int),.int (rest:Int)]) .ax=some (.pure (.bl true)):=rfl;have i3:dJ true .ax .ax=some (.pure (.bl false)):=rfl;refine⟨some (.pure (.tup [.str [t],.str [x],.int (lap:Int),.int (rest:Int)])),λx=>?_⟩;generalize D.tup [.str [t],.str _,.int (lap:Int),.int (rest:Int)]=d at *;generalize ak h w bs=ru at *;rw[bj (δ1:=dD cA a1 (some (.own pd)) (some (.pure ru)) (some (.pure d)) a5 a6 a7) (by simp[z3,aw,ar,aO,bh,bG,ba,aa,aV,gw,aK])];rw[bj (δ1:=dD cA a1 (some (.own pd)) (some (.pure ru)) (some (.pure d)) a5 a6 a7) (by simp[z4,ay,ar,aO,bh,bG,ba,aa,aV,gm,aK,S.d,i1,i3,nb])];exact bj (by simp[z5,ay,ar,aO,bh,bG,ba,aa,aV,gd,gh,aK,S.d,i2,ox])
theorem Td(cA:D)(c:Int)(o2 o3 o4 o5 o6 o7:Option S):∃ (q2 q3 q4 q5 q6 q7:Option S),(au z0 (au z1 (au z2 (au z3 (au z4 (au z5 z6)))))) (dD cA (some (.pure (.int c))) o2 o3 o4 o5 o6 o7) = .ok .next (dD cA (some (.pure (.int c))) q2 q3 q4 q5 q6 q7):=by
 obtain⟨d0,e0,p0⟩:=Rm c;obtain⟨h1,w1,bs1,d1,e1,R1,n6,p1⟩:=Rv p0 6 (by decide) (by decide);have e1:lJ [.own d0,.pure (.int 6)]=some (.pure (ak h1 w1 bs1),[.own d1,.pure (.int 6)]):=e1;obtain⟨h,w,bs,d2,G,p2,e2⟩:=Tb R1 n6 p1 cA (some (.pure (.int c))) o4 o5 o6 o7;obtain⟨q4,e3⟩:=Tc G (pd:=d2) cA (some (.pure (.int c))) o4 o5 o6 o7;have tb:=λ(pd:D) (hp:cg pd) a5 a6 a7=>Ta G hp cA (some (.pure (.int c))) q4 a5 a6 a7
 generalize ak h w bs=RU at *;generalize ak h1 w1 bs1=RV at *;obtain⟨δ',e,d',o5',o6',o7',_,rfl⟩:=mU (g:=ao [] 5) (b:=zB) (λ_ δ=>∃ pd o5 o6 o7,cg pd/\δ=dD cA (some (.pure (.int c))) (some (.own pd)) (some (.pure RU)) q4 o5 o6 o7) (cF 0 6) 0 (dD cA (some (.pure (.int c))) (some (.own d2)) (some (.pure RU)) q4 o5 o6 o7) ⟨_,_,_,_,p2,rfl⟩ (λi d δ hd ⟨pd,o5,o6,o7,hp,e⟩=>by
  subst e;obtain⟨cm,q6,q7,tw,e⟩:=tb pd hp (some (.pure d)) o6 o7;exact⟨_,_,rfl,e,_,_,_,_,tw,rfl⟩)
 refine⟨some (.own d'),some (.pure RU),q4,o5',o6',o7',?_⟩;rw[bj (δ1:=dD cA (some (.pure (.int c))) (some (.own d0)) o3 o4 o5 o6 o7) (by simp[z0,aw,ar,aO,bh,bG,ba,aa,aV,aK,e0])];rw[bj (δ1:=dD cA (some (.pure (.int c))) (some (.own d1)) (some (.pure RV)) o4 o5 o6 o7) (by simp[z1,aw,ar,aO,bh,bG,ba,aa,aV,aK,e1])];rw[bj e2,e3];have iq:dQ (eD (.int 6)) (dD cA (some (.pure (.int c))) (some (.own d2)) (some (.pure RU)) q4 o5 o6 o7) = .ok (cF 0 6) (dD cA (some (.pure (.int c))) (some (.own d2)) (some (.pure RU)) q4 o5 o6 o7):=by
  have:=mV 6 (by decide);simp at this;simp[this]
 exact(eW iq).trans e
theorem Te(ns:List Int)(hn:ns.length<=63):nD [.pure (.lst (ns.map .int))]=some (.pure (.bl true),[.pure (.lst (ns.map .int))]):=by
 obtain⟨c0,e0⟩:=Rn ns;have Tf:∀ (ns:List Int) (lo hi:Option Int),bY (ns.map D.int) lo hi=(bY ns lo hi).map D.int:=λns lo hi=>by
  unfold bY;simp[List.map_take,List.map_drop]
 have ha:aT (.lst [.int c0]) (.lst (bY (ns.map .int) (some 1) (some 5)))=some (.own (.lst ((c0 :: bY ns (some 1) (some 5)).map .int))):=by
  rw[Tf];have hl:(bY ns (some 1) (some 5)).length<=63:=by
   unfold bY;simp;omega
  simp only[aT];rw[if_pos (by rw[er]; simp; omega)];simp
 have hs:fA (some 1) (some 5) (.lst (ns.map .int))=some (.own (.lst (bY (ns.map .int) (some 1) (some 5)))):=rfl;generalize D.lst (ns.map .int)=cA at *;obtain⟨δ',e,o1,o2,o3,o4,o5,o6,o7,rfl⟩:=mU (g:=ao [] 1) (b:=(au z0 (au z1 (au z2 (au z3 (au z4 (au z5 z6)))))))
  (λ_ δ=>∃ (o1 o2 o3 o4 o5 o6 o7:Option S),δ=dD cA o1 o2 o3 o4 o5 o6 o7) ((c0 :: bY ns (some 1) (some 5)).map .int) 0 (dD cA none none none none none none none) ⟨none,none,none,none,none,none,none,rfl⟩ (λi d δ hd ⟨o1,o2,o3,o4,o5,o6,o7,e⟩=>by
   subst e;simp only[Wv,Option.map_eq_some_iff] at hd;obtain⟨k,_,rfl⟩:=hd;obtain⟨q2,q3,q4,q5,q6,q7,e⟩:=Td cA k o2 o3 o4 o5 o6 o7;exact⟨_,_,rfl,e,_,_,_,_,_,_,_,rfl⟩)
 generalize ((c0 :: bY ns (some 1) (some 5)).map D.int)=cs at *;generalize D.lst (bY (ns.map .int) (some 1) (some 5))=cl at *;rw[nD];refine oV (δ1:=dD cA o1 o2 o3 o4 o5 o6 o7) ?_;rw[yX];have qi:cp (aE aT (dO (aF (ar nt [.val (aa 0),.val (eD (.int 0))]) bL)) (aj (iR 0 (eU (eD (.int 1))) (eU (eD (.int 5)))))) (dD cA none none none none none none none) = .ok cs (dD cA none none none none none none none):=by
  simp[iL,ar,aO,bh,ba,aa,aV,e0,aK,iR,eU,ah,hs,ha]
 refine(bj ((eW qi).trans e)).trans ?_;rfl
theorem Tg(ns:List Int)(h:ns.length<=63):∃ aR,nD [.pure (.lst (ns.map .int))]=some (.pure (.bl true),aR):=⟨_,Te ns h⟩
end K52
open PySem PySem.W PyProof.Rows
namespace PySem.W.Fast
def tw5692747688217181938:=0
def tw267182513797652514:=0
def tw15231159583136214784:=0
def tw18252692750204092992:=0
def tw14115097722264163346:=0
def tw4799701803316458903:=0
def tw13498678886383429073:=0
def tw8151393044840788562:=0
def tw7165478090990964675:=0
def tw6395237984735822568:=0
def tw7316990517833518623:=0
def tw1691597707856989563:=0
def tw4905612691721237183:=0
def tw5946269568983046151:=0
def tw12919077725025955045:=0
def tw9474572616968789254:=0
def tw2523210246071584832:=0
def tw16179311741451060311:=0
def tw17349125586520897386:=0
def tw11800622522564962279:=0
end PySem.W.Fast
set_option maxRecDepth 100000 in
set_option maxHeartbeats 0 in
theorem PySem.Challenge.cw_tilegrow_k52_why_a_rule_does_not_mix_holds : PySem.Challenge.rw_tilegrow_k52_why_a_rule_does_not_mix.Holds := by
 w_on; o_law; k_head; (case hw=>w_witness2)
 k_fill
 refine DV.OA (l:=PySem.Challenge.rw_tilegrow_k52_why_a_rule_does_not_mix) (k:=7) (G:=K52.nD) (tpos:=K52.fR) (tq:=K52.fS) rfl rfl ⟨rfl,by decide,by decide⟩ (λw h Y=>⟨PySem.W.km_in_of Y,PySem.W.km_tabs_of Y _ Wl⟩) ?L ?KT K52.Tg ?F
 case L=>intro p; exact Eq.refl true
 case KT=>intro p; exact Eq.refl none
 case F =>
  intro w mg fa h KX G kg;refine' K52.all_mk KX G kg ?d0 ?d1 ?d2 ?d3 ?d4 ?d5 ?d6 ?d7 ?d8 ?d9 ?y4 ?nV ?uf ?y6 ?y8 ?dT ?gT ?y9 ?y_ ?zb ?zc ?zd ?ze ?zf ?zg ?zh ?zi ?zj ?zk ?zl ?zm ?zo ?zq ?zr ?zt ?zu ?qO ?nh ?ni ?oE ?nj ?g8 ?fI ?nk ?oF ?i6 ?qP ?nq ?nr ?kJ
  (case d0|d1|d2|d3|d4|d5|d6|d7|d8|d9|y4|y9|y_|zb|zc|zd|ze|zf|zg|zh|zi|zj|zk|zl|zm|zo=>exact⟨_,_,_,_,_,_,_,_,_,_,by k_is,by k_is,by k_is,by k_is⟩)
  (case nV|uf|y6|y8|zq|zr|zt|zu|qO|nh|ni|oE|nj|g8|fI|nk|oF|i6|qP|nq|nr|kJ=>k_is)
  (case dT|gT=>kernel_rfl)
