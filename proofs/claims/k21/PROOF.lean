import PyProof.Rows.All
import Wide.All
import OpenK.AllK
import Wide.FinOn
import Lean
import PyProof.EqAt
import PyProof.EqKinds
import PyProof.TupleCall
import PyProof.NeKinds
import PyProof.StrWalks
import PyProof.ListStr
import PyProof.StrOps2
import PyProof.StrLawsIn
import KE.KDictOf
import PyProof.AttrMissHeap
import PyProof.Draws
import PyProof.EnumMake
import PyProof.Rows.EnumRows
import PyProof.LongRange
import PyProof.NoPylong
import PyProof.SeqI3
import PyProof.Rows.SeqCalls
import PyProof.StrLawsChain
import PyProof.StrCalls2
import KE.KIntText
import PyProof.Rows.CallKwBuiltin
import OpenK.KOwn
import OpenK.KRaise
import PyProof.ExcBaseAll.ValueError
import PyProof.Rows.CatchOwn
import KE.KIsAll
import PyProof.ExcArgsOwn
import PyProof.ExcAttrAll.ValueError
import PyProof.Rows.SeqMore2
import PyProof.ListMulAny
import PyProof.ListMulRoad
import PyProof.ZipIter
import PyProof.Rows.FactsT2
import PyProof.ExcInit
import PyProof.InstStoreFacts
import PyProof.StrCalls
import PyProof.FactsAll.dict_1
import PyProof.FactsAll.subtypes_3
import PyProof.FactsAll.subtypes_4
import PyProof.Dict
import PyProof.MinMaxWalk
import PyProof.WalkInts
import PyProof.WalksMore
import PyProof.FactsAll.tuple_2
import KE.KSortTup
import PyProof.Rows.SortWalk
import PyProof.Rows.SetFrom
import PyProof.DictKinds
import PyProof.DictStraight
import PyProof.SetRoads
import PyProof.CollectWalk
import PyProof.CollectStr
import PyProof.DictIter
import PyProof.Rows.SortShell
import KE.KItemsList
import PyProof.Rows.SortStr
import PyProof.DictItemsLoops
import PyProof.ListNew
import PyProof.Rows.SumAny
import KE.IntBitsLaws
import KE.KLam
import KE.KDictList
import KE.KNestM
import PyProof.DictRoadsH
import PyProof.Rows.TupDisplay
import PyProof.DictTruth
import PyProof.DictWalks
import PySem.Challenge.RW_tilegrow_k21_still_shares
open PySem renaming wpAny_bind→W0,Shared→W3,wpAny_pure→W7,Spec→Wb,sizeLine→Wc,wpAny→We,starEach→Wk,Program→Wm,World→Ws,Around→Wt,mem_of_lookup→WD,mainGlobals→WG,compareOp→WM,cLine→WQ,wpAny_field→WW,wpAny_call_entry→WX,wpAny_callSpecial?_slot→WZ,wpAny_newObj_type→Q0,wpAny_setField_rec→Q3,binaryOp→Qc,assignEach→Qf,FuncData→Qi,wpAny_holding→Ql,wpAny_truthy_bool→Qp,behindInMarks→Qu,attributeBase→Qv,bootBuiltins→QC,sysModules→QE,wpAny_mono→QF,cellsFrom→QG,wpAny_seqItems→QH,backTo→QK,wpAny_typeNameOfWhole_itemiter→QP,foldedSetIterable→QQ,wpAny_passesOwn→QX,wpAny_loadPart'→QY,pyNext→J2,wpAny_rule→J3,wpAny_typeNameOf_itemiter→J8,typeIs_int→Jh,call_meets→Jj,codeAny→Jo,swapsWith→Jq,swapsWithSole→Jr,swappedStores→Js,sliceBounds→Ju,wpAny_typeOf→JA,tupleKind_room_in1→JB,pushCells→JC,getattributeRaised→JE,getItem→JI,wpAny_pyIter_list→JK,wpAny_dictEntries→JM,sizeLine_eq→JO,keywordEach→JP
open List renaming getElem?_eq_some_iff→W1,range→W4,getElem?_eq_getElem→W5,getElem?_set_ne→W6,mem_cons_of_mem→W9,getElem?_set_self→Wa,replicate→Wg,mem_cons_self→Wh,getD_eq_getElem?_getD→Wi,mem_cons→Wj,getElem?_map→Wl,map_cons→Wo,mem_map→Wp,size_toArray→Wq,mem_append→Wy,map_map→Wz,mem_append_right→WA,mem_of_getElem?→WE,mem_append_left→WK,length_cons→WL,getElem?_eq_none→WN,mem_range→WR,nodup_cons→WT,find?_cons→WU,map_append→WV,all_eq_true→WY,length_map→Q5,length_set→Q7,replicate_succ→Q9,getElem?_set→Qa,length_append→Qb,getElem?_range→Qd,getElem_of_mem→Qe,any_cons→Qg,lookup_cons→Qj,getElem_mem→Qk,zipWith→Qm,drop_eq_getElem_cons→Qq,pairwise_cons→Qr,flatten_cons→Qy,ext_getElem?→Qz,append_nil→QM,nil_append→QO,map_congr_left→QT,mem_filter→QW,getElem?_append_left→J4,getElem?_of_mem→J7,mem_map_of_mem→Jf,foldl_cons→Ji,take_of_length_le→Jm,length→Jt,of_mem_zip→Jx,any_eq_false→JJ,all_cons→JQ,length_take→JR,range'_succ→JS,length_nil→JU,forIn_cons→JV
open PySem.W renaming Frag→W2,mg_none_of→WO,kia_one→Qh,fnOf→QN,kitOne→QU,keepIn→JH
open Option.some renaming injEq→W8,inj→Wx
open PySem.Heap renaming get?_push_of_some→Wd,get?_push_size→Wn,lt_size→Wr,size_push→Qw,SameBut→QJ
open Nat renaming le_refl→Wf,le_trans→Wu,lt_of_lt_of_le→Ww,lt_of_le_of_lt→WH,ne_of_lt→WP,pow_le_pow_right→WS,zero_le→Qn,mul_le_mul→Qo,lt_irrefl→Qt,zero_add→QD,mul_le_mul_right→J9,pow_lt_pow_right→Ja,gcd→Jb,ne_of_gt→Jc,le_of_lt→Jn,div_le_self→Jy,mul_comm→JD,pow_succ→JW
open Bool renaming and_eq_true→Wv,false_ne_true→WJ,eq_iff_iff→Jk
open Option renaming map_some→WB,map_eq_some_iff→WC,bind_some→Qs,isSome_iff_exists→Jd,bind_eq_some_iff→Jg
open Int renaming mul_comm→WF,mul_assoc→WI,gcd→Q4,natCast_mul→Q8,toNat_natCast→QA,natAbs_mul→QV,mul_eq_zero→J0,natAbs_natCast→Jl,mul_zero→Jp,neg_mul→Jv,emod_nonneg→Jz,zero_mul→JF,emod_lt_of_pos→JG,gcd_dvd_right→JN,gcd_dvd_left→JT
open PySem.Builtin.SmallTypes renaming nextOf→Q2,ownedTupleIsFree→Qx
open PySem.Builtin.Str renaming strSliceIndices→QB
open PyProof.Rows renaming slot_tuple_getitem→QI
open PySem.F renaming slot_dict_itemiterator_next→QR,slot_tuple_iterator_next→J1,slot_dict_items→JL
open Array renaming length_toList→QS,getElem?_toList→QZ
open PySem.Builtin.Slice renaming slicePlaces→J5
open PySem.Builtin.Tuple renaming tupleExact→Je
open PySem.Builtin.Int renaming intBits→Jw
set_option Elab.async false
set_option linter.all false
set_option maxRecDepth 100000
namespace L2
open PySem PySem.Spec PyProof.Rows
abbrev Key:=Sum Int Str
def gS:Key->Value->Bool
 | .inl k,v=>Value.isInt k v
 | .inr x,v=>Value.isStrOf x v
def rZ(w:Ws):Key->Int
 | .inl k=>hashInt k
 | .inr x=>hashStr w x
theorem gU:∀ {k:Key} {v:Value},gS k v=true->(∃ i t,k=Sum.inl i/\v=Value.int i t)\/(∃ x t,k=Sum.inr x/\v=Value.str x t)
 | .inl i,v,h=>by
  obtain⟨t,e⟩:=Value.isInt_shape (k:=i) (v:=v) h;exact .inl ⟨i,t,rfl,e⟩
 | .inr x,v,h=>by
  obtain⟨t,e⟩:=Value.isStrOf_shape (x:=x) (v:=v) h;exact .inr ⟨x,t,rfl,e⟩
theorem G1(i:Int)(t:Tok):gS (.inl i) (.int i t)=true:=by simp[gS,Value.isInt]
theorem G5(x:Str)(t:Tok):gS (.inr x) (.str x t)=true:=by simp[gS,Value.isStrOf]
theorem G6(a b:Int):decide ((Sum.inl a:Key)=Sum.inl b)=(a == b):=by
 by_cases e:a=b
 ·subst e; simp
 ·have h:¬ (Sum.inl a:Key)=Sum.inl b:=λq=>e (Sum.inl.inj q)
  rw[decide_eq_false h];exact(beq_eq_false_iff_ne.mpr e).symm
theorem G7(a b:Str):decide ((Sum.inr a:Key)=Sum.inr b)=decide (a=b):=by
 by_cases e:a=b
 ·subst e; simp
 ·have h:¬ (Sum.inr a:Key)=Sum.inr b:=λq=>e (Sum.inr.inj q)
  rw[decide_eq_false h,decide_eq_false e]
theorem G8(a:Int)(b:Str):decide ((Sum.inl a:Key)=Sum.inr b)=false:=decide_eq_false (λq=>nomatch q)
theorem G9(a:Str)(b:Int):decide ((Sum.inr a:Key)=Sum.inl b)=false:=decide_eq_false (λq=>nomatch q)
def cH(prog:Wm)(w:Ws):PySem.KeyKind prog w Key where
 is:=gS
 hash:=rZ w
 inj:=λv a b ha hb=>by
  rcases gU ha with ⟨i,t,rfl,rfl⟩ | ⟨x,t,rfl,rfl⟩
  ·rcases gU hb with ⟨j,u,rfl,e⟩ | ⟨y,u,rfl,e⟩
   ·injection e with e1 _; rw[e1]
   ·exact nomatch e
  ·rcases gU hb with ⟨j,u,rfl,e⟩ | ⟨y,u,rfl,e⟩
   ·exact nomatch e
   ·injection e with e1 _; rw[e1]
 byValue:=λk v h=>by
  rcases gU h with ⟨i,t,rfl,rfl⟩ | ⟨x,t,rfl,rfl⟩ <;> rfl
 pyHash:=λhv h=>by
  rcases gU hv with ⟨i,t,rfl,rfl⟩ | ⟨x,t,rfl,rfl⟩
  ·exact wpAny_pyHash_int h
  ·exact wpAny_pyHash_str h
 eqBool:=λhu hv h=>by
  rcases gU hu with ⟨i,t,rfl,rfl⟩ | ⟨x,t,rfl,rfl⟩
  ·rcases gU hv with ⟨j,u,rfl,rfl⟩ | ⟨y,u,rfl,rfl⟩
   ·rw[G6] at h; exact wpAny_eqBool_int h
   ·rw[G8] at h; exact SeqAt.EqAt.int_str i t y u _ _ _ _ h
  ·rcases gU hv with ⟨j,u,rfl,rfl⟩ | ⟨y,u,rfl,rfl⟩
   ·rw[G9] at h; exact SeqAt.EqAt.str_int x t j u _ _ _ _ h
   ·rw[G7] at h; exact wpAny_eqBool_str h
 «strs»:=λk x t v h=>by
  rcases gU h with ⟨i,u,rfl,e⟩ | ⟨y,u,rfl,e⟩
  ·exact nomatch e
  ·injection e with e1 _
   subst e1
   cases v <;> rfl
theorem vj(prog:Wm)(w:Ws)(k:Key)(v:Value):(cH prog w).is k v=gS k v:=rfl
theorem G_(prog:Wm)(w:Ws)(i:Int)(t:Tok):(cH prog w).is (.inl i) (.int i t)=true:=G1 i t
theorem Ha(prog:Wm)(w:Ws)(x:Str)(t:Tok):(cH prog w).is (.inr x) (.str x t)=true:=G5 x t
inductive V where
 | aJ | bl (b:Bool) | int (i:Int) | str (x:Str) | byt (b:Array UInt8) | flt (b:UInt64) | ref (a:Addr) | ty (n:String)
 deriving DecidableEq
def RelV:V->Value->Prop
 | .aJ,u=>u=Value.none
 | .bl b,u=>u=Value.bool b
 | .int i,u=>∃ t,u=Value.int i t
 | .str x,u=>∃ t,u=Value.str x t
 | .byt b,u=>∃ t,u=Value.bytes b t
 | .flt b,u=>∃ t,u=Value.float b t
 | .ref a,u=>u=Value.ref a
 | .ty n,u=>u=Value.type n
abbrev Vals:List V->List Value->Prop:=Paired RelV
theorem Vals.length(r:Vals xs us):xs.length=us.length:=Paired.length r
theorem Vals.get:∀ {xs:List V} {us:List Value} {i:Nat} {x:V},Vals xs us->xs[i]? = some x->∃ u,us[i]? = some u/\RelV x u
 | _,_,_,_,.nil,e=>by simp at e
 | _,_,0,_,.cons r _,e=>by simp at e; subst e; exact⟨_,rfl,r⟩
 | _,_,i + 1,x,.cons _ t,e=>by
  obtain⟨u,h1,h2⟩:=Vals.get (i:=i) (x:=x) t (by simpa using e);exact⟨u,by simpa using h1,h2⟩
theorem Vals.set(r:RelV x u):∀ {xs:List V} {us:List Value} (i:Nat),Vals xs us->Vals (xs.set i x) (us.set i u)
 | _,_,_,.nil=>.nil
 | _,_,0,.cons _ t=>.cons r t
 | _,_,i + 1,.cons q t=>.cons q (Vals.set r i t)
theorem Vals.append:∀ {xs ys:List V} {us ws:List Value},Vals xs us->Vals ys ws->Vals (xs ++ ys) (us ++ ws)
 | _,_,_,_,.nil,s=>s
 | _,_,_,_,.cons r t,s=>.cons r (Vals.append t s)
theorem Vals.take:∀ {xs:List V} {us:List Value} (n:Nat),Vals xs us->Vals (xs.take n) (us.take n)
 | _,_,0,_=>.nil
 | _,_,_ + 1,.nil=>.nil
 | _,_,n + 1,.cons r t=>.cons r (Vals.take n t)
theorem Vals.drop:∀ {xs:List V} {us:List Value} (n:Nat),Vals xs us->Vals (xs.drop n) (us.drop n)
 | _,_,0,r=>r
 | _,_,_ + 1,.nil=>.nil
 | _,_,n + 1,.cons _ t=>Vals.drop n t
def eZ:Option V->Option Value->Prop
 | some v,some u=>RelV v u
 | none,none=>True
 | _,_=>False
def KV{κ:Type}:List (κ×V)->List (κ×Value)->Prop:=Paired λ(p:κ×V) (q:κ×Value)=>p.1=q.1/\RelV p.2 q.2
def kV:Key->V
 | .inl i=>.int i
 | .inr x=>.str x
inductive NK where
 | i (z:Int) | s (x:Str) | t (ks:List NK)
noncomputable instance nkDec:DecidableEq NK:=λa b=>Classical.propDecidable (a=b)
mutual
def fu(w:Ws):NK->Int
 | .i z=>rZ w (.inl z)
 | .s x=>rZ w (.inr x)
 | .t ks=>reduceHash (Builtin.Tuple.tupleHashOf (r8 w ks))
def r8(w:Ws):List NK->List Int
 | []=>[]
 | k :: ks=>fu w k :: r8 w ks
end
inductive HO where
  | lst (xs:List V)
  | tup (xs:List V)
  | dK (kvs:List (Key×V)) | dT (kvs:List (List Key×V))
  | set (S:Int->Bool) (n:Nat)
  | ins (C dx:Addr) (fs:List (Str×V))
  | own (x:Addr)
  | xd (fs:List (Str×V))
  | met (f x:Addr)
  | ki (lo hi:Int)
  | frz (o:Obj) (u:HO)
  | tbl (ps:Array Value)
  | ctab (pos:Pos) (q:Str)
  | dN (ep:Nat) (kvs:List (NK×V×V))
  | ext (φ:Heap->Prop)
abbrev Hp:=Addr->Option HO
def upd(H:Hp)(a:Addr)(o:HO):Hp:=λb=>if b=a then some o else H b
theorem cN:upd H a o a=some o:=by unfold upd; rw[if_pos rfl]
theorem aQ(h:b≠a):upd H a o b=H b:=by unfold upd; rw[if_neg h]
theorem Hb:upd (upd H a o) a u=upd H a u:=by
 funext b; unfold upd; split <;> rfl
theorem Hc{H:Hp}{a b:Addr}{o u:HO}(h:H a=some o)(h':H b=some u)(d:o≠u):a≠b:=by
 intro e; subst e; rw[h] at h'; exact d (Wx h')
theorem gb{H:Hp}{a b:Addr}{o:HO}(h:H a=some o)(h':H b=none):a≠b:=by
 intro e; subst e; rw[h] at h'; cases h'
def iC (h:Heap) (a:Addr) (ae:Array Value):Prop:=∃ n,h.get? a=some { cls:=.type "tuple",dict:=none,data:=.seq ae n,slots:=#[] }
theorem iC.tup(x:iC h a ae):IsTup h a ae:=let ⟨n,e⟩:=x; ⟨_,e,rfl,n,rfl⟩
theorem iC.new (h:Heap) (ae:Array Value):iC (h.push { cls:=.type "tuple",data:=.seq ae }) h.objs.size ae:=⟨_,Wn _ rfl⟩
theorem iC.lt(x:iC h a ae):a < h.objs.size:=let ⟨_,e⟩:=x; Wr e
section
variable (P:Wm) (w:Ws)
def bP(H:Hp)(h:Heap)(a:Addr):HO->Prop
 | .lst xs=>xs.length<=Wc/\∃ (ae:List Value) (n:Nat),Vals xs ae/\h.get? a=some { cls:=.type "list",data:=.seq ae.toArray n }
 | .tup xs=>xs.length<=Wc/\∃ ae:List Value,Vals xs ae/\iC h a ae.toArray
 | .dK kvs=>kvs.length<=Wc/\(a == QE)=false/\∃ vs,KV kvs vs/\h.DictOf (cH P w) a vs
 | .dT kvs=>kvs.length<=Wc/\(a == QE)=false/\∃ xs:List (List Key×Addr×Value),
   Paired (λ(p:List Key×V) (q:List Key×Addr×Value)=>p.1=q.1/\H q.2.1=some (.tup (p.1.map kV))/\RelV p.2 q.2.2) kvs xs /\
   ∃ o es ep,h.get? a=some o/\o.ExactDict/\o.data = .dict es ep/\es.toList=xs.map (entryOfKey (tupleKind (cH P w)))/\(xs.map (·.1)).Nodup
 | .set S n=>h.SetOf (intKind P w) a S n
 | .ins C dx fs=>H dx=some (.own a)/\fs.length<=1000/\dx≠a/\h.get? a=some (PySem.W.instObj C dx) /\
   ∃ mA,h.Ns1 dx mA/\(∀ f,eZ (fs.lookup f) (mA f))/\PySem.Within mA (fs.map (·.1))
 | .own _=>∃ o,h.get? a=some o
 | .xd fs=>∃ mA,h.Ns1 a mA/\∀ f,eZ (fs.lookup f) (mA f)
 | .ki lo hi=>∃ t u v,h.get? a=some { cls:=.type "range",data:=.fields #[.int lo t,.int hi u,.int 1 v] }
 | .frz o u=>h.get? a=some o/\bP H h a u
 | .tbl ps=>h.get? a=some { cls:=.none,data:=.fields ps }
 | .dN ep kvs=>kvs.length<=Wc/\(a == QE)=false/\∃ o es,h.get? a=some o/\o.ExactDict/\o.data = .dict es ep/\Paired (λ(p:NK×V×V) (e:DictEntry)=>e.hash=fu w p.1/\RelV p.2.1 e.key/\RelV p.2.2 e.val) kvs es.toList/\(kvs.map (·.1)).Nodup
 | .ctab pos q=>∃ ps,h.get? a=some { cls:=.none,data:=.fields ps }/\TriplesOk ps.toList/\∀ cv,codeAmong pos ps.toList=some cv->∃ c' oc,cv = .ref c'/\H c'=some (.frz oc (.ext λ_=>True))/\∃ vs tq,oc.data = .fields vs/\vs[1]? = some (.str q tq)
 | .met f x=>h.get? a=some (PySem.W.methodObj (.ref f) (.ref x))
 | .ext φ=>φ h/\(∃ o,h.get? a=some o)/\∀ h1 h2:Heap,φ h1->(∀ o,h1.get? a=some o->h2.get? a=some o)->φ h2
def cw(H:Hp)(h:Heap):Prop:=∀ a o,H a=some o->bP P w H h a o
end
section
variable {P:Wm} {w:Ws} {H H':Hp} {h h':Heap} {a:Addr} {o:HO}
theorem bP.lt(x:bP P w H h a o):a < h.objs.size:=by
 cases o with
 | lst xs=>obtain⟨_,_,_,_,e⟩:=x; exact Wr e
 | tup xs=>obtain⟨_,_,_,p⟩:=x; exact p.lt
 | dK kvs=>obtain⟨_,_,_,_,o,_,_,e,_⟩:=x; exact Wr e
 | dT kvs=>obtain⟨_,_,_,_,o,_,_,e,_⟩:=x; exact Wr e
 | set S n=>obtain⟨o,_,_,_,e,_⟩:=x; exact Wr e
 | ins C dx fs=>obtain⟨_,_,_,e,_⟩:=x; exact Wr e
 | own y=>obtain⟨_,e⟩:=x; exact Wr e
 | xd fs=>obtain⟨_,⟨_,_,_,e,_⟩,_⟩:=x; exact Wr e
 | ki lo hi=>obtain⟨_,_,_,e⟩:=x; exact Wr e
 | frz ob u=>obtain⟨e,_⟩:=x; exact Wr e
 | tbl ps=>exact Wr (show h.get? a=some _ from x)
 | ctab pos q=>obtain⟨_,e,_⟩:=x; exact Wr e
 | dN ep kvs=>obtain⟨_,_,_,_,e,_⟩:=x; exact Wr e
 | met f y=>exact Wr (show h.get? a=some _ from x)
 | ext φ=>obtain⟨_,⟨_,e⟩,_⟩:=x; exact Wr e
theorem Paired.vk:∀ {l₁:List α} {l₂:List β},Paired F l₁ l₂->(∀ a b,F a b->G a b)->Paired G l₁ l₂
 | _,_,.nil,_=>.nil
 | _,_,.cons r t,f=>.cons (f _ _ r) (Paired.vk t f)
theorem bP.n_(x:bP P w H h a o)(k:∀ b u,(b=a\/H b=some (.own a))->h.get? b=some u->h'.get? b=some u)
  (ho:∀ b,H b=some (.own a)->H' b=some (.own a)) (ht:∀ b xs,H b=some (.tup xs)->H' b=some (.tup xs)) (hf:∀ b o u,H b=some (.frz o u)->H' b=some (.frz o u)):bP P w H' h' a o:=by
 induction o with
 | lst xs=>obtain⟨z,ae,n,r,e⟩:=x; exact⟨z,ae,n,r,k _ _ (.inl rfl) e⟩
 | tup xs=>obtain⟨z,ae,r,n,e⟩:=x; exact⟨z,ae,r,n,k _ _ (.inl rfl) e⟩
 | dK kvs=>obtain⟨z,y,vs,r,ob,es,ep,e,c⟩:=x; exact⟨z,y,vs,r,ob,es,ep,k _ _ (.inl rfl) e,c⟩
 | dT kvs =>
  obtain⟨z,y,xs,r,ob,es,ep,e,c⟩:=x;exact⟨z,y,xs,Paired.vk r λp q z=>⟨z.1,ht _ _ z.2.1,z.2.2⟩,ob,es,ep,k _ _ (.inl rfl) e,c⟩
 | set S n=>obtain⟨ob,es,ep,t,e,c⟩:=x; exact⟨ob,es,ep,t,k _ _ (.inl rfl) e,c⟩
 | ins C dx fs =>
  obtain⟨d,z,ne,e,mA,⟨od,es,ep,e2,c⟩,r⟩:=x;exact⟨ho _ d,z,ne,k _ _ (.inl rfl) e,mA,⟨od,es,ep,k _ _ (.inr d) e2,c⟩,r⟩
 | own y=>obtain⟨ob,e⟩:=x; exact⟨ob,k _ _ (.inl rfl) e⟩
 | xd fs=>obtain⟨mA,⟨od,es,ep,e,c⟩,r⟩:=x; exact⟨mA,⟨od,es,ep,k _ _ (.inl rfl) e,c⟩,r⟩
 | ki lo hi=>obtain⟨t,u,v,e⟩:=x; exact⟨t,u,v,k _ _ (.inl rfl) e⟩
 | frz ob u ih=>obtain⟨e,q⟩:=x; exact⟨k _ _ (.inl rfl) e,ih q⟩
 | dN ep kvs=>obtain⟨z,y,ob,es,e,c⟩:=x; exact⟨z,y,ob,es,k _ _ (.inl rfl) e,c⟩
 | ctab pos q=>obtain⟨ps,e,t,r⟩:=x; exact⟨ps,k _ _ (.inl rfl) e,t,λcv z=>let ⟨c',oc,z1,z2,z3⟩:=r cv z; ⟨c',oc,z1,hf _ _ _ z2,z3⟩⟩
 | tbl ps =>
  have e:h.get? a=some { cls:=.none,data:=.fields ps }:=x;show h'.get? a=some { cls:=.none,data:=.fields ps };exact k a _ (.inl rfl) e
 | met f y =>
  have e:h.get? a=some (PySem.W.methodObj (.ref f) (.ref y)):=x;show h'.get? a=some (PySem.W.methodObj (.ref f) (.ref y));exact k a _ (.inl rfl) e
 | ext φ=>obtain⟨p,⟨o,e⟩,st⟩:=x; exact⟨st _ _ p λo q=>k _ _ (.inl rfl) q,⟨o,k _ _ (.inl rfl) e⟩,st⟩
theorem cw.lt(x:cw P w H h)(e:H a=some o):a < h.objs.size:=(x a o e).lt
theorem cw.fresh(x:cw P w H h)(e:h.objs.size<=a):H a=none:=by
 cases q:H a with
 | none=>rfl
 | some u=>exact absurd (Ww (x.lt q) e) (Qt _)
theorem cw.kept(x:cw P w H h)(k:∀ b u,h.get? b=some u->h'.get? b=some u):cw P w H h':=λa o e =>
 (x a o e).n_ (λb u _ q=>k b u q) (λ_ q=>q) (λ_ _ q=>q) λ_ _ _ q=>q
theorem cw.laid(x:cw P w H h)(k:∀ b u,h.get? b=some u->h'.get? b=some u)(hp:h.objs.size<=a)(new:bP P w (upd H a o) h' a o):cw P w (upd H a o) h':=λb u e=>by
 have hn:=x.fresh hp;by_cases hb:b=a
 ·subst hb; rw[cN] at e; cases e; exact new
 ·rw[aQ hb] at e;exact(x b u e).n_ (λc v _ q=>k c v q) (λc q=>by rw[aQ (gb q hn)]; exact q) (λc xs q=>by rw[aQ (gb q hn)]; exact q) λc o u q=>by rw[aQ (gb q hn)]; exact q
end
def Rd(H:Hp)(a:Addr)(u:HO):Prop:=H a=some u\/∃ o,H a=some (.frz o u)
theorem Rd.ok(r:Rd H a u)(x:cw P w H h):bP P w H h a u:=by
 rcases r with r | ⟨o,r⟩
 ·exact x a u r
 ·obtain⟨_,q⟩:=x a _ r;exact q
def pN:Option HO->Prop
 | some (.lst _)=>True
 | some (.dK _)=>True
 | some (.dT _)=>True
 | some (.dN _ _)=>True
 | some (.set _ _)=>True
 | some (.ins _ _ _)=>True
 | some (.ext _)=>True
 | _=>False
section
variable {P:Wm} {w:Ws} {H:Hp} {h h':Heap} {x e:Addr} {o':HO}
theorem cw.write(ok:cw P w H h)(mu:pN (H x))(he:e=x\/H e=some (.own x))(k:∀ b u,b≠e->h.get? b=some u->h'.get? b=some u)(og:∃ u,h'.get? e=some u)
  (new:bP P w (upd H x o') h' x o'):cw P w (upd H x o') h':=λb u q=>by
 have pO:∀ c y,H c=some (.own y)->c≠x:=λc y r z=>by subst z; rw[r] at mu; exact mu
 have Hd:∀ c xs,H c=some (.tup xs)->c≠x:=λc xs r z=>by subst z; rw[r] at mu; exact mu
 have He:∀ c o u,H c=some (.frz o u)->c≠x:=λc o u r z=>by subst z; rw[r] at mu; exact mu
 by_cases hb:b=x
 ·subst hb; rw[cN] at q; cases q; exact new
 ·rw[aQ hb] at q;by_cases hbe:b=e
  ·have q':H b=some (.own x):=by
    rcases he with z | z
    ·exact absurd (hbe.trans z) hb
    ·rw[hbe]; exact z
   rw[q] at q'; cases q'
   obtain⟨v,hv⟩:=og;exact⟨v,by rw[hbe]; exact hv⟩
  ·refine(ok b u q).n_ (λc v hc r=>k c v ?_ r) (λc r=>by rw[aQ (pO c b r)]; exact r) (λc xs r=>by rw[aQ (Hd c xs r)]; exact r) λc o u r=>by rw[aQ (He c o u r)]; exact r
   rcases hc with rfl | hc
   ·exact hbe
   ·rintro rfl;rcases he with z | z
    ·exact pO c b hc z
    ·rw[hc] at z; cases z; exact hb rfl
end
structure Un(fs ex:List Addr)(H H':Hp)(h h':Heap):Prop where
 keep:∀ b o,h.get? b=some o->H b=none->b ∉ fs->b ∉ ex->h'.get? b=some o
 slot:∀ b o,h.get? b=some o->H b=none->b ∈ fs->b ∉ ex->∃ sl,h'.get? b=some { o with slots:=sl }
 free:∀ b o,h.get? b=some o->H b=none->b ∉ ex->H' b=none
 there:∀ b o,h.get? b=some o->b ∉ ex->∃ o',h'.get? b=some o'
 lu:∀ b xs,H b=some (.tup xs)->H' b=some (.tup xs)
 kj:∀ b o u,H b=some (.frz o u)->H' b=some (.frz o u)
 lx:∀ b ps,H b=some (.tbl ps)->∃ more,H' b=some (.tbl (ps ++ more))
section
variable {fs mQ ex UX:List Addr} {H H1 H2:Hp} {h h1 h2 h':Heap} {a x e:Addr} {o:HO}
theorem Un.any(u:Un fs ex H H1 h h1)(q:h.get? b=some ob)(n:H b=none)(hx:b ∉ ex):∃ sl,h1.get? b=some { ob with slots:=sl }:=by
 by_cases hb:b ∈ fs
 ·exact u.slot b ob q n hb hx
 ·exact⟨ob.slots,u.keep b ob q n hb hx⟩
theorem Un.kept(k:∀ b u,h.get? b=some u->h'.get? b=some u):Un fs ex H H h h' :=
 ⟨λb ob q _ _ _=>k b ob q,λb ob q _ _ _=>⟨ob.slots,k b ob q⟩,λ_ _ _ n _=>n,λb ob q _=>⟨ob,k b ob q⟩,λ_ _ q=>q,λ_ _ _ q=>q,λ_ ps q=>⟨#[],by rw[q]; simp⟩⟩
theorem Un.refl:Un fs ex H H h h:=Un.kept λ_ _ q=>q
theorem Un.laid(k:∀ b u,h.get? b=some u->h'.get? b=some u)(hp:h.objs.size<=a)(hn:H a=none):Un fs ex H (upd H a o) h h' where
 keep:=λb u q _ _ _=>k b u q
 slot:=λb u q _ _ _=>⟨u.slots,k b u q⟩
 free:=λb u q n _=>by rw[aQ (WP (Ww (Wr q) hp))]; exact n
 there:=λb u q _=>⟨u,k b u q⟩
 lu:=λb xs q=>by rw[aQ (gb q hn)]; exact q
 kj:=λb u xs q=>by rw[aQ (gb q hn)]; exact q
 lx:=λb ps q=>⟨#[],by rw[aQ (gb q hn),q]; simp⟩
theorem Un.write(mu:pN (H x))(he:e=x\/H e=some (.own x))(k:∀ b u,b≠e->h.get? b=some u->h'.get? b=some u)(og:∃ u,h'.get? e=some u):Un fs ex H (upd H x o) h h':=by
 have hx:∀ b,H b=none->b≠x:=λb n z=>by subst z; rw[n] at mu; exact mu
 have hb:∀ b,H b=none->b≠e:=λb n z=>by
  subst z;rcases he with r | r
  ·exact hx b n r
  ·rw[n] at r; cases r
 have hm:∀ b u,H b=some u->¬ pN (some u)->b≠x:=λb u q nm z=>by subst z; rw[q] at mu; exact nm mu
 refine⟨λb u q n _ _=>k b u (hb b n) q,λb u q n _ _=>⟨u.slots,k b u (hb b n) q⟩,λb u q n _=>by rw[aQ (hx b n)]; exact n,λb u q _=>?_,
  λb xs q=>by rw[aQ (hm b _ q λz=>z)]; exact q,λb u xs q=>by rw[aQ (hm b _ q λz=>z)]; exact q,λb ps q=>⟨#[],by rw[aQ (hm b _ q λz=>z),q]; simp⟩⟩
 by_cases hbe:b=e
 ·subst hbe; exact og
 ·exact⟨u,k b u hbe q⟩
end
def r9(h:Heap)(H:Hp):List Addr:=(W4 h.objs.size).filter λa=>(H a).isSome
def km(h:Heap)(H:Hp):Heap:=PySem.W.hideAll h (r9 h H)
theorem Hf(h:Heap)(H:Hp):(km h H).objs.size=h.objs.size:=PySem.W.hideAll_size _ _
theorem Hg(e:h.get? b=some o)(n:H b=none):(km h H).get? b=some o :=
 PySem.W.hideAll_get _ e λhm=>by
  have q:(H b).isSome=true:=(QW.mp hm).2;rw[n] at q; simp at q
theorem Hh(e:(km h H).get? b=some o):h.get? b=some o/\H b=none:=by
 have e':h.get? b=some o:=PySem.W.of_hideAll (r9 h H) e;refine⟨e',?_⟩
 cases q:H b with
 | none=>rfl
 | some x =>
  have hm:b ∈ r9 h H:=List.mem_filter.mpr ⟨WR.mpr (Wr e'),by simp[q]⟩;have z:(km h H).get? b=none:=PySem.W.hideAll_none (r9 h H) hm;rw[z] at e; cases e
def Hi(g h:Heap)(L:Addr):List (Addr×Obj):=(W4 h.objs.size).filterMap λa=>if a=L\/(g.get? a).isSome=true then none else(h.get? a).map λo=>(a,o)
def rest(g h:Heap)(L d:Addr):List (Addr×Obj):=(Hi g h L).filter λp=>decide (p.1≠d)
structure Mod(K:W2)(mg:Str->Option Value)(base:Heap):Prop where
 vm:K.In base
 glob:base.Ns WG mg
 blt:∃ mb,base.Ns builtinsNs mb/\∀ x:Str,x≠"__name__"->mb x=QC x
 nolimit:base.NoLimit
structure Cx where
 prog:Wm
 w:Ws
 K:W2
 mg:Str->Option Value
 base:Heap
 A:Wt
 N:List Str
 s₀:W3
 H₀:Hp
 env:Env
 outer:List Env
 stack:List Env
 ex:List Addr
 fn:Str->Bool
 calm:Bool
 pn:List (Addr×Obj)
 xe:Value->W3->Prop
def gW(l:List Env):List Addr:=l.filterMap (·.frame)
abbrev Cx.fs(X:Cx):List Addr:=gW X.outer
def r_(sc:Scope)(x:Str):Prop:=sc.names.lookup x=some .local\/sc.names.lookup x=some .cell\/sc.names.lookup x=some .free
def Loc(sc:Scope)(x:Str):Prop:=sc.names.lookup x=some .local\/sc.names.lookup x=some .cell
def Look(env:Env)(h:Heap)(m:Str->Option Value)(x:Str)(u:Value):Prop :=
 (env.kindOf x=some .local/\m x=some u)\/((env.kindOf x=some .cell\/env.kindOf x=some .free)/\∃ c,env.cells.lookup x=some c/\h.IsCell c (some u))
structure Cx.Ok(X:Cx):Prop where
 mod:Mod X.K X.mg X.base
 kind:X.env.scope.kind = .function
 glob:X.env.globals=WG
 blt:X.env.builtins=builtinsNs
 above:X.s₀.heap.objs.size<=X.env.locals
 inj:∀ x y c,X.env.cells.lookup x=some c->X.env.cells.lookup y=some c->x=y
 has:∀ x,(X.env.kindOf x=some .cell\/X.env.kindOf x=some .free)->∃ c,X.env.cells.lookup x=some c
 pQ:∀ x c,X.fn x=true->X.env.cells.lookup x=some c->X.s₀.heap.objs.size<=c
 hd:X.calm=true->X.A.handled=none
 frames:X.A.frames=some X.stack
 sd:X.stack=X.outer\/(X.stack=X.env :: X.outer/\X.env.frame=some X.env.locals)
 se:∀ b ∈ X.ex,b≠X.env.locals/\∀ x c,X.env.cells.lookup x=some c->c≠b
 bs:∀ b o,X.base.get? b=some o->X.s₀.heap.get? b=some o/\X.H₀ b=none
 ly:X.base.objs.size<=X.s₀.heap.objs.size
 pR:∀ b o,X.base.get? b=some o->b ∉ X.ex
 pS:∀ b ∈ X.ex,b ∉ X.fs
 i8:X.s₀.heap.FunFrames X.base X.outer
 oh:∀ b ∈ X.fs,X.H₀ b=none
structure Inv(X:Cx)(pins:List (Addr×Obj))(σ:List (Option V))(H:Hp)(s:W3):Prop where
 ok:X.Ok
 os:s.os=X.s₀.os
 bare:AllBare s.gens
 base:Un X.fs X.ex X.H₀ H X.s₀.heap s.heap
 loc:∃ m,s.heap.Ns X.env.locals m/\∀ (i:Nat) (x:Str) (v:V),X.N[i]? = some x->σ[i]? = some (some v)->r_ X.env.scope x->∃ u,RelV v u/\Look X.env s.heap m x u
 cell:∀ x c,X.env.cells.lookup x=some c->∃ v,s.heap.IsCell c v
 free:H X.env.locals=none
 i9:∀ x c,X.env.cells.lookup x=some c->H c=none
 pin:∀ p ∈ X.pn ++ pins,s.heap.get? p.1=some p.2/\H p.1=none/\p.1≠X.env.locals/\p.1 ∉ X.fs/\∀ v,p.2.data≠.cell v
 aG:cw X.prog X.w H s.heap
 len:σ.length=X.N.length
section
variable {X:Cx} {pins:List (Addr×Obj)} {σ:List (Option V)} {H H':Hp} {s:W3} {h':Heap}
theorem Cx.Ok.Hj(ok:X.Ok)(e:X.base.get? b=some o):b ∉ X.fs:=λhb=>by
 have:=(ok.i8.mem hb).1;rw[e] at this; cases this
theorem Inv.bs(I:Inv X pins σ H s):∀ b o,X.base.get? b=some o->s.heap.get? b=some o/\H b=none:=λb o e =>
 ⟨I.base.keep b o (I.ok.bs b o e).1 (I.ok.bs b o e).2 (I.ok.Hj e) (I.ok.pR b o e),I.base.free b o (I.ok.bs b o e).1 (I.ok.bs b o e).2 (I.ok.pR b o e)⟩
theorem Inv.bk(I:Inv X pins σ H s):∀ b o,X.base.get? b=some o->s.heap.get? b=some o:=λb o e=>(I.bs b o e).1
theorem Inv.mod(I:Inv X pins σ H s):Mod X.K X.mg X.base:=I.ok.mod
theorem Inv.fJ(I:Inv X pins σ H s):X.K.In s.heap:=I.ok.mod.vm.keeps I.bk
theorem Inv.fr(I:Inv X pins σ H s):∃ m,Fr X.base X.env.locals s.heap m :=
 let ⟨m,hn,_⟩:=I.loc
 ⟨m,hn,I.bk,Wu I.ok.ly I.ok.above⟩
theorem Inv.lt(I:Inv X pins σ H s):X.env.locals < s.heap.objs.size:=let ⟨_,hn,_⟩:=I.loc; hn.lt
theorem Inv.sz(I:Inv X pins σ H s):X.s₀.heap.objs.size<=s.heap.objs.size:=Wu I.ok.above (Jn I.lt)
theorem Inv.Hk(I:Inv X pins σ H s)(h:s.heap.objs.size<=a):a ∉ X.fs:=λhb=>by
 obtain⟨_,o,ho,_⟩:=I.ok.i8.mem hb;exact absurd (Ww (Wr ho) (Wu I.sz h)) (Qt _)
theorem Inv.mR(I:Inv X pins σ H s):∀ x c,X.env.cells.lookup x=some c->c≠X.env.locals:=λx c e z=>by
 obtain⟨v,o,ho,hd⟩:=I.cell x c e;obtain⟨m,⟨o',es,ep,ho',pT,_⟩,_⟩:=I.loc;rw[z,ho'] at ho; cases ho; rw[pT] at hd; cases hd
theorem Inv.i8(I:Inv X pins σ H s):s.heap.FunFrames X.base X.outer:=by
 have all:∀ (l:List Env),(∀ b ∈ gW l,b ∈ X.fs)->X.s₀.heap.FunFrames X.base l->s.heap.FunFrames X.base l:=by
  intro l;induction l with
  | nil=>intro _ _; trivial
  | cons env r ih =>
   intro hs hl;obtain⟨hk,⟨L,o,hf,hn,ho,hd⟩,hr⟩:=hl;have hL:L ∈ X.fs:=hs L (by unfold gW; rw[List.filterMap_cons,hf]; exact Wh);obtain⟨sl,e⟩:=I.base.slot L o ho (I.ok.oh L hL) hL λz=>I.ok.pS L z hL
   exact⟨hk,⟨L,_,hf,hn,e,hd⟩,ih (λb hb=>hs b (by unfold gW; rw[List.filterMap_cons,hf]; exact W9 _ hb)) hr⟩
 exact all X.outer (λ_ hb=>hb) I.ok.i8
theorem Inv.stack(I:Inv X pins σ H s):s.heap.FunFrames X.base X.stack:=by
 rcases I.ok.sd with e | ⟨e,hf⟩
 ·rw[e]; exact I.i8
 ·rw[e];obtain⟨m,hn,_⟩:=I.loc;refine .cons (by rw[I.ok.kind]; decide) hf hn ?_ I.i8;exact Heap.get?_none_of_le (Wu I.ok.ly I.ok.above)
theorem Inv.vn(I:Inv X pins σ H s):∀ b ∈ gW X.stack,b ∈ X.env.locals :: X.fs:=λb hb=>by
 rcases I.ok.sd with e | ⟨e,hf⟩
 ·rw[e] at hb; exact W9 _ hb
 ·rw[e] at hb;unfold gW at hb;rw[List.filterMap_cons,hf] at hb;exact hb
theorem Inv.Aq(I:Inv X pins σ H s):∀ b ∈ gW X.stack,H b=none:=λb hb=>by
 rcases Wj.mp (I.vn b hb) with e | hb
 ·rw[e]; exact I.free
 ·obtain⟨_,o,ho,_⟩:=I.ok.i8.mem hb;exact I.base.free b o ho (I.ok.oh b hb) λz=>I.ok.pS b z hb
theorem Inv.step{g':Array GenState}{t':Nat}{d':Drawn}{ch:List Addr}(I:Inv X pins σ H s)
  (jJ:∀ b ∈ ch,(b ∈ X.ex\/X.s₀.heap.objs.size<=b)/\b≠X.env.locals/\(∀ x c,X.env.cells.lookup x=some c->c≠b)/\∀ p ∈ X.pn ++ pins,p.1≠b)
  (keep:∀ b o,b≠X.env.locals->b ∉ X.fs->b ∉ ch->s.heap.get? b=some o->H b=none->h'.get? b=some o)
  (slot:∀ b o,b≠X.env.locals->b ∈ X.fs->b ∉ ch->s.heap.get? b=some o->H b=none->∃ sl,h'.get? b=some { o with slots:=sl }) (free:∀ b o,b ∉ ch->s.heap.get? b=some o->H b=none->H' b=none)
  (there:∀ b o,b ∉ ch->s.heap.get? b=some o->∃ o',h'.get? b=some o')
  (lu:∀ b xs,H b=some (.tup xs)->H' b=some (.tup xs)) (kj:∀ b o u,H b=some (.frz o u)->H' b=some (.frz o u)) (lx:∀ b ps,H b=some (.tbl ps)->∃ more,H' b=some (.tbl (ps ++ more)))
  (ns:∀ m,s.heap.Ns X.env.locals m->h'.Ns X.env.locals m) (aG:cw X.prog X.w H' h') (hg:AllBare g') :
  Inv X pins σ H' { s with heap:=h',gens:=g',drawn:=d',toks:=t' }:=by
 have Ar:∀ b o,X.s₀.heap.get? b=some o->b≠X.env.locals:=λb o e=>WP (Ww (Wr e) I.ok.above)
 have sg:∀ b o,X.s₀.heap.get? b=some o->b ∉ X.ex->b ∉ ch:=λb o e hx hb=>by
  rcases (jJ b hb).1 with z | z
  ·exact hx z
  ·exact absurd (Ww (Wr e) z) (Qt _)
 have cellK:∀ x c,X.env.cells.lookup x=some c->∀ v,s.heap.IsCell c v->h'.IsCell c v:=λx c e v ⟨o,ho,hd⟩=>by
  have pU:c ∉ ch:=λz=>(jJ c z).2.2.1 x c e rfl
  by_cases hc:c ∈ X.fs
  ·obtain⟨sl,q⟩:=slot c o (I.mR x c e) hc pU ho (I.i9 x c e);exact⟨_,q,hd⟩
  ·exact⟨o,keep c o (I.mR x c e) hc pU ho (I.i9 x c e),hd⟩
 refine⟨I.ok,I.os,hg,⟨λb o e n hb hx=>?_,λb o e n hb hx=>?_,λb o e n hx=>?_,λb o e hx=>?_,λb xs e=>lu b xs (I.base.lu b xs e),λb o xs e=>kj b o xs (I.base.kj b o xs e),λb ps e=>?_⟩,?_,λx c e=>?_,?_,λx c e=>?_,λp hp=>?_,aG,I.len⟩
 ·exact keep b o (Ar b o e) hb (sg b o e hx) (I.base.keep b o e n hb hx) (I.base.free b o e n hx)
 ·obtain⟨sl,e1⟩:=I.base.slot b o e n hb hx;obtain⟨sl',e2⟩:=slot b _ (Ar b o e) hb (sg b o e hx) e1 (I.base.free b o e n hx);exact⟨sl',e2⟩
 ·obtain⟨o',e1⟩:=I.base.there b o e hx;exact free b o' (sg b o e hx) e1 (I.base.free b o e n hx)
 ·obtain⟨o',e1⟩:=I.base.there b o e hx;exact there b o' (sg b o e hx) e1
 ·obtain⟨m1,e1⟩:=I.base.lx b ps e;obtain⟨m2,e2⟩:=lx b _ e1;exact⟨m1 ++ m2,by rw[e2,Array.append_assoc]⟩
 ·obtain⟨m,hn,hl⟩:=I.loc;refine⟨m,ns m hn,λi x v e1 e2 e3=>?_⟩;obtain⟨u,r,l⟩:=hl i x v e1 e2 e3;refine⟨u,r,?_⟩;rcases l with l | ⟨k,c,e,z⟩
  ·exact .inl l
  ·exact .inr ⟨k,c,e,cellK x c e _ z⟩
 ·obtain⟨v,z⟩:=I.cell x c e;exact⟨v,cellK x c e v z⟩
 ·obtain⟨m,⟨o,_,_,ho,_⟩,_⟩:=I.loc;exact free _ o (λz=>(jJ _ z).2.1 rfl) ho I.free
 ·obtain⟨v,o,ho,hd⟩:=I.cell x c e;exact free c o (λz=>(jJ c z).2.2.1 x c e rfl) ho (I.i9 x c e)
 ·obtain⟨e,n,ne,nf,d⟩:=I.pin p hp;have pU:p.1 ∉ ch:=λz=>(jJ p.1 z).2.2.2 p hp rfl
  exact⟨keep p.1 p.2 ne nf pU e n,free p.1 p.2 pU e n,ne,nf,d⟩
theorem Inv.un{t':Nat}(I:Inv X pins σ H s)(u:Un X.fs [] H H' s.heap h')(aG:cw X.prog X.w H' h'):Inv X pins σ H' { s with heap:=h',toks:=t' }:=by
 obtain⟨m,⟨o,es,ep,ho,r⟩,_⟩:=id I.loc;obtain⟨sl,hL⟩:=u.any ho I.free (by simp);exact I.step (g':=s.gens) (d':=s.drawn) (ch:=[]) (λ_ z=>nomatch z) (λb o _ hb _ e n=>u.keep b o e n hb (by simp)) (λb o _ hb _ e n=>u.slot b o e n hb (by simp)) (λb o _ e n=>u.free b o e n (by simp)) (λb o _ e=>u.there b o e (by simp)) u.lu u.kj u.lx (λm' hm=>by
  obtain⟨o',es',ep',ho',r'⟩:=hm;rw[ho] at ho'; cases ho'
  exact⟨_,es',ep',hL,r'⟩) aG I.bare
theorem Inv.call{g':Array GenState}{t':Nat}{d':Drawn}{ch:List Addr}(I:Inv X pins σ H s)(u:Un (gW X.stack) ch H H' s.heap h')(aG:cw X.prog X.w H' h')(hg:AllBare g')
  (jJ:∀ b ∈ ch,(b ∈ X.ex\/X.s₀.heap.objs.size<=b)/\b≠X.env.locals/\(∀ x c,X.env.cells.lookup x=some c->c≠b)/\∀ p ∈ X.pn ++ pins,p.1≠b) :
  Inv X pins σ H' { s with heap:=h',gens:=g',drawn:=d',toks:=t' }:=by
 obtain⟨m,⟨o,es,ep,ho,r⟩,_⟩:=id I.loc;obtain⟨sl,hL⟩:=u.any ho I.free λz=>(jJ _ z).2.1 rfl
 exact I.step (ch:=ch) jJ (λb o hL hb hc e n=>u.keep b o e n (λz=>(Wj.mp (I.vn b z)).elim hL hb) hc) (λb o _ _ hc e n=>u.any e n hc) (λb o hc e n=>u.free b o e n hc) (λb o hc e=>u.there b o e hc) u.lu u.kj u.lx (λm' hm=>by
  obtain⟨o',es',ep',ho',r'⟩:=hm;rw[ho] at ho'; cases ho'
  exact⟨_,es',ep',hL,r'⟩) aG hg
theorem Inv.turned{t':Nat}{it:Addr}(I:Inv X pins σ H s)(k:∀ b o,b≠it->s.heap.get? b=some o->h'.get? b=some o)(hn:H it=none)(hL:it≠X.env.locals)
  (h1:it ∈ X.ex\/X.s₀.heap.objs.size<=it) (h2:∀ x c,X.env.cells.lookup x=some c->c≠it) (h3:∀ p ∈ X.pn ++ pins,p.1≠it):Inv X pins σ H { s with heap:=h',toks:=t' }:=by
 have lz:∀ b u,H b=some u->b≠it:=λb u e z=>by rw[z,hn] at e; cases e
 refine I.step (g':=s.gens) (d':=s.drawn) (ch:=[it]) (λb hb=>?_) (λb o _ _ hc e _=>k b o (λz=>hc (by simp[z])) e) (λb o _ _ hc e _=>⟨o.slots,k b o (λz=>hc (by simp[z])) e⟩) (λ_ _ _ _ n=>n)
  (λb o hc e=>⟨o,k b o (λz=>hc (by simp[z])) e⟩) (λ_ _ e=>e) (λ_ _ _ e=>e) (λb ps e=>⟨#[],by rw[e]; simp⟩) (λm hm=>?_) (λb u e=>?_) I.bare
 ·have e:b=it:=by simpa using hb
  subst e;exact⟨h1,hL,h2,h3⟩
 ·obtain⟨o,es,ep,ho,r⟩:=hm;exact⟨o,es,ep,k _ o (Ne.symm hL) ho,r⟩
 ·refine(I.aG b u e).n_ (λc v hc q=>k c v ?_ q) (λ_ q=>q) (λ_ _ q=>q) λ_ _ _ q=>q
  rcases hc with z | z
  ·rw[z]; exact lz b u e
  ·exact lz c _ z
theorem Inv.tok(I:Inv X pins σ H s)(t:Nat):Inv X pins σ H { s with toks:=t }:=I.un (h':=s.heap) (t':=t) Un.refl I.aG
theorem Inv.kept(I:Inv X pins σ H s)(k:∀ b u,s.heap.get? b=some u->h'.get? b=some u):Inv X pins σ H { s with heap:=h',toks:=t' }:=I.un (Un.kept k) (I.aG.kept k)
theorem Inv.laid(I:Inv X pins σ H s)(k:∀ b u,s.heap.get? b=some u->h'.get? b=some u)(hp:s.heap.objs.size<=a)(new:bP X.prog X.w (upd H a o) h' a o) :
  Inv X pins σ (upd H a o) { s with heap:=h',toks:=t' }:=I.un (Un.laid k hp (I.aG.fresh hp)) (I.aG.laid k hp new)
theorem Inv.write(I:Inv X pins σ H s)(mu:pN (H x))(he:e=x\/H e=some (.own x))(k:∀ b u,b≠e->s.heap.get? b=some u->h'.get? b=some u)(og:∃ u,h'.get? e=some u)
  (new:bP X.prog X.w (upd H x o) h' x o):Inv X pins σ (upd H x o) { s with heap:=h',toks:=t' }:=I.un (Un.write mu he k og) (I.aG.write mu he k og new)
theorem Inv.weak(I:Inv X pins σ H s)(hl:σ'.length=σ.length)(w:∀ (i:Nat) v,σ'[i]? = some (some v)->σ[i]? = some (some v)):Inv X pins σ' H s :=
 ⟨I.ok,I.os,I.bare,I.base,let ⟨m,hn,gc⟩:=I.loc; ⟨m,hn,λi x v e1 e2 e3=>gc i x v e1 (w i v e2) e3⟩,I.cell,I.free,I.i9,I.pin,I.aG,hl.trans I.len⟩
theorem Inv.As(I:Inv X pins σ H s)(h:∀ p ∈ pins',s.heap.get? p.1=some p.2/\H p.1=none/\p.1≠X.env.locals/\p.1 ∉ X.fs/\∀ v,p.2.data≠.cell v):Inv X pins' σ H s :=
 ⟨I.ok,I.os,I.bare,I.base,I.loc,I.cell,I.free,I.i9,λp hp=>(Wy.mp hp).elim (λz=>I.pin p (WK _ z)) (h p),I.aG,I.len⟩
theorem Au{N:List Str}(hN:N.Nodup){i j:Nat}{x:Str}(a:N[i]? = some x)(b:N[j]? = some x):i=j:=by
 obtain⟨h1,e1⟩:=W1.mp a;obtain⟨h2,e2⟩:=W1.mp b;exact(List.getElem_inj hN).mp (e1.trans e2.symm)
theorem Aw{M:Model}{A:Wt}{E:Value->W3->Prop}{i:Nat}{x:Str}{v:V}{u:Value}{Q:Unit->W3->Prop}(I:Inv X pins σ H s)(hN:X.N.Nodup)(hi:X.N[i]? = some x)(hx:Loc X.env.scope x)(r:RelV v u)
  (h:∀ s',Inv X pins (σ.set i (some v)) H s'->(∃ a,QJ a s.heap s'.heap/\(a=X.env.locals\/X.env.cells.lookup x=some a))->Q () s') (hf:X.fn x=true\/X.env.scope.names.lookup x=some .local:=by first | exact .inl rfl | exact .inr rfl | assumption):We M A (storeName X.env x u) Q E s:=by
 obtain⟨m,hn,hl⟩:=id I.loc;have Hl:(X.env.scope.kind == .class || (X.env.scope.kind == .module && X.env.locals != X.env.globals))=false:=by rw[I.ok.kind]; rfl
 have Ax:i < σ.length:=by rw[I.len]; exact(W1.mp hi).1
 have mR:=I.mR;have tracked:∀ {a:Addr} {h':Heap},(∃ o,s.heap.get? a=some o/\H a=none)->QJ a s.heap h'->cw X.prog X.w H h':=λ{a h'} ha hs b ob e=>by
  obtain⟨_,_,mS⟩:=ha;refine(I.aG b ob e).n_ (λc w' hc q=>(hs.2 c ?_).trans q) (λ_ q=>q) (λ_ _ q=>q) λ_ _ _ q=>q
  rintro rfl;rcases hc with rfl | hc
  ·rw[mS] at e; cases e
  ·rw[mS] at hc; cases hc
 rcases hx with hk | hk
 ·refine wpAny_storeName_local hk hn (λh' pV hs=>?_) Hl;obtain⟨oL,_,_,hoL,_⟩:=id hn;refine h _ ⟨I.ok,I.os,I.bare,⟨λb o e n hb hx=>?_,λb o e n hb hx=>?_,I.base.free,λb o e hx=>?_,I.base.lu,I.base.kj,I.base.lx⟩,⟨_,pV,λj y v' e1 e2 e3=>?_⟩,λy c e=>?_,I.free,I.i9,λp hp=>?_,tracked ⟨oL,hoL,I.free⟩ hs,by simpa using I.len⟩ ⟨_,hs,.inl rfl⟩
  ·exact(hs.2 b (WP (Ww (Wr e) I.ok.above))).trans (I.base.keep b o e n hb hx)
  ·obtain⟨sl,e1⟩:=I.base.slot b o e n hb hx;exact⟨sl,(hs.2 b (WP (Ww (Wr e) I.ok.above))).trans e1⟩
  ·obtain⟨o',e1⟩:=I.base.there b o e hx;exact⟨o',(hs.2 b (WP (Ww (Wr e) I.ok.above))).trans e1⟩
  ·by_cases hj:j=i
   ·subst hj;rw[hi] at e1; cases e1
    rw[Wa Ax] at e2
    cases e2;exact⟨u,r,.inl ⟨hk,by simp⟩⟩
   ·rw[W6 (Ne.symm hj)] at e2;obtain⟨u',r',q⟩:=hl j y v' e1 e2 e3;refine⟨u',r',?_⟩;rcases q with ⟨k,e⟩ | ⟨k,c,e,z⟩
    ·refine .inl ⟨k,?_⟩;have:y≠x:=λe=>hj (Au hN e1 (e ▸ hi))
     simp[this,e]
    ·exact .inr ⟨k,c,e,z.sameBut hs (mR y c e)⟩
  ·obtain⟨w',z⟩:=I.cell y c e;exact⟨w',z.sameBut hs (mR y c e)⟩
  ·obtain⟨e,n,ne,nf,d⟩:=I.pin p hp;exact⟨(hs.2 p.1 ne).trans e,n,ne,nf,d⟩
 ·have pW:X.fn x=true:=by
   rcases hf with z | z
   ·exact z
   ·rw[z] at hk; cases hk
  obtain⟨c,hc⟩:=I.ok.has x (.inl hk);obtain⟨w',z⟩:=I.cell x c hc;refine wpAny_storeName_cell I.ok.kind hk hc z (λh' i_ hs=>?_);obtain⟨oc,hoc,hocd⟩:=id z;refine h { s with heap:=h' } ⟨I.ok,I.os,I.bare,⟨λb o e n hb hx=>?_,λb o e n hb hx=>?_,I.base.free,λb o e hx=>?_,I.base.lu,I.base.kj,I.base.lx⟩,⟨m,hn.sameBut hs (Ne.symm (mR x c hc)),λj y v' e1 e2 e3=>?_⟩,λy c' e=>?_,I.free,I.i9,λp hp=>?_,tracked ⟨oc,hoc,I.i9 x c hc⟩ hs,by simpa using I.len⟩ ⟨c,hs,.inr hc⟩
  ·exact(hs.2 b (WP (Ww (Wr e) (I.ok.pQ x c pW hc)))).trans (I.base.keep b o e n hb hx)
  ·obtain⟨sl,e1⟩:=I.base.slot b o e n hb hx;exact⟨sl,(hs.2 b (WP (Ww (Wr e) (I.ok.pQ x c pW hc)))).trans e1⟩
  ·obtain⟨o',e1⟩:=I.base.there b o e hx;exact⟨o',(hs.2 b (WP (Ww (Wr e) (I.ok.pQ x c pW hc)))).trans e1⟩
  ·by_cases hj:j=i
   ·subst hj;rw[hi] at e1; cases e1
    rw[Wa Ax] at e2
    cases e2;exact⟨u,r,.inr ⟨.inl hk,c,hc,i_⟩⟩
   ·rw[W6 (Ne.symm hj)] at e2;obtain⟨u',r',q⟩:=hl j y v' e1 e2 e3;refine⟨u',r',?_⟩;rcases q with q | ⟨k,c',e,z'⟩
    ·exact .inl q
    ·refine .inr ⟨k,c',e,z'.sameBut hs ?_⟩;rintro rfl;exact hj (Au hN e1 (I.ok.inj _ _ _ e hc ▸ hi))
  ·by_cases si:c'=c
   ·subst si; exact⟨_,i_⟩
   ·obtain⟨w2,z2⟩:=I.cell y c' e;exact⟨w2,z2.sameBut hs si⟩
  ·obtain⟨e,n,ne,nf,d⟩:=I.pin p hp;refine⟨(hs.2 p.1 ?_).trans e,n,ne,nf,d⟩;intro q;rw[q,hoc] at e;have q':oc=p.2:=Wx e;exact d w' (by rw[<- q']; exact hocd)
theorem sj(I:Inv X pins σ H s)(hN:X.N.Nodup)(hi:X.N[i]? = some x)(hx:Loc X.env.scope x)(r:RelV v u)
  (h:∀ s',Inv X pins (σ.set i (some v)) H s'->Q () s') (hf:X.fn x=true\/X.env.scope.names.lookup x=some .local:=by first | exact .inl rfl | exact .inr rfl | assumption):We M A (storeName X.env x u) Q E s :=
 Aw I hN hi hx r (λs' I' _=>h s' I') hf
theorem Inv.Hm(I:Inv X pins σ H s)(ho:s'.os=s.os)(u:Un (gW X.stack) ch H H' s.heap s'.heap)(aG:cw X.prog X.w H' s'.heap)(hg:AllBare s'.gens)
  (jJ:∀ b ∈ ch,(b ∈ X.ex\/X.s₀.heap.objs.size<=b)/\b≠X.env.locals/\(∀ x c,X.env.cells.lookup x=some c->c≠b)/\∀ p ∈ X.pn ++ pins,p.1≠b):Inv X pins σ H' s':=by
 obtain⟨h',g',d',t',o'⟩:=s';have e:o'=s.os:=ho;subst e;exact I.call (g':=g') (t':=t') (d':=d') u aG hg jJ
end
abbrev XK:=Value->Option Addr->Hp->Prop
abbrev St:=List (Option V)
abbrev VK:=V->Hp->Prop
abbrev TE:=St->Hp->VK->Prop
abbrev TT:=St->Hp->(Bool->Hp->Prop)->Prop
abbrev TA:=St->Hp->(List V->Hp->Prop)->Prop
structure Ends where
 nx:St->Hp->Prop
 rt:VK
 bk:St->Hp->Prop:=λ_ _=>False
 ct:St->Hp->Prop:=λ_ _=>False
abbrev TS:=Ends->St->Hp->Prop
def EP(X:Cx)(pins:List (Addr×Obj))(σ:St)(Q:VK)(u:Value)(s':W3):Prop:=∃ v H',Inv X pins σ H' s'/\RelV v u/\Q v H'
def TP(X:Cx)(pins:List (Addr×Obj))(σ:St)(Q:Bool->Hp->Prop)(b:Bool)(s':W3):Prop:=∃ H',Inv X pins σ H' s'/\Q b H'
def AP(X:Cx)(pins:List (Addr×Obj))(σ:St)(Q:List V->Hp->Prop)(us:List Value)(s':W3):Prop:=∃ vs H',Inv X pins σ H' s'/\Vals vs us/\Q vs H'
def SP(X:Cx)(pins:List (Addr×Obj))(D:Ends)(f:Flow)(s':W3):Prop :=
 match f with
 | .next=>∃ σ' H',Inv X pins σ' H' s'/\D.nx σ' H'
 | .brk=>∃ σ' H',Inv X pins σ' H' s'/\D.bk σ' H'
 | .cont=>∃ σ' H',Inv X pins σ' H' s'/\D.ct σ' H'
 | .ret u=>∃ v σ' H',Inv X pins σ' H' s'/\RelV v u/\D.rt v H'
def PE(X:Cx)(e:Expr)(t:TE):Prop :=
 ∀ (pins:List (Addr×Obj)) (s:W3) (σ:St) (H:Hp) (Q:VK),Inv X pins σ H s->t σ H Q->We (model X.prog X.w) X.A (eval e X.env) (EP X pins σ Q) X.xe s
def PT(X:Cx)(e:Expr)(t:TT):Prop :=
 ∀ (pins:List (Addr×Obj)) (s:W3) (σ:St) (H:Hp) (Q:Bool->Hp->Prop),Inv X pins σ H s->t σ H Q->We (model X.prog X.w) X.A (isTrue e X.env (eval e X.env)) (TP X pins σ Q) X.xe s
def PW(X:Cx)(e:Expr)(t:TT):Prop :=
 ∀ (whole:Sem Value) (pins:List (Addr×Obj)) (s:W3) (σ:St) (H:Hp) (Q:Bool->Hp->Prop),Inv X pins σ H s->t σ H Q->We (model X.prog X.w) X.A (isTrue e X.env whole) (TP X pins σ Q) X.xe s
theorem PW.pt(h:PW X e t):PT X e t:=h _
def PA(X:Cx)(es:List Expr)(t:TA):Prop :=
 ∀ (pos:Pos) (pins:List (Addr×Obj)) (s:W3) (σ:St) (H:Hp) (Q:List V->Hp->Prop),Inv X pins σ H s->t σ H Q->We (model X.prog X.w) X.A (spliced (QK pos (Wk es X.env))) (AP X pins σ Q) X.xe s
def PS(X:Cx)(st:Stmt)(t:TS):Prop :=
 ∀ (pins:List (Addr×Obj)) (s:W3) (σ:St) (H:Hp) (D:Ends),Inv X pins σ H s->t D σ H->We (model X.prog X.w) X.A (exec st X.env) (SP X pins D) X.xe s
def dU(X:Cx)(st:List Stmt)(t:TS):Prop :=
 ∀ (pins:List (Addr×Obj)) (s:W3) (σ:St) (H:Hp) (D:Ends),Inv X pins σ H s->t D σ H->We (model X.prog X.w) X.A (execs st X.env) (SP X pins D) X.xe s
theorem aR(h:We M A t Q E s)(hQ:∀ a s,Q a s->Q' a s):We M A t Q' E s:=QF h hQ λ_ _ x=>x
section
variable {X:Cx}
theorem bin{a b:Expr}{ta tb:TE}(ha:PE X a ta)(hb:PE X b tb){pins:List (Addr×Obj)}{s:W3}{σ:St}{H:Hp}{R:V->V->Hp->Prop}(I:Inv X pins σ H s)(h:ta σ H λx H1=>tb σ H1 λy H2=>R x y H2)
  {α:Type} {Q:α->W3->Prop} {f:Value->Value->Sem α}
  (hf:∀ v u s2 x y H2,Inv X pins σ H2 s2->RelV x v->RelV y u->R x y H2->We (model X.prog X.w) X.A (f v u) Q X.xe s2) :
  We (model X.prog X.w) X.A (eval a X.env) (λv s₁=>We (model X.prog X.w) X.A (eval b X.env) (λu s₂=>We (model X.prog X.w) X.A (f v u) Q X.xe s₂) X.xe s₁) X.xe s:=by
 refine aR (ha pins s σ H _ I h) λv s1 ⟨x,H1,I1,r1,q1⟩=>?_
 refine aR (hb pins s1 σ H1 _ I1 q1) λu s2 ⟨y,H2,I2,r2,q2⟩=>?_
 exact hf v u s2 x y H2 I2 r1 r2 q2
def bZ(i:Nat):TE:=λσ H Q=>∃ v,σ[i]? = some (some v)/\Q v H
def tC(v:V):TE:=λ_ H Q=>Q v H
theorem Hn (hN:X.N[i]? = some x) (hv:r_ X.env.scope x) (hd:(x == ("__debug__" : Str))=false:=by decide) (ja:(x == ("__classdict__" : Str))=false:=by decide):PE X (.Name x pos) (bZ i):=by
 intro pins s σ H Q I h;obtain⟨v,e,h⟩:=h;obtain⟨m,hn,hl⟩:=I.loc;obtain⟨u,r,l⟩:=hl i x v hN e hv;have fin:EP X pins σ Q u s:=⟨v,H,I,r,h⟩
 rcases l with ⟨hk,hm⟩ | ⟨hk,c,hc,hcell⟩
 ·exact wpAny_Name (wpAny_loadName_local I.ok.kind hk hn hm fin) hd
 ·rcases hk with hk | hk
  ·exact wpAny_Name (wpAny_loadName_cell I.ok.kind hk hc hcell fin) hd
  ·exact wpAny_Name (wpAny_loadName_free I.ok.kind hk hc hcell fin ja) hd
theorem Ay{i j pos}:PE X (.Constant (.int i) j pos) (tC (.int i)):=λ_ _ _ H _ I h=>wpAny_Constant_int ⟨.int i,H,I.tok _,⟨_,rfl⟩,h⟩
theorem Ho{b j pos}:PE X (.Constant (.bool b) j pos) (tC (.bl b)):=λ_ _ _ H _ I h=>Constant_bool ⟨.bl b,H,I,rfl,h⟩
theorem Hq{j pos}:PE X (.Constant .none j pos) (tC .aJ):=λ_ _ _ H _ I h=>Constant_none ⟨.aJ,H,I,rfl,h⟩
theorem Az{x j pos}:PE X (.Constant (.str x) j pos) (tC (.str x)):=λ_ _ _ H _ I h=>Calls.Constant_str ⟨.str x,H,I.tok _,⟨_,rfl⟩,h⟩
def Gl(X:Cx)(x:Str):Prop:=X.env.kindOf x=some .globalImplicit
theorem Hr(I:Inv X pins σ H s)(hg:Gl X x)(hm:X.mg x=some u)(h:Q u s)
  (hd:(x == ("__debug__" : Str))=false:=by decide):We (model X.prog X.w) X.A (eval (.Name x pos) X.env) Q E s :=
 Calls.Name_function_global I.ok.kind hg (Calls.loadGlobal_global (by rw[I.ok.glob]; exact I.mod.glob.keeps I.bk) hm h) hd
theorem pX(I:Inv X pins σ H s)(hg:Gl X x)(hm:X.mg x=none)(hv:QC x=some u)(h:Q u s)
  (hn:x≠"__name__":=by decide) (hd:(x == ("__debug__" : Str))=false:=by decide):We (model X.prog X.w) X.A (eval (.Name x pos) X.env) Q E s:=by
 obtain⟨mb,h1,h2⟩:=I.mod.blt;exact Calls.Name_function_global I.ok.kind hg (Calls.loadGlobal_builtin (by rw[I.ok.glob]; exact I.mod.glob.keeps I.bk) hm (by rw[I.ok.blt]; exact h1.keeps I.bk) ((h2 x hn).trans hv) h) hd
theorem Ht (hg:Gl X x) (hm:X.mg x=none) (hv:QC x=some u) (r:RelV v u) (hn:x≠"__name__":=by decide) (hd:(x == ("__debug__" : Str))=false:=by decide):PE X (.Name x pos) (tC v) :=
 λ_ _ _ H _ I h=>pX I hg hm hv ⟨v,H,I,r,h⟩ hn hd
variable {a b:Expr} {ta tb:TE} {pos:Pos}
def PC(X:Cx)(op:CmpOp)(a b:Expr)(t:TE):Prop :=
 ∀ (pins:List (Addr×Obj)) (s:W3) (σ:St) (H:Hp) (Q:VK),Inv X pins σ H s->t σ H Q ->
  We (model X.prog X.w) X.A (eval a X.env) (λv s₁=>We (model X.prog X.w) X.A (eval b X.env) (λu s₂=>We (model X.prog X.w) X.A (WM op v u) (EP X pins σ Q) X.xe s₂) X.xe s₁) X.xe s
theorem Hu(b:Expr)(h:op≠.In)(h2:op≠.NotIn):Qu op b=false:=by
 have e1:(op == CmpOp.In)=false:=by cases op <;> first | rfl | exact absurd rfl h
 have e2:(op == CmpOp.NotIn)=false:=by cases op <;> first | rfl | exact absurd rfl h2
 cases b <;> simp[Qu,e1,e2]
def tB(t:TE):TT:=λσ H Q=>t σ H λx H1=>∃ c,x = .bl c/\Q c H1
theorem UY(h:PC X op a b t)(h1:Qu op b=false:=by first | exact Hu _ (by decide) (by decide) | rfl):PT X (.Compare a [op] [b] pos) (tB t):=by
 intro pins s σ H Q I hw;refine wpAny_isTrue_Compare1 (aR (h pins s σ H _ I hw) λv s1 h1=>aR h1 λu s2 h2=>aR h2 λc s3 ⟨x,H1,I1,r1,q1⟩=>?_) h1;obtain⟨d,rfl,q⟩:=q1
 cases r1;exact Qp ⟨H1,I1,q⟩
theorem Hv(h:PE X e t)(he:∀ whole,isTrue e X.env whole=(do let v <- whole; standAt e.pos; holding [v] (truthy v)):=by intro _; rfl):PT X e (tB t):=by
 intro pins s σ H Q I hw;refine isTrue_plain (aR (h pins s σ H _ I hw) λv s1 ⟨x,H1,I1,r1,q1⟩=>?_) (he _);obtain⟨d,rfl,q⟩:=q1
 cases r1;exact Qp ⟨H1,I1,q⟩
variable {tA sk:TT} {rest:List Expr}
def Hw(t u:TT):TT:=λσ H Q=>t σ H λc H1=>if c=true then u σ H1 Q else Q false H1
def Hx(t u:TT):TT:=λσ H Q=>t σ H λc H1=>if c=true then Q true H1 else u σ H1 Q
def Hy(t:TT):TT:=λσ H Q=>t σ H λc H1=>Q (!c) H1
theorem Hz(ha:PT X a tA):PW X (.BoolOp .And [a] pos) tA:=by
 intro wh pins s σ H Q I h;refine isTrue_and (aR (ha pins s σ H Q I h) λc s1 e=>?_)
 cases c with
 | true=>exact isTrue_and_nil e
 | false=>exact e
theorem HA(ha:PT X a tA):PW X (.BoolOp .Or [a] pos) tA:=by
 intro wh pins s σ H Q I h;refine isTrue_or (aR (ha pins s σ H Q I h) λc s1 e=>?_)
 cases c with
 | false=>exact isTrue_or_nil e
 | true=>exact e
theorem HB(ha:PT X a tA)(hb:PW X (.BoolOp .And (b :: rest) pos) sk):PW X (.BoolOp .And (a :: b :: rest) pos) (Hw tA sk):=by
 intro wh pins s σ H Q I h;refine isTrue_and (aR (ha pins s σ H _ I h) λc s1 ⟨H1,I1,q1⟩=>?_)
 cases c with
 | true=>exact hb wh pins s1 σ H1 Q I1 q1
 | false=>exact⟨H1,I1,q1⟩
theorem pw_or(ha:PT X a tA)(hb:PW X (.BoolOp .Or (b :: rest) pos) sk):PW X (.BoolOp .Or (a :: b :: rest) pos) (Hx tA sk):=by
 intro wh pins s σ H Q I h;refine isTrue_or (aR (ha pins s σ H _ I h) λc s1 ⟨H1,I1,q1⟩=>?_)
 cases c with
 | true=>exact⟨H1,I1,q1⟩
 | false=>exact hb wh pins s1 σ H1 Q I1 q1
theorem HC(ha:PT X a tA):PT X (.UnaryOp .Not a pos) (Hy tA):=by
 intro pins s σ H Q I h;exact isTrue_not (ha pins s σ H (λc H1=>Q (!c) H1) I h)
def HD(ta tb:TE):TE:=λσ H Q=>ta σ H λx H1=>∃ c,x = .bl c/\if c=true then tb σ H1 Q else Q (.bl false) H1
def HE(ta:TE):TE:=λσ H Q=>ta σ H λx H1=>∃ c,x = .bl c/\Q (.bl (!c)) H1
theorem HF{op}(h:PE X a t):PE X (.BoolOp op [a] pos) t:=λpins s σ H Q I hw=>BoolOp_one (h pins s σ H Q I hw)
theorem HG(ha:PE X a ta)(hb:PE X (.BoolOp .And (b :: rest) pos) tb):PE X (.BoolOp .And (a :: b :: rest) pos) (HD ta tb):=by
 intro pins s σ H Q I h;refine BoolOp_and (aR (ha pins s σ H _ I h) λv s1 ⟨x,H1,I1,r1,q1⟩=>?_);obtain⟨c,rfl,q1⟩:=q1
 cases r1;refine Qp ?_
 cases c with
 | true=>exact hb pins s1 σ H1 Q I1 q1
 | false=>exact⟨.bl false,H1,I1,rfl,q1⟩
theorem HH(ha:PE X a ta):PE X (.UnaryOp .Not a pos) (HE ta):=by
 intro pins s σ H Q I h;refine UnaryOp_ (aR (ha pins s σ H _ I h) λv s1 ⟨x,H1,I1,r1,q1⟩=>?_);obtain⟨c,rfl,q1⟩:=q1
 cases r1;exact not_of (Qp ⟨.bl (!c),H1,I1,rfl,q1⟩)
def HI(t:TT)(ta tb:TE):TE:=λσ H Q=>t σ H λc H1=>if c=true then ta σ H1 Q else tb σ H1 Q
theorem HJ(hc:PT X c tA)(ha:PE X a ta)(hb:PE X b tb):PE X (.IfExp c a b pos) (HI tA ta tb):=by
 intro pins s σ H Q I h;refine wpAny_IfExp (aR (hc pins s σ H _ I h) λd s1 ⟨H1,I1,q1⟩=>?_)
 cases d with
 | true=>exact ha pins s1 σ H1 Q I1 q1
 | false=>exact hb pins s1 σ H1 Q I1 q1
end
def cq(K:W2)(H:Hp)(a:Addr)(xs:List V):Prop :=
 Rd H a (.lst xs) \/
  ∃ (o:Obj) (ae:Array Value) (n:Nat),K.lookup a=some o/\o.cls = .type "list"/\o.dict=none/\o.data = .seq ae n/\ae.size<=Wc/\Vals xs ae.toList
def cL(K:W2)(H:Hp)(a:Addr)(xs:List V):Prop :=
 Rd H a (.tup xs) \/
  ∃ (o:Obj) (ae:Array Value) (n:Nat),K.lookup a=some o/\o.cls = .type "tuple"/\o.data = .seq ae n/\ae.size<=Wc/\Vals xs ae.toList
def HK:Value->Option V
 | .none=>some .aJ
 | .bool b=>some (.bl b)
 | .int i _=>some (.int i)
 | .str x _=>some (.str x)
 | .bytes b _=>some (.byt b)
 | .float b _=>some (.flt b)
 | .ref a=>some (.ref a)
 | .type n=>some (.ty n)
 | _=>none
theorem RelV.abs(r:RelV x u):HK u=some x:=by
 cases x with
 | aJ=>cases r; rfl
 | bl _=>cases r; rfl
 | int _=>obtain⟨t,rfl⟩:=r; rfl
 | str _=>obtain⟨t,rfl⟩:=r; rfl
 | byt _=>obtain⟨t,rfl⟩:=r; rfl
 | flt _=>obtain⟨t,rfl⟩:=r; rfl
 | ref _=>cases r; rfl
 | ty _=>cases r; rfl
theorem RelV.inj(r:RelV x u)(q:RelV y u):x=y:=Wx (r.abs.symm.trans q.abs)
theorem Vals.inj:∀ {xs ys:List V} {us:List Value},Vals xs us->Vals ys us->xs=ys
 | _,_,_,.nil,.nil=>rfl
 | _,_,_,.cons r t,.cons r' t'=>by rw[r.inj r',Vals.inj t t']
section
variable {X:Cx} {pins:List (Addr×Obj)} {σ:St} {H:Hp} {s:W3} {a:Addr} {xs ys:List V}
theorem cq.of{K:W2}(h:H a=some (.lst xs)):cq K H a xs:=.inl (.inl h)
theorem cL.of{K:W2}(h:H a=some (.tup xs)):cL K H a xs:=.inl (.inl h)
theorem Inv.list(I:Inv X pins σ H s)(h:cq X.K H a xs):∃ ae:List Value,Vals xs ae/\PlainL s.heap a ae.toArray/\xs.length<=Wc:=by
 rcases h with h | ⟨o,ae,n,hk,hc,hd,hs,hz,r⟩
 ·obtain⟨z,ae,n,r,e⟩:=h.ok I.aG;exact⟨ae,r,⟨_,n,e,rfl,rfl,rfl⟩,z⟩
 ·refine⟨ae.toList,r,⟨o,n,I.fJ a o hk,hc,hd,by simpa using hs⟩,?_⟩;have e:=r.length;simp only[QS] at e;omega
theorem Inv.tuple(I:Inv X pins σ H s)(h:cL X.K H a xs):∃ ae:List Value,Vals xs ae/\IsTup s.heap a ae.toArray/\xs.length<=Wc:=by
 rcases h with h | ⟨o,ae,n,hk,hc,hs,hz,r⟩
 ·obtain⟨z,ae,r,p⟩:=h.ok I.aG;exact⟨ae,r,p.tup,z⟩
 ·refine⟨ae.toList,r,⟨o,I.fJ a o hk,hc,n,by simpa using hs⟩,?_⟩;have e:=r.length;simp only[QS] at e;omega
theorem Inv.AA(I:Inv X pins σ H s)(h:cq X.K H a xs)(h':cq X.K H a ys):xs=ys:=by
 obtain⟨ae,r,⟨o,n,e,_,_,d⟩,_⟩:=I.list h;obtain⟨its',r',⟨o',n',e',_,_,d'⟩,_⟩:=I.list h';rw[e] at e'; cases e'
 rw[d] at d';injection d' with d1 _
 have:ae=its':=by simpa using congrArg Array.toList d1
 subst this;exact r.inj r'
theorem Inv.AB(I:Inv X pins σ H s)(h:cL X.K H a xs)(h':cL X.K H a ys):xs=ys:=by
 obtain⟨ae,r,⟨o,e,_,n,d⟩,_⟩:=I.tuple h;obtain⟨its',r',⟨o',e',_,n',d'⟩,_⟩:=I.tuple h';rw[e] at e'; cases e'
 rw[d] at d';injection d' with d1 _
 have:ae=its':=by simpa using congrArg Array.toList d1
 subst this;exact r.inj r'
end
abbrev Cx.jK(X:Cx)(E:Value->W3->Prop):Cx:={ X with xe:=E }
abbrev Cx.oi(X:Cx):Cx:=X.jK λ_ _=>False
theorem Cx.Ok.jK{X:Cx}(ok:X.Ok)(E:Value->W3->Prop):(X.jK E).Ok :=
 ⟨ok.mod,ok.kind,ok.glob,ok.blt,ok.above,ok.inj,ok.has,ok.pQ,ok.hd,ok.frames,ok.sd,ok.se,ok.bs,ok.ly,ok.pR,ok.pS,ok.i8,ok.oh⟩
theorem Cx.Ok.lA{X:Cx}{E:Value->W3->Prop}(ok:(X.jK E).Ok):X.Ok :=
 ⟨ok.mod,ok.kind,ok.glob,ok.blt,ok.above,ok.inj,ok.has,ok.pQ,ok.hd,ok.frames,ok.sd,ok.se,ok.bs,ok.ly,ok.pR,ok.pS,ok.i8,ok.oh⟩
section
variable {X:Cx} {pins:List (Addr×Obj)} {σ:St} {H:Hp} {s:W3} {E:Value->W3->Prop}
theorem Inv.jK(I:Inv X pins σ H s)(E:Value->W3->Prop):Inv (X.jK E) pins σ H s:=⟨I.ok.jK E,I.os,I.bare,I.base,I.loc,I.cell,I.free,I.i9,I.pin,I.aG,I.len⟩
theorem Inv.lA(I:Inv (X.jK E) pins σ H s):Inv X pins σ H s:=⟨I.ok.lA,I.os,I.bare,I.base,I.loc,I.cell,I.free,I.i9,I.pin,I.aG,I.len⟩
theorem SP.lA(h:SP (X.jK E) pins D f s'):SP X pins D f s':=by
 cases f with
 | next=>obtain⟨σ',H',I,q⟩:=h; exact⟨σ',H',I.lA,q⟩
 | brk=>obtain⟨σ',H',I,q⟩:=h; exact⟨σ',H',I.lA,q⟩
 | cont=>obtain⟨σ',H',I,q⟩:=h; exact⟨σ',H',I.lA,q⟩
 | ret u=>obtain⟨v,σ',H',I,r,q⟩:=h; exact⟨v,σ',H',I.lA,r,q⟩
theorem dU.oi{st:List Stmt}{t:TS}(h:dU X.oi st t):dU X st t:=λpins s σ H D I hw =>
 QF (h pins s σ H D (I.jK _) hw) (λ_ _ q=>q.lA) λ_ _ z=>False.elim z
end
section
variable {X:Cx} {st:Stmt} {rest:List Stmt} {t u:TS} {e:Expr} {te:TE} {pos:Pos}
def HL:TS:=λD σ H=>D.nx σ H
def HM(t u:TS):TS:=λD σ H=>t { D with nx:=u D } σ H
theorem HN:dU X [] HL:=λ_ _ σ H _ I h=>wpAny_execs_nil ⟨σ,H,I,h⟩
theorem so(h1:PS X st t)(h2:dU X rest u):dU X (st :: rest) (HM t u):=by
 intro pins s σ H D I h;refine wpAny_execs_cons (aR (h1 pins s σ H { D with nx:=u D } I h) λf s1 q=>?_)
 cases f with
 | next =>
  obtain⟨σ',H',I',q⟩:=q;exact h2 pins s1 σ' H' D I' q
 | ret v=>exact q
 | brk=>exact q
 | cont=>exact q
theorem AD(h1:PS X st t):dU X [st] t:=by
 intro pins s σ H D I h;refine wpAny_execs_cons (aR (h1 pins s σ H D I h) λf s1 q=>?_)
 cases f with
 | next=>exact wpAny_execs_nil q
 | ret v=>exact q
 | brk=>exact q
 | cont=>exact q
theorem Inv.quiet(I:Inv X pins σ H s):interactive X.env=false:=by simp[interactive,I.ok.kind]
def AE(te:TE):TS:=λD σ H=>te σ H λ_ H1=>D.nx σ H1
theorem HP(he:PE X e te)(hs:Jq e none pos.line X.env=pure false:=by rfl):PS X (.Expr e pos) (AE te):=by
 intro pins s σ H D I h;exact wpAny_Expr_any (aR (he pins s σ H _ I h) λv s1 ⟨x,H1,I1,r1,q1⟩=>⟨σ,H1,I1,q1⟩) I.quiet hs
def HQ(te:TE):TS:=λD σ H=>te σ H D.rt
theorem AF(he:PE X e te):PS X (.Return (some e) pos) (HQ te):=by
 intro pins s σ H D I h;exact wpAny_Return_some (aR (he pins s σ H _ I h) λv s1 ⟨x,H1,I1,r1,q1⟩=>⟨x,σ,H1,I1,r1,q1⟩)
def HR(c:TT)(t u:TS):TS:=λD σ H=>c σ H λb H1=>if b=true then t D σ H1 else u D σ H1
theorem HS(hc:PT X c tc)(ha:dU X a t)(hb:dU X b u):PS X (.If c a b pos) (HR tc t u):=by
 intro pins s σ H D I h;refine wpAny_If (aR (hc pins s σ H _ I h) λd s1 ⟨H1,I1,q1⟩=>?_)
 cases d with
 | true=>exact ha pins s1 σ H1 D I1 q1
 | false=>exact hb pins s1 σ H1 D I1 q1
end
abbrev TG:=V->St->Hp->(St->Hp->Prop)->Prop
abbrev lC:=List V->St->Hp->(St->Hp->Prop)->Prop
def PG(X:Cx)(target:Expr)(t:TG):Prop :=
 ∀ (pins:List (Addr×Obj)) (s:W3) (σ:St) (H:Hp) (v:V) (u:Value) (Q:St->Hp->Prop),Inv X pins σ H s->RelV v u->t v σ H Q ->
  We (model X.prog X.w) X.A (assign target X.env u) (λ_ s'=>∃ σ' H',Inv X pins σ' H' s'/\Q σ' H') X.xe s
def gX(X:Cx)(ts:List Expr)(t:lC):Prop :=
 ∀ (pins:List (Addr×Obj)) (s:W3) (σ:St) (H:Hp) (vs:List V) (us:List Value) (Q:St->Hp->Prop),Inv X pins σ H s->Vals vs us->t vs σ H Q ->
  We (model X.prog X.w) X.A (assignInOrder ((Qf ts X.env).map (·.2)) us) (λ_ s'=>∃ σ' H',Inv X pins σ' H' s'/\Q σ' H') X.xe s
abbrev AG:=V->V->V->Hp->(Hp->Prop)->Prop
def AH(X:Cx)(t:AG):Prop :=
 ∀ (pins:List (Addr×Obj)) (s:W3) (σ:St) (H:Hp) (o i v:V) (ov iv u:Value) (Q:Hp->Prop),Inv X pins σ H s->RelV o ov->RelV i iv->RelV v u->t o i v H Q ->
  We (model X.prog X.w) X.A (setItem ov iv u) (λ_ s'=>∃ H',Inv X pins σ H' s'/\Q H') X.xe s
section
variable {X:Cx} {pos:Pos}
def sr(i:Nat):TG:=λv σ H Q=>Q (σ.set i (some v)) H
theorem AI(hN:X.N.Nodup)(hi:X.N[i]? = some x)(hx:Loc X.env.scope x)(hf:X.fn x=true\/X.env.scope.names.lookup x=some .local:=by first | exact .inl rfl | exact .inr rfl | assumption):PG X (.Name x pos) (sr i):=by
 intro pins s σ H v u Q I r h;exact wpAny_assign_Name (sj I hN hi hx r (λs' I'=>⟨_,H,I',h⟩) hf)
def HU:lC:=λvs σ H Q=>vs=[]/\Q σ H
def HV(t:TG)(u:lC):lC:=λvs σ H Q=>∃ v r,vs=v :: r/\t v σ H λσ' H'=>u r σ' H' Q
theorem AJ:gX X [] HU:=by
 intro pins s σ H vs us Q I r h;obtain⟨e,h⟩:=h;subst e
 cases r;exact assignInOrder_nil ⟨σ,H,I,h⟩
theorem AK(h1:PG X e t)(h2:gX X es u)
  (hs:(Qf (e :: es) X.env).map (·.2)=assign e X.env :: (Qf es X.env).map (·.2):=by rfl):gX X (e :: es) (HV t u):=by
 intro pins s σ H vs us Q I r h;obtain⟨v,vr,e1,h⟩:=h;subst e1
 cases r with
 | cons r rr =>
  rw[hs];refine assignInOrder_cons (aR (h1 pins s σ H _ _ _ I r h) λ_ s1 ⟨σ1,H1,I1,q1⟩=>?_);exact h2 pins s1 σ1 H1 _ _ Q I1 rr q1
def HW(K:W2)(n:Nat)(t:lC):TG:=λv σ H Q=>∃ a xs,v = .ref a/\cL K H a xs/\xs.length=n/\t xs σ H Q
theorem AL(hc:X.calm=true)(h:gX X es t)
  (hn:(Qf es X.env).length=n:=by rfl) (jL:(Qf es X.env).findIdx? (·.1)=none:=by rfl):PG X (.Tuple es k pos) (HW X.K n t):=by
 intro pins s σ H v u Q I r hw;obtain⟨a,xs,e1,hq,hl,hw⟩:=hw;subst e1
 cases r;obtain⟨ae,rv,ht,hz⟩:=I.tuple hq;refine assign_Tuple_tuple (I.ok.hd hc) ht (by simp[hn,<- hl,rv.length]) jL λh' hx=>?_
 have I1:Inv X pins σ H { s with heap:=h' }:=I.kept (t':=s.toks) λb o e=>hx b o (WP (Wr e)) e
 exact h pins _ σ H xs _ Q I1 (by simpa using rv) hw
def AM(to ti:TE)(t:AG):TG:=λv σ H Q=>to σ H λo H1=>ti σ H1 λi H2=>t o i v H2 λH3=>Q σ H3
theorem AN(ho:PE X o to)(hi:PE X i ti)(hs:AH X t)
  (ha:∀ v,assign (.Subscript o i pos) X.env v=(do
   let ov <- holding [v] (eval o X.env)
   let iv <- holding [v,ov] (eval i X.env)
   standAt pos
   holding [v,ov,iv] (setItem ov iv v)
   release [v,ov,iv] []):=by intro _; rfl):PG X (.Subscript o i pos) (AM to ti t):=by
 intro pins s σ H v u Q I r h;rw[ha];refine W0 (Ql (aR (ho pins s σ H _ I h) λov s1 ⟨x,H1,I1,r1,q1⟩=>?_));refine W0 (Ql (aR (hi pins s1 σ H1 _ I1 q1) λiv s2 ⟨y,H2,I2,r2,q2⟩=>?_));refine W0 (wpAny_standAt (W0 (Ql (aR (hs pins s2 σ H2 x y v ov iv u _ I2 r1 r2 r q2) λ_ s3 ⟨H3,I3,q3⟩=>?_))));exact wpAny_release ⟨σ,H3,I3,q3⟩
def pY(te:TE)(g:TG):TS:=λD σ H=>te σ H λx H1=>g x σ H1 D.nx
theorem vo(he:PE X e te)(hg:PG X tg g)(hs:Jr [tg] e pos.line X.env=pure false:=by rfl)(hw:Js [tg] e X.env=pure none:=by rfl)
  (h1:(Qf [tg] X.env).map (·.2)=[assign tg X.env]:=by rfl):PS X (.Assign [tg] e pos) (pY te g):=by
 intro pins s σ H D I h;refine wpAny_Assign_stores (aR (he pins s σ H _ I h) λv s1 ⟨x,H1,I1,r1,q1⟩=>?_) hs hw;rw[h1];exact aR (hg pins s1 σ H1 x v _ I1 r1 q1) λ_ s2 q=>q
theorem HX(hN:X.N.Nodup)(hi:X.N[i]? = some x)(hx:Loc X.env.scope x)(he:PE X e te)(hs:Jq e (some (.Name x pos')) pos.line X.env=pure false:=by rfl)(hf:X.fn x=true\/X.env.scope.names.lookup x=some .local:=by first | exact .inl rfl | exact .inr rfl | assumption) :
  PS X (.Assign [.Name x pos'] e pos) (pY te (sr i)):=by
 intro pins s σ H D I h;refine wpAny_Assign_Name (aR (he pins s σ H _ I h) λv s1 ⟨y,H1,I1,r1,q1⟩=>?_) hs;exact sj I1 hN hi hx r1 (λs2 I2=>⟨_,H1,I2,q1⟩) hf
def HY(i j:Nat)(ta:TA):TS:=λD σ H=>ta σ H λvs H1=>∃ v w,vs=[v,w]/\D.nx ((σ.set i (some v)).set j (some w)) H1
theorem HZ{kt k2 pt2}(hc:X.calm=true)(hN:X.N.Nodup)(hi:X.N[i]? = some x)(hj:X.N[j]? = some y)(pZ:i≠j)
  (hx:X.env.scope.names.lookup x=some .local) (hy:X.env.scope.names.lookup y=some .local) (ha:PA X [a,b] ta)
  (hw:Js [.Tuple [.Name x px,.Name y py] kt pt] (.Tuple [a,b] k2 pt2) X.env=pure (some [x,y]))
  (hs:Jr [.Tuple [.Name x px,.Name y py] kt pt] (.Tuple [a,b] k2 pt2) pos.line X.env=pure false:=by rfl) :
  PS X (.Assign [.Tuple [.Name x px,.Name y py] kt pt] (.Tuple [a,b] k2 pt2) pos) (HY i j ta):=by
 intro pins s σ H D I h;rw[exec_Assign_arm];refine W0 (wpAny_standAt ?_);rw[hs];refine W0 (W7 ?_);rw[if_neg (by decide)];refine W0 (Tuple_ (aR (ha _ pins s σ H _ I h) λus s1 ⟨vs,H1,I1,r1,q1⟩=>?_));obtain⟨v,w,e1,q1⟩:=q1;subst e1;obtain⟨u1,u2,rfl,rv,aK⟩:∃ u1 u2,us=[u1,u2]/\RelV v u1/\RelV w u2:=by
  cases r1 with
  | cons p q =>
   cases q with
   | cons p' q' =>
    cases q';exact⟨_,_,rfl,p,p'⟩
 refine Q0 ?_ (by show 2<=Wc; decide);have I2:Inv X pins σ H1 { s1 with heap:=s1.heap.push { cls:=.type "tuple",data:=.seq [u1,u2].toArray } }:=I1.kept (t':=s1.toks) λb o e=>Wd _ e
 rw[hw];refine W0 (W7 ?_);show We (model X.prog X.w) X.A (do rule "assign.swapped-stores"; let items <- unpackItems (.ref s1.heap.objs.size) 2 none; assignInOrder [λv=>bindName X.env y v,λv=>bindName X.env x v] items.reverse; pure Flow.next) _ _ _;refine W0 (J3 (W0 (unpackItems_tuple (items:=#[u1,u2]) (I.ok.hd hc) (IsTup.new s1.heap _) λh' kn=>?_)));have I3:=I2.kept (h':=h') (t':=s1.toks) λb o e=>kn b o (WP (Wr e)) e
 show We _ _ (assignInOrder [λv=>bindName X.env y v,λv=>bindName X.env x v] [u2,u1] >>= λ_=>pure Flow.next) _ _ _;refine W0 (assignInOrder_cons (wpAny_bindName (sj I3 hN hj (.inl hy) aK (λs2 I4=>?_) (.inr hy))));refine assignInOrder_cons (wpAny_bindName (sj I4 hN hi (.inl hx) rv (λs3 I5=>assignInOrder_nil (W7 ?_)) (.inr hx)));rw[List.set_comm _ _ (Ne.symm pZ)] at I5;exact⟨_,H1,I5,q1⟩
end
section
variable {X:Cx} {pos:Pos}
def AO(c:TT)(tb:TS):TS:=λD σ H=>∃ W:Nat->St->Hp->Prop,(∃ m,W m σ H)/\∀ m σ H,W m σ H ->
 c σ H λb H1=>if b=true then ∃ N:St->Hp->Prop,(∀ σ' H',N σ' H'->∃ m',m' < m/\W m' σ' H')/\tb { D with nx:=N,ct:=N,bk:=D.nx } σ H1 else D.nx σ H1
theorem vp(hp:PassesOwn (model X.prog X.w) X.A X.env X.xe)(hc:PT X c tc)(hb:dU X body tb):PS X (.While c body [] pos) (AO tc tb):=by
 intro pins s σ H D I h;obtain⟨W,⟨m0,w0⟩,turn⟩:=h;refine wpAny_While (codeAny_whileLoop (λn s'=>∃ σ' H',Inv X pins σ' H' s'/\W n σ' H') ?_ m0 ⟨σ,H,I,w0⟩);rintro n s1 ⟨σ1,H1,I1,w1⟩;refine QX hp (aR (hc pins s1 σ1 H1 _ I1 (turn n σ1 H1 w1)) λb s2 ⟨H2,I2,q2⟩=>?_)
 cases b with
 | true =>
  obtain⟨N,hN,q2⟩:=q2;rw[if_pos rfl];refine QX hp (aR (hb pins s2 σ1 H2 _ I2 q2) λf s3 q3=>?_)
  cases f with
  | next =>
   obtain⟨σ3,H3,I3,n3⟩:=q3;obtain⟨m',hm,w3⟩:=hN σ3 H3 n3;exact⟨m',hm,σ3,H3,I3,w3⟩
  | cont =>
   obtain⟨σ3,H3,I3,n3⟩:=q3;obtain⟨m',hm,w3⟩:=hN σ3 H3 n3;exact⟨m',hm,σ3,H3,I3,w3⟩
  | brk=>exact q3
  | ret v=>exact q3
 | false =>
  rw[if_neg WJ];exact wpAny_execs_nil ⟨σ1,H2,I2,q2⟩
end
structure It where
 go:Nat->Hp->Prop
 p_:Nat->Hp->V->Hp->Prop
 stop:Nat->Hp->Prop
def gf(X:Cx)(pins:List (Addr×Obj))(H:Hp)(b:Addr):Prop :=
 H b=none/\b≠X.env.locals/\b ∉ X.fs/\(b ∈ X.ex\/X.s₀.heap.objs.size<=b)/\(∀ x c,X.env.cells.lookup x=some c->c≠b)/\∀ p ∈ X.pn ++ pins,p.1≠b
theorem Inv.jM(I:Inv X pins σ H s)(hb:s.heap.objs.size<=b)(hn:H' b=none):gf X pins H' b:=by
 refine⟨hn,Jc (Ww I.lt hb),I.Hk hb,.inr (Wu I.sz hb),λx c e z=>?_,λp hp z=>?_⟩
 ·obtain⟨v,q⟩:=I.cell x c e;exact absurd (Ww q.lt (by rw[z]; exact hb)) (Qt _)
 ·exact absurd (Ww (Wr (I.pin p hp).1) (by rw[z]; exact hb)) (Qt _)
structure Turn(P:Wm)(w:Ws)(K:W2)(tg:Expr)(J:It)(fp:List Addr)(it:Addr)(tn:Nat->Heap->Prop):Prop where
 mem:it ∈ fp
 obj:∀ i h,tn i h->∀ b ∈ fp,∃ o,h.get? b=some o/\∀ v,o.data≠.cell v
 keep:∀ i h h',tn i h->(∀ b ∈ fp,∀ o,h.get? b=some o->h'.get? b=some o)->tn i h'
 item:∀ (X:Cx),X.prog=P->X.w=w->X.K=K->X.calm=true->∀ (i:Nat) (pins:List (Addr×Obj)) (s:W3) (σ:St) (H:Hp) (E:Value->W3->Prop),Inv X pins σ H s->(∀ b ∈ fp,gf X pins H b)->tn i s.heap->J.go i H ->
  We (model P w) X.A (J2 (.ref it)) (λr s1=>∃ u,r=some u /\
   We (model P w) X.A (letOwnedTupleGo tg (.ref it) u) (λ_ s2=>∃ x H',Inv X pins σ H' s2/\RelV x u/\J.p_ i H x H'/\tn (i + 1) s2.heap/\∀ b ∈ fp,H' b=none) E s1) E s
 done:∀ (X:Cx),X.prog=P->X.w=w->X.K=K->X.calm=true->∀ (i:Nat) (pins:List (Addr×Obj)) (s:W3) (σ:St) (H:Hp) (E:Value->W3->Prop),Inv X pins σ H s->(∀ b ∈ fp,gf X pins H b)->tn i s.heap->J.stop i H ->
  We (model P w) X.A (J2 (.ref it)) (λr s1=>r=none/\Inv X pins σ H s1) E s
 self:∀ (A:Wt) (i:Nat) (s:W3) (Q:Value->W3->Prop) (E:Value->W3->Prop),tn i s.heap->Q (.ref it) s->We (model P w) A (pyIter (.ref it)) Q E s
abbrev TI:=St->Hp->(It->Hp->Prop)->Prop
def AQ(X:Cx)(pins:List (Addr×Obj))(σ:St)(tg:Expr)(R:It->Hp->Prop)(su:Value)(s2:W3):Prop :=
 ∃ (it:Addr) (fp:List Addr) (tn:Nat->Heap->Prop) (J:It) (H':Hp),su = .ref it/\Inv X pins σ H' s2/\Turn X.prog X.w X.K tg J fp it tn/\tn 0 s2.heap/\(∀ b ∈ fp,gf X pins H' b)/\R J H'
def PI(X:Cx)(tg iter:Expr)(wi:TI):Prop :=
 ∀ (pins:List (Addr×Obj)) (s:W3) (σ:St) (H:Hp) (R:It->Hp->Prop),Inv X pins σ H s->wi σ H R ->
  We (model X.prog X.w) X.A (eval iter X.env) (λv s1=>We (model X.prog X.w) X.A (pyIter v) (AQ X pins σ tg R) X.xe s1) X.xe s
theorem sv(ho:s.heap.get? it=some o)(hc:o.cls = .type n)(hd:o.data = .fields vs)
  (hn:["enumerate","zip","dict_itemiterator","dict_reverseitemiterator","odict_iterator","itertools.zip_longest","itertools.pairwise"].contains n=false) (hQ:Q () s):We M A (letOwnedTupleGo tg (.ref it) u) Q E s:=by
 unfold letOwnedTupleGo
 cases tg <;> first
  | exact W7 hQ
  | (cases u <;> first
    | exact W7 hQ
    | (refine W0 (wpAny_load ho ?_); rw[hc,hd]; show We M A (if (["enumerate","zip","dict_itemiterator","dict_reverseitemiterator","odict_iterator","itertools.zip_longest","itertools.pairwise"].contains n && vs[0]? == some (rawInt _))=true then _ else _) Q E s; rw[if_neg (by intro h; rw[hn,Bool.false_and] at h; cases h)]; exact W7 hQ))
def AR(K:W2)(a:Addr):It :=
 ⟨λi H=>∃ xs x,cq K H a xs/\xs[i]? = some x,λi H x H'=>H'=H/\∀ xs,cq K H a xs->xs[i]? = some x,λi H=>∃ xs,cq K H a xs/\xs.length<=i⟩
def vq(K:W2)(a:Addr):It :=
 ⟨λi H=>∃ xs x,cL K H a xs/\xs[i]? = some x,λi H x H'=>H'=H/\∀ xs,cL K H a xs->xs[i]? = some x,λi H=>∃ xs,cL K H a xs/\xs.length<=i⟩
def sx(lo:Int)(n:Nat):It:=⟨λi _=>i < n,λi H x H'=>H'=H/\x = .int (lo + i),λi _=>n<=i⟩
theorem H_{P:Wm}{w:Ws}{K:W2}{tg:Expr}(a it:Addr):Turn P w K tg (AR K a) [it] it (λi h=>h.IsListIter it a i) where
 mem:=by simp
 obj:=λi h st b hb=>by
  have e:b=it:=by simpa using hb
  subst e;obtain⟨o,e,c,d⟩:=st;exact⟨o,e,λv z=>by rw[d] at z; cases z⟩
 keep:=λi h h' st k=>st.at λo e=>k it (by simp) o e
 item:=by
  intro X hP hw hK hc i pins s σ H E I hf st hg;subst hP hw hK;obtain⟨xs,x,hq,hx⟩:=hg;obtain⟨ae,rv,p,hz⟩:=I.list hq;obtain⟨u,hu,ru⟩:=rv.get hx;obtain⟨f0,f1,f2,f3,f4,f5⟩:=hf it (by simp);refine wpAny_pyNext_list_item st p.isList (x:=u) (by simpa using hu) λh' gu sb=>?_
  have I1:Inv X pins σ H { s with heap:=h' }:=I.turned (t':=s.toks) (λb o hb e=>(sb.2 b hb).trans e) f0 f1 f3 f4 f5;obtain⟨o,e,c,d⟩:=id gu;exact⟨u,rfl,sv (s:={ s with heap:=h' }) e c d (by decide) ⟨x,H,I1,ru,⟨rfl,λys hy=>by rw[I.AA hy hq]; exact hx⟩,gu,λb hb=>(hf b hb).1⟩⟩
 done:=by
  intro X hP hw hK hc i pins s σ H E I hf st hg;subst hP hw hK;obtain⟨xs,hq,hx⟩:=hg;obtain⟨ae,rv,p,hz⟩:=I.list hq;obtain⟨f0,f1,f2,f3,f4,f5⟩:=hf it (by simp);have hl:=rv.length;exact wpAny_pyNext_list_end (I.ok.hd hc) st p.isList (by simp; omega) λh' eb=>⟨rfl,I.turned (t':=s.toks) (λb o hb e=>eb b o hb e) f0 f1 f3 f4 f5⟩
 self:=λ_ _ _ _ _ st h=>wpAny_pyIter_listiter st h
theorem Ia{P:Wm}{w:Ws}{K:W2}{tg:Expr}(a it:Addr):Turn P w K tg (vq K a) [it] it (λi h=>h.IsTupleIter it a i) where
 mem:=by simp
 obj:=λi h st b hb=>by
  have e:b=it:=by simpa using hb
  subst e;obtain⟨o,e,c,d⟩:=st;exact⟨o,e,λv z=>by rw[d] at z; cases z⟩
 keep:=λi h h' st k=>st.at λo e=>k it (by simp) o e
 item:=by
  intro X hP hw hK hc i pins s σ H E I hf st hg;subst hP hw hK;obtain⟨xs,x,hq,hx⟩:=hg;obtain⟨ae,rv,p,hz⟩:=I.tuple hq;obtain⟨u,hu,ru⟩:=rv.get hx;obtain⟨f0,f1,f2,f3,f4,f5⟩:=hf it (by simp);refine wpAny_pyNext_tuple_item st (show s.heap.IsTuple a ae.toArray from p) (x:=u) (by simpa using hu) λh' gu sb=>?_
  have I1:Inv X pins σ H { s with heap:=h' }:=I.turned (t':=s.toks) (λb o hb e=>(sb.2 b hb).trans e) f0 f1 f3 f4 f5;obtain⟨o,e,c,d⟩:=id gu;exact⟨u,rfl,sv (s:={ s with heap:=h' }) e c d (by decide) ⟨x,H,I1,ru,⟨rfl,λys hy=>by rw[I.AB hy hq]; exact hx⟩,gu,λb hb=>(hf b hb).1⟩⟩
 done:=by
  intro X hP hw hK hc i pins s σ H E I hf st hg;subst hP hw hK;obtain⟨xs,hq,hx⟩:=hg;obtain⟨ae,rv,p,hz⟩:=I.tuple hq;obtain⟨f0,f1,f2,f3,f4,f5⟩:=hf it (by simp);have hl:=rv.length;exact wpAny_pyNext_tuple_end (I.ok.hd hc) st (show s.heap.IsTuple a ae.toArray from p) (by simp; omega) λh' eb=>⟨rfl,I.turned (t':=s.toks) (λb o hb e=>eb b o hb e) f0 f1 f3 f4 f5⟩
 self:=λ_ _ _ _ _ st h=>wpAny_pyIter_tupleiter st h
theorem Ib{P:Wm}{w:Ws}{K:W2}{tg:Expr}(it:Addr)(lo:Int)(n:Nat):Turn P w K tg (sx lo n) [it] it (λi h=>IsRangeIter h it (lo + (i:Nat) * 1) ((n:Int) - (i:Nat)) 1) where
 mem:=by simp
 obj:=λi h st b hb=>by
  have e:b=it:=by simpa using hb
  subst e;exact⟨_,st,λv z=>by
   have z':Data.fields _=Data.cell v:=z
   cases z'⟩
 keep:=λi h h' st k=>k it (by simp) _ st
 item:=by
  intro X hP hw hK hc i pins s σ H E I hf st hg;subst hP hw hK;obtain⟨f0,f1,f2,f3,f4,f5⟩:=hf it (by simp);have W:=Walks.range (prog:=X.prog) (w:=X.w) (I.ok.hd hc) it lo 1 n;refine W.item i s _ _ hg st λv h' tk hv gu kk=>?_
  obtain⟨t,rfl⟩:=hv;have I1:Inv X pins σ H { s with heap:=h',toks:=tk }:=I.turned (λb o hb e=>kk b o (by simpa using hb) e) f0 f1 f3 f4 f5;refine⟨_,rfl,sv (s:={ s with heap:=h',toks:=tk }) (n:="range_iterator") gu rfl rfl (by decide) ⟨.int (lo + i),H,I1,⟨t,?_⟩,⟨rfl,rfl⟩,gu,λb hb=>(hf b hb).1⟩⟩;rw[Int.mul_one]
 done:=by
  intro X hP hw hK hc i pins s σ H E I hf st hg;subst hP hw hK;obtain⟨f0,f1,f2,f3,f4,f5⟩:=hf it (by simp);exact wpAny_pyNext_range_end (I.ok.hd hc) st (by have:n<=i:=hg; omega) λh' eb=>⟨rfl,I.turned (t':=s.toks) (λb o hb e=>eb b o hb e) f0 f1 f3 f4 f5⟩
 self:=λ_ _ _ _ _ st h=>wpAny_pyIter_rangeiter st h
section
variable {X:Cx} {tg:Expr}
theorem Ic{pins:List (Addr×Obj)}{σ:St}{H:Hp}{s:W3}{R:It->Hp->Prop}{E:Value->W3->Prop}{lo hi:Int}{t u v:Tok}{tk:Nat}(I:Inv X pins σ H s)(h1 : -(2 ^ 62)<=lo)(h2:lo < 2 ^ 62)(h3 : -(2 ^ 62)<=hi)(h4:hi < 2 ^ 62)
  (q:R (sx lo (hi - lo).toNat) H):We (model X.prog X.w) X.A (pyIter (.ref s.heap.objs.size)) (AQ X pins σ tg R) E { s with heap:=s.heap.push { cls:=.type "range",data:=.fields #[.int lo t,.int hi u,.int 1 v] },toks:=tk }:=by
 refine wpAny_pyIter_range (IsRange.new ..) (small_one h1 h2 h3 h4) ?_;have I1:Inv X pins σ H { s with heap:=s.heap.push { cls:=.type "range",data:=.fields #[.int lo t,.int hi u,.int 1 v] },toks:=tk }:=I.kept λb o e=>Wd _ e
 refine⟨(s.heap.push { cls:=.type "range",data:=.fields #[.int lo t,.int hi u,.int 1 v] }).objs.size,[(s.heap.push { cls:=.type "range",data:=.fields #[.int lo t,.int hi u,.int 1 v] }).objs.size],_,_,H,rfl,
  I1.kept (t':=tk) λb o e=>Wd _ e,Ib _ lo (hi - lo).toNat,?_,λb hb=>?_,q⟩
 ·have e1:lo + ((0:Nat):Int) * 1=lo:=by simp
  have e2:(((hi - lo).toNat:Nat):Int) - ((0:Nat):Int)=Builtin.Range.rangeSize lo hi 1:=by rw[rangeSize_one]; split <;> omega
  show IsRangeIter _ _ (lo + ((0:Nat):Int) * 1) ((((hi - lo).toNat:Nat):Int) - ((0:Nat):Int)) 1;rw[e1,e2];exact Wn _ rfl
 ·have e:b=(s.heap.push { cls:=.type "range",data:=.fields #[.int lo t,.int hi u,.int 1 v] }).objs.size:=by simpa using hb
  subst e;exact I1.jM (Wf _) (I1.aG.fresh (Wf _))
def Ie(ta:TA):TI:=λσ H R=>ta σ H λvs H1=>∃ j:Int,vs=[.int j]/\-(2 ^ 62)<=j/\j < 2 ^ 62/\R (sx 0 j.toNat) H1
theorem Ig {a:Expr} {ta:TA} {p pos:Pos} (hg:Gl X "range") (hm:X.mg "range" = none) (ha:PA X [a] ta) (hs:Wk [a] X.env=[(false,eval a X.env)]:=by rfl):PI X tg (.Call (.Name "range" p) [a] [] pos) (Ie ta):=by
 intro pins s σ H R I h;refine Call_ (pX I hg hm boot_range (PyProof.Rows.callWith_type1 (aR (ha pos pins s σ H _ I h) λus s1 ⟨vs,H1,I1,r1,q1⟩=>?_) hs rfl));obtain⟨j,e,q1,q2,q⟩:=q1;subst e
 cases r1 with
 | cons r rr =>
  cases rr;obtain⟨t,rfl⟩:=r;exact call_range_1 (Ic I1 (by omega) (by omega) q1 q2 (by simpa using q))
def Ih(wi:TI)(g:TG)(tb:TS):TS:=λD σ H=>wi σ H λJ H1=>∃ W:Nat->Nat->St->Hp->Prop,(∃ m,W 0 m σ H1)/\∀ i m σ H,W i m σ H ->
 (J.stop i H/\D.nx σ H)\/(J.go i H/\∃ N:St->Hp->Prop,(∀ σ' H',N σ' H'->∃ m',m' < m/\W (i + 1) m' σ' H')/\∀ x H',J.p_ i H x H'->g x σ H' λσ2 H2=>tb { D with nx:=N,ct:=N,bk:=D.nx } σ2 H2)
def qa(fp:List Addr)(h:Heap):List (Addr×Obj):=fp.filterMap λb=>(h.get? b).map λo=>(b,o)
theorem sy(hb:b ∈ fp)(e:h.get? b=some o):(b,o) ∈ qa fp h:=List.mem_filterMap.mpr ⟨b,hb,by rw[e]; rfl⟩
theorem Ii(hp:p ∈ qa fp h):p.1 ∈ fp/\h.get? p.1=some p.2:=by
 obtain⟨b,hb,e⟩:=List.mem_filterMap.mp hp
 cases q:h.get? b with
 | none=>rw[q] at e; cases e
 | some o =>
  rw[q] at e;have e':(b,o)=p:=Wx e;subst e';exact⟨hb,q⟩
theorem Inv.pinned(I:Inv X pins σ H s)(hf:∀ b ∈ fp,gf X pins H b)(ho:∀ b ∈ fp,∃ o,s.heap.get? b=some o/\∀ v,o.data≠.cell v):Inv X (pins ++ qa fp s.heap) σ H s :=
 I.As λp hp=>(Wy.mp hp).elim (λz=>I.pin p (WA _ z)) λz=>by
  obtain⟨hb,e⟩:=Ii z;obtain⟨f0,f1,f2,_⟩:=hf p.1 hb;obtain⟨o,e',d⟩:=ho p.1 hb;rw[e] at e'; cases e'
  exact⟨e,f0,f1,f2,d⟩
theorem Inv.sA(I:Inv X (pins ++ pl) σ H s):Inv X pins σ H s:=I.As λp hp=>I.pin p (WA _ (WK _ hp))
theorem AS(hp:PassesOwn (model X.prog X.w) X.A X.env X.xe)(hc:X.calm=true)(hi:PI X tg iter wi)(hg:PG X tg g)(hb:dU X body tb)
  (hs:∀ x,QQ iter X.env x=pure x:=by intro _; rfl):PS X (.For tg iter body [] pos) (Ih wi g tb):=by
 intro pins s σ H D I h;refine wpAny_For (aR (hi pins s σ H _ I h) λv s1 h1=>aR h1 λsu s2 h2=>?_) hs;obtain⟨it,fp,tn,J,H2,e,I2,T,st2,f2,W,⟨m0,w0⟩,turn⟩:=h2;subst e;-- what stays true of the iterator's objects through the loop
 have vw:∀ {H':Hp},(∀ b ∈ fp,H' b=none)->∀ b ∈ fp,gf X pins H' b:=λhn b hb=>⟨hn b hb,(f2 b hb).2⟩
 refine codeAny_forLoop_any (λn s'=>∃ i σ' H',Inv X pins σ' H' s'/\tn i s'.heap/\(∀ b ∈ fp,H' b=none)/\W i n σ' H') ?_ m0 ⟨0,σ,H2,I2,st2,λb hb=>(f2 b hb).1,w0⟩;rintro n s3 ⟨i,σ3,H3,I3,lD,fr3,w3⟩;rcases turn i n σ3 H3 w3 with ⟨stop,qn⟩ | ⟨go,N,hN,step⟩
 ·refine QX hp (aR (T.done X rfl rfl rfl hc i pins s3 σ3 H3 X.xe I3 (vw fr3) lD stop) λr s4 ⟨hr,I4⟩=>?_);subst hr;exact wpAny_execs_nil ⟨σ3,H3,I4,qn⟩
 ·refine QX hp (aR (T.item X rfl rfl rfl hc i pins s3 σ3 H3 X.xe I3 (vw fr3) lD go) λr s4 ⟨u,hr,h4⟩=>?_);subst hr;refine QX hp (aR h4 λ_ s5 ⟨x,H5,I5,r5,y5,st5,fr5⟩=>?_);have Ij:=I5.pinned (vw fr5) (T.obj _ _ st5);refine QX hp (aR (hg _ s5 σ3 H5 x u _ Ij r5 (step x H5 y5)) λ_ s6 ⟨σ6,H6,I6,q6⟩=>?_);refine QX hp (aR (hb _ s6 σ6 H6 _ I6 q6) λf s7 q7=>?_);have again:∀ {σ7:St} {H7:Hp},Inv X (pins ++ qa fp s5.heap) σ7 H7 s7->N σ7 H7->∃ m,m < n/\∃ i σ' H',Inv X pins σ' H' s7/\tn i s7.heap/\(∀ b ∈ fp,H' b=none)/\W i m σ' H':=λ{σ7 H7} I7 n7=>by
   obtain⟨m',hm,w7⟩:=hN σ7 H7 n7;refine⟨m',hm,i + 1,σ7,H7,I7.sA,T.keep _ _ _ st5 λb hb o e=>(I7.pin (b,o) (WA _ (WA _ (sy hb e)))).1,λb hb=>?_,w7⟩;obtain⟨o,e,d⟩:=T.obj _ _ st5 b hb;exact(I7.pin (b,o) (WA _ (WA _ (sy hb e)))).2.1
  cases f with
  | next=>obtain⟨σ7,H7,I7,n7⟩:=q7; exact again I7 n7
  | cont=>obtain⟨σ7,H7,I7,n7⟩:=q7; exact again I7 n7
  | brk=>obtain⟨σ7,H7,I7,q7⟩:=q7; exact⟨σ7,H7,I7.sA,q7⟩
  | ret v=>obtain⟨x7,σ7,H7,I7,r7,q7⟩:=q7; exact⟨x7,σ7,H7,I7.sA,r7,q7⟩
end
abbrev R2:=V->V->Hp->VK->Prop
def bx(X:Cx)(f:Value->Value->Sem Value)(r:R2):Prop :=
 ∀ (pins:List (Addr×Obj)) (s:W3) (σ:St) (H:Hp) (x y:V) (v u:Value) (Q:VK),Inv X pins σ H s->RelV x v->RelV y u->r x y H Q ->
  We (model X.prog X.w) X.A (f v u) (EP X pins σ Q) X.xe s
def vx(X:Cx)(f:Value->Sem Value)(r:V->Hp->VK->Prop):Prop :=
 ∀ (pins:List (Addr×Obj)) (s:W3) (σ:St) (H:Hp) (x:V) (v:Value) (Q:VK),Inv X pins σ H s->RelV x v->r x H Q ->
  We (model X.prog X.w) X.A (f v) (EP X pins σ Q) X.xe s
def er(X:Cx)(f:Value)(r:List V->Hp->VK->Prop):Prop :=
 ∀ (pins:List (Addr×Obj)) (s:W3) (σ:St) (H:Hp) (xs:List V) (us:List Value) (Q:VK),Inv X pins σ H s->Vals xs us->r xs H Q ->
  We (model X.prog X.w) X.A (call f us) (EP X pins σ Q) X.xe s
def jb(r:R2)(ta tb:TE):TE:=λσ H Q=>ta σ H λx H1=>tb σ H1 λy H2=>r x y H2 Q
def AU(r:V->Hp->VK->Prop)(ta:TE):TE:=λσ H Q=>ta σ H λx H1=>r x H1 Q
def rI(C:Int->Int->Prop)(g:Int->Int->V):R2:=λx y H Q=>∃ i j,x = .int i/\y = .int j/\C i j/\Q (g i j) H
def iD(g:Int->Int->V):R2:=λx y H Q=>∃ i j,x = .int i/\y = .int j/\Q (g i j) H
def rU(g:Int->V):V->Hp->VK->Prop:=λx H Q=>∃ i,x = .int i/\Q (g i) H
section
variable {X:Cx} {a b c:Expr} {ta tb tc:TE} {pos:Pos}
theorem vy(ha:PE X a ta)(hb:PE X b tb){pins:List (Addr×Obj)}{s:W3}{σ:St}{H:Hp}{R:V->V->Hp->Prop}(I:Inv X pins σ H s)
  (h:ta σ H λx H1=>tb σ H1 λy H2=>R x y H2) {Q:Value->W3->Prop} {f:Value->Value->Sem Value}
  (hf:∀ v u s2 x y H2,Inv X pins σ H2 s2->RelV x v->RelV y u->R x y H2->We (model X.prog X.w) X.A (f v u) Q X.xe s2) :
  We (model X.prog X.w) X.A (eval a X.env) (λv s₁=>We (model X.prog X.w) X.A (eval b X.env) (λu s₂=>We (model X.prog X.w) X.A (f v u) Q X.xe s₂) X.xe s₁) X.xe s:=by
 refine aR (ha pins s σ H _ I h) λv s1 ⟨x,H1,I1,r1,q1⟩=>?_
 refine aR (hb pins s1 σ H1 _ I1 q1) λu s2 ⟨y,H2,I2,r2,q2⟩=>?_
 exact hf v u s2 x y H2 I2 r1 r2 q2
theorem vz{op:Operator}{r:R2}(ho:bx X (Qc op) r)(ha:PE X a ta)(hb:PE X b tb):PE X (.BinOp a op b pos) (jb r ta tb):=by
 intro pins s σ H Q I h;exact wpAny_BinOp (vy ha hb I h λv u s2 x y H2 I2 rx ry q=>ho pins s2 σ H2 x y v u Q I2 rx ry q)
theorem Ik(ho:vx X (unaryOp op) r)(ha:PE X a ta):PE X (.UnaryOp op a pos) (AU r ta):=by
 intro pins s σ H Q I h;exact UnaryOp_ (aR (ha pins s σ H _ I h) λv s1 ⟨x,H1,I1,r1,q1⟩=>ho pins s1 σ H1 x v Q I1 r1 q1)
theorem mT{f:Value->Value->Sem Value}{C:Int->Int->Prop}{g:Int->Int->Int}
  (rule:∀ (i j:Int) (t u:Tok) (s:W3) (Q:Value->W3->Prop) (E:Value->W3->Prop),C i j->Q (.int (g i j) s.toks) { s with toks:=s.toks + 1 }->We (model X.prog X.w) X.A (f (.int i t) (.int j u)) Q E s) :
  bx X f (rI C λi j=>.int (g i j)):=by
 intro pins s σ H x y v u Q I rx ry h;obtain⟨i,j,rfl,rfl,hc,q⟩:=h;obtain⟨t,rfl⟩:=rx;obtain⟨t',rfl⟩:=ry;exact rule i j t t' s _ _ hc ⟨.int (g i j),H,I.tok _,⟨_,rfl⟩,q⟩
theorem AV{f:Value->Value->Sem Value}{g:Int->Int->Int}
  (rule:∀ (i j:Int) (t u:Tok) (s:W3) (Q:Value->W3->Prop) (E:Value->W3->Prop),Q (.int (g i j) s.toks) { s with toks:=s.toks + 1 }->We (model X.prog X.w) X.A (f (.int i t) (.int j u)) Q E s) :
  bx X f (iD λi j=>.int (g i j)):=by
 intro pins s σ H x y v u Q I rx ry h;obtain⟨i,j,rfl,rfl,q⟩:=h;obtain⟨t,rfl⟩:=rx;obtain⟨t',rfl⟩:=ry;exact rule i j t t' s _ _ ⟨.int (g i j),H,I.tok _,⟨_,rfl⟩,q⟩
theorem vA{f:Value->Value->Sem Value}{g:Int->Int->Bool}
  (rule:∀ (i j:Int) (t u:Tok) (s:W3) (Q:Value->W3->Prop) (E:Value->W3->Prop),Q (.bool (g i j)) s->We (model X.prog X.w) X.A (f (.int i t) (.int j u)) Q E s) :
  bx X f (iD λi j=>.bl (g i j)):=by
 intro pins s σ H x y v u Q I rx ry h;obtain⟨i,j,rfl,rfl,q⟩:=h;obtain⟨t,rfl⟩:=rx;obtain⟨t',rfl⟩:=ry;exact rule i j t t' s _ _ ⟨.bl (g i j),H,I,rfl,q⟩
def AW(i j:Int):Prop:=0 < j/\j < 1073741824
def AX(i j:Int):Prop:=0<=j/\j<=1000000/\i.natAbs < 2 ^ 64
def qb(i j:Int):Prop:=(-(2 ^ 64) < i/\i < 2 ^ 64)\/(-(2 ^ 64) < j/\j < 2 ^ 64)
theorem qb.ok(h:qb i j):IntMulOk i j:=by
 rcases h with ⟨h1,h2⟩ | ⟨h1,h2⟩
 ·exact .of_left (intBits_le_64 h1 h2)
 ·exact .of_right (intBits_le_64 h1 h2)
theorem AY:bx X (Qc .Add) (iD λi j=>.int (i + j)):=AV λ_ _ _ _ _ _ _ q=>add_int q
theorem vC:bx X (Qc .Sub) (iD λi j=>.int (i - j)):=AV λ_ _ _ _ _ _ _ q=>sub_int q
theorem Il:bx X (Qc .Mult) (rI qb λi j=>.int (i * j)):=mT λ_ _ _ _ _ _ _ hc q=>mul_int q hc.ok
theorem AZ:bx X (Qc .FloorDiv) (rI AW λi j=>.int (i / j)):=mT λi j _ _ _ _ _ hc q=>by
 have h1:(0:Int) < j:=hc.1;have h2:j < 1073741824:=hc.2;exact floordiv_int (by omega) (by rw[Int.fdiv_eq_ediv_of_nonneg i (by omega)]; exact q) (.inl (PyProof.noPylong_small (by omega)))
theorem lE:bx X (Qc .Mod) (rI (λ_ j=>0 < j) λi j=>.int (i % j)):=mT λi j _ _ _ _ _ hc q=>by
 have h1:(0:Int) < j:=hc;exact mod_int' (by omega) (by rw[Int.fmod_eq_emod_of_nonneg i (by omega)]; exact q)
theorem Im:bx X (Qc .Mod) (rI (λ_ j=>j≠0) λi j=>.int (i.fmod j)):=mT λ_ _ _ _ _ _ _ hc q=>mod_int' hc q
theorem Io:bx X (Qc .Pow) (rI AX λi j=>.int (i ^ j.toNat)):=mT λ_ _ _ _ _ _ _ hc q=>pow_int_small hc.1 hc.2.1 hc.2.2 q
theorem Ip{f:Value->Sem Value}{g:Int->Int}
  (rule:∀ (i:Int) (t:Tok) (s:W3) (Q:Value->W3->Prop) (E:Value->W3->Prop),Q (.int (g i) s.toks) { s with toks:=s.toks + 1 }->We (model X.prog X.w) X.A (f (.int i t)) Q E s) :
  vx X f (rU λi=>.int (g i)):=by
 intro pins s σ H x v Q I rx h;obtain⟨i,rfl,q⟩:=h;obtain⟨t,rfl⟩:=rx;exact rule i t s _ _ ⟨.int (g i),H,I.tok _,⟨_,rfl⟩,q⟩
theorem Iq:vx X (unaryOp .USub) (rU λi=>.int (-i)):=Ip λ_ _ _ _ _ q=>neg_int q
end
section
variable {X:Cx} {a b c:Expr} {ta tb tc:TE} {pos:Pos}
theorem sC(I:Inv X pins σ H s)(q:Q (.bl k) H)(e:k=k'):EP X pins σ Q (.bool k') s:=by
 subst e;exact⟨.bl k,H,I,rfl,q⟩
theorem Ir:bx X (WM .Lt) (iD λi j=>.bl (decide (i < j))):=vA λ_ _ _ _ _ _ _ q=>lt_int q
theorem Iu:bx X (WM .Gt) (iD λi j=>.bl (decide (j < i))):=vA λ_ _ _ _ _ _ _ q=>gt_int q
theorem Iv:bx X (WM .GtE) (iD λi j=>.bl (decide (j<=i))):=vA λ_ _ _ _ _ _ _ q=>ge_int q
theorem Iw:bx X (WM .Lt) (λx y H Q=>∃ i j,x = .str i/\y = .str j/\Q (.bl (decide (i.cps.toList < j.cps.toList))) H):=by
 intro pins s σ H x y v u Q I rx ry h;obtain⟨i,j,rfl,rfl,q⟩:=h;obtain⟨t,rfl⟩:=rx;obtain⟨t',rfl⟩:=ry;exact lt_str (sC I q rfl)
theorem Iy:bx X (WM .Is) (λx y H Q=>y = .aJ/\Q (.bl (decide (x = .aJ))) H):=by
 intro pins s σ H x y v u Q I rx ry h;obtain⟨rfl,q⟩:=h
 cases ry;refine is_none_gen (sC I q ?_)
 cases x <;> first
  | (cases rx; rfl)
  | (obtain⟨t,rfl⟩:=rx; rfl)
theorem Iz:bx X (WM .IsNot) (λx y H Q=>y = .aJ/\Q (.bl (!decide (x = .aJ))) H):=by
 intro pins s σ H x y v u Q I rx ry h;obtain⟨rfl,q⟩:=h
 cases ry;refine isnot_none_gen (sC I q ?_)
 cases x <;> first
  | (cases rx; rfl)
  | (obtain⟨t,rfl⟩:=rx; rfl)
theorem IA:bx X (WM .NotIn) (λx y H Q=>∃ i j,x = .str i/\y = .str j/\Q (.bl (!(!(Builtin.Str.occurrences j i 0 j.length 1).isEmpty))) H):=by
 intro pins s σ H x y v u Q I rx ry h;obtain⟨i,j,rfl,rfl,q⟩:=h;obtain⟨t,rfl⟩:=rx;obtain⟨t',rfl⟩:=ry;exact notIn_str (sC I q rfl)
theorem bx.or(h:bx X f r)(h':bx X f r'):bx X f (λx y H Q=>r x y H Q\/r' x y H Q):=by
 intro pins s σ H x y v u Q I rx ry q;rcases q with q | q
 ·exact h pins s σ H x y v u Q I rx ry q
 ·exact h' pins s σ H x y v u Q I rx ry q
theorem cV(b:Expr)(h:op≠.In:=by decide)(h2:op≠.NotIn:=by decide):Qu op b=false:=by
 have e1:(op == CmpOp.In)=false:=by cases op <;> first | rfl | exact absurd rfl h
 have e2:(op == CmpOp.NotIn)=false:=by cases op <;> first | rfl | exact absurd rfl h2
 cases b <;> simp[Qu,e1,e2]
theorem A0{op:CmpOp}{r:R2}(ho:bx X (WM op) r)(ha:PE X a ta)(hb:PE X b tb)(hm:Qu op b=false):PE X (.Compare a [op] [b] pos) (jb r ta tb):=by
 intro pins s σ H Q I h;exact wpAny_Compare1 (vy ha hb I h λv u s2 x y H2 I2 rx ry q=>ho pins s2 σ H2 x y v u Q I2 rx ry q) hm
def IB(t:TE):TT:=λσ H Q=>t σ H λx H'=>∃ k,x = .bl k/\Q k H'
theorem A1(ho:bx X (WM op) r)(ha:PE X a ta)(hb:PE X b tb)(hm:Qu op b=false):PT X (.Compare a [op] [b] pos) (IB (jb r ta tb)):=by
 intro pins s σ H Q I h;refine wpAny_isTrue_Compare1 (aR (ha pins s σ H _ I h) λv s1 ⟨x,H1,I1,r1,q1⟩=>aR (hb pins s1 σ H1 _ I1 q1) λu s2 ⟨y,H2,I2,r2,q2⟩ =>
  aR (ho pins s2 σ H2 x y v u _ I2 r1 r2 q2) λc s3 ⟨z,H3,I3,r3,k,e,q3⟩=>?_) hm
 subst e
 cases r3;exact Qp ⟨H3,I3,q3⟩
theorem oj:(Wc:Nat) < 2 ^ 63:=by rw[JO]; decide
theorem IC:bx X (Qc .Add) (λx y H Q=>∃ i j,x = .str i/\y = .str j/\i.length + j.length<=Wc/\Q (.str (i ++ j)) H):=by
 intro pins s σ H x y v u Q I rx ry h;obtain⟨i,j,rfl,rfl,hz,q⟩:=h;obtain⟨t,rfl⟩:=rx;obtain⟨t',rfl⟩:=ry;exact add_str (λt' tk=>⟨.str (i ++ j),H,I.tok _,⟨_,rfl⟩,q⟩) hz
theorem gY(r:Vals [x] us):∃ u,us=[u]/\RelV x u:=by
 cases r with
 | cons r1 r2=>cases r2; exact⟨_,rfl,r1⟩
theorem A3(r:Vals [x,y] us):∃ u w',us=[u,w']/\RelV x u/\RelV y w':=by
 cases r with
 | cons r1 r2 =>
  cases r2 with
  | cons r3 r4=>cases r4; exact⟨_,_,rfl,r1,r3⟩
theorem ID:er X (.builtin "abs") (λxs H Q=>∃ i,xs=[.int i]/\Q (.int (if i < 0 then -i else i)) H):=by
 intro pins s σ H xs us Q I r h;obtain⟨i,rfl,q⟩:=h;obtain⟨u,rfl,t,rfl⟩:=gY r;exact call_abs_int λu tk=>⟨.int (if i < 0 then -i else i),H,I.tok _,⟨_,rfl⟩,q⟩
theorem IE (hc:X.calm=true):er X (.builtin "max") (λxs H Q=>∃ i j,xs=[.int i,.int j]/\Q (.int (if j > i then j else i)) H):=by
 intro pins s σ H xs us Q I r h;obtain⟨i,j,rfl,q⟩:=h;obtain⟨u,w',rfl,⟨t,rfl⟩,⟨t',rfl⟩⟩:=A3 r;refine max_two_ints (I.ok.hd hc) λh' tk k=>⟨_,H,I.kept k,?_,q⟩
 by_cases hj:j > i
 ·rw[if_pos hj,if_pos hj]; exact⟨_,rfl⟩
 ·rw[if_neg hj,if_neg hj]; exact⟨_,rfl⟩
theorem IF:er X (.type "int") (λxs H Q=>(∃ i,xs=[.int i]/\Q (.int i) H)\/∃ k,xs=[.bl k]/\Q (.int (if k then 1 else 0)) H):=by
 intro pins s σ H xs us Q I r h;rcases h with ⟨i,rfl,q⟩ | ⟨k,rfl,q⟩
 ·obtain⟨u,rfl,t,rfl⟩:=gY r;exact call_int_int ⟨.int i,H,I,⟨_,rfl⟩,q⟩
 ·obtain⟨u,rfl,r1⟩:=gY r
  cases r1;exact call_int_bool ⟨.int (if k then 1 else 0),H,I.tok _,⟨_,rfl⟩,q⟩
end
structure vD(h:Heap)(x dx C:Addr)(mA:Str->Option Value):Prop where
 obj:h.get? x=some (PySem.W.instObj C dx)
 ns:h.Ns1 dx mA
 ne:dx≠x
theorem IG{h:Heap}{dx:Addr}{mA:Str->Option Value}(n:h.Ns1 dx mA):∃ od,h.get? dx=some od/\∀ name,PySem.W.lookIn name od=some (mA name):=by
 obtain⟨o,es,ep,ho,hd,hk,_,hm⟩:=n;refine⟨o,ho,λname=>?_⟩;have e:=hm name;unfold nsFind findBy at e;rw[<- Array.find?_toList] at e;unfold PySem.W.lookIn;rw[hd];dsimp only;split
 ·rename_i y q;rw[q] at e;exact congrArg some e
 ·rename_i q;rw[q] at e;have a:es.toList.any (·.refKey)=false:=by
   rw[JJ];intro y hy;obtain⟨z,t,vE⟩:=hk y (Array.mem_toList_iff.mp hy);simp[DictEntry.refKey,vE]
  have a':¬ es.toList.any (·.refKey)=true:=by rw[a]; exact WJ
  rw[if_neg a'];exact congrArg some e
theorem vD.look(I:vD h x dx C mA):∃ od,PySem.W.InstAt h x (PySem.W.instObj C dx) C (some od)/\∀ name,PySem.W.lookIn name od=some (mA name) :=
 let ⟨od,ho,hl⟩:=IG I.ns
 ⟨od,⟨I.obj,rfl,rfl,ho⟩,hl⟩
section
variable {prog:Wm} {w:Ws} {A:Wt} {E:Value->W3->Prop} {s:W3} {K:W2} {x dx C f:Addr} {mA:Str->Option Value} {name:Str} {v:Value}
end
theorem eZ.some_of(r:eZ (some v) o):∃ u,o=some u/\RelV v u:=by
 cases o with
 | none=>exact(show False from r).elim
 | some u=>exact⟨u,rfl,r⟩
theorem eZ.none_of(r:eZ none o):o=none:=by
 cases o with
 | none=>rfl
 | some u=>exact(show False from r).elim
section
variable {P:Wm} {w:Ws} {H H':Hp} {h h':Heap} {a C dx:Addr} {fs mQ:List (Str×V)}
theorem IH(aG:cw P w H h)(e:H a=some (.ins C dx fs)):∃ mA,vD h a dx C mA/\(∀ f,eZ (fs.lookup f) (mA f))/\PySem.Within mA (fs.map (·.1))/\fs.length<=1000/\H dx=some (.own a):=by
 obtain⟨d,z,ne,ob,mA,n,r,q⟩:=(show bP P w H h a (.ins C dx fs) from aG a _ e)
 exact⟨mA,⟨ob,n,ne⟩,r,q,z,d⟩
end
structure vF(K:W2)(C:Addr):Prop where
 pg:PySem.W.plainGet K C Str.empty=true
 hd:PySem.W.hasDictIn K C=true
 po:PySem.W.plainOver K C=true
 sa:PySem.W.findIn K (.ref C) "__setattr__" = some (some (.builtin "object.__setattr__"))
theorem vF.get{K:W2}{C:Addr}(c:vF K C)(f:Str):PySem.W.plainGet K C f=true:=c.pg
section
variable {X:Cx} {pins:List (Addr×Obj)} {σ:St} {H:Hp} {s:W3} {a C dx:Addr} {fs:List (Str×V)} {f:Str} {v:V} {A:Wt} {E:Value->W3->Prop}
end
section
variable {X:Cx} {o e value:Expr} {f:Str} {pos pos' II:Pos} {ta tv:TE}
end
section
variable {X:Cx} {pins:List (Addr×Obj)} {σ:St} {H:Hp} {s:W3} {A:Wt} {E:Value->W3->Prop} {Q:Value->W3->Prop} {c:Value} {b:Bool}
inductive iE (K:W2) (H:Hp):V->Value->Prop where
 | aJ:iE K H .aJ (.type "NoneType")
 | bl (x:Bool):iE K H (.bl x) (.type "bool")
 | int (i:Int):iE K H (.int i) (.type "int")
 | str (x:Str):iE K H (.str x) (.type "str")
 | flt (x:UInt64):iE K H (.flt x) (.type "float")
 | lst {a:Addr} {xs:List V} (e:H a=some (.lst xs)):iE K H (.ref a) (.type "list")
 | frz {a:Addr} {o:Obj} {xs:List V} (e:H a=some (.frz o (.lst xs))):iE K H (.ref a) (.type "list")
 | tup {a:Addr} {xs:List V} (e:H a=some (.tup xs)):iE K H (.ref a) (.type "tuple")
 | dK {a:Addr} {kvs:List (Key×V)} (e:H a=some (.dK kvs)):iE K H (.ref a) (.type "dict")
 | dT {a:Addr} {kvs:List (List Key×V)} (e:H a=some (.dT kvs)):iE K H (.ref a) (.type "dict")
 | ins {a C dx:Addr} {fs:List (Str×V)} (e:H a=some (.ins C dx fs)) (cl:vF K C) (ha:PySem.W.findIn K (.ref C) "__class__" = some (some (.builtin "object.__class__")))
   (hn:PySem.W.specialIn K (.builtin "object.__class__") "__get__" = some (some (.builtin "getset_descriptor.__get__"))) (A4:PySem.W.takesIn K (.builtin "object.__class__")=some true)
   (hm:PySem.W.mroIn K C (.type "object")=some true):iE K H (.ref a) (.ref C)
theorem lF(I:Inv X pins σ H s)(rx:RelV x u)(ty:iE X.K H x t)(e:QU X.K t c=some b)(h:∀ tk,Q (.bool b) { s with toks:=tk }) :
  We (model X.prog X.w) A (call (.builtin "isinstance") [u,c]) Q E s:=by
 cases ty with
 | aJ=>cases (show u=Value.none from rx); exact Qh PySem.W.kitx_none I.fJ True.intro e (λz=>nomatch z) h
 | bl y=>cases (show u=Value.bool y from rx); exact Qh PySem.W.kitx_bool I.fJ True.intro e (λz=>nomatch z) h
 | int i=>obtain⟨t,q⟩:=(show ∃ t,u=Value.int i t from rx); cases q; exact Qh PySem.W.kitx_int I.fJ True.intro e (λz=>nomatch z) h
 | str y=>obtain⟨t,q⟩:=(show ∃ t,u=Value.str y t from rx); cases q; exact Qh PySem.W.kitx_str I.fJ True.intro e (λz=>nomatch z) h
 | flt y=>obtain⟨t,q⟩:=(show ∃ t,u=Value.float y t from rx); cases q; exact Qh PySem.W.kitx_float I.fJ True.intro e (λz=>nomatch z) h
 | @lst a xs ea =>
  cases (show u=Value.ref a from rx);obtain⟨_,_,n,_,h1⟩:=(show bP X.prog X.w H s.heap a (.lst xs) from I.aG a _ ea)
  exact Qh PySem.W.kitx_list I.fJ ⟨_,h1,rfl⟩ e (λz=>nomatch z) h
 | @frz a ob xs ea =>
  cases (show u=Value.ref a from rx);obtain⟨_,_,_,n,_,h1⟩:=(show bP X.prog X.w H s.heap a (.frz ob (.lst xs)) from I.aG a _ ea)
  exact Qh PySem.W.kitx_list I.fJ ⟨_,h1,rfl⟩ e (λz=>nomatch z) h
 | @tup a xs ea =>
  cases (show u=Value.ref a from rx);obtain⟨_,_,_,p⟩:=(show bP X.prog X.w H s.heap a (.tup xs) from I.aG a _ ea)
  obtain⟨o,h1,h2,_⟩:=p.tup;exact Qh PySem.W.kitx_tuple I.fJ ⟨o,h1,h2⟩ e (λz=>nomatch z) h
 | @dK a kvs ea =>
  cases (show u=Value.ref a from rx);obtain⟨_,_,vs,_,p⟩:=(show bP X.prog X.w H s.heap a (.dK kvs) from I.aG a _ ea)
  obtain⟨o,es,ep,h1,h2,_⟩:=p;exact Qh PySem.W.kitx_dict I.fJ ⟨o,h1,h2.1⟩ e (λz=>nomatch z) h
 | @dT a kvs ea =>
  cases (show u=Value.ref a from rx);obtain⟨_,_,xs,_,o,es,ep,h1,h2,_⟩:=(show bP X.prog X.w H s.heap a (.dT kvs) from I.aG a _ ea)
  exact Qh PySem.W.kitx_dict I.fJ ⟨o,h1,h2.1⟩ e (λz=>nomatch z) h
 | @ins a C dx fs ea cl ha hn A4 hm =>
  cases (show u=Value.ref a from rx);obtain⟨mA,O,_⟩:=IH I.aG ea;obtain⟨od,J,_⟩:=O.look;exact Qh (PySem.W.kitx_own (cl.get _) cl.hd ha hn A4 hm) I.fJ J e (λz=>nomatch z) h
end
structure eB(k:Nat)(A:Wt):Prop where
 hd:A.handled=none
 dp:A.depth + 3 * k + 5 < recursionLimit
 un:A.units + 16 * k + 200 < WQ
theorem eB.mono(r:eB k A)(h:j<=k):eB j A:=⟨r.hd,by have:=r.dp; omega,by have:=r.un; omega⟩
theorem eB.deeper(r:eB (k + 1) A)(env:Env):eB k (A.deeper env) :=
 ⟨r.hd,by have:=r.dp; show A.depth + 1 + 3 * k + 5 < _; omega,by have:=r.un; show A.units + 3 + 16 * k + 200 < _; omega⟩
theorem eB.depth(r:eB k A):A.depth < recursionLimit:=by have:=r.dp; omega
def A5:TA:=λ_ H Q=>Q [] H
def vG(ta:TE)(tr:TA):TA:=λσ H Q=>ta σ H λx H1=>tr σ H1 λxs H2=>Q (x :: xs) H2
section
variable {X:Cx} {e:Expr} {es:List Expr} {te:TE} {t:TA} {pos:Pos}
theorem iF:PA X [] A5:=λ_ _ _ _ H Q I h=>Calls.spliced_nil ⟨[],H,I,.nil,h⟩
theorem fK(ha:PE X e te)(hr:PA X es t)(hs:Wk (e :: es) X.env=(false,eval e X.env) :: Wk es X.env:=by rfl):PA X (e :: es) (vG te t):=by
 intro pos pins s σ H Q I h;rw[hs];show We _ _ (spliced ((false,eval e X.env) :: QK pos (Wk es X.env))) _ _ s;refine Calls.spliced_cons (aR (ha pins s σ H _ I h) λu s1 ⟨x,H1,I1,r1,q1⟩=>?_);exact aR (hr pos pins s1 σ H1 _ I1 q1) λus s2 ⟨xs,H2,I2,r2,q2⟩=>⟨x :: xs,H2,I2,.cons r1 r2,q2⟩
def IJ(t:TA):TE:=λσ H Q=>t σ H λxs H1=>xs.length<=Wc/\∀ p,H1 p=none->Q (.ref p) (upd H1 p (.tup xs))
def IK(t:TA):TE:=λσ H Q=>t σ H λxs H1=>xs.length<=Wc/\∀ p,H1 p=none->Q (.ref p) (upd H1 p (.lst xs))
theorem IL{x1}(h:PA X es t):PE X (.Tuple es x1 pos) (IJ t):=by
 intro pins s σ H Q I hq;refine wpAny_Tuple_spliced (aR (h pos pins s σ H _ I hq) λus s1 ⟨xs,H1,I1,r,z,q⟩=>⟨by rw[<- r.length]; exact z,?_⟩);have hf:H1 s1.heap.objs.size=none:=I1.aG.fresh (Wf _);refine⟨.ref s1.heap.objs.size,upd H1 s1.heap.objs.size (.tup xs),I1.laid (t':=s1.toks) (λb u e=>Wd _ e) (Wf _) ?_,rfl,q _ hf⟩;exact⟨z,us,r,⟨_,Wn _ rfl⟩⟩
theorem IM(h:PA X es t):PE X (.List es pos) (IK t):=by
 intro pins s σ H Q I hq;refine wpAny_List_spliced (aR (h pos pins s σ H _ I hq) λus s1 ⟨xs,H1,I1,r,z,q⟩=>⟨by rw[<- r.length]; exact z,?_⟩);have hf:H1 s1.heap.objs.size=none:=I1.aG.fresh (Wf _);refine⟨.ref s1.heap.objs.size,upd H1 s1.heap.objs.size (.lst xs),I1.laid (t':=s1.toks) (λb u e=>Wd _ e) (Wf _) ?_,rfl,q _ hf⟩;exact⟨z,us,0,r,Wn _ rfl⟩
end
abbrev Sp:=List V->Hp->VK->XK->Prop
abbrev jc:=List Env->Hp->W3->XK->Value->W3->Prop
structure sE(P:Wm)(w:Ws)(K:W2)(mg:Str->Option Value)(base:Heap)(A:Wt)(outer:List Env)(s:W3)(H:Hp):Prop where
 frames:A.frames=some outer
 mod:Mod K mg base
 bs:∀ b o,base.get? b=some o->s.heap.get? b=some o/\H b=none
 ly:base.objs.size<=s.heap.objs.size
 i8:s.heap.FunFrames base outer
 oh:∀ b ∈ gW outer,H b=none
 aG:cw P w H s.heap
 bare:AllBare s.gens
def CE(outer:List Env)(P:Wm)(w:Ws)(H:Hp)(s:W3)(Q:VK)(u:Value)(s':W3):Prop :=
 ∃ v H',s'.os=s.os/\AllBare s'.gens/\Un (gW outer) [] H H' s.heap s'.heap/\cw P w H' s'.heap/\RelV v u/\Q v H'
def CR(CX:jc)(outer:List Env)(P:Wm)(w:Ws)(H:Hp)(s:W3)(Q:VK)(E:XK)(r:Result)(s':W3):Prop :=
 match r with
 | .ok (.ret u)=>CE outer P w H s Q u s'
 | .ok _=>False
 | .error e=>CX outer H s E e s'
structure jd(P:Wm)(w:Ws)(K:W2)(mg:Str->Option Value)(base:Heap)(CX:jc)(k:Nat)(f:Addr)(fd:Qi)(ps:List Str)(sp:Sp):Prop where
 len:∀ vs H Q E,sp vs H Q E->vs.length=ps.length
 run:∀ (A:Wt) (outer:List Env) (s:W3) (H:Hp) (args:Args) (us:List Value) (vs:List V) (Q:VK) (E:XK),eB k A->sE P w K mg base A outer s H->BindsTo s fd args (ps.zip us)->Vals vs us->sp vs H Q E ->
  Jo (model P w) A (.call (.ref f) args) (CR CX outer P w H s Q E) s
section
variable {X:Cx} {pins:List (Addr×Obj)} {σ:St} {H:Hp} {s s':W3}
theorem Inv.IP(I:Inv X pins σ H s):sE X.prog X.w X.K X.mg X.base X.A X.stack s H :=
 ⟨I.ok.frames,I.ok.mod,I.bs,Wu I.ok.ly I.sz,I.stack,I.Aq,I.aG,I.bare⟩
theorem Inv.after(I:Inv X pins σ H s)(h:CE X.stack X.prog X.w H s Q u s'):EP X pins σ Q u s':=by
 obtain⟨v,H',os,bare,un,aG,r,q⟩:=h;obtain⟨hh,g,d,t,os'⟩:=s';obtain rfl:os'=s.os:=os;exact⟨v,H',I.call (h':=hh) (g':=g) (d':=d) (t':=t) (ch:=[]) un aG bare (λb z=>absurd z (by simp)),r,q⟩
end
def vH(sp:Sp)(lG:List V)(E:XK)(t:TA):TE:=λσ H Q=>t σ H λvs H1=>sp (vs ++ lG) H1 Q E
def Binds(K:W2)(fd:Qi)(ps:List Str)(ds:List Value):Prop :=
 ∀ (s:W3) (us:List Value),K.In s.heap->(us ++ ds).length=ps.length->BindsTo s fd ⟨us,[]⟩ (ps.zip (us ++ ds))
theorem Binds.all{K:W2}{fd:Qi}{ps:List Str}(h:∀ us:List Value,us.length=ps.length->bindArgs fd ⟨us,[]⟩=pure (ps.zip us)):Binds K fd ps []:=λs us _ hl=>by
 rw[QM] at hl ⊢;exact .of_eq (h us hl)
def vI(CX:jc)(X:Cx)(E:XK):Prop:=∀ (pins:List (Addr×Obj)) (σ:St) (H:Hp) (s:W3) (e:Value) (s':W3),Inv X pins σ H s->CX X.stack H s E e s'->X.xe e s'
section
variable {X:Cx} {CX:jc} {k:Nat} {f C:Addr} {fd:Qi} {ps:List Str} {sp:Sp} {lG:List V} {ds:List Value} {E:XK} {x m:Str} {p pos apos:Pos} {e o:Expr} {es:List Expr} {ta:TE} {t:TA}
theorem IQ(F:jd X.prog X.w X.K X.mg X.base CX k f fd ps sp)(hr:eB k X.A)(hb:Binds X.K fd ps ds)(hd:Vals lG ds)(hx:vI CX X E)
  (I:Inv X pins σ H s) (r:Vals vs us) (h:sp (vs ++ lG) H Q E):We (model X.prog X.w) X.A (call (.ref f) us) (EP X pins σ Q) X.xe s:=by
 have r2:Vals (vs ++ lG) (us ++ ds):=r.append hd;have hl:(us ++ ds).length=ps.length:=by rw[<- r2.length]; exact F.len _ _ _ _ h
 refine wpAny_call (codeAny_mono (F.run X.A X.stack s H ⟨us,[]⟩ (us ++ ds) (vs ++ lG) Q E hr I.IP (hb s us I.fJ hl) r2 h) λr s' hq=>?_)
 cases r with
 | error e=>exact hx pins σ H s e s' I hq
 | ok fl =>
  cases fl with
  | ret u=>exact I.after hq
  | next=>exact False.elim hq
  | brk=>exact False.elim hq
  | cont=>exact False.elim hq
theorem A6(F:jd X.prog X.w X.K X.mg X.base CX k f fd ps sp)(hr:eB k X.A)(hg:Gl X x)(hm:X.mg x=some (.ref f))(hk:JH X.K (.ref f)=true)(hb:Binds X.K fd ps ds)(hd:Vals lG ds)(hx:vI CX X E)
  (ha:PA X (e :: es) t) (gZ:(x == ("__debug__" : Str))=false:=by decide) (he:Wk (e :: es) X.env=(false,eval e X.env) :: Wk es X.env:=by rfl) (dB:(QK pos (Wk es X.env)).any (·.1)=false:=by rfl) :
  PE X (.Call (.Name x p) (e :: es) [] pos) (vH sp lG E t):=by
 intro pins s σ H Q I h;refine wpAny_Call_Name_kw (Hr I hg hm ?_ gZ);refine PySem.W.callWith_K (h₀:=X.base) I.ok.mod.vm hk (aR (ha pos pins s σ H _ I h) λus s1 ⟨vs,H1,I1,r,q⟩=>⟨I1.fJ,?_⟩) he dB;exact IQ F hr hb hd hx I1 r q
end
def PK(X:Cx)(A7:List Keyword)(t:TA):Prop :=
 ∀ (pos:Pos) (pins:List (Addr×Obj)) (s:W3) (σ:St) (H:Hp) (Q:List V->Hp->Prop),Inv X pins σ H s->t σ H Q->We (model X.prog X.w) X.A (evalAll ((backToKw pos (JP A7 X.env)).map (·.2))) (AP X pins σ Q) X.xe s
section
variable {X:Cx} {CX:jc} {k:Nat} {f C:Addr} {fd:Qi} {ps ks:List Str} {sp:Sp} {E:XK} {x m:Str} {p pos apos UZ:Pos} {e o:Expr} {es:List Expr} {A7:List Keyword} {te ta:TE} {t tk:TA} {nm:Option Str}
variable {g:List Value->List Value->List Value} {gV:List V->List V->List V}
end
structure cW(N P:List Str)(sc:Scope):Prop where
 kind:sc.kind = .function
 co:sc.isCoroutine=false
 gen:sc.isGenerator=false
 nd:N.Nodup
 pre:N.take P.length=P
 par:∀ x ∈ P,sc.names.lookup x=some .local\/sc.names.lookup x=some .cell
 vJ:∀ y ∈ sc.names,y.2≠.free
theorem scc{N P:List Str}{sc:Scope}(kind:sc.kind = .function:=by rfl)(co:sc.isCoroutine=false:=by rfl)(gen:sc.isGenerator=false:=by rfl)(nd:N.Nodup:=by decide +kernel)(pre:N.take P.length=P:=by rfl)(par:∀ x ∈ P,sc.names.lookup x=some .local\/sc.names.lookup x=some .cell:=by decide +kernel)(vJ:∀ y ∈ sc.names,y.2≠.free:=by decide +kernel):cW N P sc:=⟨kind,co,gen,nd,pre,par,vJ⟩
theorem A8{kindOf:Str->Option NameKind}{x:Str}:∀ {binds:List (Str×Value)} {m:Str->Option Value},(∀ v,(x,v) ∉ binds)->bindL kindOf binds m x=m x
 | [],_,_=>rfl
 | (n,v) :: r,m,h=>by
  unfold bindL;rw[A8 λw hw=>h w (W9 _ hw)];split
  ·have:x≠n:=by rintro rfl; exact h v Wh
   simp[this]
  ·rfl
theorem A9{kindOf:Str->Option NameKind}{x:Str}:∀ {binds:List (Str×Value)} {m:Str->Option Value},(∀ v,(x,v) ∉ binds)->bindC kindOf binds m x=m x
 | [],_,_=>rfl
 | (n,v) :: r,m,h=>by
  unfold bindC;rw[A9 λw hw=>h w (W9 _ hw)];split
  ·rfl
  ·have:x≠n:=by rintro rfl; exact h v Wh
   simp[this]
theorem A_{kindOf:Str->Option NameKind}{x:Str}{v:Value}:∀ {P:List Str} {vs:List Value} {i:Nat} {m:Str->Option Value},P.Nodup->P[i]? = some x->vs[i]? = some v->kindOf x=some .local ->
  bindL kindOf (P.zip vs) m x=some v
 | [],_,_,_,_,h,_,_=>by simp at h
 | _ :: _,[],_,_,_,_,h,_=>by simp at h
 | p :: P,w :: vs,0,m,nd,h1,h2,hk=>by
  simp at h1 h2; subst h1; subst h2
  show bindL kindOf ((p,w) :: P.zip vs) m p=_;unfold bindL;rw[A8 λv hv=>(WT.mp nd).1 (Jx hv).1,if_pos hk];simp
 | p :: P,w :: vs,i + 1,m,nd,h1,h2,hk=>by
  show bindL kindOf ((p,w) :: P.zip vs) m x=_;unfold bindL;exact A_ (i:=i) (WT.mp nd).2 (by simpa using h1) (by simpa using h2) hk
theorem Ba{kindOf:Str->Option NameKind}{x:Str}{v:Value}:∀ {P:List Str} {vs:List Value} {i:Nat} {m:Str->Option Value},P.Nodup->P[i]? = some x->vs[i]? = some v->kindOf x≠some .local ->
  bindC kindOf (P.zip vs) m x=some v
 | [],_,_,_,_,h,_,_=>by simp at h
 | _ :: _,[],_,_,_,_,h,_=>by simp at h
 | p :: P,w :: vs,0,m,nd,h1,h2,hk=>by
  simp at h1 h2; subst h1; subst h2
  show bindC kindOf ((p,w) :: P.zip vs) m p=_;unfold bindC;rw[A9 λv hv=>(WT.mp nd).1 (Jx hv).1,if_neg hk];simp
 | p :: P,w :: vs,i + 1,m,nd,h1,h2,hk=>by
  show bindC kindOf ((p,w) :: P.zip vs) m x=_;unfold bindC;exact Ba (i:=i) (WT.mp nd).2 (by simpa using h1) (by simpa using h2) hk
def fw(N:List Str)(vs:List V):St:=vs.map some ++ Wg (N.length - vs.length) none
def lH(CX:jc)(P:Wm)(w:Ws)(K:W2)(mg:Str->Option Value)(base:Heap)(N:List Str)(qual:Str)(scope:Scope)(f:Addr)(cd:Value)(A:Wt)(outer:List Env)(s:W3)(H:Hp)(E:XK):Cx where
 prog:=P
 w:=w
 K:=K
 mg:=mg
 base:=base
 A:=A.deeper (envOfC qual scope s.heap.objs.size f cd)
 N:=N
 s₀:=s
 H₀:=H
 env:=envOfC qual scope s.heap.objs.size f cd
 outer:=outer
 stack:=envOfC qual scope s.heap.objs.size f cd :: outer
 ex:=[]
 calm:=true
 fn:=λ_=>true
 pn:=[]
 xe:=λe s'=>We (model P w) (A.deeper (envOfC qual scope s.heap.objs.size f cd)) (leaving (envOfC qual scope s.heap.objs.size f cd) e) (λ_ qc=>CX outer H s E e qc) (λe' qc=>CX outer H s E e' qc) s'
theorem Bb{sc:Scope}{n:Nat}{x:Str}(h:sc.names.lookup x=some .cell):∃ c,(QG n sc.names []).lookup x=some c:=by
 have q:=PySem.W.cellsFrom_some sc.names n [] (.inl h);exact Jd.mp q
theorem IS{CX:jc}{P:Wm}{w:Ws}{K:W2}{mg:Str->Option Value}{base:Heap}{N ps:List Str}{qual:Str}{scope:Scope}{f:Addr}{cd:Value}{A:Wt}{outer:List Env}{s s1:W3}{H:Hp}{E:XK}{us:List Value}{vs:List V}
  (S:cW N ps scope) (hd:A.handled=none) (e0:sE P w K mg base A outer s H) (hl:vs.length=ps.length) (r:Vals vs us)
  (x:InCallC s s.heap.objs.size (bindL (envOfC qual scope s.heap.objs.size f cd).kindOf (ps.zip us) λ_=>none) (QG (s.heap.objs.size + 1) scope.names []) (bindC (envOfC qual scope s.heap.objs.size f cd).kindOf (ps.zip us) λ_=>none) s1) :
  Inv (lH CX P w K mg base N qual scope f cd A outer s H E) [] (fw N vs) H s1:=by
 have dB:ps.length<=N.length:=by have:=congrArg Jt S.pre; rw[JR] at this; omega
 obtain⟨h1,tk,rfl,hk⟩:=x.done;have qe:∀ b:Addr,b ∉ (lH CX P w K mg base N qual scope f cd A outer s H E).ex:=λb z=>absurd (show b ∈ ([]:List Addr) from z) (by simp)
 refine⟨⟨e0.mod,S.kind,rfl,rfl,Wf _,λy z c h1 h2=>?_,λy hy=>?_,λy c _ h=>?_,λ_=>hd,Around.frames_deeper e0.frames,.inr ⟨rfl,rfl⟩,λb z=>absurd z (qe b),e0.bs,e0.ly,λb _ _=>qe b,λb z=>absurd z (qe b),e0.i8,e0.oh⟩,
  rfl,e0.bare,Un.kept hk,⟨_,x.toInCall.ns,λi y v h1 h2 h3=>?_⟩,λy c h=>⟨_,x.cell y c h⟩,e0.aG.fresh (Wf _),λy c h=>?_,λp hp=>absurd (show p ∈ ([]:List (Addr×Obj)) from hp) (by simp),e0.aG.kept hk,?_⟩
 ·exact name_of_addr x.apart (WD h1) (WD h2)
 ·have hy:scope.names.lookup y=some .cell\/scope.names.lookup y=some .free:=hy;rcases hy with hy | hy
  ·exact Bb hy
  ·exact absurd rfl (S.vJ _ (WD hy))
 ·exact Jn (x.above y c (WD h))
 ·have hi:i < vs.length:=by
   unfold fw at h2;by_cases hi:i < vs.length
   ·exact hi
   ·rw[List.getElem?_append_right (by simpa using hi)] at h2;rw[List.getElem?_replicate] at h2;split at h2 <;> cases h2
  have ha:vs[i]? = some v:=by
   unfold fw at h2;rw[J4 (by simpa using hi),Wl] at h2
   cases e:vs[i]? with
   | none=>rw[e] at h2; cases h2
   | some a=>rw[e] at h2; cases h2; rfl
  obtain⟨u,hu,rv⟩:=r.get ha;have hp:ps[i]? = some y:=by
   rw[<- S.pre,List.getElem?_take_of_lt (by omega)]; exact h1
  have Bc:ps.Nodup:=by rw[<- S.pre]; exact S.nd.sublist (List.take_sublist _ _)
  refine⟨u,rv,?_⟩;rcases S.par y (WE hp) with k | k
  ·exact .inl ⟨k,A_ Bc hp hu k⟩
  ·obtain⟨c,e⟩:=Bb (n:=s.heap.objs.size + 1) k;refine .inr ⟨.inl k,c,e,?_⟩;have q:=x.cell y c e;rw[Ba Bc hp hu (by show scope.names.lookup y≠_; rw[k]; decide)] at q;exact q
 ·exact e0.aG.fresh (Jn (x.above y c (WD h)))
 ·unfold fw;show _=N.length;rw[Qb,Q5,List.length_replicate];omega
theorem IT{CX:jc}{P:Wm}{w:Ws}{K:W2}{mg:Str->Option Value}{base:Heap}{k:Nat}{f:Addr}{name qual:Str}{params:Arguments}{body:List Stmt}{scope:Scope}{dV kV doc pm bu ct oc:Value}{an od:Option Addr}
  {lI:Array (Option Value)} {N ps:List Str} {sp:Sp} (lk:K.lookup f=some ⟨oc,od,.func (QN name qual params body scope dV kV doc pm an bu ct),lI⟩) (ja:PySem.W.codeIn K bu qual=true) (S:cW N ps scope)
  (len:∀ vs H Q E,sp vs H Q E->vs.length=ps.length)
  (mU:∀ (A:Wt) (outer:List Env) (s:W3) (H:Hp) (vs:List V) (Q:VK) (E:XK),eB k (A.deeper (envOfC qual scope s.heap.objs.size f bu))->sp vs H Q E ->
   ∃ t,dU (lH CX P w K mg base N qual scope f bu A outer s H E) body t/\t { nx:=λ_ H'=>Q .aJ H',rt:=Q } (fw N vs) H) :
  jd P w K mg base CX (k + 1) f (QN name qual params body scope dV kV doc pm an bu ct) ps sp:=by
 refine⟨len,λA outer s H args us vs Q E hr e0 hb r lJ=>?_⟩;have hl:=len _ _ _ _ lJ;have KX:K.In s.heap:=e0.mod.vm.keeps λb o e=>(e0.bs b o e).1
 have lim:s.heap.NoLimit:=e0.mod.nolimit.keeps λb o e=>(e0.bs b o e).1
 have IU:∀ y ∈ ps.zip us,scope.names.lookup y.1=some .local\/(scope.names.lookup y.1=some .cell/\((QG (s.heap.objs.size + 1) scope.names []).lookup y.1).isSome=true):=λ⟨n,v⟩ hy=>by
  rcases S.par n (Jx hy).1 with q | q
  ·exact .inl q
  ·exact .inr ⟨q,PySem.W.cellsFrom_some _ _ _ (.inl q)⟩
 refine codeAny_call_function hr.depth (KX _ _ lk) rfl S.co S.gen rfl (PySem.W.codeRec_of KX ja) (hb _ _ _ _ ?_);refine wpAny_newFunctionEnv_cells S.kind IU λenv he s1 x=>?_
 subst he;refine⟨lim.keeps x.toInCall.keep,codeAny_func ?_⟩;obtain⟨t,ht,hq⟩:=mU A outer s H vs Q E (hr.deeper _) lJ;have I:Inv (lH CX P w K mg base N qual scope f bu A outer s H E) [] (fw N vs) H s1:=IS S hr.hd e0 hl r x;refine QF (ht [] s1 (fw N vs) H _ I hq) (λfl s' hs=>?_) λe s' hs=>hs
 have fin:∀ {σ':St} {H':Hp} {v:V} {u:Value},Inv (lH CX P w K mg base N qual scope f bu A outer s H E) [] σ' H' s'->RelV v u->Q v H'->CE outer P w H s Q u s' :=
  λ{σ' H' v u} J rv q=>⟨v,H',J.os,J.bare,J.base,J.aG,rv,q⟩
 cases fl with
 | ret u =>
  obtain⟨v,σ',H',J,rv,q⟩:=hs;exact fin J rv q
 | next =>
  obtain⟨σ',H',J,q⟩:=hs;exact fin (v:=V.aJ) (u:=Value.none) J rfl q
 | brk =>
  obtain⟨_,_,_,q⟩:=hs;exact False.elim q
 | cont =>
  obtain⟨_,_,_,q⟩:=hs;exact False.elim q
section
variable {X:Cx} {x:Str} {p pos:Pos} {e:Expr} {es:List Expr} {t:TA} {id T:String} {r:List V->Hp->VK->Prop}
def Be(r:List V->Hp->VK->Prop)(t:TA):TE:=λσ H Q=>t σ H λvs H1=>r vs H1 Q
theorem vK (hc:er X (.builtin id) r) (hg:Gl X x) (hm:X.mg x=none) (hv:QC x=some (.builtin id)) (ha:PA X (e :: es) t) (hn:x≠"__name__":=by decide) (gZ:(x == ("__debug__" : Str))=false:=by decide)
  (he:Wk (e :: es) X.env=(false,eval e X.env) :: Wk es X.env:=by rfl) (dB:(QK pos (Wk es X.env)).any (·.1)=false:=by rfl):PE X (.Call (.Name x p) (e :: es) [] pos) (Be r t):=by
 intro pins s σ H Q I h;refine wpAny_Call_Name_kw (pX I hg hm hv ?_ hn gZ);exact PyProof.Rows.callWith_builtin1 (aR (ha pos pins s σ H _ I h) λus s1 ⟨vs,H1,I1,r1,q1⟩=>hc pins s1 σ H1 vs us Q I1 r1 q1) he dB
theorem IV (hc:er X (.type T) r) (hg:Gl X x) (hm:X.mg x=none) (hv:QC x=some (.type T)) (ha:PA X (e :: es) t) (hn:x≠"__name__":=by decide) (gZ:(x == ("__debug__" : Str))=false:=by decide)
  (he:Wk (e :: es) X.env=(false,eval e X.env) :: Wk es X.env:=by rfl) (dB:(QK pos (Wk es X.env)).any (·.1)=false:=by rfl):PE X (.Call (.Name x p) (e :: es) [] pos) (Be r t):=by
 intro pins s σ H Q I h;refine wpAny_Call_Name_kw (pX I hg hm hv ?_ hn gZ);exact PyProof.Rows.callWith_type1 (aR (ha pos pins s σ H _ I h) λus s1 ⟨vs,H1,I1,r1,q1⟩=>hc pins s1 σ H1 vs us Q I1 r1 q1) he dB
end
end L2
namespace HT
open PySem PyProof.Rows
section
open PySem.SeqAt
open PySem.AutoSeq1 (wpAny_loadPart')
open PySem.MeetsSeq PySem.MeetsSeq2 PySem.MeetsSeq3
end
section
variable {prog:Wm} {w:Ws} {A:Wt} {E:Value->W3->Prop} {s:W3}
theorem IW(ht:IsTup s.heap t vs.toArray)(hb:IsTup s.heap b ws.toArray)(hv:vs≠[])
  (h1:ws=[]->Q (.ref t) s) (h2:ws≠[]->Q (.ref s.heap.objs.size) { s with heap:=s.heap.push { cls:=.type "tuple",data:=.seq (vs ++ ws).toArray } })
  (hsz:vs.length + ws.length<=Wc):We (model prog w) A (Qc .Add (.ref t) (.ref b)) Q E s:=by
 obtain⟨⟨cls,dd,data,sl⟩,ho,hc,n,hd⟩:=id ht;obtain⟨⟨cls2,mV,data2,lK⟩,ko,hc2,n2,hd2⟩:=id hb;simp only at hc hd hc2 hd2;subst hc hd hc2 hd2;have e:vs.toArray ++ ws.toArray=(vs ++ ws).toArray:=by simp
 by_cases hw:ws=[]
 ·exact concat_meets ⟨_,ho,rfl⟩ ⟨_,ko,rfl⟩ noFill_tuple_add seq_tuple_add PySem.F.slot_tuple_add PySem.F.entry_tuple_add (PySem.F.args_tuple_add_2 _ _)
   (tuple_addW1 t b vs.toArray ws.toArray n n2 dd mV sl lK (by simpa using hv) (by simp[hw])) ⟨ho,ko,h1 hw⟩
 ·refine concat_meets ⟨_,ho,rfl⟩ ⟨_,ko,rfl⟩ noFill_tuple_add seq_tuple_add PySem.F.slot_tuple_add PySem.F.entry_tuple_add (PySem.F.args_tuple_add_2 _ _)
   (tuple_addW2 t b vs.toArray ws.toArray n n2 dd mV sl lK (by simpa using hv) (by simpa using hw) (by rw[Wq,Wq]; exact hsz)) ⟨ho,ko,?_⟩
  rw[e];exact h2 hw
def aU(n d:Nat):Option Int->Nat
 | none=>d
 | some v=>if v < 0 then(v + (n:Int)).toNat else min v.toNat n
theorem vL(n d:Nat)(hd:d<=n)(o:Option Int):aU n d o<=n:=by
 cases o with
 | none=>exact hd
 | some v =>
  show(if v < 0 then(v + (n:Int)).toNat else min v.toNat n)<=n;by_cases hv:v < 0
  ·rw[if_pos hv]; omega
  ·rw[if_neg hv]; exact Nat.min_le_right _ _
theorem Bf(v:Int)(n d:Nat):(if v < 0 then max (v + (n:Int)) 0 else min v (n:Int))=((aU n d (some v):Nat):Int):=by
 show(if v < 0 then max (v + (n:Int)) 0 else min v (n:Int))=(((if v < 0 then(v + (n:Int)).toNat else min v.toNat n):Nat):Int);by_cases hv:v < 0
 ·simp only[if_pos hv]; omega
 ·simp only[if_neg hv]; omega
theorem IX(lo hi:Option Int)(n:Nat):Builtin.Slice.sliceAdjust lo hi 1 (n:Int)=(((aU n 0 lo:Nat):Int),((aU n n hi:Nat):Int)):=by
 have h1:¬ ((1:Int) < 0):=by omega
 unfold Builtin.Slice.sliceAdjust;simp only[h1,if_false];refine Prod.ext ?_ ?_
 ·cases lo with
  | none=>rfl
  | some v=>exact Bf v n 0
 ·cases hi with
  | none=>rfl
  | some v=>exact Bf v n n
theorem IY(i j:Nat):J5 (i:Int) (j:Int) 1=j - i:=by
 unfold J5;have h1:(1:Int) > 0:=by omega
 simp only[h1,if_true,Int.ediv_one];split <;> omega
theorem Bg(p:IsPart v o)(h:Q o s):We (model prog w) A (Builtin.Slice.slicePartIndex v) Q E s:=by
 cases p with
 | none=>exact slicePart_none h
 | int i t=>exact slicePart_int h
theorem Bh{sl:Addr}{vl vu:Value}{lo hi:Option Int}{n:Nat}{Q:Int×Int×Nat->W3->Prop}(hs:s.heap.IsSliceOf sl vl vu .none)(pl:IsPart vl lo)(pu:IsPart vu hi)
  (h:Q (((aU n 0 lo:Nat):Int),1,aU n n hi - aU n 0 lo) s):We (model prog w) A (Builtin.Slice.sliceApplied (.ref sl) (pure (n:Int))) Q E s:=by
 obtain⟨os,hos,hcs,hds⟩:=id hs;unfold Builtin.Slice.sliceApplied Builtin.Slice.sliceFields;refine W0 (W0 (WW hos hds (x:=vl) rfl (W0 (WW hos hds (x:=vu) rfl (W0 (WW hos hds (x:=.none) rfl (W7 ?_)))))));refine W0 (slicePart_none ?_);show We _ _ (if ((1:Int) == 0)=true then _ else _) _ _ s;rw[if_neg (by decide)];refine W0 (Bg pl (W0 (Bg pu (W0 (W7 ?_)))));show We _ _ (match Builtin.Slice.sliceAdjust lo hi 1 (n:Int) with | (lo,hi)=>pure (lo,(1:Int),J5 lo hi 1)) _ _ s;rw[IX lo hi n];show We _ _ (pure (((aU n 0 lo:Nat):Int),(1:Int),J5 ((aU n 0 lo:Nat):Int) ((aU n n hi:Nat):Int) 1)) _ _ s;rw[IY];exact W7 h
theorem IZ(xs:Array Value)(i k:Nat):((W4 k).filterMap λ(m:Nat)=>xs[((i:Int) + (m:Int) * 1).toNat]?).toArray=((xs.toList.drop i).take k).toArray:=by
 have e:(λ(m:Nat)=>xs[((i:Int) + (m:Int) * 1).toNat]?)=λm=>xs[i + m]?:=by
  funext m
  have:((i:Int) + (m:Int) * 1).toNat=i + m:=by omega
  rw[this]
 rw[e];have:=pick_run xs i k;rw[List.filterMap_map] at this;have e2:((λx=>xs[x]?) ∘ λx=>i + x)=λm=>xs[i + m]?:=rfl
 rw[e2] at this;rw[this]
theorem I0{t sl:Addr}{items:Array Value}{vl vu:Value}{lo hi:Option Int}{Q:Value->W3->Prop}(ht:IsTup s.heap t items)(hs:s.heap.IsSliceOf sl vl vu .none)(pl:IsPart vl lo)(pu:IsPart vu hi)
  (hw:¬ (aU items.size 0 lo=0/\aU items.size items.size hi=items.size))
  (h:Q (.ref s.heap.objs.size) { s with heap:=s.heap.push { cls:=.type "tuple",data:=.seq ((items.toList.drop (aU items.size 0 lo)).take (aU items.size items.size hi - aU items.size 0 lo)).toArray } })
  (hsz:items.size<=Wc):We (model prog w) A (JI (.ref t) (.ref sl)) Q E s:=by
 have sF:sizeOk (.seq ((items.toList.drop (aU items.size 0 lo)).take (aU items.size items.size hi - aU items.size 0 lo)).toArray):=by
  show((items.toList.drop (aU items.size 0 lo)).take (aU items.size items.size hi - aU items.size 0 lo)).toArray.size<=Wc;rw[Wq,JR,List.length_drop,QS];omega
 have hj:aU items.size items.size hi<=items.size:=vL _ _ (Wf _) hi;obtain⟨os,hos,hcs,hds⟩:=id hs;have vM:s.TypeIs (.ref sl) "slice":=⟨os,hos,hcs⟩
 unfold JI;try with_reducible refine Ql ?_
 first | refine W0 (W7 ?_) | skip
 refine W0 (wpAny_sequenceKey ht.typeIs (by decide) ?_);refine W0 (WZ (name:=Str.ofString "__getitem__") ht.typeIs QI
  (WX QI ht.typeIs entry_tuple_getitem ?_ (args_tuple_getitem _ _)))
 show We _ _ (Builtin.Tuple.tupleItemsOf (.ref t) >>= _) _ _ s;refine W0 (tupleItemsOf_ ht ?_);refine W0 (JA vM ?_);rw[if_pos (by decide)];refine W0 (Bh hs pl pu ?_);have ku:¬ ((((aU items.size 0 lo:Nat):Int) == 0 && (1:Int) == 1 && (aU items.size items.size hi - aU items.size 0 lo) == items.size)=true):=by
  intro q;rw[Wv,Wv] at q;have q1:((aU items.size 0 lo:Nat):Int)=0:=eq_of_beq q.1.1;have q2:aU items.size items.size hi - aU items.size 0 lo=items.size:=eq_of_beq q.2;exact hw ⟨by omega,by omega⟩
 show We _ _ (if (((aU items.size 0 lo:Nat):Int) == 0 && (1:Int) == 1 && (aU items.size items.size hi - aU items.size 0 lo) == items.size)=true then _ else _) _ _ s;rw[if_neg ku,IZ];first
  | exact W0 (m:=Je _) (Q0 (W7 ⟨_,rfl,W7 h⟩) sF)
  | exact W0 (m:=Je _) (Q0 (W0 (W7 (W7 ⟨_,rfl,W7 h⟩))) sF)
  | exact W0 (W0 (m:=Je _) (Q0 (W7 (W7 ⟨_,rfl,W7 h⟩)) sF))
  | exact W0 (W0 (m:=Je _) (Q0 (W7 ⟨_,rfl,W7 h⟩) sF))
end
end HT
namespace L2
open PySem PySem.Spec PyProof.Rows
abbrev TO:=St->Hp->(Option Int->Hp->Prop)->Prop
def PO(X:Cx)(e:Option Expr)(t:TO):Prop :=
 ∀ (pins:List (Addr×Obj)) (s:W3) (σ:St) (H:Hp) (Q:Option Int->Hp->Prop),Inv X pins σ H s->t σ H Q ->
  We (model X.prog X.w) X.A (evalPart e X.env) (λu s'=>∃ o H',Inv X pins σ H' s'/\IsPart u o/\Q o H') X.xe s
def I_:TO:=λ_ H Q=>Q none H
def JX(t:TE):TO:=λσ H Q=>t σ H λx H1=>∃ i,x = .int i/\Q (some i) H1
section
variable {X:Cx} {e:Expr} {te:TE} {lo hi:Option Expr} {tl th:TO} {pos p2:Pos}
theorem JY:PO X none I_:=by
 intro pins s σ H Q I h;rw[evalPart_none];exact W7 ⟨none,H,I,.none,h⟩
theorem JZ(h:PE X e te):PO X (some e) (JX te):=by
 intro pins s σ H Q I hw;rw[evalPart_some];refine aR (h pins s σ H _ I hw) λu s1 ⟨x,H1,I1,r1,q1⟩=>?_
 obtain⟨i,rfl,q⟩:=q1;obtain⟨t,rfl⟩:=r1;exact⟨some i,H1,I1,.int i t,q⟩
def jN(X:Cx)(r:V->Option Int->Option Int->Hp->VK->Prop):Prop :=
 ∀ (pins:List (Addr×Obj)) (s:W3) (σ:St) (H:Hp) (x:V) (v vl vu:Value) (lo hi:Option Int) (sl:Addr) (Q:VK),Inv X pins σ H s->RelV x v->s.heap.IsSliceOf sl vl vu .none->IsPart vl lo->IsPart vu hi->r x lo hi H Q ->
  ∃ T id,typeLookup (.type T) "__getitem__" = pure (some (.builtin id))/\s.TypeIs v T/\We (model X.prog X.w) X.A (JI v (.ref sl)) (EP X pins σ Q) X.xe s
theorem jN.or(h:jN X r)(h':jN X r'):jN X (λx lo hi H Q=>r x lo hi H Q\/r' x lo hi H Q):=by
 intro pins s σ H x v vl vu lo hi sl Q I rx hs pl pu q;rcases q with q | q
 ·exact h pins s σ H x v vl vu lo hi sl Q I rx hs pl pu q
 ·exact h' pins s σ H x v vl vu lo hi sl Q I rx hs pl pu q
def J_(r:V->Option Int->Option Int->Hp->VK->Prop)(te:TE)(tl th:TO):TE:=λσ H Q=>te σ H λx H1=>tl σ H1 λl H2=>th σ H2 λu H3=>r x l u H3 Q
theorem Ka(hr:jN X r)(he:PE X e te)(hl:PO X lo tl)(hu:PO X hi th):PE X (.Subscript e (.Slice lo hi none p2) pos) (J_ r te tl th):=by
 intro pins s σ H Q I h;refine Subscript_ (aR (he pins s σ H _ I h) λv s1 ⟨x,H1,I1,r1,q1⟩=>?_);refine wpAny_Slice (aR (hl pins s1 σ H1 _ I1 q1) λvl s2 ⟨l,H2,I2,pl,q2⟩=>aR (hu pins s2 σ H2 _ I2 q2) λvu s3 ⟨u,H3,I3,pu,q3⟩=>?_);rw[evalPart_none];refine W7 ?_;have I4:Inv X pins σ H3 { s3 with heap:=s3.heap.push { cls:=.type "slice",data:=.fields #[vl,vu,.none] } }:=I3.kept (t':=s3.toks) λb ob q=>Wd _ q
 obtain⟨T,id,hT,ht,hg⟩:=hr pins { s3 with heap:=s3.heap.push { cls:=.type "slice",data:=.fields #[vl,vu,.none] } } σ H3 x v vl vu l u s3.heap.objs.size Q I4 r1 (Heap.IsSliceOf.new ..) pl pu q3;show We (model X.prog X.w) X.A (subscriptTail e (.Slice lo hi none p2) v (.ref s3.heap.objs.size)) (EP X pins σ Q) X.xe { s3 with heap:=s3.heap.push { cls:=.type "slice",data:=.fields #[vl,vu,.none] } };exact tail_any (ops:=[.ref s3.heap.objs.size,v]) ht hT hg (by with_unfolding_all rfl)
def lL(xs:List V)(lo hi:Option Int):List V:=(xs.drop (HT.aU xs.length 0 lo)).take (HT.aU xs.length xs.length hi - HT.aU xs.length 0 lo)
theorem Bi(xs:List V)(lo hi:Option Int):(lL xs lo hi).length<=xs.length:=by
 unfold lL;rw[JR,List.length_drop];omega
def Kb(K:W2):V->Option Int->Option Int->Hp->VK->Prop:=λx lo hi H Q=>∃ a xs,x = .ref a/\cL K H a xs /\
 ¬ (HT.aU xs.length 0 lo=0/\HT.aU xs.length xs.length hi=xs.length)/\∀ p,H p=none->Q (.ref p) (upd H p (.tup (lL xs lo hi)))
theorem Kc:jN X (Kb X.K):=by
 intro pins s σ H x v vl vu lo hi sl Q I rx hs pl pu h;obtain⟨a,xs,rfl,hx,hw,q⟩:=h
 cases rx;obtain⟨ae,r,ht,hz⟩:=I.tuple hx;have hlen:ae.toArray.size=xs.length:=by rw[Wq]; exact r.length.symm
 refine⟨"tuple",_,PyProof.Rows.slot_tuple_getitem.lookup,ht.typeIs,?_⟩;refine HT.I0 ht hs pl pu (by rw[hlen]; exact hw) ?_ (by rw[hlen]; exact hz);rw[hlen];refine⟨.ref s.heap.objs.size,_,I.laid (t':=s.toks) (o:=.tup (lL xs lo hi)) (λb ob q=>Wd _ q) (Wf _) ?_,rfl,q _ (I.aG.fresh (Wf _))⟩;exact⟨Wu (Bi xs lo hi) hz,_,(r.drop (HT.aU xs.length 0 lo)).take (HT.aU xs.length xs.length hi - HT.aU xs.length 0 lo),iC.new _ _⟩
def Bj(K:W2):R2:=λx y H Q=>∃ a b xs ys,x = .ref a/\y = .ref b/\cL K H a xs/\cL K H b ys/\xs≠[]/\xs.length + ys.length<=Wc /\
 (ys=[]->Q (.ref a) H)/\(ys≠[]->∀ p,H p=none->Q (.ref p) (upd H p (.tup (xs ++ ys))))
theorem Vals.qf(r:Vals xs us):us=[] ↔ xs=[]:=by
 cases r with
 | nil=>simp
 | cons _ _=>simp
theorem Kd:bx X (Qc .Add) (Bj X.K):=by
 intro pins s σ H x y v u Q I rx ry h;obtain⟨a,b,xs,ys,rfl,rfl,ha,hb,hx,hz,q1,q2⟩:=h
 cases rx
 cases ry;obtain⟨ae,r1,p1,_⟩:=I.tuple ha;obtain⟨its2,r2,p2,_⟩:=I.tuple hb;refine HT.IW p1 p2 (λz=>hx (r1.qf.mp z)) (λz=>⟨.ref a,H,I,rfl,q1 (r2.qf.mp z)⟩) (λz=>?_) (by rw[<- r1.length,<- r2.length]; exact hz);refine⟨.ref s.heap.objs.size,_,I.laid (t':=s.toks) (o:=.tup (xs ++ ys)) (λb ob q=>Wd _ q) (Wf _) ?_,rfl,q2 (λw=>z (r2.qf.mpr w)) _ (I.aG.fresh (Wf _))⟩;exact⟨by rw[Qb]; exact hz,_,r1.append r2,iC.new _ _⟩
end
def dW(n:Nat)(i:Int):Option Nat:=if 0<=i then(if i < n then some i.toNat else none) else if -(n:Int)<=i then some (i + n).toNat else none
def c8{α:Type}(xs:List α)(i:Int):Option α:=(dW xs.length i).bind λj=>xs[j]?
theorem Bk(h:dW n i=some j):seqIndex? i n=some j/\j < n/\-(n:Int)<=i/\i < n:=by
 unfold dW at h;by_cases h0:0<=i
 ·rw[if_pos h0] at h;by_cases h1:i < n
  ·rw[if_pos h1] at h;have e:i.toNat=j:=Wx h;exact⟨by rw[seqIndex_of h0 h1,e],by omega,by omega,h1⟩
  ·rw[if_neg h1] at h; cases h
 ·rw[if_neg h0] at h;by_cases h1 : -(n:Int)<=i
  ·rw[if_pos h1] at h;have e:(i + n).toNat=j:=Wx h;exact⟨by rw[seqIndex_neg (by omega) h1,e],by omega,h1,by omega⟩
  ·rw[if_neg h1] at h; cases h
theorem vN(h:c8 xs i=some v):∃ j,seqIndex? i xs.length=some j/\xs[j]? = some v/\j < xs.length/\-(xs.length:Int)<=i/\i < xs.length:=by
 unfold c8 at h
 cases e:dW xs.length i with
 | none=>rw[e] at h; cases h
 | some j =>
  rw[e] at h;obtain⟨h1,h2,h3,h4⟩:=Bk e;exact⟨j,h1,h,h2,h3,h4⟩
def om(b:Expr):Prop:=∀ o i,subscripted b false o i=operate [o,i] (JI o i)
def gv(X:Cx)(r:R2):Prop :=
 ∀ (value slice:Expr) (pins:List (Addr×Obj)) (s:W3) (σ:St) (H:Hp) (x y:V) (v u:Value) (Q:VK),Inv X pins σ H s->RelV x v->RelV y u->r x y H Q ->
  subscripted slice false v u=operate [v,u] (JI v u)->We (model X.prog X.w) X.A (subscriptTail value slice v u) (EP X pins σ Q) X.xe s
def qg(X:Cx)(id:String)(r:V->List V->Hp->VK->Prop):Prop :=
 ∀ (pins:List (Addr×Obj)) (s:W3) (σ:St) (H:Hp) (x:V) (xs:List V) (v:Value) (us:List Value) (Q:VK),Inv X pins σ H s->RelV x v->Vals xs us->r x xs H Q ->
  We (model X.prog X.w) X.A (call (.builtin id) (v :: us)) (EP X pins σ Q) X.xe s
section
variable {X:Cx} {a b:Expr} {ta tb:TE} {pos:Pos}
theorem gv.or(h:gv X r)(h':gv X r'):gv X (λx y H Q=>r x y H Q\/r' x y H Q):=by
 intro value slice pins s σ H x y v u Q I rx ry q hs;rcases q with q | q
 ·exact h value slice pins s σ H x y v u Q I rx ry q hs
 ·exact h' value slice pins s σ H x y v u Q I rx ry q hs
theorem qh(hr:gv X r)(ha:PE X a ta)(hb:PE X b tb)(hs:om b):PE X (.Subscript a b pos) (jb r ta tb):=by
 intro pins s σ H Q I h;exact Subscript_ (vy ha hb I h λv u s2 x y H2 I2 rx ry q=>hr a b pins s2 σ H2 x y v u Q I2 rx ry q (hs _ _))
def Bl(K:W2):R2:=λx y H Q=>∃ p xs i v,x = .ref p/\y = .int i/\cq K H p xs/\c8 xs i=some v/\Q v H
def Bm(K:W2):R2:=λx y H Q=>∃ p xs i v,x = .ref p/\y = .int i/\cL K H p xs/\c8 xs i=some v/\Q v H
def Bn:R2:=λx y H Q=>∃ z i c,x = .str z/\y = .int i/\z.length<=Wc/\c8 z.cps.toList i=some c/\Q (.str ⟨#[c]⟩) H
theorem Ke:gv X (Bl X.K):=by
 intro value slice pins s σ H x y v u Q I rx ry h hs;obtain⟨p,xs,i,z,rfl,rfl,hq,he,q⟩:=h
 cases rx;obtain⟨t,rfl⟩:=ry;obtain⟨ae,r,pl,hz⟩:=I.list hq;obtain⟨j,h1,h2,h3,h4,h5⟩:=vN he;obtain⟨w,ew,aK⟩:=r.get h2;have hl:=r.length;have hn:=oj;have fin:EP X pins σ Q w s:=⟨z,H,I,aK,q⟩
 by_cases h0:0<=i
 ·have hj:i.toNat=j:=by
   rw[seqIndex_of h0 h5] at h1;exact Wx h1
  exact item_listR pl.isList h0 (by omega) (by rw[hj]; simpa using ew) fin hs
 ·have hj:(i + (ae.toArray.size:Int)).toNat=j:=by
   rw[seqIndex_neg (by omega) h4] at h1;rw[Wq,<- hl];exact Wx h1
  exact subscriptTail_builtinR (x:=w) pl.isList.typeIs slot_list_getitem.lookup
   (wpAny_getItem_list_neg (Q:=λr s'=>r=w/\EP X pins σ Q r s') pl.isList (by omega) (by rw[Wq] <;> omega) (by omega) (by rw[hj]; simpa using ew) ⟨rfl,fin⟩) hs
theorem Kf:gv X (Bm X.K):=by
 intro value slice pins s σ H x y v u Q I rx ry h hs;obtain⟨p,xs,i,z,rfl,rfl,hq,he,q⟩:=h
 cases rx;obtain⟨t,rfl⟩:=ry;obtain⟨ae,r,pl,hz⟩:=I.tuple hq;obtain⟨j,h1,h2,h3,h4,h5⟩:=vN he;obtain⟨w,ew,aK⟩:=r.get h2;have hl:=r.length;have hn:=oj;have fin:EP X pins σ Q w s:=⟨z,H,I,aK,q⟩
 exact subscriptTail_builtinR (x:=w) pl.typeIs slot_tuple_getitem.lookup
  (getItem_tuple (j:=j) (Q:=λr s'=>r=w/\EP X pins σ Q r s') pl (by omega) (by omega) (by rw[Wq,<- hl]; exact h1) (by simpa using ew) ⟨rfl,fin⟩) hs
theorem Kg:gv X Bn:=by
 intro value slice pins s σ H x y v u Q I rx ry h hs;obtain⟨z,i,c,rfl,rfl,hz,he,q⟩:=h;obtain⟨t,rfl⟩:=rx;obtain⟨t',rfl⟩:=ry;obtain⟨j,h1,h2,h3,h4,h5⟩:=vN he;have hl:z.cps.toList.length=z.length:=by simp[Str.length]
 rw[hl] at h1 h4 h5;have hn:=oj;exact tail_any (typeIs_str s z t) slot_str_getitem.lookup (getItem_str (c:=c) (by
  have e1:decide (i < -(2 ^ 63:Int))=false:=decide_eq_false (by omega);have e2:decide (i ≥ 2 ^ 63)=false:=decide_eq_false (by omega);rw[e1,e2,Bool.or_false]) (by rw[h1]; simpa using h2) ⟨.str ⟨#[c]⟩,H,I.tok _,⟨_,rfl⟩,q⟩) hs
def qj(K:W2):R2:=λx y H Q=>Bl K x y H Q\/Bm K x y H Q\/Bn x y H Q
theorem bw:gv X (qj X.K):=Ke.or (Kf.or Kg)
theorem Kh (ae:List Value) (n j:Nat) (u:Value):Obj.mapSeq (·.setIfInBounds j u) { cls:=.type "list",data:=.seq ae.toArray n } = { cls:=.type "list",data:=.seq (ae.set j u).toArray n }:=by
 simp[Obj.mapSeq]
theorem Inv.lst(I:Inv X pins σ H s)(h:H p=some (.lst xs)) :
  ∃ (ae:List Value) (n:Nat),Vals xs ae/\s.heap.get? p=some { cls:=.type "list",data:=.seq ae.toArray n }/\xs.length<=Wc:=by
 obtain⟨z,ae,n,r,e⟩:=I.aG p _ h;exact⟨ae,n,r,e,z⟩
theorem Inv.Ki{pins:List (Addr×Obj)}{σ:St}{H:Hp}{s:W3}{p:Addr}{xs ys:List V}{ae its':List Value}{n n':Nat}{f:Obj->Obj}(I:Inv X pins σ H s)(h:H p=some (.lst xs))
  (ho:s.heap.get? p=some { cls:=.type "list",data:=.seq ae.toArray n }) (hf:f { cls:=.type "list",data:=.seq ae.toArray n } = { cls:=.type "list",data:=.seq its'.toArray n' }) (r:Vals ys its') (hz:ys.length<=Wc) (t:Nat) :
  Inv X pins σ (upd H p (.lst ys)) { s with heap:=s.heap.update p f,toks:=t }:=by
 have e:(s.heap.update p f).get? p=some { cls:=.type "list",data:=.seq its'.toArray n' }:=by
  rw[Heap.get?_update_self f ho (by rw[hf] <;> rfl),hf]
 refine I.write (x:=p) (e:=p) (by rw[h]; trivial) (.inl rfl) (λb u hb q=>(Heap.get?_update_other _ _ (Ne.symm hb)).trans q) ⟨_,e⟩ ?_;exact⟨hz,its',n',r,e⟩
def Bo:V->V->V->Hp->(Hp->Prop)->Prop:=λo i v H Q=>∃ p xs k j,o = .ref p/\i = .int k/\H p=some (.lst xs)/\dW xs.length k=some j/\Q (upd H p (.lst (xs.set j v)))
theorem Bp:AH X Bo:=by
 intro pins s σ H o i v ov iv u Q I ro ri rv h;obtain⟨p,xs,k,j,rfl,rfl,hp,hj,q⟩:=h
 cases ro;obtain⟨t,rfl⟩:=ri;obtain⟨ae,n,r,ho,hz⟩:=I.lst hp;obtain⟨h1,h2,h3,h4⟩:=Bk hj;have hl:=r.length;have hn:=oj;have I':Inv X pins σ (upd H p (.lst (xs.set j v))) { s with heap:=s.heap.update p (Obj.mapSeq (·.setIfInBounds j u)) } :=
  I.Ki hp ho (Kh ae n j u) (r.set rv j) (by rw[Q7]; exact hz) s.toks
 by_cases h0:0<=k
 ·have hk:k.toNat=j:=by
   rw[seqIndex_of h0 h4] at h1;exact Wx h1
  exact PySem.W.ki_setAt ho h0 (by omega) (by rw[Wq,<- hl]; exact h4) (by rw[hk]; exact⟨_,I',q⟩)
 ·have hk:(k + (ae.toArray.size:Int)).toNat=j:=by
   rw[seqIndex_neg (by omega) h3] at h1;rw[Wq,<- hl];exact Wx h1
  exact PySem.W.ki_setBack ho (by omega) (by rw[Wq,<- hl]; exact h3) (by omega) (by rw[hk]; exact⟨_,I',q⟩)
theorem Kj(lo hi:Option Int)(n:Nat):(Ju lo hi none n).1=((HT.aU n 0 lo:Nat):Int)/\(Ju lo hi none n).2.1=((HT.aU n n hi:Nat):Int)/\(Ju lo hi none n).2.2=1:=by
 refine⟨?_,?_,rfl⟩
 ·cases lo with
  | none=>simp[Ju,HT.aU]
  | some i =>
   simp only[Ju,HT.aU,Option.getD_none,show(1:Int) > 0 by decide,if_true];by_cases h:i < 0
   ·simp only[h,if_true] <;> omega
   ·simp only[h,if_false] <;> omega
 ·cases hi with
  | none=>simp[Ju,HT.aU]
  | some i =>
   simp only[Ju,HT.aU,Option.getD_none,show(1:Int) > 0 by decide,if_true];by_cases h:i < 0
   ·simp only[h,if_true] <;> omega
   ·simp only[h,if_false] <;> omega
theorem Kk(ae:List Value)(lo hi:Option Int):slicePick ae.toArray lo hi none=((ae.drop (HT.aU ae.length 0 lo)).take (HT.aU ae.length ae.length hi - HT.aU ae.length 0 lo)).toArray:=by
 obtain⟨h1,h2,h3⟩:=Kj lo hi ae.toArray.size;unfold slicePick;rw[h1,h2,h3];simp only[sliceRange_one,pick_run,Wq] <;> rfl
def Bq(K:W2):V->Option Int->Option Int->Hp->VK->Prop:=λx lo hi H Q=>∃ a xs,x = .ref a/\cq K H a xs/\∀ p,H p=none->Q (.ref p) (upd H p (.lst (lL xs lo hi)))
theorem Km:jN X (Bq X.K):=by
 intro pins s σ H x v vl vu lo hi sl Q I rx hs pl pu h;obtain⟨a,xs,rfl,hx,q⟩:=h
 cases rx;obtain⟨ae,r,ht,hz⟩:=I.list hx;have hlen:=r.length;refine⟨"list",_,slot_list_getitem.lookup,ht.isList.typeIs,?_⟩;refine wpAny_getItem_list_slice ht.isList hs pl pu .none (by simp) ?_ (by rw[Wq] <;> omega);rw[Kk,<- hlen];refine⟨.ref s.heap.objs.size,_,I.laid (t':=s.toks) (o:=.lst (lL xs lo hi)) (λb ob q=>Wd _ q) (Wf _) ?_,rfl,q _ (I.aG.fresh (Wf _))⟩;exact⟨Wu (Bi xs lo hi) hz,_,0,(r.drop (HT.aU xs.length 0 lo)).take (HT.aU xs.length xs.length hi - HT.aU xs.length 0 lo),Wn _ rfl⟩
def kz:V->Bool
 | .aJ=>true
 | .bl _=>true
 | .int _=>true
 | .str _=>true
 | _=>false
def lM:V->V->Bool
 | .aJ,.aJ=>true
 | .bl a,.bl b=>a == b
 | .bl a,.int b=>(if a then 1 else 0) == b
 | .int a,.bl b=>a == (if b then 1 else 0)
 | .int a,.int b=>a == b
 | .str a,.str b=>a == b
 | _,_=>false
theorem Kn(ry:RelV y u)(rx:RelV x v)(fy:kz y=true)(fx:kz x=true):SeqAt.EqAt A s u v (lM y x):=by
 cases y with
 | aJ =>
  cases ry
  cases x with
  | aJ=>cases rx; exact SeqAt.EqAt.same _
  | bl b=>cases rx; exact SeqAt.EqAt.none_bool b
  | int b=>obtain⟨t,rfl⟩:=rx; exact SeqAt.EqAt.none_int b t
  | str b=>obtain⟨t,rfl⟩:=rx; exact SeqAt.EqAt.none_str b t
  | _=>exact absurd (show false=true from fx) WJ
 | bl a =>
  cases ry
  cases x with
  | aJ=>cases rx; exact SeqAt.EqAt.bool_none a
  | bl b=>cases rx; exact SeqAt.EqAt.bool_bool a b
  | int b=>obtain⟨t,rfl⟩:=rx; exact SeqAt.EqAt.bool_int a b t
  | str b=>obtain⟨t,rfl⟩:=rx; exact SeqAt.EqAt.bool_str a b t
  | _=>exact absurd (show false=true from fx) WJ
 | int a =>
  obtain⟨t',rfl⟩:=ry
  cases x with
  | aJ=>cases rx; exact SeqAt.EqAt.int_none a t'
  | bl b=>cases rx; exact SeqAt.EqAt.int_bool a t' b
  | int b=>obtain⟨t,rfl⟩:=rx; exact SeqAt.EqAt.int_int a t' b t
  | str b=>obtain⟨t,rfl⟩:=rx; exact SeqAt.EqAt.int_str a t' b t
  | _=>exact absurd (show false=true from fx) WJ
 | str a =>
  obtain⟨t',rfl⟩:=ry
  cases x with
  | aJ=>cases rx; exact SeqAt.EqAt.str_none a t'
  | bl b=>cases rx; exact SeqAt.EqAt.str_bool a t' b
  | int b=>obtain⟨t,rfl⟩:=rx; exact SeqAt.EqAt.str_int a t' b t
  | str b=>obtain⟨t,rfl⟩:=rx; exact SeqAt.EqAt.str_str a t' b t
  | _=>exact absurd (show false=true from fx) WJ
 | _=>exact absurd (show false=true from fy) WJ
def kA(x:V)(u:Value):Bool:=match u with
 | .none=>lM .aJ x
 | .bool b=>lM (.bl b) x
 | .int i _=>lM (.int i) x
 | .str z _=>lM (.str z) x
 | _=>false
theorem Br(r:RelV y u)(f:kz y=true):kA x u=lM y x:=by
 cases y with
 | aJ=>cases r; rfl
 | bl b=>cases r; rfl
 | int i=>obtain⟨t,rfl⟩:=r; rfl
 | str z=>obtain⟨t,rfl⟩:=r; rfl
 | _=>exact absurd (show false=true from f) WJ
theorem vO:∀ {xs:List V} {us:List Value},Vals xs us->xs.all kz=true->us.any (kA x)=xs.any λy=>lM y x
 | _,_,.nil,_=>rfl
 | y :: xs,u :: us,.cons r t,f=>by
  rw[JQ,Wv] at f;rw[Qg,Qg,Br r f.1,vO t f.2]
theorem vP(rx:RelV x v)(fx:kz x=true):∀ {xs:List V} {us:List Value},Vals xs us->xs.all kz=true->∀ u ∈ us,SeqAt.EqAt A s u v (kA x u)
 | _,_,.nil,_=>λu hu=>by cases hu
 | y :: xs,u :: us,.cons r t,f=>λu' hu=>by
  rw[JQ,Wv] at f;rcases Wj.mp hu with rfl | hu
  ·rw[Br r f.1]; exact Kn r rx f.1 fx
  ·exact vP rx fx t f.2 u' hu
def sG(x:V)(xs:List V):Bool:=xs.any λy=>lM y x
def Bs(K:W2)(neg:Bool):R2:=λx y H Q=>∃ p xs,y = .ref p/\(cq K H p xs\/cL K H p xs)/\kz x=true/\xs.all kz=true/\Q (.bl (if neg then !sG x xs else sG x xs)) H
theorem Ko:bx X (WM .NotIn) (Bs X.K true):=by
 intro pins s σ H x y v u Q I rx ry h;obtain⟨p,xs,rfl,hq,fx,fs,q⟩:=h
 cases ry;rcases hq with hq | hq
 ·obtain⟨ae,r,pl,hz⟩:=I.list hq;refine SeqAt.notIn_listAt (kA x) pl.isList (λw hw=>vP rx fx r fs w (by simpa using hw)) ⟨.bl _,H,I,rfl,?_⟩;rw[show ae.toArray.any (kA x)=ae.any (kA x) by simp,vO r fs];exact q
 ·obtain⟨ae,r,pl,hz⟩:=I.tuple hq;refine SeqAt.notIn_tupleAt (kA x) pl (λw hw=>vP rx fx r fs w (by simpa using hw)) ⟨.bl _,H,I,rfl,?_⟩;rw[show ae.toArray.any (kA x)=ae.any (kA x) by simp,vO r fs];exact q
theorem Kq:er X (.builtin "len") (λxs H Q=>∃ p ys,xs=[.ref p]/\(cq X.K H p ys\/cL X.K H p ys)/\Q (.int ys.length) H):=by
 intro pins s σ H xs us Q I r h;obtain⟨p,ys,rfl,hq,q⟩:=h;obtain⟨u,rfl,rx⟩:=gY r
 cases rx;have hn:=oj;rcases hq with hq | hq
 ·obtain⟨ae,r',pl,hz⟩:=I.list hq;have hlen:=r'.length;exact Calls.call_len_list pl.isList (by simp only[Wq] <;> omega) ⟨.int ys.length,H,I.tok _,⟨s.toks + 1,by rw[Wq,hlen]⟩,q⟩
 ·obtain⟨ae,r',pl,hz⟩:=I.tuple hq;have hlen:=r'.length;exact len_tuple pl (by simp only[Wq] <;> omega) ⟨.int ys.length,H,I.tok _,⟨s.toks + 1,by rw[Wq,hlen]⟩,q⟩
theorem Kr:er X (.builtin "len") (λxs H Q=>∃ z,xs=[.str z]/\z.length<=Wc/\Q (.int z.length) H):=by
 intro pins s σ H xs us Q I r h;obtain⟨z,rfl,hz,q⟩:=h;obtain⟨u,rfl,t,rfl⟩:=gY r;have hn:=oj;exact len_str (by omega) ⟨.int z.length,H,I.tok _,⟨_,rfl⟩,q⟩
theorem er.or(h:er X f r)(h':er X f r'):er X f (λxs H Q=>r xs H Q\/r' xs H Q):=by
 intro pins s σ H xs us Q I rs q;rcases q with q | q
 ·exact h pins s σ H xs us Q I rs q
 ·exact h' pins s σ H xs us Q I rs q
theorem Ks:er X (.type "tuple") (λxs H Q=>∃ p ys,xs=[.ref p]/\((cq X.K H p ys/\∀ l,H l=none->Q (.ref l) (upd H l (.tup ys)))\/(cL X.K H p ys/\Q (.ref p) H))):=by
 intro pins s σ H xs us Q I r h;obtain⟨p,ys,rfl,h⟩:=h;obtain⟨u,rfl,rx⟩:=gY r
 cases rx;rcases h with ⟨hq,q⟩ | ⟨hq,q⟩
 ·obtain⟨ae,r',pl,hz⟩:=I.list hq;have hlen:=r'.length;refine call_tuple_list pl.isList (λh' kp=>?_) (by simp only[Wq] <;> omega);have I1:Inv X pins σ H { s with heap:=h' }:=I.kept (t':=s.toks) kp;have I2:Inv X pins σ (upd H h'.objs.size (.tup ys)) { s with heap:=h'.push { cls:=.type "tuple",data:=.seq ae.toArray } } :=
   I1.laid (t':=s.toks) (λb o e=>Wd _ e) (Wf _) (show bP X.prog X.w _ _ _ (.tup ys) from⟨hz,ae,r',iC.new _ _⟩)
  exact⟨.ref h'.objs.size,_,I2,rfl,q _ (I1.aG.fresh (Wf _))⟩
 ·obtain⟨ae,r',pl,hz⟩:=I.tuple hq;exact call_tuple_same pl ⟨.ref p,H,I,rfl,q⟩
def sH(K:W2)(T:String)(x:V)(H:Hp):Prop:=match x with
 | .str _=>T = "str"
 | .int _=>T = "int"
 | .ref p=>(T = "list"/\∃ xs,cq K H p xs)\/(T = "tuple"/\∃ o,K.lookup p=some o/\o.cls = .type "tuple"/\o.dict=none) \/
   (T = "dict"/\((∃ kvs,H p=some (.dK kvs))\/∃ kvs,H p=some (.dT kvs)))\/(T = "set"/\∃ S n,H p=some (.set S n))
 | _=>False
theorem Bt(I:Inv X pins σ H s)(r:RelV x v)(ty:sH X.K T x H) :
  s.TypeIs v T/\∀ a,v = .ref a->∃ ob,s.heap.get? a=some ob/\ob.dict=none:=by
 cases x with
 | str z =>
  obtain⟨t,rfl⟩:=r
  cases (show T = "str" from ty);exact⟨typeIs_str s z t,λ_ e=>nomatch e⟩
 | int i =>
  obtain⟨t,rfl⟩:=r
  cases (show T = "int" from ty);exact⟨Jh s i t,λ_ e=>nomatch e⟩
 | ref p =>
  cases r;rcases ty with ⟨rfl,xs,hq⟩ | ⟨rfl,o,hk,hc,hd⟩ | ⟨rfl,hk⟩ | ⟨rfl,S,n,hk⟩
  ·obtain⟨ae,_,pl,_⟩:=I.list hq;refine⟨pl.isList.typeIs,λa e=>?_⟩
   cases e;obtain⟨o,n,e,c,hd,_⟩:=pl;exact⟨o,e,hd⟩
  ·refine⟨⟨o,I.fJ p o hk,hc⟩,λa e=>?_⟩
   cases e;exact⟨o,I.fJ _ o hk,hd⟩
  ·have z:∃ o,s.heap.get? p=some o/\o.ExactDict:=by
    rcases hk with ⟨kvs,hk⟩ | ⟨kvs,hk⟩
    ·obtain⟨_,_,_,_,o,_,_,e,ex,_⟩:=I.aG p _ hk;exact⟨o,e,ex⟩
    ·obtain⟨_,_,_,_,o,_,_,e,ex,_⟩:=I.aG p _ hk;exact⟨o,e,ex⟩
   obtain⟨o,e,ex⟩:=z;refine⟨⟨o,e,ex.1⟩,λa e2=>?_⟩
   cases e2;exact⟨o,e,ex.2.1⟩
  ·obtain⟨o,_,_,_,e,ex,_⟩:=I.aG p _ hk;refine⟨⟨o,e,ex.1⟩,λa e2=>?_⟩
   cases e2;exact⟨o,e,ex.2.1⟩
 | _=>exact False.elim ty
def Kt(K:W2)(T:String)(r:V->List V->Hp->VK->Prop)(to:TE):TE:=λσ H Q=>to σ H λx H1=>sH K T x H1/\r x [] H1 Q
def Bu(K:W2)(T:String)(r:V->List V->Hp->VK->Prop)(to:TE)(t:TA):TE:=λσ H Q=>to σ H λx H1=>sH K T x H1/\t σ H1 λxs H2=>r x xs H2 Q
variable {o e:Expr} {es:List Expr} {to:TE} {t:TA} {name:Str} {apos bA:Pos} {T id:String} {r:V->List V->Hp->VK->Prop}
theorem Ku (pa:PlainAttrs T) (slot:Slot T name id) (vQ:typeOf (.builtin id)=pure (.type "method_descriptor")) (hm:qg X id r) (ho:PE X o to)
  (g7:Qv o name X.env (eval o X.env)=eval o X.env:=by rfl) (dX:(apos.endLine == bA.line)=true:=by rfl):PE X (.Call (.Attribute o name apos) [] [] bA) (Kt X.K T r to):=by
 intro pins s σ H Q I h;refine wpAny_Call_method0_late g7 dX (aR (ho pins s σ H _ I h) λv s1 ⟨x,H1,I1,r1,ty,q1⟩=>?_);obtain⟨h1,h2⟩:=Bt I1 r1 ty;exact⟨T,id,pa,slot,vQ,h1,h2,Calls.callWith_builtin rfl (PySem.evalArgs_none (hm pins s1 σ H1 x [] v [] Q I1 r1 .nil q1))⟩
theorem sI (pa:PlainAttrs T) (slot:Slot T name id) (vQ:typeOf (.builtin id)=pure (.type "method_descriptor")) (hm:qg X id r) (ho:PE X o to) (ha:PA X (e :: es) t)
  (g7:Qv o name X.env (eval o X.env)=eval o X.env:=by rfl)
  (kB:((QK bA (Wk (e :: es) X.env)).all (λx=>!x.1) && (backToKw bA (JP [] X.env)).all (λx=>x.1.isSome)
   && decide ((e :: es).length + ([]:List Keyword).length + (if ([]:List Keyword).isEmpty then 0 else 1) < 30))=true:=by rfl)
  (dX:(apos.endLine == bA.line)=true:=by rfl) (hs:Wk (e :: es) X.env=(false,eval e X.env) :: Wk es X.env:=by rfl) (Kv:(QK bA (Wk es X.env)).any (·.1)=false:=by rfl) :
  PE X (.Call (.Attribute o name apos) (e :: es) [] bA) (Bu X.K T r to t):=by
 intro pins s σ H Q I h;refine wpAny_Call_method_late g7 kB dX rfl (aR (ho pins s σ H _ I h) λv s1 ⟨x,H1,I1,r1,ty,q1⟩=>?_);obtain⟨h1,h2⟩:=Bt I1 r1 ty;refine⟨T,id,pa,slot,vQ,h1,h2,?_⟩;have hA:=ha bA pins s1 σ H1 _ I1 q1;rw[hs] at hA ⊢;refine Calls.callWith_builtin (by show(false || (QK bA (Wk es X.env)).any (·.1))=false; rw[Kv] <;> rfl) (Calls.evalArgs_plain ?_);exact aR hA λus s2 ⟨vs,H2,I2,r2,q2⟩=>hm pins s2 σ H2 x vs v us Q I2 r1 r2 q2
end
def Bv(X:Cx)(id:String)(r:V->List V->Hp->VK->Prop):Prop :=
 ∀ (pins:List (Addr×Obj)) (s:W3) (σ:St) (H:Hp) (x:V) (xs:List V) (v:Value) (us:List Value) (Q:VK),Inv X pins σ H s->RelV x v->Vals xs us->r x xs H Q ->
  We (model X.prog X.w) X.A (call (.builtin id) (v :: us)) (EP X pins σ Q) X.xe s
theorem Vals.one:∀ {x:V} {us:List Value},Vals [x] us->∃ u,us=[u]/\RelV x u
 | _,_,.cons r .nil=>⟨_,rfl,r⟩
theorem Vals.two:∀ {x y:V} {us:List Value},Vals [x,y] us->∃ u v,us=[u,v]/\RelV x u/\RelV y v
 | _,_,_,.cons r (.cons q .nil)=>⟨_,_,rfl,r,q⟩
theorem Vals.zero:∀ {us:List Value},Vals [] us->us=[]
 | _,.nil=>rfl
theorem Vals.dropLast(h:Vals xs us):Vals xs.dropLast us.dropLast:=by
 induction h with
 | nil=>exact .nil
 | cons r t ih =>
  cases t with
  | nil=>exact .nil
  | cons q t'=>exact .cons r ih
theorem Vals.rep(h:Vals xs us):∀ k:Nat,Vals (Wg k xs).flatten (Wg k us).flatten
 | 0=>.nil
 | k + 1=>by
  rw[Q9,Q9,Qy,Qy];exact Vals.append h (Vals.rep h k)
theorem Kw(l:List α):l.eraseIdx (l.length - 1)=l.dropLast:=by
 induction l with
 | nil=>rfl
 | cons a r ih =>
  cases r with
  | nil=>rfl
  | cons b r =>
   have e:(a :: b :: r).length - 1=((b :: r).length - 1) + 1:=by
    have h1:(a :: b :: r).length=r.length + 2:=rfl;have h2:(b :: r).length=r.length + 1:=rfl;omega
   rw[e,List.eraseIdx_cons_succ,ih];all_goals rfl
theorem vR(ae:List Value):∀ (k:Nat) (acc:List Value),
  List.foldl (λx1 x2=>x1 ++ x2) acc.toArray (Wg k ae.toArray)=(acc ++ (Wg k ae).flatten).toArray
 | 0,acc=>by simp
 | k + 1,acc=>by
  have e:acc.toArray ++ ae.toArray=(acc ++ ae).toArray:=by simp
  have e2:(acc ++ ae) ++ (Wg k ae).flatten=acc ++ (Wg (k + 1) ae).flatten:=by
   rw[Q9,Qy,List.append_assoc]
  rw[<- e2,<- vR ae k (acc ++ ae),<- e,Q9,Ji]
section
variable {X:Cx} {pins:List (Addr×Obj)} {σ:St} {H:Hp} {s:W3} {l b:Addr} {xs ys zs:List V}
theorem Inv.Bw{ae its':List Value}{n:Nat}{f:Array Value->Array Value}{t':Nat}(I:Inv X pins σ H s)(hH:H l=some (.lst xs))
  (e:s.heap.get? l=some { cls:=.type "list",data:=.seq ae.toArray n }) (hf:f ae.toArray=its'.toArray) (hv:Vals ys its') (hz:ys.length<=Wc) :
  Inv X pins σ (upd H l (.lst ys)) { s with heap:=s.heap.update l (Obj.mapSeq f),toks:=t' }:=by
 have q:=PySem.IsL.update e f;rw[hf] at q;refine I.write (x:=l) (e:=l) (by rw[hH]; exact trivial) (.inl rfl) (λb' u hb hu=>(Heap.get?_update_other s.heap (Obj.mapSeq f) (Ne.symm hb)).trans hu) ⟨_,q⟩ ?_;exact⟨hz,its',_,hv,q⟩
theorem Inv.Kx(I:Inv X pins σ H s)(hv:Vals ys ae)(hz:ys.length<=Wc) :
  Inv X pins σ (upd H s.heap.objs.size (.lst ys)) { s with heap:=s.heap.push { cls:=.type "list",data:=.seq ae.toArray },toks:=t' } :=
 I.laid (λ_ _ q=>Wd _ q) (Wf _) ⟨hz,ae,0,hv,Wn _ rfl⟩
theorem Inv.fresh(I:Inv X pins σ H s):H s.heap.objs.size=none:=I.aG.fresh (Wf _)
theorem Inv.Bx (I:Inv X pins σ H s) (hH:H l=some (.lst xs)):xs.length<=Wc/\∃ (ae:List Value) (n:Nat),Vals xs ae/\xs.length=ae.length/\s.heap.get? l=some { cls:=.type "list",data:=.seq ae.toArray n }:=by
 obtain⟨z,ae,n,r,e⟩:=I.aG l _ hH;exact⟨z,ae,n,r,r.length,e⟩
end
section
variable {X:Cx}
def By:V->List V->Hp->VK->Prop:=λx vs H Q=>∃ l xs y,x = .ref l/\vs=[y]/\H l=some (.lst xs)/\xs.length < Wc/\Q .aJ (upd H l (.lst (xs ++ [y])))
theorem Bz:Bv X "list.append" By:=by
 intro pins s σ H x vs v us Q I rx rv h;obtain⟨l,xs,y,rfl,rfl,hH,hz,q⟩:=h
 cases rx;obtain⟨u,rfl,ru⟩:=rv.one;obtain⟨z,ae,n,r,hl,e⟩:=I.Bx hH;refine Jj F.slot_list_append ⟨_,e,rfl⟩ F.entry_list_append (F.args_list_append_2 _ _) (PySem.list_append l ae.toArray n u (by rw[Wq]; omega)) ⟨e,?_⟩;refine⟨.aJ,_,I.Bw (its':=ae ++ [u]) hH e (by simp) (r.append (.cons ru .nil)) ?_,rfl,q⟩;rw[Qb,List.length_singleton];omega
def Ky:V->List V->Hp->VK->Prop:=λx vs H Q=>∃ l xs y,x = .ref l/\vs=[]/\H l=some (.lst xs)/\xs[xs.length - 1]? = some y/\Q y (upd H l (.lst xs.dropLast))
theorem Kz:Bv X "list.pop" Ky:=by
 intro pins s σ H x vs v us Q I rx rv h;obtain⟨l,xs,y,rfl,rfl,hH,hy,q⟩:=h
 cases rx;have KA:=rv.zero;subst KA;obtain⟨z,ae,n,r,hl,e⟩:=I.Bx hH;obtain⟨u,hu,ru⟩:=r.get hy;have je:ae.toArray[ae.toArray.size - 1]? = some u:=by
  show ae.toArray[ae.length - 1]? = some u;rw[<- QZ,<- hl];exact hu
 refine Jj F.slot_list_pop ⟨_,e,rfl⟩ F.entry_list_pop (F.args_list_pop_1 _) (MeetsSeq.list_pop_last l ae.toArray n u je (by rw[Wq]; omega)) ⟨e,?_⟩;refine⟨y,_,I.Bw (its':=ae.dropLast) hH e ?_ r.dropLast ?_,ru,q⟩
 ·show ae.toArray.eraseIdxIfInBounds (ae.toArray.size - 1)=ae.dropLast.toArray;rw[Wq,List.eraseIdxIfInBounds_toArray,Kw]
 ·rw[List.length_dropLast];omega
theorem sJ(xs:List α)(k:Nat):(Wg k xs).flatten.length=k * xs.length:=by
 induction k with
 | zero=>simp
 | succ k ih=>rw[Q9,Qy,Qb,ih,Nat.succ_mul,Nat.add_comm]
end
section
variable {prog:Wm} {w:Ws} {A:Wt} {E:Value->W3->Prop} {s:W3}
set_option maxRecDepth 100000 in
end
section
variable {X:Cx}
end
section
variable {κ:Type} [DecidableEq κ]
def de(kvs:List (κ×V))(k:κ):Option V:=(kvs.find? λkv=>decide (kv.1=k)).map (·.2)
def putK(kvs:List (κ×V))(k:κ)(v:V):List (κ×V) :=
 if (kvs.any λkv=>decide (kv.1=k))=true then kvs.map (λkv=>if kv.1=k then(kv.1,v) else kv) else kvs ++ [(k,v)]
theorem iG{p:κ×V}{r:List (κ×V)}{k:κ}(e:p.1=k):de (p :: r) k=some p.2:=by simp[de,WU,e]
theorem iH{p:κ×V}{r:List (κ×V)}{k:κ}(e:¬ p.1=k):de (p :: r) k=de r k:=by simp[de,WU,e]
theorem sL(k:κ):∀ kvs:List (κ×V),(kvs.any λkv=>decide (kv.1=k))=(de kvs k).isSome
 | []=>rfl
 | p :: r=>by
  rw[Qg];by_cases e:p.1=k
  ·simp only[iG e,decide_eq_true e,Bool.true_or,Option.isSome_some]
  ·rw[iH e,decide_eq_false e,Bool.false_or]; exact sL k r
theorem BA(k j:κ)(y:V):∀ kvs:List (κ×V),de (kvs.map λkv=>if kv.1=k then(kv.1,y) else kv) j=(de kvs j).map λx=>if j=k then y else x
 | []=>rfl
 | p :: r=>by
  have ih:=BA k j y r;rw[Wo];by_cases h:p.1=k
  ·rw[if_pos h];by_cases e:p.1=j
   ·rw[iG (p:=(p.1,y)) e,iG e,WB,if_pos (e.symm.trans h)]
   ·rw[iH (p:=(p.1,y)) e,iH e,ih]
  ·rw[if_neg h];by_cases e:p.1=j
   ·rw[iG (p:=p) e,iG e,WB,if_neg (λz=>h (e.trans z))]
   ·rw[iH (p:=p) e,iH e,ih]
theorem BC(k j:κ)(y:V):∀ kvs:List (κ×V),de kvs k=none->de (kvs ++ [(k,y)]) j=if j=k then some y else de kvs j
 | [],_=>by
  by_cases e:k=j
  ·rw[if_pos e.symm]; exact iG (p:=(k,y)) e
  ·rw[if_neg (λz=>e z.symm)]; exact iH (p:=(k,y)) e
 | p :: r,hn=>by
  rw[List.cons_append];have hk:¬ p.1=k:=λz=>by rw[iG z] at hn; cases hn
  rw[iH hk] at hn;have ih:=BC k j y r hn;by_cases e:p.1=j
  ·rw[iG e,iG e,if_neg (λz=>hk (e.trans z))]
  ·rw[iH e,iH e,ih]
theorem KC(kvs:List (κ×V))(k j:κ)(y:V):de (putK kvs k y) j=if j=k then some y else de kvs j:=by
 unfold putK;by_cases a:(kvs.any λkv=>decide (kv.1=k))=true
 ·rw[if_pos a,BA];rw[sL] at a;by_cases e:j=k
  ·obtain⟨x,hx⟩:=Jd.mp a;rw[if_pos e,e,hx,WB,if_pos rfl]
  ·rw[if_neg e]
   cases de kvs j with
   | none=>rfl
   | some x=>rw[WB,if_neg e]
 ·rw[if_neg a];refine BC k j y kvs ?_;rw[sL] at a
  cases q:de kvs k with
  | none=>rfl
  | some x=>rw[q] at a; exact(a rfl).elim
theorem qk(kvs:List (κ×V))(k:κ)(v:V):(putK kvs k v).length<=kvs.length + 1:=by
 unfold putK;split
 ·rw[Q5]; omega
 ·rw[Qb,WL,JU]; omega
theorem eZ.ql(r:eZ o u):o.isSome=u.isSome:=by
 cases o with
 | none=>cases u with
  | none=>rfl
  | some _=>exact(show False from r).elim
 | some _=>cases u with
  | none=>exact(show False from r).elim
  | some _=>rfl
theorem KV.val{kvs:List (κ×V)}{vs:List (κ×Value)}(r:KV kvs vs)(k:κ):eZ (de kvs k) (valueAt vs k):=by
 unfold KV at r;induction r with
 | nil=>exact True.intro
 | @cons p q ps qs h t ih =>
  obtain⟨h1,h2⟩:=h;by_cases e:p.1=k
  ·have e':q.1=k:=h1.symm.trans e;have b:valueAt (q :: qs) k=some q.2:=by simp[valueAt,WU,e']
   rw[iG e,b]; exact h2
  ·have e':¬ q.1=k:=λz=>e (h1.trans z)
   have b:valueAt (q :: qs) k=valueAt qs k:=by simp[valueAt,WU,e']
   rw[iH e,b]; exact ih
theorem KV.any(r:KV kvs vs)(k:κ):(kvs.any λkv=>decide (kv.1=k))=vs.any λkv=>decide (kv.1=k):=by
 unfold KV at r;induction r with
 | nil=>rfl
 | cons h t ih=>rw[Qg,Qg,ih,h.1]
theorem KV.vS(r:KV kvs vs)(k:κ)(ry:RelV y u) :
  KV (kvs.map λkv=>if kv.1=k then(kv.1,y) else kv) (vs.map λkv=>if kv.1=k then(kv.1,u) else kv):=by
 unfold KV at r ⊢;induction r with
 | nil=>exact .nil
 | @cons p q ps qs h t ih =>
  rw[Wo,Wo];refine .cons ?_ ih;obtain⟨h1,h2⟩:=h;by_cases e:p.1=k
  ·rw[if_pos e,if_pos (h1.symm.trans e)]; exact⟨h1,ry⟩
  ·rw[if_neg e,if_neg (λz=>e (h1.trans z))]; exact⟨h1,h2⟩
theorem KV.put(r:KV kvs vs)(k:κ)(ry:RelV y u):KV (putK kvs k y) (stored vs k u):=by
 unfold putK stored;rw[r.any k];by_cases e:(vs.any λkv=>decide (kv.1=k))=true
 ·rw[if_pos e,if_pos e]; exact r.vS k ry
 ·rw[if_neg e,if_neg e]; exact Paired.snoc r ⟨rfl,ry⟩
theorem KV.length(r:KV kvs vs):kvs.length=vs.length:=Paired.length r
end
theorem lN(r:RelV (kV k) u):(cH P w).is k u=true:=by
 cases k with
 | inl i=>obtain⟨t,e⟩:=(show ∃ t,u=Value.int i t from r); subst e; exact G_ P w i t
 | inr x=>obtain⟨t,e⟩:=(show ∃ t,u=Value.str x t from r); subst e; exact Ha P w x t
theorem BF:∀ {ks:List Key} {us:List Value},Vals (ks.map kV) us->ItemsAre (cH P w) ks us
 | [],_,r=>by rw[List.map_nil] at r; cases r; exact .nil
 | k :: ks,_,r=>by
  rw[Wo] at r
  cases r with
  | cons h t=>exact .cons (lN h) (BF t)
abbrev KT(H:Hp):List (List Key×V)->List (List Key×Addr×Value)->Prop:=Paired λp q=>p.1=q.1/\H q.2.1=some (.tup (p.1.map kV))/\RelV p.2 q.2.2
theorem KT.val{H:Hp}{kvs:List (List Key×V)}{xs:List (List Key×Addr×Value)}(r:KT H kvs xs)(k:List Key):eZ (de kvs k) ((atKey xs k).map (·.2)):=by
 induction r with
 | nil=>exact True.intro
 | @cons p q ps qs h t ih =>
  obtain⟨h1,_,h2⟩:=h;by_cases e:p.1=k
  ·have e':q.1=k:=h1.symm.trans e;have b:atKey (q :: qs) k=some q.2:=by simp[atKey,WU,e']
   rw[iG e,b]; exact h2
  ·have e':¬ q.1=k:=λz=>e (h1.trans z)
   have b:atKey (q :: qs) k=atKey qs k:=by simp[atKey,WU,e']
   rw[iH e,b]; exact ih
theorem KT.vS(r:KT H kvs xs)(k:List Key)(ry:RelV y u) :
  KT H (kvs.map λkv=>if kv.1=k then(kv.1,y) else kv) (xs.map (putAt k u)):=by
 induction r with
 | nil=>exact .nil
 | @cons p q ps qs h t ih =>
  rw[Wo,Wo];refine .cons ?_ ih;obtain⟨h1,h2,h3⟩:=h;unfold putAt;by_cases e:p.1=k
  ·rw[if_pos e,if_pos (h1.symm.trans e)]; exact⟨h1,h2,ry⟩
  ·rw[if_neg e,if_neg (λz=>e (h1.trans z))]; exact⟨h1,h2,h3⟩
theorem KT.put(r:KT H kvs xs)(k:List Key)(hb:H b=some (.tup (k.map kV)))(ry:RelV y u) :
  KT H (putK kvs k y) (storedH xs k b u):=by
 have e:(kvs.any λkv=>decide (kv.1=k))=(atKey xs k).isSome:=by
  rw[sL,(r.val k).ql,Option.isSome_map]
 unfold putK storedH;rw[e];by_cases q:(atKey xs k).isSome=true
 ·rw[if_pos q,if_pos q]; exact r.vS k ry
 ·rw[if_neg q,if_neg q]; exact Paired.snoc r ⟨rfl,hb,ry⟩
theorem KT.keeps(r:KT H kvs xs)(ht:∀ b ys,H b=some (.tup ys)->H' b=some (.tup ys)):KT H' kvs xs :=
 Paired.vk r λ_ _ z=>⟨z.1,ht _ _ z.2.1,z.2.2⟩
section
variable {P:Wm} {w:Ws} {H:Hp} {h:Heap} {a:Addr}
theorem BG(ok:cw P w H h)(e:Rd H a u):bP P w H h a u:=e.ok ok
theorem qm(ok:cw P w H h)(e:Rd H a (.dK kvs)):kvs.length<=Wc/\(a == QE)=false/\∃ vs,KV kvs vs/\h.DictOf (cH P w) a vs :=
 show bP P w H h a (.dK kvs) from BG ok e
theorem qo(ok:cw P w H h)(e:H a=some (.dK kvs)):kvs.length<=Wc/\(a == QE)=false/\∃ vs,KV kvs vs/\h.DictOf (cH P w) a vs:=qm ok (.inl e)
theorem qp(ok:cw P w H h)(e:H a=some (.tup (ks.map kV))):(tupleKind (cH P w)).is h ks a:=by
 obtain⟨_,ae,r,p⟩:=(show bP P w H h a (.tup (ks.map kV)) from ok a _ e)
 obtain⟨o,h1,h2,n,h3⟩:=p.tup;exact⟨o,ae.toArray,n,h1,h2,h3,by simpa using BF r⟩
theorem sM(ok:cw P w H h)(e:Rd H a (.dT kvs)):kvs.length<=Wc/\(a == QE)=false /\
  ∃ xs,KT H kvs xs/\h.DictOfH (tupleKind (cH P w)) a xs:=by
 obtain⟨z,y,xs,r,o,es,ep,h1,h2,h3,h4,h5⟩:=(show bP P w H h a (.dT kvs) from BG ok e)
 refine⟨z,y,xs,r,o,es,ep,h1,h2,h3,h4,λx hx=>?_,h5⟩;have all:∀ {l:List (List Key×V)} {m:List (List Key×Addr×Value)},KT H l m->∀ x ∈ m,(tupleKind (cH P w)).is h x.1 x.2.1:=by
  intro l m q;induction q with
  | nil=>intro x hx; exact nomatch hx
  | @cons p q ps qs hq t ih =>
   intro x hx;rcases Wj.mp hx with e | hx
   ·subst e;exact qp ok (by rw[<- hq.1]; exact hq.2.1)
   ·exact ih x hx
 exact all r x hx
theorem KD(ok:cw P w H h)(e:H a=some (.dT kvs)):kvs.length<=Wc/\(a == QE)=false /\
  ∃ xs,KT H kvs xs/\h.DictOfH (tupleKind (cH P w)) a xs:=sM ok (.inl e)
end
def lO(H:Hp)(a:Addr)(y:V)(r:Option V):Prop :=
 (∃ kvs k,Rd H a (.dK kvs)/\y=kV k/\r=de kvs k)\/∃ kvs k b,Rd H a (.dT kvs)/\y = .ref b/\H b=some (.tup (k.map kV))/\r=de kvs k
def oq(H:Hp)(a:Addr)(y v:V)(H':Hp):Prop :=
 (∃ kvs k,H a=some (.dK kvs)/\y=kV k/\kvs.length < Wc/\H'=upd H a (.dK (putK kvs k v))) \/
 ∃ kvs k b,H a=some (.dT kvs)/\y = .ref b/\H b=some (.tup (k.map kV))/\kvs.length < Wc/\H'=upd H a (.dT (putK kvs k v))
theorem lO.k{H:Hp}{a:Addr}{kvs:List (Key×V)}{k:Key}(e:H a=some (.dK kvs)):lO H a (kV k) (de kvs k):=.inl ⟨kvs,k,.inl e,rfl,rfl⟩
theorem oq.k{H:Hp}{a:Addr}{kvs:List (Key×V)}{k:Key}{v:V}(e:H a=some (.dK kvs))(hl:kvs.length < Wc):oq H a (kV k) v (upd H a (.dK (putK kvs k v))):=.inl ⟨kvs,k,e,rfl,hl,rfl⟩
section
variable {X:Cx} {pins:List (Addr×Obj)} {σ:St} {H:Hp} {s:W3} {a:Addr} {y v:V} {u r:Value} {o:Option V} {A:Wt} {E:Value->W3->Prop}
theorem Inv.big(I:Inv X pins σ H s):QE < s.heap.objs.size:=by
 have h:WG < s.heap.objs.size:=(I.mod.glob.keeps I.bk).lt;exact Nat.lt_trans (by decide) h
theorem KG(hu:A.units + 1 < WQ)(I:Inv X pins σ H s)(g:lO H a y (some v))(ry:RelV y u)(h:∀ w' s',Inv X pins σ H s'->RelV v w'->Q w' s') :
  We (model X.prog X.w) A (JI (.ref a) u) Q E s:=by
 rcases g with ⟨kvs,k,e,ey,l⟩ | ⟨kvs,k,b,e,ey,eb,l⟩
 ·subst ey;obtain⟨z,hd,vs,rel,dd⟩:=qm I.aG e;obtain⟨w',hw,aK⟩:=eZ.some_of (v:=v) (o:=valueAt vs k) (by rw[l]; exact rel.val k);exact wpAny_getItem_of (lN ry) dd.mapOf hw (h w' _ (I.tok _) aK)
 ·subst ey
  cases (show u=Value.ref b from ry);obtain⟨z,hd,xs,rel,dd⟩:=sM I.aG e;obtain⟨w',hw,aK⟩:=eZ.some_of (v:=v) (o:=(atKey xs k).map (·.2)) (by rw[l]; exact rel.val k);obtain⟨p,hp,hp2⟩:=WC.mp hw;refine wpAny_getItem_heap (JB hu) (qp I.aG eb) dd hp ?_;rw[hp2];exact h w' _ (I.tok _) aK
theorem KH(hu:A.units + 1 < WQ)(I:Inv X pins σ H s)(g:lO H a y o)(ry:RelV y u)(h:∀ s',Inv X pins σ H s'->Q (.bool o.isSome) s') :
  We (model X.prog X.w) A (WM .In u (.ref a)) Q E s:=by
 rcases g with ⟨kvs,k,e,ey,l⟩ | ⟨kvs,k,b,e,ey,eb,l⟩
 ·subst ey;obtain⟨z,hd,vs,rel,dd⟩:=qm I.aG e;refine wpAny_in_of (lN ry) hd dd.mapOf ?_;rw[<- (rel.val k).ql,<- l];exact h _ (I.tok _)
 ·subst ey
  cases (show u=Value.ref b from ry);obtain⟨z,hd,xs,rel,dd⟩:=sM I.aG e;refine wpAny_in_heap (JB hu) (qp I.aG eb) hd dd ?_;have q:=(rel.val k).ql;rw[Option.isSome_map] at q;rw[<- q,<- l];exact h _ (I.tok _)
theorem KI(hu:A.units + 1 < WQ)(I:Inv X pins σ H s)(g:lO H a y o)(ry:RelV y u)(h:∀ s',Inv X pins σ H s'->Q (.bool (!o.isSome)) s') :
  We (model X.prog X.w) A (WM .NotIn u (.ref a)) Q E s:=by
 rcases g with ⟨kvs,k,e,ey,l⟩ | ⟨kvs,k,b,e,ey,eb,l⟩
 ·subst ey;obtain⟨z,hd,vs,rel,dd⟩:=qm I.aG e;refine wpAny_notIn_of (lN ry) hd dd.mapOf ?_;rw[<- (rel.val k).ql,<- l];exact h _ (I.tok _)
 ·subst ey
  cases (show u=Value.ref b from ry);obtain⟨z,hd,xs,rel,dd⟩:=sM I.aG e;refine wpAny_notIn_heap (JB hu) (qp I.aG eb) hd dd ?_;have q:=(rel.val k).ql;rw[Option.isSome_map] at q;rw[<- q,<- l];exact h _ (I.tok _)
theorem sO(I:Inv X pins σ H s)(mu:pN (H a))(hs:QJ a s.heap h')(he:∃ q,h'.get? a=some q)(new:bP X.prog X.w (upd H a ob) h' a ob) :
  Inv X pins σ (upd H a ob) { s with heap:=h',toks:=t' } :=
 I.write (x:=a) (e:=a) mu (.inl rfl) (λb q hb z=>(hs.2 b hb).trans z) he new
theorem vT(z:kvs.length<=Wc)(hd:(a == QE)=false)(rel:KV kvs vs)(dd:h'.DictOf (cH P w) a vs) :
  bP P w H' h' a (.dK kvs):=⟨z,hd,vs,rel,dd⟩
theorem KJ(hu:A.units + 1 < WQ)(I:Inv X pins σ H s)(g:oq H a y v H')(ry:RelV y u)(rv:RelV v r)(h:∀ s',Inv X pins σ H' s'->Q () s') :
  We (model X.prog X.w) A (setItem (.ref a) u r) Q E s:=by
 rcases g with ⟨kvs,k,e,ey,l,eH⟩ | ⟨kvs,k,b,e,ey,eb,l,eH⟩
 ·subst ey eH;obtain⟨z,hd,vs,rel,dd⟩:=qo I.aG e;have hz:vs.length<=Wc:=by rw[<- rel.length]; exact z
  have hl:(putK kvs k v).length<=Wc:=by have:=qk kvs k v; omega
  refine wpAny_setItem_pairs (hsz:=hz) (lN ry) dd λh' jO hs=>h _ ?_
  have he:∃ q,h'.get? a=some q:=let ⟨q,_,_,hq,_⟩:=jO; ⟨q,hq⟩
  exact sO I (by rw[e]; exact True.intro) hs he (vT hl hd (rel.put k rv) jO)
 ·subst ey eH
  cases (show u=Value.ref b from ry);obtain⟨z,hd,xs,rel,dd⟩:=KD I.aG e;have hz:xs.length<=Wc:=by rw[<- Paired.length rel]; exact z
  have hl:(putK kvs k v).length<=Wc:=by have:=qk kvs k v; omega
  refine wpAny_setItem_heap (hsz:=hz) (JB hu) (qp I.aG eb) dd λh' jO hs=>h _ ?_
  obtain⟨q,es,ep,hq,h2,h3,h4,_,h5⟩:=jO;refine sO I (by rw[e]; exact True.intro) hs ⟨q,hq⟩ ⟨hl,hd,_,(rel.put k eb rv).keeps λc ys ec=>?_,q,es,ep,hq,h2,h3,h4,h5⟩;rw[aQ (Hc ec e (λz=>nomatch z))];exact ec
end
section
variable {X:Cx} {pins:List (Addr×Obj)} {σ:St} {H:Hp} {s:W3} {a:Addr} {kvs:List (Key×V)} {k:Key} {u:Value} {A:Wt} {E:Value->W3->Prop}
theorem KN (I:Inv X pins σ H s) (e:Rd H a (.dK kvs)) (h:∀ t s',Inv X pins σ H s'->Q (.int kvs.length t) s'):We (model X.prog X.w) A (call (.builtin "len") [.ref a]) Q E s:=by
 obtain⟨z,hd,vs,rel,dd⟩:=qm I.aG e;refine call_len_dict hd dd (by rw[<- rel.length]; rw[JO] at z; omega) ?_;rw[<- rel.length];exact h _ _ (I.tok _)
end
def KO(td ty tv:TE):TS:=λD σ H=>tv σ H λv H1=>td σ H1 λx H2=>ty σ H2 λy H3=>∃ a H4,x = .ref a/\oq H3 a y v H4/\D.nx σ H4
section
variable {X:Cx} {o i e value:Expr} {pos pos' II:Pos} {td ty tv:TE}
theorem BH(hu:X.A.units + 1 < WQ)(ho:PE X o td)(hi:PE X i ty)(hv:PE X value tv)(hs:Jq value (some (.Subscript o i pos')) pos.line X.env=pure false) :
  PS X (.Assign [.Subscript o i pos'] value pos) (KO td ty tv):=by
 intro pins s σ H D I h;refine wpAny_Assign_Subscript (aR (hv pins s σ H _ I h) λr s1 ⟨v,H1,I1,rv,q1⟩=>aR (ho pins s1 σ H1 _ I1 q1) λu s2 ⟨x,H2,I2,rx,q2⟩=>aR (hi pins s2 σ H2 _ I2 q2) λiv s3 ⟨y,H3,I3,ry,a,H4,ex,g,q3⟩=>?_) hs;subst ex;obtain rfl:u=Value.ref a:=rx;exact KJ hu I3 g ry rv λs4 I4=>⟨σ,H4,I4,q3⟩
end
theorem vU (h:Heap) (hb:QE < h.objs.size):bP P w H (h.push { cls:=.type "dict",data:=.dict #[] }) h.objs.size (.dK []) :=
 ⟨Qn _,beq_eq_false_iff_ne.mpr (Ne.symm (WP hb)),[],.nil,Heap.DictOf.new h⟩
def KP:TE:=λ_ H Q=>∀ p,H p=none->Q (.ref p) (upd H p (.dK []))
section
variable {X:Cx} {pos:Pos}
theorem KQ:PE X (.Dict [] [] pos) KP:=λpins s σ H Q I h =>
 wpAny_Dict_empty ⟨.ref s.heap.objs.size,_,I.laid (a:=s.heap.objs.size) (o:=.dK []) (t':=s.toks) (λ_ _ q=>Wd _ q) (Wf _) (vU s.heap I.big),rfl,h _ (I.aG.fresh (Wf _))⟩
end
def vV:List (TE×TE)->St->Hp->(List (V×V)->Hp->Prop)->Prop
 | [],_,H,Q=>Q [] H
 | (tk,tv) :: r,σ,H,Q=>tk σ H λx H1=>tv σ H1 λy H2=>vV r σ H2 λps H3=>Q ((x,y) :: ps) H3
abbrev VV:List (V×V)->List (Value×Value)->Prop:=Paired λp q=>RelV p.1 q.1/\RelV p.2 q.2
def sP(X:Cx)(pos:Pos)(keys:List (Option Expr))(values:List Expr)(mW:List (TE×TE)):Prop :=
 ∀ (pins:List (Addr×Obj)) (s:W3) (σ:St) (H:Hp) (Q:List (V×V)->Hp->Prop),Inv X pins σ H s->vV mW σ H Q ->
  We (model X.prog X.w) X.A (evalPairs (pairTrees keys values X.env pos)) (λvs s'=>∃ ps H',Inv X pins σ H' s'/\VV ps vs/\Q ps H') X.xe s
theorem KR:sP X pos [] [] []:=λpins s σ H Q I h=>pairTrees_nil_walk ⟨[],H,I,.nil,h⟩
theorem KS(hk:PE X k tk)(hv:PE X v tv)(hr:sP X pos ks vs mW) :
  sP X pos (some k :: ks) (v :: vs) ((tk,tv) :: mW):=λpins s σ H Q I h =>
 pairTrees_cons_walk (aR (hk pins s σ H _ I h) λu s1 ⟨x,H1,I1,rx,q1⟩=>aR (hv pins s1 σ H1 _ I1 q1) λw2 s2 ⟨y,H2,I2,ry,q2⟩ =>
  aR (hr pins s2 σ H2 _ I2 q2) λws s3 ⟨ps,H3,I3,rel,q3⟩=>⟨(x,y) :: ps,H3,I3,.cons ⟨rx,ry⟩ rel,q3⟩)
def mX(kvs more:List (Key×V)):List (Key×V):=more.foldl (λacc kv=>putK acc kv.1 kv.2) kvs
theorem KV.merge:∀ {more:List (Key×V)} {rs:List (Key×Value)} {kvs:List (Key×V)} {vs:List (Key×Value)},KV more rs->KV kvs vs->KV (mX kvs more) (merged vs rs):=by
 intro more rs kvs vs r;unfold KV at r;induction r generalizing kvs vs with
 | nil=>intro q; exact q
 | @cons p q ps qs h t ih =>
  intro r0;have e:KV (putK kvs p.1 p.2) (stored vs q.1 q.2):=by
   have:=r0.put p.1 h.2;rw[<- h.1]; exact this
  exact ih e
theorem BI:∀ (more kvs:List (Key×V)),(mX kvs more).length<=kvs.length + more.length
 | [],kvs=>by show kvs.length<=kvs.length + 0; omega
 | p :: r,kvs=>by
  have h1:=BI r (putK kvs p.1 p.2);have h2:=qk kvs p.1 p.2;show(mX (putK kvs p.1 p.2) r).length<=_;rw[WL]; omega
theorem BJ:∀ {kvs:List (Key×V)} {ws:List (Value×Value)},VV (kvs.map λkv=>(kV kv.1,kv.2)) ws->∃ rs,Carries (cH P w) ws rs/\KV kvs rs
 | [],_,r=>by rw[List.map_nil] at r; cases r; exact⟨[],True.intro,.nil⟩
 | p :: kvs,_,r=>by
  rw[Wo] at r
  cases r with
  | @cons a b as bs h t =>
   obtain⟨rs,c,q⟩:=BJ (P:=P) (w:=w) t;obtain⟨b1,b2⟩:=b;exact⟨(p.1,b2) :: rs,⟨lN h.1,rfl,c⟩,.cons ⟨rfl,h.2⟩ q⟩
def KU(mW:List (TE×TE)):TE:=λσ H Q=>∀ p,H p=none->vV mW σ (upd H p (.dK [])) λps H2=>H2 p=some (.dK [])/\∃ kvs:List (Key×V),ps=kvs.map (λkv=>(kV kv.1,kv.2))/\kvs.length<=15/\Q (.ref p) (upd H2 p (.dK (mX [] kvs)))
theorem KW(h:sP X pos keys values mW)(g8:keys.all (·.isSome)=true)(hl:keys.length=values.length)(h0:keys≠[])
  (KY:keys.length<=15):PE X (.Dict keys values pos) (KU mW):=by
 intro pins s σ H Q I q;have hn:=I.aG.fresh (Wf s.heap.objs.size);have I1:=I.laid (a:=s.heap.objs.size) (o:=.dK []) (h':=s.heap.push { cls:=.type "dict",data:=.dict #[] }) (t':=s.toks) (λ_ _ q=>Wd _ q) (Wf _) (vU s.heap I.big);refine wpAny_Dict_walk (knd:=cH X.prog X.w) g8 hl h0 KY (aR (h pins _ σ _ _ I1 (q _ hn)) λws s2 ⟨ps,H2,I2,rel,e,kvs,ep,lk,q2⟩=>?_);subst ep;obtain⟨rs,c,rk⟩:=BJ (P:=X.prog) (w:=X.w) rel;obtain⟨z,hd,vs0,r0,dd⟩:=qo I2.aG e
 cases r0;refine⟨rs,c,dd,λh' jO hs=>⟨.ref s.heap.objs.size,_,?_,rfl,q2⟩⟩;have hz:(mX [] kvs).length<=Wc:=by
  have h1:=BI kvs [];rw[JU] at h1;rw[JO]; omega
 have he:∃ q,h'.get? s.heap.objs.size=some q:=let ⟨q,_,_,hq,_⟩:=jO; ⟨q,hq⟩
 exact sO I2 (by rw[e]; exact True.intro) hs he (vT hz hd (rk.merge .nil) jO)
section
variable {X:Cx} {pins:List (Addr×Obj)} {σ:St} {H:Hp} {s:W3} {a:Addr} {y d:V} {u r:Value} {o:Option V} {A:Wt} {E:Value->W3->Prop}
end
section
variable {X:Cx} {o e f:Expr} {apos bA:Pos} {td ty tx:TE}
end
section
variable {X:Cx} {pins:List (Addr×Obj)} {σ:St} {H:Hp} {s:W3} {a:Addr} {kvs:List (Key×V)} {A:Wt} {E:Value->W3->Prop}
end
section
variable {X:Cx} {pins:List (Addr×Obj)} {σ:St} {H:Hp} {s:W3} {a:Addr} {y:V} {u:Value} {A:Wt} {E:Value->W3->Prop}
end
end L2
namespace Att
open PySem PySem.W PySem.Calls PyProof.Rows
theorem KZ:∀ (ns:List Int) (vs:List Value),WellAll P h vs (ns.map WData.int)->IntsAre vs ns:=by
 intro ns;induction ns with
 | nil =>
  intro vs w;rw[List.map_nil] at w
  cases w;exact .nil
 | cons n ns ih =>
  intro vs w;rw[Wo] at w
  cases w with
  | cons a b =>
   cases a;exact .cons _ _ (ih _ b)
theorem K0{l:OpenLaw}{n:Nat}(hn:l.most=some n){P:Params}{h:Heap}{args:List WData}{vals:List Value}
  (sQ:l.row.toRowW.claim.pre args=true) (qq:WellAll P h vals args) :
  ∃ a vs ns,vals=[Value.ref a]/\args=[WData.list (ns.map WData.int)]/\h.get? a=some { cls:=.type "list",data:=.seq vs.toArray }/\IntsAre vs ns/\ns.length<=n:=by
 have K1:WShape.hasAll [] args [.list .int]=true:=(pre_splitW sQ).1;have hc:l.pre.holds [] { args:=args } = true:=(pre_splitW sQ).2;obtain⟨d,r,rfl,h1,h2⟩:=hasAllW_cons K1;obtain rfl:=hasAllW_nil h2;obtain⟨xs,rfl,h3⟩:=hasW_list h1;obtain⟨ns,rfl⟩:=items_int h3;have hlen:ns.length<=n:=by
  unfold OpenLaw.pre at hc;have h4:(WTm.not (.lt (.lit (.int (n:Int))) (.len (.arg 0)))).holds [] { args:=[.list (ns.map .int)] } = true:=by
   have h4:=(holds_andW hc).1;rw[hn] at h4;exact h4
  have h5:=condW_of h4 (w_not (w_lt w_lit (w_len_list (w_arg rfl))));rw[Q5] at h5;refine Nat.le_of_not_lt λq=>?_
  have q':(n:Int) < ((ns.length:Nat):Int):=by omega
  first
   | (rw[decide_eq_true q'] at h5; exact absurd h5 (by decide))
   | (simp at h5; omega)
 cases qq with
 | cons w1 w2 =>
  cases w2
  cases w1 with
  | list ho g8=>exact⟨_,_,ns,rfl,rfl,ho,KZ ns _ g8,hlen⟩
theorem K2(l:OpenLaw)(args:List WData):l.row.toRowW.claim.post args (.bool true) args=true :=
 postW_of (r:=l.row.toRowW) (X:=(true == true))
  (show WShape.has [] (.bool true) .bool=true by first | rfl | decide | simp[WShape.has,WShape.arms,WShape.armsAll])
  (show(WTm.eq .res (.lit (.bool true))).value [] { args:=args,res:=some (.bool true),after:=args } = some (.bool (true == true)) from w_eq_bool (w_res rfl) w_lit) rfl
theorem K3{l:OpenLaw}{n:Nat}{q:Wm}{loose:List Str}{XP:(Str->Option Value)->Heap->Prop}{YP:Ws->Heap->Prop}{d:DefRec}
  (hn:l.most=some n) (qr:d.params.defaults=[])
  (call:∀ (w:Ws) (s₀ s₁:W3) (mg mb:Str->Option Value) (fa:Addr) (o:Obj) (pm cd doc:Value) (a:Addr) (vs:List Value) (ns:List Int),
   Ground q loose [] XP w s₀ mg mb s₁.heap->YP w s₁.heap ->
   s₁.heap.get? fa=some o->o.data = .func (docDef d.name d.params d.body d.scope pm cd doc)->s₁.heap.CodeRec cd d.name->mg d.name=some (.ref fa) ->
   s₁.heap.get? a=some { cls:=.type "list",data:=.seq vs.toArray }->IntsAre vs ns->ns.length<=n->s₁.gens = #[] ->
   Jo (model l.prog w) callerA (.call (.ref fa) ⟨[.ref a],[]⟩) (λr s'=>r = .ok (.ret (.bool true))/\OldK s₁.heap s'.heap/\s'.os=s₁.os/\AllBare s'.gens) s₁) :
  WalkO q loose XP YP l.row.toRowW d [] (λf vs=>PySem.call f vs):=by
 intro w s₀ s₁ mg mb G Y fa o pm cd doc dV kV ho hd ja hD qt hg args vals as sQ hlay hrd qq hlo;obtain rfl:dV = .none:=Dflts.none hD qr;obtain rfl:kV = .none:=Dflts.noKw hD;obtain⟨a,vs,ns,rfl,rfl,vW,hints,hlen⟩:=K0 hn sQ qq;refine enter_call (codeAny_mono (call w s₀ s₁ mg mb fa o pm cd doc a vs ns G Y ho (fd_plain hd) ja qt vW hints hlen hg) λr s' hq=>?_);obtain⟨rfl,h2,h3,h4⟩:=hq;exact⟨.inl ⟨.bool true,.bool true,[],rfl,λ_=>rfl,.bool true,K2 l _,λ_=>⟨List.Pairwise.nil,λ_ hm=>(nomatch hm)⟩⟩,h2,h3,h4⟩
section
variable {prog:Wm} {w:Ws} {A:Wt} {E:Value->W3->Prop} {s:W3} {K:Frag}
end
end Att
namespace L2
open PySem PySem.Spec PyProof.Rows
theorem qu:∀ {vs:List Value} {ns:List Int},IntsAre vs ns->Vals (ns.map V.int) vs
 | _,_,.nil=>.nil
 | _,_,.cons n t h=>.cons ⟨t,rfl⟩ (qu h)
def vX(H:Hp):Prop:=∀ b,H b=none\/∃ o xs,H b=some (.frz o (.lst xs))
theorem K4{P:Wm}{w:Ws}{K:W2}{mg mb:Str->Option Value}{CX:jc}{k:Nat}{fa a:Addr}{fd:Qi}{x:Str}{sp:Sp}{s₁:W3}{vs:List Value}{ns:List Int}
  (KX:K.In s₁.heap) (BK:s₁.heap.Ns WG mg) (hb:s₁.heap.Ns builtinsNs mb) (K5:∀ x:Str,x≠"__name__"->mb x=QC x) (K6:s₁.heap.NoLimit) (hg:s₁.gens = #[])
  (ha:s₁.heap.get? a=some { cls:=.type "list",data:=.seq vs.toArray }) (hi:IntsAre vs ns) (hl:ns.length<=Wc) (hr:eB k callerA)
  (F:∀ base:Heap,K.In base->base.Ns WG mg->jd P w K mg base CX k fa fd [x] sp) (K7:∀ (s:W3) (u:Value),BindsTo s fd ⟨[u],[]⟩ [(x,u)])
  (lJ:∀ H:Hp,vX H->cq K H a (ns.map V.int)->sp [.ref a] H (λv _=>v = .bl true) λ_ _ _=>False)
  (vY:∀ H e s',CX [] H s₁ (λ_ _ _=>False) e s'->False) :
  Jo (model P w) callerA (.call (.ref fa) ⟨[.ref a],[]⟩) (λr s'=>r = .ok (.ret (.bool true))/\OldK s₁.heap s'.heap/\s'.os=s₁.os/\AllBare s'.gens) s₁:=by
 have rv:=qu hi;have K8:=hi.length;-- from an abstract heap in which nothing but the script may be tracked
 have core:∀ H:Hp,vX H->cq K H a (ns.map V.int)->cw P w H s₁.heap->(∀ b,H b≠none->b=a)->(H a≠none->K.lookup a=none) ->
   Jo (model P w) callerA (.call (.ref fa) ⟨[.ref a],[]⟩) (λr s'=>r = .ok (.ret (.bool true))/\OldK s₁.heap s'.heap/\s'.os=s₁.os/\AllBare s'.gens) s₁:=by
  intro H hO hS aG hA hK;have BL:∀ {b:Addr} {o:Obj},s₁.heap.get? b=some o->H b=none->(km s₁.heap H).get? b=some o:=λe n=>Hg e n
  have qe:∀ {b:Addr} {o:Obj} {es:Array DictEntry} {ep:Nat},s₁.heap.get? b=some o->o.data = .dict es ep->H b=none:=λ{b o es ep} e d=>by
   cases q:H b with
   | none=>rfl
   | some u =>
    have e':b=a:=hA b (by rw[q]; simp);subst e';rw[ha] at e; cases e
    have d':Data.seq vs.toArray _=Data.dict es ep:=d
    cases d'
  have sR:∀ {b:Addr} {m:Str->Option Value},s₁.heap.Ns b m->(km s₁.heap H).Ns b m:=λ{b m} ⟨o,es,ep,e,d,r⟩=>⟨o,es,ep,BL e (qe e d),d,r⟩
  have BM:K.In (km s₁.heap H):=λb o e=>BL (KX b o e) (by
   cases q:H b with
   | none=>rfl
   | some u =>
    have e':b=a:=hA b (by rw[q]; simp);subst e';rw[hK (by rw[q]; simp)] at e; cases e)
  have hM:Mod K mg (km s₁.heap H):=⟨BM,sR BK,⟨mb,sR hb,K5⟩,let ⟨mc,h1,h2⟩:=K6; ⟨mc,sR h1,h2⟩⟩
  have e0:sE P w K mg (km s₁.heap H) callerA [] s₁ H:=⟨rfl,hM,λb o e=>Hh e,Nat.le_of_eq (Hf _ _),trivial,λb hb=>absurd (show b ∈ ([]:List Addr) from hb) (by simp),aG,.of_eq hg⟩
  refine codeAny_mono ((F _ BM (sR BK)).run callerA [] s₁ H ⟨[.ref a],[]⟩ [.ref a] [.ref a] _ _ hr e0 (K7 s₁ (.ref a)) (.cons rfl .nil) (lJ H hO hS)) λr s' h=>?_
  cases r with
  | error e=>exact(vY H e s' h).elim
  | ok fl =>
   cases fl with
   | next=>exact False.elim h
   | brk=>exact False.elim h
   | cont=>exact False.elim h
   | ret u =>
    obtain⟨v,H',os,bare,un,hok',r',q⟩:=h;have q':v = .bl true:=q;subst q';obtain rfl:u=Value.bool true:=r';refine⟨rfl,OldK.of_keep λb o e=>?_,os,bare⟩
    cases q:H b with
    | none=>exact un.keep b o e q (by intro z; exact absurd (show b ∈ ([]:List Addr) from z) (by simp)) (by simp)
    | some u =>
     rcases hO b with z | ⟨ob,xs,z⟩
     ·rw[q] at z; cases z
     ·have z2:=un.kj b ob _ z;obtain⟨e1,_⟩:=aG b _ z;obtain⟨e2,_⟩:=hok' b _ z2;rw[e] at e1; cases e1
      exact e2
 cases hk:K.lookup a with
 | some o =>
  -- the script is one of the module's own objects
  have e:=KX a o hk;rw[ha] at e
  cases e;refine core (λ_=>none) (λ_=>.inl rfl) (.inr ⟨_,vs.toArray,_,hk,rfl,rfl,rfl,by rw[Wq,K8]; exact hl,by simpa using rv⟩) (λb u z=>by have z':(none:Option HO)=some u:=z; cases z') (λb z=>absurd rfl z) λz=>absurd rfl z
 | none =>
  refine core (λb=>if b=a then some (.frz { cls:=.type "list",data:=.seq vs.toArray } (.lst (ns.map V.int))) else none) (λb=>?_) (.inl (.inr ⟨{ cls:=.type "list",data:=.seq vs.toArray },if_pos rfl⟩)) (λb u z=>?_) (λb z=>?_) λ_=>hk
  ·by_cases hb:b=a
   ·exact .inr ⟨_,_,if_pos hb⟩
   ·exact .inl (if_neg hb)
  ·by_cases hb:b=a
   ·have z':=(if_pos hb).symm.trans z
    cases z';subst hb;exact⟨ha,by rw[Q5]; exact hl,vs,_,rv,ha⟩
   ·have z':=(if_neg hb).symm.trans z
    cases z'
  ·by_cases hb:b=a
   ·exact hb
   ·exact absurd (if_neg hb) z
abbrev U0{K:W2}{h:Heap}(_:K.In h):W2:=K
theorem K9{l:PySem.W.OpenLaw}{n k:Nat}{q:Wm}{loose:List Str}{XP:(Str->Option Value)->Heap->Prop}{YP:Ws->Heap->Prop}{d:DefRec}{K:Params->W2}{CX:Ws->jc}{sp:Ws->Sp}{x:Str}
  (hn:l.most=some n) (K_:n<=Wc) (qr:d.params.defaults=[]) (hr:eB k callerA)
  (hY:∀ (w:Ws) (h:Heap),YP w h->(K w.params).In h)
  (F:∀ (w:Ws) (mg:Str->Option Value) (fa:Addr) (h:Heap),(K w.params).In h->h.Ns WG mg->mg d.name=some (.ref fa) ->
   ∃ fd:Qi,(∀ (s:W3) (u:Value),BindsTo s fd ⟨[u],[]⟩ [(x,u)]) /\
    ∀ base:Heap,(K w.params).In base->base.Ns WG mg->jd l.prog w (K w.params) mg base (CX w) k fa fd [x] (sp w))
  (lJ:∀ (w:Ws) (H:Hp) (a:Addr) (ns:List Int),ns.length<=n->vX H->cq (K w.params) H a (ns.map V.int)->sp w [.ref a] H (λv _=>v = .bl true) λ_ _ _=>False)
  (vY:∀ (w:Ws) (H:Hp) (s:W3) (e:Value) (s':W3),CX w [] H s (λ_ _ _=>False) e s'->False) :
  PySem.W.WalkO q loose XP YP l.row.toRowW d [] (λf vs=>PySem.call f vs):=by
 refine Att.K3 hn qr λw s₀ s₁ mg mb fa o pm cd doc a vs ns G Y ho hd ja qt vW hints hlen hg=>?_
 have KX:=hY w _ Y;obtain⟨fd,hb,hF⟩:=F w mg fa _ KX G.T.g qt;exact K4 KX G.T.g G.T.b G.T.builtins G.T.nolimit hg vW hints (Wu hlen K_) hr hF hb (λH hO hS=>lJ w H a ns hlen hO hS) λH e s'=>vY w H s₁ e s'
def lP(s:Stmt):Arguments:=match s with
 | .FunctionDef _ a _ _ _ _ _ _ _ _=>a
 | _=>{ posonlyargs:=[],args:=[],vararg:=none,kwonlyargs:=[],kw_defaults:=[],kwarg:=none,defaults:=[] }
def jf(s:Stmt):List Stmt:=match s with
 | .FunctionDef _ _ b _ _ _ _ _ _ _=>b
 | _=>[]
def bW(s:Stmt):Scope:=match s with
 | .FunctionDef _ _ _ _ _ _ sc _ _ _=>sc
 | _=>{ kind:=.function,names:=[],isGenerator:=false,isCoroutine:=false }
abbrev jg:jc:=λ_ _ _ _ _ _=>False
abbrev E0:XK:=λ_ _ _=>False
theorem BN:vI jg X E0:=λ_ _ _ _ _ _ _ h=>h.elim
structure cx(K:W2)(x qual:Str)(st:Stmt)(f:Addr)(fd:Qi):Prop where
 ex:∃ (oc:Value) (od:Option Addr) (kV doc pm:Value) (an:Option Addr) (bu ct:Value) (lI:Array (Option Value)),
  fd=QN x qual (lP st) (jf st) (bW st) .none kV doc pm an bu ct/\K.lookup f=some ⟨oc,od,.func fd,lI⟩/\PySem.W.codeIn K bu qual=true
 kp:JH K (.ref f)=true
section
variable {P:Wm} {w:Ws} {K:W2} {mg:Str->Option Value} {base:Heap}
theorem cx.ok{x qual:Str}{st:Stmt}{f:Addr}{fd:Qi}{N ps:List Str}{k:Nat}{sp:Sp}(F:cx K x qual st f fd)(S:cW N ps (bW st))(len:∀ vs H Q E,sp vs H Q E->vs.length=ps.length)
  (mU:∀ (bu:Value) (A:Wt) (outer:List Env) (s:W3) (H:Hp) (vs:List V) (Q:VK) (E:XK),eB k (A.deeper (envOfC qual (bW st) s.heap.objs.size f bu))->sp vs H Q E ->
   ∃ t,dU (lH jg P w K mg base N qual (bW st) f bu A outer s H E).oi (jf st) t/\t { nx:=λ_ H'=>Q .aJ H',rt:=Q } (fw N vs) H):jd P w K mg base jg (k + 1) f fd ps sp:=by
 obtain⟨oc,od,kV,doc,pm,an,bu,ct,lI,rfl,lk,ja⟩:=F.ex;refine IT lk ja S len λA outer s H vs Q E hr lJ=>?_
 obtain⟨t,h,q⟩:=mU bu A outer s H vs Q E hr lJ;exact⟨t,h.oi,q⟩
theorem cx.binds{x qual:Str}{st:Stmt}{f:Addr}{fd:Qi}{ps:List Str}(F:cx K x qual st f fd)
  (h:∀ (kV doc pm:Value) (an:Option Addr) (bu ct:Value) (us:List Value),us.length=ps.length->bindArgs (QN x qual (lP st) (jf st) (bW st) .none kV doc pm an bu ct) ⟨us,[]⟩=pure (ps.zip us)):Binds K fd ps []:=by
 obtain⟨oc,od,kV,doc,pm,an,bu,ct,lI,rfl,lk,ja⟩:=F.ex;exact .all (h kV doc pm an bu ct)
theorem BO{x qual:Str}{st:Stmt}{f:Addr}{oc:Value}{od an:Option Addr}{lI:Array (Option Value)}{kV doc pm bu ct:Value}(l:K.lookup f=some ⟨oc,od,.func (QN x qual (lP st) (jf st) (bW st) .none kV doc pm an bu ct),lI⟩)
  (c:PySem.W.codeIn K bu qual=true) (k:JH K (.ref f)=true):cx K x qual st f (QN x qual (lP st) (jf st) (bW st) .none kV doc pm an bu ct):=⟨⟨oc,od,kV,doc,pm,an,bu,ct,lI,rfl,l,c⟩,k⟩
end
theorem La(h:n<=1000):n < Wc:=WH h (by decide)
section
variable {X:Cx}
theorem pv (i:Nat) (hN:X.N[i]? = some x:=by rfl) (hv:r_ X.env.scope x:=by first | exact Or.inl rfl | exact Or.inr (Or.inl rfl) | exact Or.inr (Or.inr rfl)) (hd:(x == ("__debug__" : Str))=false:=by decide)
  (ja:(x == ("__classdict__" : Str))=false:=by decide):PE X (.Name x pos) (bZ i):=Hn hN hv hd ja
theorem Lb:er X (.builtin "len") (λxs H Q=>∃ a kvs,xs=[V.ref a]/\H a=some (.dK kvs)/\Q (.int kvs.length) H):=by
 intro pins s σ H xs us Q I r h;obtain⟨a,kvs,rfl,ha,q⟩:=h;obtain⟨u,rfl,ru⟩:=gY r
 cases ru;exact KN I (.inl ha) λt s' I'=>⟨.int kvs.length,H,I',⟨t,rfl⟩,q⟩
end
section
variable {κ:Type} [DecidableEq κ]
end
def fL(cells:List (Str×Addr)):List (Str×NameKind)->List (Str×Addr)->List (Str×Addr)
 | [],acc=>acc
 | (n,k) :: r,acc=>fL cells r (if k == .free then(match cells.lookup n with | some a=>(n,a) :: acc | none=>acc) else acc)
theorem vZ(f:Str×NameKind->List (Str×Addr)->Sem (ForInStep (List (Str×Addr))))
  (hf:∀ name kind cs,f (name,kind) cs=if kind == .free then(do let a <- cellOf env name; pure (.yield ((name,a) :: cs))) else pure (.yield cs)) :
  ∀ (names:List (Str×NameKind)) (acc:List (Str×Addr)),(∀ x ∈ names,x.2=NameKind.free->∃ c,env.cells.lookup x.1=some c)->(forIn names acc f:Sem (List (Str×Addr)))=pure (fL env.cells names acc)
 | [],acc,_=>by rw[List.forIn_nil]; rfl
 | (n,k) :: r,acc,h=>by
  rw[JV,hf];unfold fL;by_cases hk:(k == NameKind.free)=true
  ·obtain⟨c,hc⟩:=h (n,k) Wh (by simpa using hk);have i_:env.cells.lookup n=some c:=hc;have e:cellOf env n=pure c:=by unfold cellOf; rw[i_]
   rw[if_pos hk,if_pos hk,e,i_];exact vZ f hf r _ λx hx=>h x (W9 _ hx)
  ·rw[if_neg hk,if_neg hk];exact vZ f hf r _ λx hx=>h x (W9 _ hx)
theorem BP(h:∀ x ∈ scope.names,x.2=NameKind.free->∃ c,env.cells.lookup x.1=some c):closureFor scope env=pure (fL env.cells scope.names []):=by
 unfold closureFor;dsimp only;rw[vZ (env:=env) _ (λname kind cs=>by cases hkc:kind == NameKind.free <;> simp[hkc]) scope.names [] h];rfl
theorem BQ:∀ (names:List (Str×NameKind)) (acc:List (Str×Addr)),(n,c) ∈ fL cells names acc->(n,c) ∈ acc\/((n,NameKind.free) ∈ names/\cells.lookup n=some c)
 | [],acc,h=>.inl h
 | (y,k) :: r,acc,h=>by
  unfold fL at h;rcases BQ r _ h with q | ⟨q,e⟩
  ·by_cases hk:(k == NameKind.free)=true
   ·rw[if_pos hk] at q;have kC:k=NameKind.free:=by simpa using hk
    cases e:cells.lookup y with
    | none=>rw[e] at q; exact .inl q
    | some a =>
     rw[e] at q;rcases Wj.mp q with z | z
     ·cases z;exact .inr ⟨by rw[kC]; exact Wh,e⟩
     ·exact .inl z
   ·rw[if_neg hk] at q; exact .inl q
  ·exact .inr ⟨W9 _ q,e⟩
theorem BR:∀ (names:List (Str×NameKind)) (acc:List (Str×Addr)),(acc.lookup n).isSome=true\/((n,NameKind.free) ∈ names/\(cells.lookup n).isSome=true)->((fL cells names acc).lookup n).isSome=true
 | [],acc,h=>h.elim id λz=>absurd z.1 (by simp)
 | (y,k) :: r,acc,h=>by
  unfold fL;apply BR r;by_cases hk:(k == NameKind.free)=true
  ·rw[if_pos hk]
   cases e:cells.lookup y with
   | none =>
    rcases h with h | ⟨h1,h2⟩
    ·exact .inl h
    ·rcases Wj.mp h1 with z | z
     ·cases z;rw[e] at h2; cases h2
     ·exact .inr ⟨z,h2⟩
   | some a =>
    by_cases hn:(n == y)=true
    ·refine .inl ?_;show(List.lookup n ((y,a) :: acc)).isSome=true;rw[Qj,hn];rfl
    ·rcases h with h | ⟨h1,h2⟩
     ·refine .inl ?_;show(List.lookup n ((y,a) :: acc)).isSome=true;have pV:(n == y)=false:=by simpa using hn
      rw[Qj,pV];exact h
     ·rcases Wj.mp h1 with z | z
      ·cases z;exact absurd (by simp) hn
      ·exact .inr ⟨z,h2⟩
  ·rw[if_neg hk];rcases h with h | ⟨h1,h2⟩
   ·exact .inl h
   ·rcases Wj.mp h1 with z | z
    ·cases z;exact absurd rfl hk
    ·exact .inr ⟨z,h2⟩
theorem v5:∀ (names:List (Str×NameKind)) (h:Heap) (acc:List (Str×Addr)),(n,c) ∈ QG h.objs.size names acc ->
  (n,c) ∈ acc\/((n,NameKind.cell) ∈ names/\h.objs.size<=c/\(JC h names).IsCell c none)
 | [],_,_,h=>.inl h
 | (y,k) :: r,h,acc,hm=>by
  unfold QG at hm;unfold JC;by_cases hk:(k == NameKind.cell)=true
  ·rw[if_pos hk] at hm;rw[if_pos hk];have kC:k=NameKind.cell:=by simpa using hk
   have sz:(h.push { cls:=.type "cell",data:=.cell none }).objs.size=h.objs.size + 1:=Qw ..;rw[<- sz] at hm;rcases v5 r _ _ hm with q | ⟨q1,q2,q3⟩
   ·rcases Wj.mp q with z | z
    ·cases z;refine .inr ⟨by rw[kC]; exact Wh,Wf _,?_⟩;exact Heap.IsCell.keeps ⟨_,Wn _ rfl,rfl⟩ (pushCells_keeps r _)
    ·exact .inl z
   ·exact .inr ⟨W9 _ q1,by rw[sz] at q2; omega,q3⟩
  ·rw[if_neg hk] at hm;rw[if_neg hk];rcases v5 r _ _ hm with q | ⟨q1,q2,q3⟩
   ·exact .inl q
   ·exact .inr ⟨W9 _ q1,q2,q3⟩
theorem v7:∀ (names:List (Str×NameKind)) (k:Nat) (acc:List (Str×Addr)),(∀ n n' c,(n,c) ∈ acc->(n',c) ∈ acc->n=n')->(∀ n c,(n,c) ∈ acc->c < k) ->
  ∀ n n' c,(n,c) ∈ QG k names acc->(n',c) ∈ QG k names acc->n=n'
 | [],_,_,h,_=>h
 | (y,kd) :: r,k,acc,h,hb=>by
  unfold QG;by_cases hk:(kd == NameKind.cell)=true
  ·rw[if_pos hk];refine v7 r (k + 1) _ (λn n' c h1 h2=>?_) λn c hm=>?_
   ·rcases Wj.mp h1 with e | h1 <;> rcases Wj.mp h2 with e' | h2
    ·cases e; cases e'; rfl
    ·cases e; exact absurd (hb _ _ h2) (Qt _)
    ·cases e'; exact absurd (hb _ _ h1) (Qt _)
    ·exact h n n' c h1 h2
   ·rcases Wj.mp hm with e | hm
    ·cases e; exact Nat.lt_succ_self _
    ·exact Nat.lt_succ_of_lt (hb _ _ hm)
  ·rw[if_neg hk];exact v7 r k acc h hb
theorem mY{env:Env}{x:Str}:∀ {names:List (Str×NameKind)} {k:NameKind},
  (names.map λ(y:Str×NameKind)=>if (y.2 == NameKind.free && env.scope.kind == .function && env.kindOf y.1 == some .cell) then(y.1,NameKind.cell) else(y.1,y.2)).lookup x=some k ->
  names.lookup x=some k\/(k=NameKind.cell/\names.lookup x=some .free)
 | [],_,h=>by simp at h
 | (n,kd) :: r,k,h=>by
  rw[Wo] at h;have ih:=@mY env x r k
  cases hx:x == n with
  | true =>
   by_cases hc:(kd == NameKind.free && env.scope.kind == .function && env.kindOf n == some .cell)=true
   ·rw[if_pos hc,Qj,hx] at h
    cases h;simp only[Wv] at hc;have:kd=NameKind.free:=by simpa using hc.1.1
    exact .inr ⟨rfl,by rw[Qj,hx,this]⟩
   ·rw[if_neg hc,Qj,hx] at h
    cases h;exact .inl (by rw[Qj,hx])
  | false =>
   have h':(r.map λ(y:Str×NameKind)=>if (y.2 == NameKind.free && env.scope.kind == .function && env.kindOf y.1 == some .cell) then(y.1,NameKind.cell) else(y.1,y.2)).lookup x=some k:=by
    by_cases hc:(kd == NameKind.free && env.scope.kind == .function && env.kindOf n == some .cell)=true
    ·rw[if_pos hc,Qj,hx] at h; exact h
    ·rw[if_neg hc,Qj,hx] at h; exact h
   rw[Qj,hx];exact ih h'
def e7(X:Cx)(scope:Scope)(s₀:W3)(H₀:Hp)(ex:List Addr):Cx :=
 { X with
  env:={ scope:=relabel scope X.env,locals:=s₀.heap.objs.size,globals:=X.env.globals,cells:=QG (s₀.heap.objs.size + 1) scope.names (fL X.env.cells scope.names []),qual:=X.env.qual,func:=none,code:=X.env.code,frame:=X.env.frame,builtins:=X.env.builtins }
  s₀:=s₀
  H₀:=H₀
  outer:=X.stack
  ex:=ex
  fn:=λx=>scope.names.lookup x == some .cell
  pn:=[]
  xe:=λ_ _=>False }
structure mZ(X:Cx)(scope:Scope)(cs:List Nat):Prop where
 kind:scope.kind = .function
 names:∀ x ∈ scope.names,x.2 = .local->scope.names.lookup x.1=some .local
 free:∀ x ∈ scope.names,x.2 = .free->X.env.kindOf x.1=some .cell\/X.env.kindOf x.1=some .free
 nd:(scope.names.map (·.1)).Nodup
 own:∀ (i:Nat) x,X.N[i]? = some x->scope.names.lookup x=some .local\/scope.names.lookup x=some .cell->i ∈ cs
def bH(cs:List Nat)(σ:St):St:=cs.foldl (λσ i=>σ.set i none) σ
theorem sS(cs:List Nat):∀ σ:St,(bH cs σ).length=σ.length:=by
 induction cs with
 | nil=>intro σ; rfl
 | cons i r ih =>
  intro σ;show(bH r (σ.set i none)).length=_;rw[ih]; simp
theorem lQ:∀ (cs:List Nat) (σ:St) (i:Nat) (v:V),(bH cs σ)[i]? = some (some v)->σ[i]? = some (some v)/\i ∉ cs:=by
 intro cs;induction cs with
 | nil=>intro σ i v h; exact⟨h,by simp⟩
 | cons j r ih =>
  intro σ i v h;have h':(bH r (σ.set j none))[i]? = some (some v):=h;obtain⟨h1,h2⟩:=ih _ i v h';by_cases e:j=i
  ·subst e;rw[Qa] at h1;simp at h1
  ·rw[W6 e] at h1;exact⟨h1,by simp only[Wj,not_or]; exact⟨Ne.symm e,h2⟩⟩
theorem v9:∀ {l:List (Str×α)},(l.map (·.1)).Nodup->(x,k) ∈ l->(x,k') ∈ l->k=k'
 | (y,j) :: r,nd,h1,h2=>by
  rw[Wo,List.nodup_cons] at nd;rcases Wj.mp h1 with e | g1 <;> rcases Wj.mp h2 with e' | g2
  ·cases e; cases e'; rfl
  ·cases e; exact absurd (Jf (f:=(·.1)) g2) nd.1
  ·cases e'; exact absurd (Jf (f:=(·.1)) g1) nd.1
  ·exact v9 nd.2 g1 g2
section
variable {X:Cx} {pins:List (Addr×Obj)} {σ:St} {H:Hp} {s:W3} {scope:Scope} {cs:List Nat} {fp:List Addr}
theorem Lc(I:Inv X pins σ H s)(S:mZ X scope cs)(hf:∀ b ∈ fp,gf X pins H b)(a7:∀ b ∈ fp,b < s.heap.objs.size) :
  Inv (e7 X scope s H fp) [] (bH cs σ) H { s with heap:=JC (s.heap.push { cls:=.type "dict",data:=.dict #[] }) scope.names }:=by
 have sz:(s.heap.push { cls:=.type "dict",data:=.dict #[] }).objs.size=s.heap.objs.size + 1:=Qw ..;have kp:∀ b o,s.heap.get? b=some o->(JC (s.heap.push { cls:=.type "dict",data:=.dict #[] }) scope.names).get? b=some o:=λb o e=>pushCells_keeps _ _ b o (Wd _ e)
 have m_:∀ n c,(n,c) ∈ fL X.env.cells scope.names []->(n,NameKind.free) ∈ scope.names/\X.env.cells.lookup n=some c:=λn c h=>(BQ _ _ h).elim (λz=>absurd z (by simp)) id
 have Ld:∀ n c,(n,c) ∈ fL X.env.cells scope.names []->c < s.heap.objs.size:=λn c h=>by
  obtain⟨v,q⟩:=I.cell n c (m_ n c h).2;exact q.lt
 have qw:∀ n c,(n,c) ∈ QG (s.heap.objs.size + 1) scope.names (fL X.env.cells scope.names []) ->
   ((n,NameKind.free) ∈ scope.names/\X.env.cells.lookup n=some c)\/((n,NameKind.cell) ∈ scope.names/\s.heap.objs.size + 1<=c/\(JC (s.heap.push { cls:=.type "dict",data:=.dict #[] }) scope.names).IsCell c none):=λn c h=>by
  rw[<- sz] at h;rcases v5 _ _ _ h with q | q
  ·exact .inl (m_ n c q)
  ·rw[sz] at q; exact .inr q
 have Lf:=v7 scope.names (s.heap.objs.size + 1) (fL X.env.cells scope.names []) (λn n' c h1 h2=>I.ok.inj n n' c (m_ n c h1).2 (m_ n' c h2).2) (λn c h=>Nat.lt_succ_of_lt (Ld n c h));have qx:∀ x ∈ scope.names,x.2 = .free->∃ c,X.env.cells.lookup x.1=some c:=λx hx hk=>I.ok.has x.1 (S.free x hx hk)
 have Lg:∀ b ∈ fp,b ∉ gW X.stack:=λb hb z=>by
  obtain⟨_,f1,f2,_⟩:=hf b hb;rcases Wj.mp (I.vn b z) with e | e
  ·exact f1 e
  ·exact f2 e
 have Lh:∀ x,(e7 X scope s H fp).env.kindOf x=some .cell\/(e7 X scope s H fp).env.kindOf x=some .free->scope.names.lookup x=some .cell\/scope.names.lookup x=some .free:=λx h=>by
  rcases h with h | h
  ·have h':(relabel scope X.env).names.lookup x=some .cell:=h;rcases mY (env:=X.env) (names:=scope.names) h' with q | ⟨_,q⟩
   ·exact .inl q
   ·exact .inr q
  ·have h':(relabel scope X.env).names.lookup x=some .free:=h;rcases mY (env:=X.env) (names:=scope.names) h' with q | ⟨q,_⟩
   ·exact .inr q
   ·cases q
 have BS:∀ x,scope.names.lookup x=some .cell\/scope.names.lookup x=some .free->∃ c,(QG (s.heap.objs.size + 1) scope.names (fL X.env.cells scope.names [])).lookup x=some c:=λx h=>by
  refine Jd.mp (PySem.W.cellsFrom_some scope.names _ _ ?_);rcases h with h | h
  ·exact .inl h
  ·refine .inr (BR _ _ (.inr ⟨WD h,?_⟩));obtain⟨c,hc⟩:=qx _ (WD h) rfl;exact Option.isSome_iff_exists.mpr ⟨c,hc⟩
 have Li:(JC (s.heap.push { cls:=.type "dict",data:=.dict #[] }) scope.names).Ns s.heap.objs.size λ_=>none:=(Heap.Ns.new s.heap (.type "dict")).keeps (pushCells_keeps _ _)
 refine⟨⟨I.ok.mod,S.kind,I.ok.glob,I.ok.blt,Wf _,λy z c h1 h2=>Lf y z c (WD h1) (WD h2),λx hx=>BS x (Lh x hx),λx c pW h=>?_,I.ok.hd,I.ok.frames,.inl rfl,
  λb hb=>⟨WP (a7 b hb),λx c h e=>?_⟩,I.bs,Wu I.ok.ly I.sz,λb o e hb=>?_,Lg,I.stack,I.Aq⟩,
  rfl,I.bare,Un.kept kp,⟨λ_=>none,Li,λi x v h1 h2 h3=>?_⟩,λx c h=>?_,I.aG.fresh (Wf _),λx c h=>?_,λp hp=>absurd (show p ∈ ([]:List (Addr×Obj)) from hp) (by simp),I.aG.kept kp,(sS cs σ).trans I.len⟩
 ·rcases qw x c (WD h) with q | q
  ·have Lj:scope.names.lookup x=some .cell:=by
    have:(scope.names.lookup x == some .cell)=true:=pW;exact eq_of_beq this
   have:=v9 S.nd q.1 (WD Lj)
   cases this
  ·exact Nat.le_of_succ_le q.2.1
 ·subst e;rcases qw x c (WD h) with q | q
  ·exact(hf c hb).2.2.2.2.1 x c q.2 rfl
  ·exact absurd (Ww (a7 c hb) (Nat.le_of_succ_le q.2.1)) (Qt _)
 ·obtain⟨_,_,_,f3,_⟩:=hf b hb;rcases f3 with z | z
  ·exact I.ok.pR b o e z
  ·exact absurd (Ww (Wr (I.ok.bs b o e).1) z) (Qt _)
 ·obtain⟨h2',hni⟩:=lQ cs σ i v h2;have BU:¬ (scope.names.lookup x=some .local\/scope.names.lookup x=some .cell):=λz=>hni (S.own i x h1 z)
  have mS:scope.names.lookup x=some .free:=by
   rcases h3 with h3 | h3 | h3
   ·rcases mY (env:=X.env) (names:=scope.names) h3 with q | ⟨q,_⟩
    ·exact absurd (.inl q) BU
    ·cases q
   ·rcases mY (env:=X.env) (names:=scope.names) h3 with q | ⟨_,q⟩
    ·exact absurd (.inr q) BU
    ·exact q
   ·rcases mY (env:=X.env) (names:=scope.names) h3 with q | ⟨q,_⟩
    ·exact q
    ·cases q
  have hk:=S.free _ (WD mS) rfl;obtain⟨m,hn,hl⟩:=I.loc;have Lk:r_ X.env.scope x:=by
   rcases hk with hk | hk
   ·exact .inr (.inl hk)
   ·exact .inr (.inr hk)
  obtain⟨u,r,l⟩:=hl i x v h1 h2' Lk;refine⟨u,r,?_⟩;rcases l with ⟨k,_⟩ | ⟨_,c,hc,hcell⟩
  ·have k':X.env.kindOf x=some .local:=k;rcases hk with hk | hk
   ·rw[show X.env.kindOf x=some .cell from hk] at k'; cases k'
   ·rw[show X.env.kindOf x=some .free from hk] at k'; cases k'
  ·obtain⟨c',i_⟩:=BS x (.inr mS);have e:c'=c:=by
    rcases qw x c' (WD i_) with q | q
    ·have q2:=q.2;rw[hc] at q2; exact(Wx q2).symm
    ·have:=v9 S.nd q.1 (WD mS)
     cases this
   subst e;refine .inr ⟨?_,c',i_,hcell.keeps kp⟩;rcases h3 with h3 | h3 | h3
   ·rcases mY (env:=X.env) (names:=scope.names) h3 with q | ⟨q,_⟩
    ·rw[mS] at q; cases q
    ·cases q
   ·exact .inl h3
   ·exact .inr h3
 ·rcases qw x c (WD h) with q | q
  ·obtain⟨v,z⟩:=I.cell x c q.2;exact⟨v,z.keeps kp⟩
  ·exact⟨none,q.2.2⟩
 ·rcases qw x c (WD h) with q | q
  ·exact I.i9 x c q.2
  ·exact I.aG.fresh (Nat.le_of_succ_le q.2.1)
end
abbrev kD:Value->W3->Prop:=λ_ _=>False
def BV(ifs:List Expr)(env:Env):Sem Bool:=forIn ifs true λc r=>if r=true then do let ok <- isTrue c env (eval c env); pure (ForInStep.yield ok) else pure (ForInStep.yield r)
theorem Ll(I:Nat->W3->Prop)
  (turn:∀ n s,I n s->We (model prog w) A (J2 it) (λr s₁=>match r with
   | none=>R (.ok .next) s₁
   | some v=>We (model prog w) A (letOwnedTupleGo target it v) (λ_ BW=>We (model prog w) A (assign target env v) (λ_ s₂ =>
     We (model prog w) A (BV ifs env) (λok s₃ =>
      if ok=true then We (model prog w) A (eval elt env) (λx s₄ =>
       We (model prog w) A (call (.builtin "list.append") [acc,x]) (λ_ s₅=>∃ m,m < n/\I m s₅) kD s₄) kD s₃
      else ∃ m,m < n/\I m s₃) kD s₂) kD BW) kD s₁) kD s)
  (n:Nat) (h:I n s) :
  Jo (model prog w) A (.compLoop (.ListComp elt [⟨target,iter,ifs,0⟩] scope pos) 0 it acc env) R s:=by
 refine codeAny_loop rfl I (λn s hI=>?_) n h;show We _ A ((compTurn (.ListComp elt [⟨target,iter,ifs,0⟩] scope pos) 0 it acc env).onRaise (λx=>do noteFrame x env; theTreesLotGoes x)) _ _ s;refine wpAny_noted ?_;rw[compTurn_list];refine W0 (wpAny_standAt (W0 (QF (turn n s hI) (λr s₁ h₁=>?_) λ_ _ h'=>h'.elim)))
 cases r with
 | none=>exact W7 h₁
 | some v =>
  refine W0 (QF h₁ (λ_ BW Lm=>?_) λ_ _ h'=>h'.elim);refine W0 (QF Lm (λ_ s₂ h₂=>W0 (QF h₂ (λok s₃ h₃=>?_) λ_ _ h'=>h'.elim)) λ_ _ h'=>h'.elim)
  cases ok with
  | false=>exact W7 ⟨rfl,h₃⟩
  | true =>
   exact W0 (W0 (QF h₃ (λx s₄ h₄=>W0 (QF h₄ (λ_ s₅ h₅=>W7 (W7 ⟨rfl,h₅⟩)) λ_ _ h'=>h'.elim)) λ_ _ h'=>h'.elim))
theorem Ln
  (h:Q { scope,locals:=s.heap.objs.size,globals,cells:=QG (s.heap.objs.size + 1) scope.names cl,qual,func:=none,code:=env.code,frame:=env.frame,builtins:=env.builtins }
   { s with heap:=JC (s.heap.push { cls:=.type "dict",data:=.dict #[] }) scope.names }):We M A (newFunctionEnv scope globals cl [] qual none .none (some env)) Q E s:=by
 simp only[newFunctionEnv,Option.isSome_some,if_true];refine W0 (wpAny_alloc ?_);refine W0 (wpAny_layCells _ (λname kind cells=>by cases hkc:kind == NameKind.cell <;> simp[hkc]) _ _ _ _ ?_);rw[show({ s with heap:=s.heap.push { cls:=.type "dict",data:=.dict #[] } }:W3).heap.objs.size=s.heap.objs.size + 1 from Qw ..];exact W0 (W7 (W7 h))
def ot(X:Cx)(ifs:List Expr)(t:TT):Prop :=
 ∀ (pins:List (Addr×Obj)) (s:W3) (σ:St) (H:Hp) (Q:Bool->Hp->Prop),Inv X pins σ H s->t σ H Q->We (model X.prog X.w) X.A (BV ifs X.env) (TP X pins σ Q) X.xe s
def Lo:TT:=λ_ H Q=>Q true H
theorem Lp:ot X [] Lo:=λpins s σ H Q I h=>wpAny_tests_nil ⟨H,I,h⟩
theorem Lq(h:PT X c t):ot X [c] t:=λpins s σ H Q I q=>wpAny_tests_one (h pins s σ H Q I q)
def Le(σ σ':St):Prop:=σ'.length=σ.length/\∀ (i:Nat) (v:V),σ[i]? = some (some v)->σ'[i]? = some (some v)
def BX(cs:List Nat)(g:TG)(tt:TT)(te:TE)(σ:St)(Q:VK)(J:It)(H1:Hp):Prop :=
 ∀ l,H1 l=none->∃ W:Nat->Nat->Hp->Prop,(∃ m,W 0 m (upd H1 l (.lst [])))/\∀ i m H2,W i m H2 ->
  (J.stop i H2/\Q (.ref l) H2) \/
  (J.go i H2/\∀ x H3,J.p_ i H2 x H3->g x (bH cs σ) H3 λσ4 H4=>Le (bH cs σ) σ4/\tt σ4 H4 λb H5 =>
   if b=true then te σ4 H5 λv H6=>∃ ys m',H6 l=some (.lst ys)/\ys.length < Wc/\m' < m/\W (i + 1) m' (upd H6 l (.lst (ys ++ [v]))) else ∃ m',m' < m/\W (i + 1) m' H5)
def v_(cs:List Nat)(wi:TI)(g:TG)(tt:TT)(te:TE):TE:=λσ H Q=>wi σ H λJ H1=>BX cs g tt te σ Q J H1
section
variable {X:Cx} {pins:List (Addr×Obj)} {σ:St} {H:Hp} {s:W3} {scope:Scope} {cs:List Nat} {elt tg iter:Expr} {ifs:List Expr} {pos:Pos} {g:TG} {tt:TT} {te:TE}
theorem BY{it:Addr}{fp:List Addr}{tn:Nat->Heap->Prop}{J:It}{Q:VK}{E:Value->W3->Prop}{RR:Value->Addr->Result->W3->Prop}(hc:X.calm=true)(I:Inv X pins σ H s)(S:mZ X scope cs)
  (T:Turn X.prog X.w X.K tg J fp it tn) (st:tn 0 s.heap) (hf:∀ b ∈ fp,gf X pins H b)
  (hg:∀ s₀ H₀ ex,PG (e7 X scope s₀ H₀ ex) tg g) (ht:∀ s₀ H₀ ex,ot (e7 X scope s₀ H₀ ex) ifs tt) (he:∀ s₀ H₀ ex,PE (e7 X scope s₀ H₀ ex) elt te) (q:BX cs g tt te σ Q J H)
  (Lr:∀ l C s' H',Inv X pins σ H' s'->gf X pins H' C->(∃ m,s'.heap.Ns C m)->Q (.ref l) H'->RR (.ref l) C (.ok .next) s') :
  We (model X.prog X.w) X.A (newList []) (λacc s₃=>We (model X.prog X.w) X.A (newFunctionEnv scope X.env.globals (fL X.env.cells scope.names []) [] X.env.qual none .none (some X.env)) (λBZ s₄ =>
   Jo (model X.prog X.w) X.A (.compStart (.ListComp elt [⟨tg,iter,ifs,0⟩] scope pos) 0 (.ref it) acc { BZ with scope:=relabel scope X.env }) (RR acc BZ.locals) s₄) E s₃) E s:=by
 refine Q0 ?_;have jh:H s.heap.objs.size=none:=I.aG.fresh (Wf _);obtain⟨W,⟨m0,w0⟩,turn⟩:=q s.heap.objs.size jh;generalize hl:s.heap.objs.size=l at *;have I3:Inv X pins σ (upd H l (.lst [])) { s with heap:=s.heap.push { cls:=.type "list",dict:=none,data:=.seq ([]:List Value).toArray } } :=
  I.laid (t':=s.toks) (λb u e=>Wd _ e) (Nat.le_of_eq hl) ⟨Qn _,[],0,.nil,by rw[<- hl]; exact Wn _ rfl⟩
 have Ls:∀ b o,s.heap.get? b=some o->(s.heap.push { cls:=.type "list",dict:=none,data:=.seq ([]:List Value).toArray }).get? b=some o:=λb o e=>Wd _ e
 have nc:∀ b ∈ fp,b≠l:=λb hb e=>by
  obtain⟨o,ho,_⟩:=T.obj 0 _ st b hb;exact absurd (Wr ho) (by rw[e,hl]; exact Qt _)
 have wa:∀ b ∈ fp,gf X pins (upd H l (.lst [])) b:=λb hb=>⟨by rw[aQ (nc b hb)]; exact(hf b hb).1,(hf b hb).2⟩
 have lD:tn 0 (s.heap.push { cls:=.type "list",dict:=none,data:=.seq ([]:List Value).toArray }):=T.keep 0 _ _ st λb _ o e=>Ls b o e
 generalize wb:({ s with heap:=s.heap.push { cls:=.type "list",dict:=none,data:=.seq ([]:List Value).toArray } }:W3)=s3 at I3;have B0:tn 0 s3.heap:=by rw[<- wb]; exact lD
 have Lu:∀ b ∈ fp,b < s3.heap.objs.size:=λb hb=>by
  obtain⟨o,ho,_⟩:=T.obj 0 _ B0 b hb;exact Wr ho
 refine Ln ?_;have I4:=Lc I3 S wa Lu;generalize hX:e7 X scope s3 (upd H l (.lst [])) fp=X' at I4;generalize hs4:({ s3 with heap:=JC (s3.heap.push { cls:=.type "dict",data:=.dict #[] }) scope.names }:W3)=s4 at I4 ⊢;have sU:=hg s3 (upd H l (.lst [])) fp;have e8:=ht s3 (upd H l (.lst [])) fp;have B2:=he s3 (upd H l (.lst [])) fp;rw[hX] at sU e8 B2;have B3:tn 0 s4.heap:=T.keep 0 _ _ B0 λb _ o e=>by rw[<- hs4]; exact pushCells_keeps _ _ b o (Wd _ e)
 have hP:X'.prog=X.prog:=by rw[<- hX]; rfl
 have hw:X'.w=X.w:=by rw[<- hX]; rfl
 have hA:X'.A=X.A:=by rw[<- hX]; rfl
 have hK:X'.K=X.K:=by rw[<- hX]; rfl
 have i_:X'.calm=true:=by rw[<- hX]; exact hc
 have sV:X'.xe=kD:=by rw[<- hX]; rfl
 have B4:X'.env.locals=s3.heap.objs.size:=by rw[<- hX]; rfl
 have Lv:({ scope:=relabel scope X.env,locals:=s3.heap.objs.size,globals:=X.env.globals,cells:=QG (s3.heap.objs.size + 1) scope.names (fL X.env.cells scope.names []),qual:=X.env.qual,func:=none,code:=X.env.code,frame:=X.env.frame,builtins:=X.env.builtins }:Env)=X'.env:=by rw[<- hX]; rfl
 have wc:∀ {H':Hp},(∀ b ∈ fp,H' b=none)->∀ b ∈ fp,gf X' [] H' b:=λ{H'} hn b hb=>by
  have ex:X'.ex=fp:=by rw[<- hX]; rfl
  have pn:X'.pn=[]:=by rw[<- hX]; rfl
  refine⟨hn b hb,(I4.ok.se b (by rw[ex]; exact hb)).1,I4.ok.pS b (by rw[ex]; exact hb),.inl (by rw[ex]; exact hb),(I4.ok.se b (by rw[ex]; exact hb)).2,λp hp=>?_⟩;rw[pn] at hp;simp at hp
 show Jo (model X.prog X.w) X.A (.compStart (.ListComp elt [⟨tg,iter,ifs,0⟩] scope pos) 0 (.ref it) (.ref l) ({ scope:=relabel scope X.env,locals:=s3.heap.objs.size,globals:=X.env.globals,cells:=QG (s3.heap.objs.size + 1) scope.names (fL X.env.cells scope.names []),qual:=X.env.qual,func:=none,code:=X.env.code,frame:=X.env.frame,builtins:=X.env.builtins }:Env)) (RR (.ref l) s3.heap.objs.size) s4;rw[Lv];have loop:Jo (model X.prog X.w) X.A (.compLoop (.ListComp elt [⟨tg,iter,ifs,0⟩] scope pos) 0 (.ref it) (.ref l) X'.env) (RR (.ref l) s3.heap.objs.size) s4:=by
  refine Ll (λn s'=>∃ i H',Inv X' [] (bH cs σ) H' s'/\tn i s'.heap/\(∀ b ∈ fp,H' b=none)/\W i n H') ?_ m0 ⟨0,_,I4,B3,λb hb=>(wa b hb).1,w0⟩;rintro n s5 ⟨i,H5,I5,st5,fr5,w5⟩;rcases turn i n H5 w5 with ⟨stop,qn⟩ | ⟨go,step⟩
  ·have:=T.done X' hP hw hK i_ i [] s5 (bH cs σ) H5 kD I5 (wc fr5) st5 stop;rw[hA] at this;refine aR this λr s6 ⟨hr,I6⟩=>?_
   subst hr;have b6:=I6.base;have e1:X'.fs=gW X.stack:=by rw[<- hX]; rfl
   have e2:X'.ex=fp:=by rw[<- hX]; rfl
   have e3:X'.H₀=upd H l (.lst []):=by rw[<- hX]; rfl
   have e4:X'.s₀=s3:=by rw[<- hX]; rfl
   rw[e1,e2,e3,e4] at b6;have o6:s6.os=s3.os:=by rw[<- e4]; exact I6.os
   have Lw:cw X.prog X.w H5 s6.heap:=by rw[<- hP,<- hw]; exact I6.aG
   have J6:Inv X pins σ H5 s6:=I3.Hm o6 b6 Lw I6.bare λb hb=>by
    obtain⟨_,f1,_,f3,f4,f5⟩:=wa b hb;exact⟨f3,f1,f4,f5⟩
   obtain⟨m6,n6,_⟩:=I6.loc;rw[B4] at n6;refine Lr l s3.heap.objs.size s6 H5 J6 (I3.jM (Wf _) ?_) ⟨m6,n6⟩ qn;rw[<- B4];exact I6.free
  ·have:=T.item X' hP hw hK i_ i [] s5 (bH cs σ) H5 kD I5 (wc fr5) st5 go;rw[hA] at this;refine aR this λr s6 ⟨u,hr,h6⟩=>?_
   subst hr;refine aR h6 λ_ s7 ⟨x,H7,I7,r7,y7,st7,fr7⟩=>?_
   have Lx:=I7.pinned (wc fr7) (T.obj _ _ st7);have a8:=sU _ s7 (bH cs σ) H7 x u _ Lx r7 (step x H7 y7);rw[hP,hw,hA,sV] at a8;refine aR a8 λ_ s8 ⟨σ8,H8,I8,le8,q8⟩=>?_
   have a9:=e8 _ s8 σ8 H8 _ I8 q8;rw[hP,hw,hA,sV] at a9;refine aR a9 λok s9 ⟨H9,I9,q9⟩=>?_
   have back:∀ {H':Hp} {s':W3},Inv X' ([] ++ qa fp s7.heap) σ8 H' s'->Inv X' [] (bH cs σ) H' s'/\tn (i + 1) s'.heap/\∀ b ∈ fp,H' b=none:=λ{H' s'} J=>by
    refine⟨J.sA.weak (le8.1.symm) le8.2,T.keep _ _ _ st7 λb hb o e=>(J.pin (b,o) (WA _ (WA _ (sy hb e)))).1,λb hb=>?_⟩;obtain⟨o,e,d⟩:=T.obj _ _ st7 b hb;exact(J.pin (b,o) (WA _ (WA _ (sy hb e)))).2.1
   cases ok with
   | false =>
    rw[if_neg WJ] at q9 ⊢;obtain⟨m',hm,w9⟩:=q9;obtain⟨b1,b2,b3⟩:=back I9;exact⟨m',hm,i + 1,H9,b1,b2,b3,w9⟩
   | true =>
    rw[if_pos rfl] at q9 ⊢;have B5:=B2 _ s9 σ8 H9 _ I9 q9;rw[hP,hw,hA,sV] at B5;refine aR B5 λx10 s10 ⟨v,H10,I10,r10,ys,m',hy,hz,hm,w10⟩=>?_
    have B6:=Bz (X:=X') _ s10 σ8 H10 (.ref l) [v] (.ref l) [x10] (λ_ H'=>W (i + 1) m' H') I10 rfl (.cons r10 .nil) ⟨l,ys,v,rfl,rfl,hy,hz,w10⟩;rw[hP,hw,hA,sV] at B6;refine aR B6 λ_ s11 ⟨_,H11,I11,_,w11⟩=>?_
    obtain⟨b1,b2,b3⟩:=back I11;exact⟨m',hm,i + 1,H11,b1,b2,b3,w11⟩
 exact codeAny_compStart_list loop (T.self X.A 0 s4 _ _ B3 loop)
theorem Ly(hc:X.calm=true)(S:mZ X scope cs)(hi:PI X tg iter wi)(hg:∀ s₀ H₀ ex,PG (e7 X scope s₀ H₀ ex) tg g)(ht:∀ s₀ H₀ ex,ot (e7 X scope s₀ H₀ ex) ifs tt)(he:∀ s₀ H₀ ex,PE (e7 X scope s₀ H₀ ex) elt te)
  (hs:∀ x,QQ iter X.env x=pure x:=by intro _; rfl):PE X (.ListComp elt [⟨tg,iter,ifs,0⟩] scope pos) (v_ cs wi g tt te):=by
 intro pins s σ H Q I h;have qx:∀ x ∈ scope.names,x.2 = .free->∃ c,X.env.cells.lookup x.1=some c:=λx hx hk=>I.ok.has x.1 (S.free x hx hk)
 rw[eval_ListComp];refine wpAny_comprehension_free (use:=none) rfl hs (BP qx) S.kind S.names (aR (hi pins s σ H _ I h) λxv s1 h1=>aR h1 λsu s2 h2=>?_);obtain⟨it,fp,tn,J,H2,e,I2,T,st2,f2,q2⟩:=h2;subst e;refine BY (RR:=λacc C=>compPost (model X.prog X.w) X.A X.xe none (EP X pins σ Q) acc C) hc I2 S T st2 f2 hg ht he q2 ?_;intro l C s' H' I' fC ⟨m,n⟩ q;exact⟨m,n,λh' jP=>⟨.ref l,H',I'.turned (t':=s'.toks) (λb o hb e=>(jP.2 b hb).trans e) fC.1 fC.2.1 fC.2.2.2.1 fC.2.2.2.2.1 fC.2.2.2.2.2,rfl,q⟩⟩
theorem Lz(hc:X.calm=true)(S:mZ X scope cs)(hN:X.N.Nodup)(kE:X.N[i]? = some y)(hy:X.env.scope.names.lookup y=some .local)
  (hi:PI X tg iter wi) (hg:∀ s₀ H₀ ex,PG (e7 X scope s₀ H₀ ex) tg g) (ht:∀ s₀ H₀ ex,ot (e7 X scope s₀ H₀ ex) ifs tt) (he:∀ s₀ H₀ ex,PE (e7 X scope s₀ H₀ ex) elt te)
  (qy:Jq (.ListComp elt [⟨tg,iter,ifs,0⟩] scope pos) (some (.Name y py)) sW.line X.env=pure true:=by rfl)
  (hs:∀ x,QQ iter X.env x=pure x:=by intro _; rfl):PS X (.Assign [.Name y py] (.ListComp elt [⟨tg,iter,ifs,0⟩] scope pos) sW) (pY (v_ cs wi g tt te) (sr i)):=by
 intro pins s σ H D I h;have qx:∀ x ∈ scope.names,x.2 = .free->∃ c,X.env.cells.lookup x.1=some c:=λx hx hk=>I.ok.has x.1 (S.free x hx hk)
 rw[exec_Assign_Name_used _ _ _ _ qy];refine W0 (wpAny_standAt (W0 ?_));show We _ X.A (do let _ <- comprehension (.ListComp elt [⟨tg,iter,ifs,0⟩] scope pos) scope X.env _ (newList []) false (eval iter X.env) (some (assign (.Name y py) X.env))) _ _ s;refine W0 (QF (wpAny_comprehension_free (use:=some (assign (.Name y py) X.env)) (Q:=λ_ s'=>SP X pins D .next s') rfl hs (BP qx) S.kind S.names
  (aR (hi pins s σ H _ I h) λxv s1 h1=>aR h1 λsu s2 h2=>?_)) (λ_ s' hq=>W7 (W7 hq)) λ_ _ e=>e)
 obtain⟨it,fp,tn,J,H2,e,I2,T,st2,f2,q2⟩:=h2;subst e;refine BY (RR:=λacc C=>compPost (model X.prog X.w) X.A X.xe (some (assign (.Name y py) X.env)) (λ_ s'=>SP X pins D .next s') acc C) hc I2 S T st2 f2 hg ht he q2 ?_;intro l C s' H' I' fC ⟨m,n⟩ q;show We _ X.A (assign (.Name y py) X.env (.ref l)) _ _ _;refine wpAny_assign_Name (Aw I' hN kE (.inl hy) (v:=.ref l) rfl (λqc I'' ⟨a,hsb,ha⟩=>?_) (.inr hy));have cC:C≠a:=by
  rcases ha with rfl | ha
  ·exact fC.2.1
  ·exactλe=>fC.2.2.2.2.1 y a ha e.symm
 refine⟨m,n.sameBut hsb cC,λh' jP=>⟨_,H',I''.turned (t':=qc.toks) (λb o hb e=>(jP.2 b hb).trans e) fC.1 fC.2.1 fC.2.2.2.1 fC.2.2.2.2.1 fC.2.2.2.2.2,q⟩⟩
end
end L2
set_option maxHeartbeats 4000000
namespace DV
open PySem PySem.Spec PyProof.Rows L2
abbrev Tx:=List Nat
def toS(x:Tx):Str:=⟨x.toArray⟩
theorem sX(x:Tx):(toS x).cps.toList=x:=by simp[toS]
theorem ji(x:Tx):(toS x).length=x.length:=by simp[toS,Str.length]
theorem we(h:toS x=toS y):x=y:=by
 have:=congrArg (λz:Str=>z.cps.toList) h;simpa[toS] using this
theorem B7(z:Str):z=toS z.cps.toList:=by simp[toS]
abbrev bc:=Sum Int Tx
def cD:bc->Key
 | .inl i=>.inl i
 | .inr x=>.inr (toS x)
inductive D where
 | aJ | bl (b:Bool) | int (i:Int) | str (x:Tx) | tup (xs:List D) | lst (xs:List D) | aw (kvs:List (bc×D)) | exc (n:Nat) (fl:D) | xd (fs:List (Tx×D)) | fn (a:Nat) | dic (kvs:List (D×D))
mutual
def df:Nat->D->Option NK
 | _,.int i=>some (.i i)
 | _,.bl b=>some (.i (if b then 1 else 0))
 | _,.str x=>some (.s (toS x))
 | n + 1,.tup xs=>(g9 n xs).map .t
 | _,_=>none
def g9:Nat->List D->Option (List NK)
 | _,[]=>some []
 | n,x :: xs=>(df n x).bind λk=>(g9 n xs).map λks=>k :: ks
end
def excAt(C:Addr)(v:V)(a:Addr):Heap->Prop:=λh=>∃ o,h.get? a=some o/\o.cls = .ref C/\(∀ x,v = .ref x->o.dict=some x)/\∃ vs,o.data = .fields vs
def LA(fs:List (Str×V))(x:Addr):Heap->Prop:=λh=>∃ mA,h.Ns1 x mA/\∀ f,eZ (fs.lookup f) (mA f)
inductive S where
 | pure (d:D)
 | own (d:D)
def S.d:S->D
 | .pure d=>d
 | .own d=>d
abbrev Dl:=List (Option S)
abbrev St:=L2.St
inductive Rep (H:Hp) (O:Addr->Prop):V->D->Prop
 | aJ:Rep H O .aJ .aJ
 | bl (b:Bool):Rep H O (.bl b) (.bl b)
 | int (i:Int):Rep H O (.int i) (.int i)
 | str (x:Tx):Rep H O (.str (toS x)) (.str x)
 | tup {a:Addr} {vs:List V} {ds:List D}:¬ O a->H a=some (.tup vs)->vs.length=ds.length->(∀ (i:Nat) v d,vs[i]? = some v->ds[i]? = some d->Rep H O v d)->Rep H O (.ref a) (.tup ds)
 | lst {a:Addr} {vs:List V} {ds:List D}:¬ O a->Rd H a (.lst vs)->vs.length=ds.length->(∀ (i:Nat) v d,vs[i]? = some v->ds[i]? = some d->Rep H O v d)->Rep H O (.ref a) (.lst ds)
 | aw {a:Addr} {ws:List (Key×V)} {ds:List (bc×D)}:¬ O a->H a=some (.dK ws)->ws.map (·.1)=ds.map (λp=>cD p.1)->(∀ (i:Nat) p q,ws[i]? = some p->ds[i]? = some q->Rep H O p.2 q.2)->Rep H O (.ref a) (.aw ds)
 | exc {a:Addr} {n:Nat} {v:V} {fl:D}:¬ O a->H a=some (.ext (excAt n v a))->Rep H O v fl->Rep H O (.ref a) (.exc n fl)
 | xd {x:Addr} {fs:List (Str×V)} {ds:List (Tx×D)}:¬ O x->H x=some (.ext (LA fs x))->fs.map (·.1)=ds.map (λp=>toS p.1)->(∀ (i:Nat) p q,fs[i]? = some p->ds[i]? = some q->Rep H O p.2 q.2)->Rep H O (.ref x) (.xd ds)
 | fn (a:Addr):Rep H O (.ref a) (.fn a)
 | dic {a:Addr} {ep:Nat} {ws:List (NK×V×V)} {ds:List (D×D)}:¬ O a->H a=some (.dN ep ws)->ws.length=ds.length->(∀ (i:Nat) p q,ws[i]? = some p->ds[i]? = some q->Rep H O p.2.1 q.1)->(∀ (i:Nat) p q,ws[i]? = some p->ds[i]? = some q->Rep H O p.2.2 q.2)->(∀ (i:Nat) p q,ws[i]? = some p->ds[i]? = some q->df 6 q.1=some p.1)->Rep H O (.ref a) (.dic ds)
abbrev aH(H:Hp)(O:Addr->Prop)(vs:List V)(ds:List D):Prop:=vs.length=ds.length/\∀ (i:Nat) v d,vs[i]? = some v->ds[i]? = some d->Rep H O v d
structure DN(H:Hp)(O:Addr->Prop)(ws:List (NK×V×V))(ds:List (D×D)):Prop where
 len:ws.length=ds.length
 key:∀ (i:Nat) p q,ws[i]? = some p->ds[i]? = some q->Rep H O p.2.1 q.1
 val:∀ (i:Nat) p q,ws[i]? = some p->ds[i]? = some q->Rep H O p.2.2 q.2
 ou:∀ (i:Nat) p q,ws[i]? = some p->ds[i]? = some q->df 6 q.1=some p.1
def fz(H:Hp)(O:Addr->Prop)(a:Addr):D->Prop
 | .lst ds=>∃ vs,H a=some (.lst vs)/\aH H O vs ds
 | .aw ds=>∃ ws:List (Key×V),H a=some (.dK ws)/\ws.map (·.1)=ds.map (λp=>cD p.1)/\∀ (i:Nat) p q,ws[i]? = some p->ds[i]? = some q->Rep H O p.2 q.2
 | .dic ds=>∃ (ep:Nat) (ws:List (NK×V×V)),H a=some (.dN ep ws)/\DN H O ws ds
 | _=>False
section
variable {H H':Hp} {O O':Addr->Prop} {v:V} {d:D} {vs:List V} {ds:List D} {a:Addr}
theorem Rd.keep(h:Rd H a u)(k:∀ o,H a=some o->H' a=some o):Rd H' a u:=by
 rcases h with h | ⟨o,h⟩
 ·exact .inl (k _ h)
 ·exact .inr ⟨o,k _ h⟩
theorem Rd.some(h:Rd H a u):∃ o,H a=some o:=by
 rcases h with h | ⟨o,h⟩
 ·exact⟨_,h⟩
 ·exact⟨_,h⟩
theorem Rep.keep(h:Rep H O v d)(k:∀ a o,H a=some o->¬ O a->H' a=some o):Rep H' O v d:=by
 induction h with
 | aJ=>exact .aJ
 | bl b=>exact .bl b
 | int i=>exact .int i
 | str x=>exact .str x
 | tup h1 h2 h3 _ ih=>exact .tup h1 (k _ _ h2 h1) h3 ih
 | lst h1 h2 h3 _ ih=>exact .lst h1 (Rd.keep h2 λo e=>k _ o e h1) h3 ih
 | aw h1 h2 h3 _ ih=>exact .aw h1 (k _ _ h2 h1) h3 ih
 | exc h1 h2 _ ih=>exact .exc h1 (k _ _ h2 h1) ih
 | xd h1 h2 h3 _ ih=>exact .xd h1 (k _ _ h2 h1) h3 ih
 | fn a=>exact .fn a
 | dic h1 h2 h3 _ _ h6 ih ih'=>exact .dic h1 (k _ _ h2 h1) h3 ih ih' h6
theorem Rep.aL(h:Rep H O v d)(k:∀ a,O' a->O a\/H a=none):Rep H O' v d:=by
 have no:∀ {a:Addr} {u:HO},¬ O a->Rd H a u->¬ O' a:=λ{a u} h1 h2 z=>by
  rcases k a z with q | q
  ·exact h1 q
  ·obtain⟨o,e⟩:=Rd.some h2;rw[q] at e; cases e
 induction h with
 | aJ=>exact .aJ
 | bl b=>exact .bl b
 | int i=>exact .int i
 | str x=>exact .str x
 | tup h1 h2 h3 _ ih=>exact .tup (no h1 (.inl h2)) h2 h3 ih
 | lst h1 h2 h3 _ ih=>exact .lst (no h1 h2) h2 h3 ih
 | aw h1 h2 h3 _ ih=>exact .aw (no h1 (.inl h2)) h2 h3 ih
 | exc h1 h2 _ ih=>exact .exc (no h1 (.inl h2)) h2 ih
 | xd h1 h2 h3 _ ih=>exact .xd (no h1 (.inl h2)) h2 h3 ih
 | fn a=>exact .fn a
 | dic h1 h2 h3 _ _ h6 ih ih'=>exact .dic (no h1 (.inl h2)) h2 h3 ih ih' h6
theorem DN.keep{ws:List (NK×V×V)}{ds:List (D×D)}(h:DN H O ws ds)(k:∀ a o,H a=some o->¬ O a->H' a=some o):DN H' O ws ds:=⟨h.len,λi p q e1 e2=>(h.key i p q e1 e2).keep k,λi p q e1 e2=>(h.val i p q e1 e2).keep k,h.ou⟩
theorem DN.aL{ws:List (NK×V×V)}{ds:List (D×D)}(h:DN H O ws ds)(k:∀ a,O' a->O a\/H a=none):DN H O' ws ds:=⟨h.len,λi p q e1 e2=>(h.key i p q e1 e2).aL k,λi p q e1 e2=>(h.val i p q e1 e2).aL k,h.ou⟩
theorem aH.keep(h:aH H O vs ds)(k:∀ a o,H a=some o->¬ O a->H' a=some o):aH H' O vs ds:=⟨h.1,λi v d e1 e2=>(h.2 i v d e1 e2).keep k⟩
theorem aH.aL(h:aH H O vs ds)(k:∀ a,O' a->O a\/H a=none):aH H O' vs ds:=⟨h.1,λi v d e1 e2=>(h.2 i v d e1 e2).aL k⟩
theorem aH.nil:aH H O [] []:=⟨rfl,λi v d e _=>by simp at e⟩
theorem aH.cons(h:Rep H O v d)(r:aH H O vs ds):aH H O (v :: vs) (d :: ds):=by
 refine⟨by simp[r.1],λi v' d' e1 e2=>?_⟩
 cases i with
 | zero=>simp at e1 e2; subst e1; subst e2; exact h
 | succ i=>exact r.2 i v' d' (by simpa using e1) (by simpa using e2)
theorem aH.head(r:aH H O (v :: vs) (d :: ds)):Rep H O v d:=r.2 0 v d rfl rfl
theorem aH.tail(r:aH H O (v :: vs) (d :: ds)):aH H O vs ds:=⟨by simpa using r.1,λi v' d' e1 e2=>r.2 (i + 1) v' d' (by simpa using e1) (by simpa using e2)⟩
theorem aH.append(h:aH H O vs ds)(h':aH H O fM dJ):aH H O (vs ++ fM) (ds ++ dJ):=by
 induction vs generalizing ds with
 | nil =>
  cases ds with
  | nil=>exact h'
  | cons d r=>have:=h.1; simp at this
 | cons v r ih =>
  cases ds with
  | nil=>have:=h.1; simp at this
  | cons d q=>exact .cons h.head (ih h.tail)
theorem aH.get{i:Nat}(h:aH H O vs ds)(e:ds[i]? = some d):∃ v,vs[i]? = some v/\Rep H O v d:=by
 have hi:i < ds.length:=(W1.mp e).1;have hv:i < vs.length:=by rw[h.1]; exact hi
 exact⟨vs[i],by simp[hv],h.2 i _ d (by simp[hv]) e⟩
theorem aH.take(n:Nat)(h:aH H O vs ds):aH H O (vs.take n) (ds.take n):=by
 refine⟨by simp[h.1],λi v d e1 e2=>?_⟩;by_cases hi:i < n
 ·rw[List.getElem?_take_of_lt hi] at e1 e2;exact h.2 i v d e1 e2
 ·rw[List.getElem?_take_eq_none (by omega)] at e1; cases e1
theorem aH.drop(n:Nat)(h:aH H O vs ds):aH H O (vs.drop n) (ds.drop n):=by
 refine⟨by simp[h.1],λi v d e1 e2=>?_⟩;rw[List.getElem?_drop] at e1 e2;exact h.2 (n + i) v d e1 e2
theorem aH.set(h:aH H O vs ds)(r:Rep H O v d)(j:Nat):aH H O (vs.set j v) (ds.set j d):=by
 refine⟨by simp[h.1],λi v' d' e1 e2=>?_⟩;by_cases hi:j=i
 ·subst hi;rw[Qa] at e1 e2;simp at e1 e2;obtain⟨_,rfl⟩:=e1;obtain⟨_,rfl⟩:=e2;exact r
 ·rw[W6 hi] at e1 e2;exact h.2 i v' d' e1 e2
theorem fz.keep(h:fz H O a d)(hk:∀ b o,H b=some o->¬ O b->H' b=some o)(ha:∀ o,H a=some o->H' a=some o):fz H' O a d:=by
 cases d <;> first
  | exact h.elim
  | (obtain⟨vs,e,r⟩:=h; exact⟨vs,ha _ e,aH.keep r hk⟩)
  | (obtain⟨ws,e,r,q⟩:=h; exact⟨ws,ha _ e,r,λi p p' e1 e2=>(q i p p' e1 e2).keep hk⟩)
  | (obtain⟨ep,ws,e,r⟩:=h; exact⟨ep,ws,ha _ e,r.keep hk⟩)
theorem fz.aL(h:fz H O a d)(k:∀ a,O' a->O a\/H a=none):fz H O' a d:=by
 cases d <;> first
  | exact h.elim
  | (obtain⟨vs,e,r⟩:=h; exact⟨vs,e,aH.aL r k⟩)
  | (obtain⟨ws,e,r,q⟩:=h; exact⟨ws,e,r,λi p p' e1 e2=>(q i p p' e1 e2).aL k⟩)
  | (obtain⟨ep,ws,e,r⟩:=h; exact⟨ep,ws,e,r.aL k⟩)
theorem fz.some(h:fz H O a d):∃ o,H a=some o:=by
 cases d <;> first
  | exact h.elim
  | (obtain⟨vs,e,r⟩:=h; exact⟨_,e⟩)
  | (obtain⟨ep,vs,e,r⟩:=h; exact⟨_,e⟩)
theorem fz.rep(h:fz H O a d)(ho:¬ O a):Rep H O (.ref a) d:=by
 cases d with
 | lst ds=>obtain⟨vs,e,r⟩:=h; exact .lst ho (.inl e) r.1 r.2
 | aw ds=>obtain⟨ws,e,r,q⟩:=h; exact .aw ho e r q
 | dic ds=>obtain⟨ep,ws,e,r⟩:=h; exact .dic ho e r.len r.key r.val r.ou
 | _=>exact h.elim
end
structure Xc where
 cls:Tx
 U1:D
structure Fc where
 H₀:Hp
 B:Addr->Prop
 pin:List (Nat×Addr)
 xc:Xc->Dl->Prop:=λ_ _=>False
def Fc.plus(c:Fc)(p:Addr):Fc:={ c with B:=λa=>c.B a\/a=p }
def Fc.I(c:Fc)(a:Addr):Prop:=∃ i,(i,a) ∈ c.pin
def Own(σ:St)(δ:Dl)(a:Addr):Prop:=∃ (i:Nat) (d:D),δ[i]? = some (some (.own d))/\σ[i]? = some (some (.ref a))
def Av(c:Fc)(σ:St)(δ:Dl)(a:Addr):Prop:=c.B a\/Own σ δ a
structure Ok(c:Fc)(σ:St)(δ:Dl)(H:Hp):Prop where
 keep:∀ a o,c.H₀ a=some o->¬ c.I a->H a=some o
 bd:∀ a,c.B a->∃ o,H a=some o
 dC:∀ a,c.I a->∃ o,H a=some o
 len:δ.length=σ.length
 slot:∀ (i:Nat) d,δ[i]? = some (some (.pure d))->∃ v,σ[i]? = some (some v)/\Rep H (Av c σ δ) v d
 own:∀ (i:Nat) d,δ[i]? = some (some (.own d))->∃ a,σ[i]? = some (some (.ref a))/\fz H (Av c σ δ) a d/\(c.I a\/c.H₀ a=none)/\¬ c.B a
 inj:∀ (i j:Nat) a d d',δ[i]? = some (some (.own d))->δ[j]? = some (some (.own d'))->σ[i]? = some (some (.ref a))->σ[j]? = some (some (.ref a))->i=j
 pinned:∀ p ∈ c.pin,σ[p.1]? = some (some (.ref p.2))
structure aV(c:Fc)(σ:St)(δ:Dl)(H:Hp)(σ':St)(δ':Dl)(H':Hp):Prop where
 ok:Ok c σ' δ' H'
 keep:∀ a o,H a=some o->¬ Own σ δ a->H' a=some o
 own:∀ a,Own σ' δ' a->Own σ δ a\/H a=none
 there:∀ a o,H a=some o->∃ o',H' a=some o'
section
variable {c:Fc} {σ σ' σ'':St} {δ δ' δ'':Dl} {H H' B8:Hp} {v:V} {d:D} {a p:Addr}
theorem Ok.LB(k:Ok c σ δ H)(h:c.B a):∃ o,H a=some o:=k.bd a h
theorem Ok.lR(k:Ok c σ δ H)(h:Own σ δ a):∃ o,H a=some o:=by
 obtain⟨i,d,e1,e2⟩:=h;obtain⟨b,e3,q,_⟩:=k.own i d e1;rw[e2] at e3; cases e3
 exact q.some
theorem Ok.B9(k:Ok c σ δ H)(h:Av c σ δ a):∃ o,H a=some o:=h.elim k.LB k.lR
theorem Ok.jQ(k:Ok c σ δ H)(h:H a=none):¬ Av c σ δ a:=λz=>by
 obtain⟨o,e⟩:=k.B9 z;rw[h] at e; cases e
theorem aV.refl(k:Ok c σ δ H):aV c σ δ H σ δ H:=⟨k,λ_ _ e _=>e,λ_ h=>.inl h,λ_ o e=>⟨o,e⟩⟩
theorem aV.trans(x:aV c σ δ H σ' δ' H')(y:aV c σ' δ' H' σ'' δ'' B8):aV c σ δ H σ'' δ'' B8:=by
 refine⟨y.ok,λa o e n=>?_,λa h=>?_,λa o e=>?_⟩
 ·refine y.keep a o (x.keep a o e n) λz=>?_
  rcases x.own a z with q | q
  ·exact n q
  ·rw[q] at e; cases e
 ·rcases y.own a h with q | q
  ·exact x.own a q
  ·right
   cases e:H a with
   | none=>rfl
   | some o =>
    obtain⟨o',e'⟩:=x.there a o e;rw[q] at e'; cases e'
 ·obtain⟨o',e'⟩:=x.there a o e;exact y.there a o' e'
theorem aV.av(x:aV c σ δ H σ' δ' H'):∀ a,Av c σ' δ' a->Av c σ δ a\/H a=none:=λa h=>by
 rcases h with h | h
 ·exact .inl (.inl h)
 ·rcases x.own a h with q | q
  ·exact .inl (.inr q)
  ·exact .inr q
theorem Rep.dh(h:Rep H (Av c σ δ) v d)(x:aV c σ δ H σ' δ' H'):Rep H' (Av c σ' δ') v d:=by
 have h1:Rep H (λa=>Av c σ δ a\/Av c σ' δ' a) v d:=Rep.aL h λa z=>z.elim .inl (x.av a)
 exact(h1.keep λa o e n=>x.keep a o e λz=>n (.inl (.inr z))).aL λa z=>.inl (.inr z)
theorem aH.dh(h:aH H (Av c σ δ) vs ds)(x:aV c σ δ H σ' δ' H'):aH H' (Av c σ' δ') vs ds:=⟨h.1,λi v d e1 e2=>Rep.dh (h.2 i v d e1 e2) x⟩
def bf(c:Fc)(σ:St)(δ:Dl)(Hs H:Hp)(v:V):S->Prop
 | .pure d=>Rep H (Av c σ δ) v d
 | .own d=>∃ a,v = .ref a/\fz H (Av (c.plus a) σ δ) a d/\¬ c.B a/\c.H₀ a=none/\Ok (c.plus a) σ δ H/\Hs a=none
theorem ow(k:Ok (c.plus a) σ δ H):¬ Own σ δ a:=λ⟨i,d,e1,e2⟩=>by
 obtain⟨b,e3,_,_,n⟩:=k.own i d e1;rw[e2] at e3; cases e3
 exact n (.inr rfl)
theorem bf.rep(h:bf c σ δ Hs H v r):Rep H (Av c σ δ) v r.d:=by
 cases r with
 | pure d=>exact h
 | own d =>
  obtain⟨a,rfl,o,n,f,k,_⟩:=h;refine(o.aL λb z=>.inl ?_).rep λz=>z.elim n (ow k)
  exact z.elim (λz=>.inl (.inl z)) .inr
theorem bf.back(h:bf c σ δ Hs H v r)(x:aV c σ₀ δ₀ H' σ' δ' Hs):bf c σ δ H' H v r:=by
 cases r with
 | pure d=>exact h
 | own d =>
  obtain⟨a,e,o,n,f,k,hs⟩:=h;refine⟨a,e,o,n,f,k,?_⟩
  cases q:H' a with
  | none=>rfl
  | some o =>
   obtain⟨o',e'⟩:=x.there a o q;rw[hs] at e'; cases e'
theorem bf.LC(h:bf c σ δ Hs H v r):bf c σ δ c.H₀ H v r:=by
 cases r with
 | pure d=>exact h
 | own d =>
  obtain⟨a,e,o,n,f,k,hs⟩:=h;exact⟨a,e,o,n,f,k,f⟩
theorem Ok.alloc(k:Ok c σ δ H)(hp:H p=none)(o:HO):Ok c σ δ (upd H p o):=by
 have up:∀ a w,H a=some w->upd H p o a=some w:=λa w e=>by
  rw[aQ (gb e hp)]; exact e
 refine⟨λa w e n=>up a w (k.keep a w e n),λa z=>(k.bd a z).elim λw e=>⟨w,up a w e⟩,λa z=>(k.dC a z).elim λw e=>⟨w,up a w e⟩,k.len,λi d e=>?_,λi d e=>?_,k.inj,k.pinned⟩
 ·obtain⟨v,e1,r⟩:=k.slot i d e;exact⟨v,e1,r.keep λa w q _=>up a w q⟩
 ·obtain⟨a,e1,r,q⟩:=k.own i d e;exact⟨a,e1,r.keep (λb w q _=>up b w q) λw q=>up a w q,q⟩
theorem aV.alloc(k:Ok c σ δ H)(hp:H p=none)(o:HO):aV c σ δ H σ δ (upd H p o):=by
 have up:∀ a w,H a=some w->upd H p o a=some w:=λa w e=>by
  rw[aQ (gb e hp)]; exact e
 exact⟨k.alloc hp o,λa w e _=>up a w e,λa h=>.inl h,λa w e=>⟨w,up a w e⟩⟩
theorem Ok.ox(k:Ok c σ δ H)(hp:H p=none):c.H₀ p=none:=by
 cases e:c.H₀ p with
 | none=>rfl
 | some o =>
  by_cases q:c.I p
  ·obtain⟨w,e'⟩:=k.dC p q;rw[hp] at e'; cases e'
  ·have:=k.keep p o e q;rw[hp] at this; cases this
theorem Ok.plus(k:Ok c σ δ H)(hp:H p=none)(o:HO):Ok (c.plus p) σ δ (upd H p o):=by
 have k':=k.alloc hp o;have sub:∀ b,Av (c.plus p) σ δ b->Av c σ δ b\/b=p:=λb z=>by
  rcases z with (z | z) | z
  ·exact .inl (.inl z)
  ·exact .inr z
  ·exact .inl (.inr z)
 have sY:∀ b,Av (c.plus p) σ δ b->Av c σ δ b\/H b=none:=λb z=>(sub b z).elim .inl λe=>.inr (by rw[e]; exact hp)
 have up:∀ a w,H a=some w->upd H p o a=some w:=λa w e=>by
  rw[aQ (gb e hp)]; exact e
 refine⟨k'.keep,λa z=>?_,k'.dC,k.len,λi d e=>?_,λi d e=>?_,k.inj,k.pinned⟩
 ·rcases z with z | z
  ·exact k'.bd a z
  ·exact⟨o,by rw[z]; exact cN⟩
 ·obtain⟨v,e1,r⟩:=k.slot i d e;exact⟨v,e1,(r.aL sY).keep λa w q _=>up a w q⟩
 ·obtain⟨a,e1,r,q,nb⟩:=k.own i d e;refine⟨a,e1,(r.aL sY).keep (λb w q _=>up b w q) (λw q=>up a w q),q,λz=>?_⟩;rcases z with z | z
  ·exact nb z
  ·obtain⟨w,ew⟩:=r.some;rw[z,hp] at ew; cases ew
theorem bf.oy(k:Ok c σ δ H)(r:aH H (Av c σ δ) vs ds)(hp:H p=none):bf c σ δ H (upd H p (.lst vs)) (.ref p) (.own (.lst ds)):=by
 have up:∀ a w,H a=some w->upd H p (.lst vs) a=some w:=λa w e=>by
  rw[aQ (gb e hp)]; exact e
 refine⟨p,rfl,⟨vs,cN,?_⟩,λz=>k.jQ hp (.inl z),k.ox hp,k.plus hp _,hp⟩;have r1:aH H (Av (c.plus p) σ δ) vs ds:=aH.aL r λb z=>by
  rcases z with (z | z) | z
  ·exact .inl (.inl z)
  ·exact .inr (by rw[z]; exact hp)
  ·exact .inl (.inr z)
 exact aH.keep r1 λb w e _=>up b w e
theorem bf.oz(k:Ok c σ δ H)(r:aH H (Av c σ δ) vs ds)(hp:H p=none):bf c σ δ H (upd H p (.tup vs)) (.ref p) (.pure (.tup ds)):=by
 have up:∀ a w,H a=some w->upd H p (.tup vs) a=some w:=λa w e=>by
  rw[aQ (gb e hp)]; exact e
 have r1:=aH.keep r (H':=upd H p (.tup vs)) λb w e _=>up b w e
 exact .tup (k.jQ hp) cN r1.1 r1.2
end
inductive Rs (α:Type) where
 | ok (a:α) (δ:Dl)
 | exc (x:Xc) (δ:Dl)
 | stuck
def Rs.bind{α β:Type}(r:Rs α)(f:α->Dl->Rs β):Rs β:=match r with
 | .ok a δ=>f a δ
 | .exc x δ=>.exc x δ
 | .stuck=>.stuck
abbrev DE:=Dl->Rs S
def XC(c:Fc)(x:Xc)(δ:Dl):Prop:=c.xc x δ
def post{α:Type}(c:Fc)(r:Rs α)(k:α->Dl->Prop):Prop:=match r with
 | .ok a δ=>k a δ
 | .exc x δ=>XC c x δ
 | .stuck=>False
theorem ba:post c (r.bind f) k ↔ post c r λa δ=>post c (f a δ) k:=by
 cases r <;> exact Iff.rfl
theorem aS(h:post c r k)(m:∀ a δ,k a δ->k' a δ):post c r k':=by
 cases r with
 | ok a δ=>exact m a δ h
 | exc x δ=>exact h
 | stuck=>exact h
def tD(c:Fc)(f:DE):TE:=λσ H Q=>∃ δ,Ok c σ δ H/\post c (f δ) λr δ'=>∀ v H',aV c σ δ H σ δ' H'->bf c σ δ' H H' v r->Q v H'
abbrev SE(X:Cx)(c:Fc)(e:Expr)(f:DE):Prop:=PE X e (tD c f)
def cJ(c:Fc)(σ:St)(δ:Dl)(H:Hp)(v:V)(d:D):Prop:=Rep H (Av c σ δ) v d\/∃ a,v = .ref a/\fz H (Av c σ δ) a d
abbrev BE:=Dl->Rs D
def tB(c:Fc)(f:BE):TE:=λσ H Q=>∃ δ,Ok c σ δ H/\post c (f δ) λd δ'=>∀ v H',aV c σ δ H σ δ' H'->cJ c σ δ' H' v d->Q v H'
abbrev SB(X:Cx)(c:Fc)(e:Expr)(f:BE):Prop:=PE X e (tB c f)
theorem PE.weak(h:PE X e t)(w:∀ σ H Q,t' σ H Q->t σ H Q):PE X e t':=λpins s σ H Q I q=>h pins s σ H Q I (w σ H Q q)
def ao(f:DE):BE:=λδ=>(f δ).bind λr δ'=>.ok r.d δ'
theorem bf.b(h:bf c σ δ Hs H v r):cJ c σ δ H v r.d:=.inl h.rep
theorem aE{X:Cx}{c:Fc}{e:Expr}{f:DE}(h:SE X c e f):SB X c e (ao f):=PE.weak h λσ H Q ⟨δ,k,p⟩=>⟨δ,k,by
 unfold ao at p;rw[ba] at p;exact aS p λr δ' q v H' a s=>q v H' a s.b⟩
def aj(i:Nat):BE:=λδ=>match δ[i]? with
 | some (some r)=>.ok r.d δ
 | _=>.stuck
def aa(i:Nat):DE:=λδ=>match δ[i]? with
 | some (some (.pure d))=>.ok (.pure d) δ
 | some (some (.own d))=>.ok (.pure d) (δ.set i (some (.pure d)))
 | _=>.stuck
def eD(d:D):DE:=λδ=>.ok (.pure d) δ
section
variable {X:Cx} {c:Fc}
theorem bb{i:Nat}{e:Expr}(h:PE X e (bZ i)):SB X c e (aj i):=PE.weak h λσ H Q ⟨δ,k,p⟩=>by
 unfold aj at p
 cases e:δ[i]? with
 | none=>rw[e] at p; exact p.elim
 | some o =>
  cases o with
  | none=>rw[e] at p; exact p.elim
  | some r =>
   rw[e] at p
   cases r with
   | pure d =>
    obtain⟨v,e1,r⟩:=k.slot i d e;exact⟨v,e1,p v H (.refl k) (.inl r)⟩
   | own d =>
    obtain⟨a,e1,r,_⟩:=k.own i d e;exact⟨.ref a,e1,p _ H (.refl k) (.inr ⟨a,rfl,r⟩)⟩
theorem Own.sub(h:Own σ (δ.set i (some (.pure d))) a):Own σ δ a:=by
 obtain⟨j,d',e1,e2⟩:=h;by_cases hj:i=j
 ·subst hj;rw[Qa] at e1;simp at e1
 ·rw[W6 hj] at e1;exact⟨j,d',e1,e2⟩
theorem Ok.give(k:Ok c σ δ H)(e:δ[i]? = some (some (.own d))) :
  ∃ a,σ[i]? = some (some (.ref a))/\aV c σ δ H σ (δ.set i (some (.pure d))) H/\Rep H (Av c σ (δ.set i (some (.pure d)))) (.ref a) d:=by
 obtain⟨a,e1,r,q,nb⟩:=k.own i d e;have hi:i < δ.length:=(W1.mp e).1;have sub:∀ b,Av c σ (δ.set i (some (.pure d))) b->Av c σ δ b:=λb z=>z.elim .inl λz=>.inr z.sub
 have na:¬ Av c σ (δ.set i (some (.pure d))) a:=by
  rintro (z | ⟨j,d',f1,f2⟩)
  ·exact nb z
  ·by_cases hj:i=j
   ·subst hj;rw[Qa] at f1;simp at f1
   ·rw[W6 hj] at f1;exact hj (k.inj i j a d d' e f1 e1 f2)
 have rep:Rep H (Av c σ (δ.set i (some (.pure d)))) (.ref a) d:=(r.aL λb z=>.inl (sub b z)).rep na;refine⟨a,e1,⟨⟨k.keep,k.bd,k.dC,by rw[Q7]; exact k.len,λj d' f=>?_,λj d' f=>?_,λj l b d1 d2 f1 f2=>?_,k.pinned⟩,λ_ _ w _=>w,λb z=>.inl z.sub,λ_ o w=>⟨o,w⟩⟩,rep⟩
 ·by_cases hj:i=j
  ·subst hj;rw[Wa hi] at f
   cases f;exact⟨.ref a,e1,rep⟩
  ·rw[W6 hj] at f;obtain⟨v,g1,g2⟩:=k.slot j d' f;exact⟨v,g1,g2.aL λb z=>.inl (sub b z)⟩
 ·by_cases hj:i=j
  ·subst hj;rw[Wa hi] at f
   cases f
  ·rw[W6 hj] at f;obtain⟨b,g1,g2,g3⟩:=k.own j d' f;exact⟨b,g1,g2.aL λb z=>.inl (sub b z),g3⟩
 ·have h1:δ[j]? = some (some (.own d1)):=by
   by_cases hj:i=j
   ·subst hj; rw[Wa hi] at f1; cases f1
   ·rw[W6 hj] at f1; exact f1
  have h2:δ[l]? = some (some (.own d2)):=by
   by_cases hj:i=l
   ·subst hj; rw[Wa hi] at f2; cases f2
   ·rw[W6 hj] at f2; exact f2
  exact k.inj j l b d1 d2 h1 h2
theorem aN{i:Nat}{e:Expr}(h:PE X e (bZ i)):SE X c e (aa i):=PE.weak h λσ H Q ⟨δ,k,p⟩=>by
 unfold aa at p
 cases e:δ[i]? with
 | none=>rw[e] at p; exact p.elim
 | some o =>
  cases o with
  | none=>rw[e] at p; exact p.elim
  | some r =>
   rw[e] at p
   cases r with
   | pure d =>
    obtain⟨v,e1,r⟩:=k.slot i d e;exact⟨v,e1,p v H (.refl k) r⟩
   | own d =>
    obtain⟨a,e1,x,r⟩:=k.give e;exact⟨.ref a,e1,p _ H x r⟩
theorem aM{i j pos}:SE X c (.Constant (.int i) j pos) (eD (.int i)):=PE.weak Ay λσ H Q ⟨δ,k,p⟩=>p _ H (.refl k) (.int i)
theorem jk{b j pos}:SE X c (.Constant (.bool b) j pos) (eD (.bl b)):=PE.weak Ho λσ H Q ⟨δ,k,p⟩=>p _ H (.refl k) (.bl b)
theorem sZ{j pos}:SE X c (.Constant .none j pos) (eD .aJ):=PE.weak Hq λσ H Q ⟨δ,k,p⟩=>p _ H (.refl k) .aJ
theorem B_{x j pos}(y:Tx)(h:x=toS y:=by decide +kernel):SE X c (.Constant (.str x) j pos) (eD (.str y)):=by
 subst h;exact PE.weak Az λσ H Q ⟨δ,k,p⟩=>p _ H (.refl k) (.str y)
end
open PySem PySem.Spec PyProof.Rows L2 PySem.SeqAt
mutual
def aA:D->D->Bool
 | .aJ,.aJ=>true
 | .bl a,.bl b=>a == b
 | .int a,.int b=>a == b
 | .bl a,.int b=>(if a then 1 else 0) == b
 | .int a,.bl b=>a == (if b then 1 else 0)
 | .str a,.str b=>a == b
 | .tup xs,.tup ys=>dM xs ys
 | .lst xs,.lst ys=>dM xs ys
 | _,_=>false
def dM:List D->List D->Bool
 | [],[]=>true
 | x :: xs,y :: ys=>aA x y && dM xs ys
 | _,_=>false
end
mutual
def flat:Nat->D->Bool
 | _,.aJ=>true
 | _,.bl _=>true
 | _,.int _=>true
 | _,.str _=>true
 | 0,.tup _=>false
 | n + 1,.tup xs=>fN n xs
 | 0,.lst _=>false
 | n + 1,.lst xs=>fN n xs
 | _,.aw _=>false
 | _,.exc _ _=>false
 | _,.xd _=>false
 | _,.fn _=>false
 | _,.dic _=>false
def fN:Nat->List D->Bool
 | _,[]=>true
 | n,x :: xs=>flat n x && fN n xs
end
example:aA (.tup [.int 1,.str [2]]) (.tup [.int 1,.str [2]])=true:=by decide +kernel
theorem nh:∀ {xs:List D} {x:D},fN n xs=true->x ∈ xs->flat n x=true
 | [],_,_,h=>by simp at h
 | y :: ys,x,h,hm=>by
  simp only[fN,Wv] at h;rcases Wj.mp hm with e | hm
  ·rw[e]; exact h.1
  ·exact nh h.2 hm
theorem s_:∀ {xs ys:List D} {f:Nat->Bool},xs.length=ys.length->(∀ (j:Nat) x y,xs[j]? = some x->ys[j]? = some y->f j=aA x y)->(W4 xs.length).all f=dM xs ys
 | [],[],f,_,_=>rfl
 | [],y :: ys,f,h,_=>by simp at h
 | x :: xs,[],f,h,_=>by simp at h
 | x :: xs,y :: ys,f,h,hf=>by
  simp only[dM];rw[WL,List.range_succ_eq_map,JQ,hf 0 x y rfl rfl,List.all_map];rw[<- s_ (f:=λj=>f (j + 1)) (by simpa using h) (λj a b e1 e2=>hf (j + 1) a b (by simpa using e1) (by simpa using e2))];rfl
theorem tf:∀ {xs ys:List D},xs.length≠ys.length->dM xs ys=false
 | [],[],h=>absurd rfl h
 | [],y :: ys,_=>rfl
 | x :: xs,[],_=>rfl
 | x :: xs,y :: ys,h=>by
  simp only[dM];rw[tf (xs:=xs) (ys:=ys) (by intro e; exact h (by simp[e]))];simp
mutual
theorem wg:∀ {n:Nat} {d:D},flat n d=true->aA d d=true
 | _,.aJ,_=>rfl
 | _,.bl b,_=>by simp[aA]
 | _,.int i,_=>by simp[aA]
 | _,.str x,_=>by simp[aA]
 | 0,.tup xs,h=>by simp[flat] at h
 | n + 1,.tup xs,h=>by simp only[aA]; exact wj (n:=n) (by simpa[flat] using h)
 | 0,.lst xs,h=>by simp[flat] at h
 | n + 1,.lst xs,h=>by simp only[aA]; exact wj (n:=n) (by simpa[flat] using h)
 | _,.aw xs,h=>by simp[flat] at h
 | _,.exc n _,h=>by simp[flat] at h
 | _,.xd n,h=>by simp[flat] at h
theorem wj:∀ {n:Nat} {ds:List D},fN n ds=true->dM ds ds=true
 | _,[],_=>rfl
 | n,x :: xs,h=>by
  simp only[fN,Wv] at h;simp only[dM];rw[wg h.1,wj h.2];rfl
end
abbrev cO:Addr->Prop:=λ_=>False
theorem Rep.un(h:Rep H O v d):Rep H cO v d:=Rep.aL h λ_ z=>z.elim
theorem cJ.un(h:cJ c σ δ H v d):Rep H cO v d:=by
 rcases h with h | ⟨a,rfl,o⟩
 ·exact Rep.un h
 ·exact(o.aL (O':=cO) λ_ z=>z.elim).rep λz=>z
section
variable {X:Cx} {pins:List (Addr×Obj)} {σ:St} {H:Hp} {s:W3}
theorem Inv.gw(I:Inv X pins σ H s)(h:Rd H a (.lst vs)):∃ ae:List Value,Vals vs ae/\s.heap.IsList a ae.toArray:=by
 obtain⟨ae,r,p,_⟩:=I.list (.inl h);exact⟨ae,r,p.isList⟩
theorem Inv.gx(I:Inv X pins σ H s)(h:H a=some (.tup vs)):∃ ae:List Value,Vals vs ae/\s.heap.IsTuple a ae.toArray:=by
 obtain⟨ae,r,p,_⟩:=I.tuple (.of h);exact⟨ae,r,p⟩
theorem oA(x y:Tx):((toS x:Str) == toS y)=(x == y):=by
 rw[Jk];simp only[beq_iff_eq];exact⟨we,λe=>by rw[e]⟩
theorem LD(A:Wt):A.in1.units=A.units + 1:=rfl
theorem Rd.inj(h:Rd H a u)(k:Rd H a w)(hu:∀ o z,u≠.frz o z)(hw:∀ o z,w≠.frz o z):u=w:=by
 rcases h with h | ⟨o,h⟩ <;> rcases k with k | ⟨o',k⟩
 ·rw[h] at k; exact Wx k
 ·rw[h] at k; exact absurd (Wx k) (hu _ _)
 ·rw[h] at k; exact absurd (Wx k).symm (hw _ _)
 ·rw[h] at k;have:=Wx k;injection this
theorem aH.inj{vs:List V}:∀ {ds es:List D},vs.length=ds.length->vs.length=es.length->(∀ (i:Nat) v d e,vs[i]? = some v->ds[i]? = some d->es[i]? = some e->d=e)->ds=es:=by
 intro ds es h1 h2 h;apply Qz;intro i;by_cases hi:i < vs.length
 ·have a1:i < ds.length:=by omega
  have a2:i < es.length:=by omega
  rw[W5 a1,W5 a2];rw[h i vs[i] ds[i] es[i] (by simp[hi]) (by simp[a1]) (by simp[a2])]
 ·rw[WN (by omega),WN (by omega)]
theorem Rep.inj{O:Addr->Prop}{v:V}{d:D}(h:Rep H O v d):∀ {n:Nat} {e:D},flat n d=true->flat n e=true->Rep H O v e->d=e:=by
 induction h with
 | aJ=>intro n e _ _ k; cases k; rfl
 | bl b=>intro n e _ _ k; cases k; rfl
 | int i=>intro n e _ _ k; cases k; rfl
 | str x =>
  intro n e _ _ k;generalize hz:V.str (toS x)=z at k
  cases k with
  | str y=>injection hz with hz; rw[we hz]
  | _=>cases hz
 | @tup a vs ds h1 h2 h3 h4 ih =>
  intro n e fd fe k
  cases n with
  | zero=>simp[flat] at fd
  | succ n =>
   simp only[flat] at fd
   cases k with
   | @tup _ ws es k1 k2 k3 k4 =>
    simp only[flat] at fe;have e1:=Rd.inj (.inl h2) (.inl k2) (λ_ _ z=>by cases z) (λ_ _ z=>by cases z);injection e1 with e1
    subst e1;rw[aH.inj h3 k3 λi v d e q1 q2 q3=>ih i v d q1 q2 (nh fd (WE q2)) (nh fe (WE q3)) (k4 i v e q1 q3)]
   | lst k1 k2=>exact absurd (Rd.inj (.inl h2) k2 (λ_ _ z=>by cases z) (λ_ _ z=>by cases z)) (λz=>by cases z)
   | aw k1 k2=>exact absurd (Rd.inj (.inl h2) (.inl k2) (λ_ _ z=>by cases z) (λ_ _ z=>by cases z)) (λz=>by cases z)
   | exc k1 k2=>simp[flat] at fe
   | xd k1 k2=>simp[flat] at fe
   | fn _=>simp[flat] at fe
   | dic _=>simp[flat] at fe
 | @lst a vs ds h1 h2 h3 h4 ih =>
  intro n e fd fe k
  cases n with
  | zero=>simp[flat] at fd
  | succ n =>
   simp only[flat] at fd
   cases k with
   | @lst _ ws es k1 k2 k3 k4 =>
    simp only[flat] at fe;have e1:=Rd.inj h2 k2 (λ_ _ z=>by cases z) (λ_ _ z=>by cases z);injection e1 with e1
    subst e1;rw[aH.inj h3 k3 λi v d e q1 q2 q3=>ih i v d q1 q2 (nh fd (WE q2)) (nh fe (WE q3)) (k4 i v e q1 q3)]
   | tup k1 k2=>exact absurd (Rd.inj h2 (.inl k2) (λ_ _ z=>by cases z) (λ_ _ z=>by cases z)) (λz=>by cases z)
   | aw k1 k2=>exact absurd (Rd.inj h2 (.inl k2) (λ_ _ z=>by cases z) (λ_ _ z=>by cases z)) (λz=>by cases z)
   | exc k1 k2=>simp[flat] at fe
   | xd k1 k2=>simp[flat] at fe
   | fn _=>simp[flat] at fe
   | dic _=>simp[flat] at fe
 | aw h1 h2 h3 h4 ih =>
  intro n e fd _ _
  cases n <;> simp[flat] at fd
 | exc h1 h2 =>
  intro n e fd _ _
  cases n <;> simp[flat] at fd
 | xd h1 h2 =>
  intro n e fd _ _
  cases n <;> simp[flat] at fd
 | fn _ =>
  intro n e fd _ _
  cases n <;> simp[flat] at fd
 | dic h1 h2 =>
  intro n e fd _ _
  cases n <;> simp[flat] at fd
def wk(H:Hp)(s:W3)(n:Nat):Prop:=∀ (A:Wt) (x y:V) (u w:Value) (d e:D),A.units + n + 1 < WQ->flat n d=true->flat n e=true->Rep H cO x d->Rep H cO y e->RelV x u->RelV y w->EqAt A s u w (aA d e)
def ni(H:Hp)(s:W3)(A:Wt)(n:Nat):Prop:=match n with
 | 0=>True
 | m + 1=>A.units + m + 2 < WQ/\wk H s m
def tj(ds es:List D)(j:Nat):Bool:=match ds[j]?,es[j]? with
 | some p,some q=>aA p q
 | _,_=>false
theorem tm(j:Nat)(p q:D)(e1:ds[j]? = some p)(e2:es[j]? = some q):tj ds es j=aA p q:=by unfold tj; rw[e1,e2]
theorem tw{n:Nat}{A:Wt}{vs ws:List V}{ds es:List D}{ae gy:List Value}(hu:A.units + n + 2 < WQ)(ih:wk H s n)(r1:Vals vs ae)(r2:Vals ws gy)(l1:vs.length=ds.length)(l2:ws.length=es.length)
  (g1:∀ (i:Nat) v d,vs[i]? = some v->ds[i]? = some d->Rep H cO v d) (g2:∀ (i:Nat) v d,ws[i]? = some v->es[i]? = some d->Rep H cO v d) (f1:fN n ds=true) (f2:fN n es=true) :
  ∀ j (h1:j < ae.toArray.size) (h2:j < gy.toArray.size),EqAt A.in1 s ae.toArray[j] gy.toArray[j] (tj ds es j):=by
 intro j h1 h2;have e1:=r1.length;have e2:=r2.length;simp at h1 h2;have hd:j < ds.length:=by omega
 have he:j < es.length:=by omega
 have hv:j < vs.length:=by omega
 have hw:j < ws.length:=by omega
 obtain⟨u',wm,ru'⟩:=r1.get (i:=j) (x:=vs[j]) (by simp[hv]);obtain⟨w',hw',rw''⟩:=r2.get (i:=j) (x:=ws[j]) (by simp[hw]);have eu:ae.toArray[j]=u':=by simpa[h1] using wm
 have ew:gy.toArray[j]=w':=by simpa[h2] using hw'
 rw[eu,ew,tm j ds[j] es[j] (by simp[hd]) (by simp[he])];exact ih A.in1 vs[j] ws[j] u' w' ds[j] es[j] (by rw[LD]; omega) (nh f1 (Qk hd)) (nh f2 (Qk he)) (g1 j _ _ (by simp[hv]) (by simp[hd])) (g2 j _ _ (by simp[hw]) (by simp[he])) ru' rw''
theorem Ca(h1:n=ds.length)(h2:m=es.length):((W4 (min n m)).all (tj ds es) && n == m)=dM ds es:=by
 subst h1 h2;by_cases hl:ds.length=es.length
 ·rw[<- hl,Nat.min_self,s_ hl tm];simp
 ·rw[tf hl];simp[hl]
theorem LF(I:Inv X pins σ H s)(n:Nat)(A:Wt)(bI:A.units < WQ)(t1:s.heap.IsTuple a ae.toArray)(t2:s.heap.IsTuple b gy.toArray)(r1:Vals vs ae)(r2:Vals ws gy)(l1:vs.length=ds.length)(l2:ws.length=es.length)
  (g1:∀ (i:Nat) v d,vs[i]? = some v->ds[i]? = some d->Rep H cO v d) (g2:∀ (i:Nat) v d,ws[i]? = some v->es[i]? = some d->Rep H cO v d) (f1:flat n (.tup ds)=true) (f2:flat n (.tup es)=true) (ih:ni H s A n) :
  RcAt A s (.ref a) (.ref b) (dM ds es):=by
 cases n with
 | zero=>simp[flat] at f1
 | succ n =>
  simp only[flat] at f1 f2;obtain⟨hu,ih⟩:=ih;have q:=RcAt.tuples (A:=A) (s:=s) t1 t2 bI (tw hu ih r1 r2 l1 l2 g1 g2 f1 f2);rw[Ca (by have:=r1.length; simp; omega) (by have:=r2.length; simp; omega)] at q;exact q
theorem LG(I:Inv X pins σ H s)(n:Nat)(A:Wt)(bI:A.units < WQ)(t1:s.heap.IsTuple a ae.toArray)(t2:s.heap.IsTuple b gy.toArray)(r1:Vals vs ae)(r2:Vals ws gy)(l1:vs.length=ds.length)(l2:ws.length=es.length)
  (g1:∀ (i:Nat) v d,vs[i]? = some v->ds[i]? = some d->Rep H cO v d) (g2:∀ (i:Nat) v d,ws[i]? = some v->es[i]? = some d->Rep H cO v d) (f1:flat n (.tup ds)=true) (f2:flat n (.tup es)=true) (ih:ni H s A n) :
  RcNeAt A s (.ref a) (.ref b) (!dM ds es):=by
 cases n with
 | zero=>simp[flat] at f1
 | succ n =>
  simp only[flat] at f1 f2;obtain⟨hu,ih⟩:=ih;have q:=RcNeAt.tuples (A:=A) (s:=s) t1 t2 bI (tw hu ih r1 r2 l1 l2 g1 g2 f1 f2);rw[Ca (by have:=r1.length; simp; omega) (by have:=r2.length; simp; omega)] at q;exact q
theorem LH(I:Inv X pins σ H s)(n:Nat)(A:Wt)(bI:A.units < WQ)(t1:s.heap.IsList a ae.toArray)(t2:s.heap.IsList b gy.toArray)(r1:Vals vs ae)(r2:Vals ws gy)(l1:vs.length=ds.length)(l2:ws.length=es.length)
  (g1:∀ (i:Nat) v d,vs[i]? = some v->ds[i]? = some d->Rep H cO v d) (g2:∀ (i:Nat) v d,ws[i]? = some v->es[i]? = some d->Rep H cO v d) (f1:flat n (.lst ds)=true) (f2:flat n (.lst es)=true) (ih:ni H s A n) :
  RcAt A s (.ref a) (.ref b) (dM ds es):=by
 cases n with
 | zero=>simp[flat] at f1
 | succ n =>
  simp only[flat] at f1 f2;obtain⟨hu,ih⟩:=ih;have z1:ae.toArray.size=ds.length:=by have:=r1.length; simp; omega
  have z2:gy.toArray.size=es.length:=by have:=r2.length; simp; omega
  by_cases hl:ds.length=es.length
  ·have q:=RcAt.lists (A:=A) (s:=s) t1 t2 (by rw[z1,z2]; exact hl) bI (tw hu ih r1 r2 l1 l2 g1 g2 f1 f2);rw[z1,s_ hl tm] at q;exact q
  ·rw[tf hl];exact RcAt.lists_lengths (A:=A) (s:=s) t1 t2 (by rw[z1,z2]; simpa using hl) bI
theorem LI(I:Inv X pins σ H s)(n:Nat)(A:Wt)(bI:A.units < WQ)(t1:s.heap.IsList a ae.toArray)(t2:s.heap.IsList b gy.toArray)(r1:Vals vs ae)(r2:Vals ws gy)(l1:vs.length=ds.length)(l2:ws.length=es.length)
  (g1:∀ (i:Nat) v d,vs[i]? = some v->ds[i]? = some d->Rep H cO v d) (g2:∀ (i:Nat) v d,ws[i]? = some v->es[i]? = some d->Rep H cO v d) (f1:flat n (.lst ds)=true) (f2:flat n (.lst es)=true) (ih:ni H s A n) :
  RcNeAt A s (.ref a) (.ref b) (!dM ds es):=by
 cases n with
 | zero=>simp[flat] at f1
 | succ n =>
  simp only[flat] at f1 f2;obtain⟨hu,ih⟩:=ih;have z1:ae.toArray.size=ds.length:=by have:=r1.length; simp; omega
  have z2:gy.toArray.size=es.length:=by have:=r2.length; simp; omega
  by_cases hl:ds.length=es.length
  ·have q:=RcNeAt.lists (A:=A) (s:=s) t1 t2 (by rw[z1,z2]; exact hl) bI (tw hu ih r1 r2 l1 l2 g1 g2 f1 f2);rw[z1,s_ hl tm] at q;exact q
  ·rw[tf hl];exact RcNeAt.lists_lengths (A:=A) (s:=s) t1 t2 (by rw[z1,z2]; simpa using hl) bI
theorem wo(I:Inv X pins σ H s)(n:Nat)(A:Wt)(x y:V)(u w:Value)(d e:D)(bI:A.units < WQ)(fd:flat n d=true)(fe:flat n e=true)(ih:ni H s A n)(rx:Rep H cO x d)(ry:Rep H cO y e)(ru:RelV x u)(aK:RelV y w):RcAt A s u w (aA d e):=by
 cases rx with
 | aJ =>
  cases ru
  cases ry with
  | aJ =>
   cases aK;simp only[aA]; exact RcAt.none_none
  | bl q =>
   cases aK;simp only[aA]; exact RcAt.none_bool _
  | int q =>
   obtain⟨t2,rfl⟩:=aK;simp only[aA]; exact RcAt.none_int _ _
  | str q =>
   obtain⟨t2,rfl⟩:=aK;simp only[aA]; exact RcAt.none_str _ _
  | tup k1 k2 k3 k4 =>
   cases aK; obtain⟨its2,r2,t2⟩:=Inv.gx I k2
   simp only[aA]; exact RcAt.none_tuple t2 bI
  | lst k1 k2 k3 k4 =>
   cases aK; obtain⟨its2,r2,t2⟩:=Inv.gw I k2
   simp only[aA]; exact RcAt.none_list t2 bI
  | aw k1 k2 k3 k4=>(cases n <;> simp[flat] at fe)
  | exc k1 k2=>(cases n <;> simp[flat] at fe)
  | xd k1 k2=>(cases n <;> simp[flat] at fe)
  | fn _=>(cases n <;> simp[flat] at fe)
  | dic _=>(cases n <;> simp[flat] at fe)
 | bl p =>
  cases ru
  cases ry with
  | aJ =>
   cases aK;simp only[aA]; exact RcAt.bool_none _
  | bl q =>
   cases aK;simp only[aA]; exact RcAt.bool_bool _ _
  | int q =>
   obtain⟨t2,rfl⟩:=aK;simp only[aA]; exact RcAt.bool_int _ _ _
  | str q =>
   obtain⟨t2,rfl⟩:=aK;simp only[aA]; exact RcAt.bool_str _ _ _
  | tup k1 k2 k3 k4 =>
   cases aK; obtain⟨its2,r2,t2⟩:=Inv.gx I k2
   simp only[aA]; exact RcAt.bool_tuple _ t2 bI
  | lst k1 k2 k3 k4 =>
   cases aK; obtain⟨its2,r2,t2⟩:=Inv.gw I k2
   simp only[aA]; exact RcAt.bool_list _ t2 bI
  | aw k1 k2 k3 k4=>(cases n <;> simp[flat] at fe)
  | exc k1 k2=>(cases n <;> simp[flat] at fe)
  | xd k1 k2=>(cases n <;> simp[flat] at fe)
  | fn _=>(cases n <;> simp[flat] at fe)
  | dic _=>(cases n <;> simp[flat] at fe)
 | int p =>
  obtain⟨t1,rfl⟩:=ru
  cases ry with
  | aJ =>
   cases aK;simp only[aA]; exact RcAt.int_none _ _
  | bl q =>
   cases aK;simp only[aA]; exact RcAt.int_bool _ _ _
  | int q =>
   obtain⟨t2,rfl⟩:=aK;simp only[aA]; exact RcAt.int_int _ _ _ _
  | str q =>
   obtain⟨t2,rfl⟩:=aK;simp only[aA]; exact RcAt.int_str _ _ _ _
  | tup k1 k2 k3 k4 =>
   cases aK; obtain⟨its2,r2,t2⟩:=Inv.gx I k2
   simp only[aA]; exact RcAt.int_tuple _ _ t2 bI
  | lst k1 k2 k3 k4 =>
   cases aK; obtain⟨its2,r2,t2⟩:=Inv.gw I k2
   simp only[aA]; exact RcAt.int_list _ _ t2 bI
  | aw k1 k2 k3 k4=>(cases n <;> simp[flat] at fe)
  | exc k1 k2=>(cases n <;> simp[flat] at fe)
  | xd k1 k2=>(cases n <;> simp[flat] at fe)
  | fn _=>(cases n <;> simp[flat] at fe)
  | dic _=>(cases n <;> simp[flat] at fe)
 | str p =>
  obtain⟨t1,rfl⟩:=ru
  cases ry with
  | aJ =>
   cases aK;simp only[aA]; exact RcAt.str_none _ _
  | bl q =>
   cases aK;simp only[aA]; exact RcAt.str_bool _ _ _
  | int q =>
   obtain⟨t2,rfl⟩:=aK;simp only[aA]; exact RcAt.str_int _ _ _ _
  | str q =>
   obtain⟨t2,rfl⟩:=aK;simp only[aA]; rw[<- oA]; exact RcAt.str_str _ _ _ _
  | tup k1 k2 k3 k4 =>
   cases aK; obtain⟨its2,r2,t2⟩:=Inv.gx I k2
   simp only[aA]; exact RcAt.str_tuple _ _ t2 bI
  | lst k1 k2 k3 k4 =>
   cases aK; obtain⟨its2,r2,t2⟩:=Inv.gw I k2
   simp only[aA]; exact RcAt.str_list _ _ t2 bI
  | aw k1 k2 k3 k4=>(cases n <;> simp[flat] at fe)
  | exc k1 k2=>(cases n <;> simp[flat] at fe)
  | xd k1 k2=>(cases n <;> simp[flat] at fe)
  | fn _=>(cases n <;> simp[flat] at fe)
  | dic _=>(cases n <;> simp[flat] at fe)
 | tup h1 h2 h3 h4 =>
  cases ru; obtain⟨its1,r1,t1⟩:=Inv.gx I h2
  cases ry with
  | aJ =>
   cases aK;simp only[aA]; exact RcAt.tuple_none t1 bI
  | bl q =>
   cases aK;simp only[aA]; exact RcAt.tuple_bool _ t1 bI
  | int q =>
   obtain⟨t2,rfl⟩:=aK;simp only[aA]; exact RcAt.tuple_int _ _ t1 bI
  | str q =>
   obtain⟨t2,rfl⟩:=aK;simp only[aA]; exact RcAt.tuple_str _ _ t1 bI
  | tup k1 k2 k3 k4 =>
   cases aK; obtain⟨its2,r2,t2⟩:=Inv.gx I k2
   simp only[aA]; exact LF I n A bI t1 t2 r1 r2 h3 k3 h4 k4 fd fe ih
  | lst k1 k2 k3 k4 =>
   cases aK; obtain⟨its2,r2,t2⟩:=Inv.gw I k2
   simp only[aA]; exact RcAt.tuple_list t1 t2 bI
  | aw k1 k2 k3 k4=>(cases n <;> simp[flat] at fe)
  | exc k1 k2=>(cases n <;> simp[flat] at fe)
  | xd k1 k2=>(cases n <;> simp[flat] at fe)
  | fn _=>(cases n <;> simp[flat] at fe)
  | dic _=>(cases n <;> simp[flat] at fe)
 | lst h1 h2 h3 h4 =>
  cases ru; obtain⟨its1,r1,t1⟩:=Inv.gw I h2
  cases ry with
  | aJ =>
   cases aK;simp only[aA]; exact RcAt.list_none t1 bI
  | bl q =>
   cases aK;simp only[aA]; exact RcAt.list_bool _ t1 bI
  | int q =>
   obtain⟨t2,rfl⟩:=aK;simp only[aA]; exact RcAt.list_int _ _ t1 bI
  | str q =>
   obtain⟨t2,rfl⟩:=aK;simp only[aA]; exact RcAt.list_str _ _ t1 bI
  | tup k1 k2 k3 k4 =>
   cases aK; obtain⟨its2,r2,t2⟩:=Inv.gx I k2
   simp only[aA]; exact RcAt.list_tuple t1 t2 bI
  | lst k1 k2 k3 k4 =>
   cases aK; obtain⟨its2,r2,t2⟩:=Inv.gw I k2
   simp only[aA]; exact LH I n A bI t1 t2 r1 r2 h3 k3 h4 k4 fd fe ih
  | aw k1 k2 k3 k4=>(cases n <;> simp[flat] at fe)
  | exc k1 k2=>(cases n <;> simp[flat] at fe)
  | xd k1 k2=>(cases n <;> simp[flat] at fe)
  | fn _=>(cases n <;> simp[flat] at fe)
  | dic _=>(cases n <;> simp[flat] at fe)
 | aw h1 h2 h3 h4=>(cases n <;> simp[flat] at fd)
 | exc h1 h2=>(cases n <;> simp[flat] at fd)
 | xd h1 h2=>(cases n <;> simp[flat] at fd)
 | fn _=>(cases n <;> simp[flat] at fd)
 | dic _=>(cases n <;> simp[flat] at fd)
theorem LJ(I:Inv X pins σ H s)(n:Nat)(A:Wt)(x y:V)(u w:Value)(d e:D)(bI:A.units < WQ)(fd:flat n d=true)(fe:flat n e=true)(ih:ni H s A n)(rx:Rep H cO x d)(ry:Rep H cO y e)(ru:RelV x u)(aK:RelV y w):RcNeAt A s u w (!aA d e):=by
 cases rx with
 | aJ =>
  cases ru
  cases ry with
  | aJ =>
   cases aK;simp only[aA]; exact RcNeAt.none_none
  | bl q =>
   cases aK;simp only[aA]; exact RcNeAt.none_bool _
  | int q =>
   obtain⟨t2,rfl⟩:=aK;simp only[aA]; exact RcNeAt.none_int _ _
  | str q =>
   obtain⟨t2,rfl⟩:=aK;simp only[aA]; exact RcNeAt.none_str _ _
  | tup k1 k2 k3 k4 =>
   cases aK; obtain⟨its2,r2,t2⟩:=Inv.gx I k2
   simp only[aA]; exact RcNeAt.none_tuple t2 bI
  | lst k1 k2 k3 k4 =>
   cases aK; obtain⟨its2,r2,t2⟩:=Inv.gw I k2
   simp only[aA]; exact RcNeAt.none_list t2 bI
  | aw k1 k2 k3 k4=>(cases n <;> simp[flat] at fe)
  | exc k1 k2=>(cases n <;> simp[flat] at fe)
  | xd k1 k2=>(cases n <;> simp[flat] at fe)
  | fn _=>(cases n <;> simp[flat] at fe)
  | dic _=>(cases n <;> simp[flat] at fe)
 | bl p =>
  cases ru
  cases ry with
  | aJ =>
   cases aK;simp only[aA]; exact RcNeAt.bool_none _
  | bl q =>
   cases aK;simp only[aA]; exact RcNeAt.bool_bool _ _
  | int q =>
   obtain⟨t2,rfl⟩:=aK;simp only[aA]; exact RcNeAt.bool_int _ _ _
  | str q =>
   obtain⟨t2,rfl⟩:=aK;simp only[aA]; exact RcNeAt.bool_str _ _ _
  | tup k1 k2 k3 k4 =>
   cases aK; obtain⟨its2,r2,t2⟩:=Inv.gx I k2
   simp only[aA]; exact RcNeAt.bool_tuple _ t2 bI
  | lst k1 k2 k3 k4 =>
   cases aK; obtain⟨its2,r2,t2⟩:=Inv.gw I k2
   simp only[aA]; exact RcNeAt.bool_list _ t2 bI
  | aw k1 k2 k3 k4=>(cases n <;> simp[flat] at fe)
  | exc k1 k2=>(cases n <;> simp[flat] at fe)
  | xd k1 k2=>(cases n <;> simp[flat] at fe)
  | fn _=>(cases n <;> simp[flat] at fe)
  | dic _=>(cases n <;> simp[flat] at fe)
 | int p =>
  obtain⟨t1,rfl⟩:=ru
  cases ry with
  | aJ =>
   cases aK;simp only[aA]; exact RcNeAt.int_none _ _
  | bl q =>
   cases aK;simp only[aA]; exact RcNeAt.int_bool _ _ _
  | int q =>
   obtain⟨t2,rfl⟩:=aK;simp only[aA]; exact RcNeAt.int_int _ _ _ _
  | str q =>
   obtain⟨t2,rfl⟩:=aK;simp only[aA]; exact RcNeAt.int_str _ _ _ _
  | tup k1 k2 k3 k4 =>
   cases aK; obtain⟨its2,r2,t2⟩:=Inv.gx I k2
   simp only[aA]; exact RcNeAt.int_tuple _ _ t2 bI
  | lst k1 k2 k3 k4 =>
   cases aK; obtain⟨its2,r2,t2⟩:=Inv.gw I k2
   simp only[aA]; exact RcNeAt.int_list _ _ t2 bI
  | aw k1 k2 k3 k4=>(cases n <;> simp[flat] at fe)
  | exc k1 k2=>(cases n <;> simp[flat] at fe)
  | xd k1 k2=>(cases n <;> simp[flat] at fe)
  | fn _=>(cases n <;> simp[flat] at fe)
  | dic _=>(cases n <;> simp[flat] at fe)
 | str p =>
  obtain⟨t1,rfl⟩:=ru
  cases ry with
  | aJ =>
   cases aK;simp only[aA]; exact RcNeAt.str_none _ _
  | bl q =>
   cases aK;simp only[aA]; exact RcNeAt.str_bool _ _ _
  | int q =>
   obtain⟨t2,rfl⟩:=aK;simp only[aA]; exact RcNeAt.str_int _ _ _ _
  | str q =>
   obtain⟨t2,rfl⟩:=aK;simp only[aA]; rw[<- oA]; exact RcNeAt.str_str _ _ _ _
  | tup k1 k2 k3 k4 =>
   cases aK; obtain⟨its2,r2,t2⟩:=Inv.gx I k2
   simp only[aA]; exact RcNeAt.str_tuple _ _ t2 bI
  | lst k1 k2 k3 k4 =>
   cases aK; obtain⟨its2,r2,t2⟩:=Inv.gw I k2
   simp only[aA]; exact RcNeAt.str_list _ _ t2 bI
  | aw k1 k2 k3 k4=>(cases n <;> simp[flat] at fe)
  | exc k1 k2=>(cases n <;> simp[flat] at fe)
  | xd k1 k2=>(cases n <;> simp[flat] at fe)
  | fn _=>(cases n <;> simp[flat] at fe)
  | dic _=>(cases n <;> simp[flat] at fe)
 | tup h1 h2 h3 h4 =>
  cases ru; obtain⟨its1,r1,t1⟩:=Inv.gx I h2
  cases ry with
  | aJ =>
   cases aK;simp only[aA]; exact RcNeAt.tuple_none t1 bI
  | bl q =>
   cases aK;simp only[aA]; exact RcNeAt.tuple_bool _ t1 bI
  | int q =>
   obtain⟨t2,rfl⟩:=aK;simp only[aA]; exact RcNeAt.tuple_int _ _ t1 bI
  | str q =>
   obtain⟨t2,rfl⟩:=aK;simp only[aA]; exact RcNeAt.tuple_str _ _ t1 bI
  | tup k1 k2 k3 k4 =>
   cases aK; obtain⟨its2,r2,t2⟩:=Inv.gx I k2
   simp only[aA]; exact LG I n A bI t1 t2 r1 r2 h3 k3 h4 k4 fd fe ih
  | lst k1 k2 k3 k4 =>
   cases aK; obtain⟨its2,r2,t2⟩:=Inv.gw I k2
   simp only[aA]; exact RcNeAt.tuple_list t1 t2 bI
  | aw k1 k2 k3 k4=>(cases n <;> simp[flat] at fe)
  | exc k1 k2=>(cases n <;> simp[flat] at fe)
  | xd k1 k2=>(cases n <;> simp[flat] at fe)
  | fn _=>(cases n <;> simp[flat] at fe)
  | dic _=>(cases n <;> simp[flat] at fe)
 | lst h1 h2 h3 h4 =>
  cases ru; obtain⟨its1,r1,t1⟩:=Inv.gw I h2
  cases ry with
  | aJ =>
   cases aK;simp only[aA]; exact RcNeAt.list_none t1 bI
  | bl q =>
   cases aK;simp only[aA]; exact RcNeAt.list_bool _ t1 bI
  | int q =>
   obtain⟨t2,rfl⟩:=aK;simp only[aA]; exact RcNeAt.list_int _ _ t1 bI
  | str q =>
   obtain⟨t2,rfl⟩:=aK;simp only[aA]; exact RcNeAt.list_str _ _ t1 bI
  | tup k1 k2 k3 k4 =>
   cases aK; obtain⟨its2,r2,t2⟩:=Inv.gx I k2
   simp only[aA]; exact RcNeAt.list_tuple t1 t2 bI
  | lst k1 k2 k3 k4 =>
   cases aK; obtain⟨its2,r2,t2⟩:=Inv.gw I k2
   simp only[aA]; exact LI I n A bI t1 t2 r1 r2 h3 k3 h4 k4 fd fe ih
  | aw k1 k2 k3 k4=>(cases n <;> simp[flat] at fe)
  | exc k1 k2=>(cases n <;> simp[flat] at fe)
  | xd k1 k2=>(cases n <;> simp[flat] at fe)
  | fn _=>(cases n <;> simp[flat] at fe)
  | dic _=>(cases n <;> simp[flat] at fe)
 | aw h1 h2 h3 h4=>(cases n <;> simp[flat] at fd)
 | exc h1 h2=>(cases n <;> simp[flat] at fd)
 | xd h1 h2=>(cases n <;> simp[flat] at fd)
 | fn _=>(cases n <;> simp[flat] at fd)
 | dic _=>(cases n <;> simp[flat] at fd)
theorem Cb(h:RcAt A s u w k)(hs:u=w->k=true)(hf:∀ b t,u≠Value.float b t):EqAt A s u w k:=λprog w' E Q hq=>by
 unfold eqBool;refine Ql ?_;refine wpAny_ite_split (λg_=>?_) (λ_=>?_)
 ·have e:=eq_of_beq g_;rw[hs e] at hq;exact W0 (J3 (W7 hq))
 ·cases u with
  | float b t=>exact absurd rfl (hf b t)
  | _=>exact W0 (h prog w' E _ (Qp hq))
theorem Cc(r:Rep H cO x d)(ru:RelV x u)(b:UInt64)(t:Tok):u≠Value.float b t:=by
 intro e;subst e
 cases r <;> first | (cases ru; done) | (obtain⟨t',e⟩:=ru; cases e)
theorem LK(I:Inv X pins σ H s)(n:Nat):wk H s n:=by
 induction n with
 | zero =>
  intro A x y u w d e hu fd fe rx ry ru aK;refine Cb (wo I 0 A x y u w d e (by omega) fd fe trivial rx ry ru aK) (λh=>?_) (Cc rx ru);subst h;have:=ru.inj aK;subst this;rw[Rep.inj rx fd fe ry];exact wg fe
 | succ n ih =>
  intro A x y u w d e hu fd fe rx ry ru aK;refine Cb (wo I (n + 1) A x y u w d e (by omega) fd fe ⟨by omega,ih⟩ rx ry ru aK) (λh=>?_) (Cc rx ru);subst h;have:=ru.inj aK;subst this;rw[Rep.inj rx fd fe ry];exact wg fe
theorem wq(I:Inv X pins σ H s):∀ n:Nat,A.units + n + 1 < WQ->ni H s A n
 | 0,_=>trivial
 | n + 1,h=>⟨by omega,LK I n⟩
def Cd:R2:=λx y H Q=>∃ d e,Rep H cO x d/\Rep H cO y e/\flat 50 d=true/\flat 50 e=true/\Q (.bl (aA d e)) H
def Ce:R2:=λx y H Q=>∃ d e,Rep H cO x d/\Rep H cO y e/\flat 50 d=true/\flat 50 e=true/\Q (.bl (!aA d e)) H
theorem jn(hu:X.A.units + 64 < WQ):bx X (WM .Eq) Cd:=by
 intro pins s σ H x y v u Q I rx ry h;obtain⟨d,e,r1,r2,f1,f2,q⟩:=h;exact wo I 50 X.A x y v u d e (by omega) f1 f2 (wq I 50 (by omega)) r1 r2 rx ry X.prog X.w X.xe _ ⟨.bl _,H,I,rfl,q⟩
theorem lS(hu:X.A.units + 64 < WQ):bx X (WM .NotEq) Ce:=by
 intro pins s σ H x y v u Q I rx ry h;obtain⟨d,e,r1,r2,f1,f2,q⟩:=h;exact LJ I 50 X.A x y v u d e (by omega) f1 f2 (wq I 50 (by omega)) r1 r2 rx ry X.prog X.w X.xe _ ⟨.bl _,H,I,rfl,q⟩
end
def cY{α:Type}(xs:List α)(lo hi:Option Int):List α:=(xs.drop (HT.aU xs.length 0 lo)).take (HT.aU xs.length xs.length hi - HT.aU xs.length 0 lo)
theorem Cf(xs:List V)(lo hi:Option Int):cY xs lo hi=lL xs lo hi:=rfl
theorem LM(xs:List α)(lo hi:Option Int):(cY xs lo hi).length<=xs.length:=by
 unfold cY;rw[JR,List.length_drop];omega
theorem aH.cut(lo hi:Option Int)(h:aH H O vs ds):aH H O (cY vs lo hi) (cY ds lo hi):=by
 unfold cY;rw[h.1];exact aH.take _ (aH.drop _ h)
theorem LN{α:Type}{xs:List α}{lo hi:Option Int}(h:HT.aU xs.length 0 lo=0/\HT.aU xs.length xs.length hi=xs.length):cY xs lo hi=xs:=by
 unfold cY;rw[h.1,h.2];simp
section
variable {prog:Wm} {w:Ws} {A:Wt} {E:Value->W3->Prop} {s:W3}
theorem LO{t sl:Addr}{items:Array Value}{vl vu:Value}{lo hi:Option Int}{Q:Value->W3->Prop}(ht:IsTup s.heap t items)(hs:s.heap.IsSliceOf sl vl vu .none)(pl:IsPart vl lo)(pu:IsPart vu hi)
  (hw:HT.aU items.size 0 lo=0/\HT.aU items.size items.size hi=items.size) (h:Q (.ref t) s):We (model prog w) A (JI (.ref t) (.ref sl)) Q E s:=by
 obtain⟨os,hos,hcs,hds⟩:=id hs;have vM:s.TypeIs (.ref sl) "slice":=⟨os,hos,hcs⟩
 unfold JI;try with_reducible refine Ql ?_
 first | refine W0 (W7 ?_) | skip
 refine W0 (wpAny_sequenceKey ht.typeIs (by decide) ?_);refine W0 (WZ (name:=Str.ofString "__getitem__") ht.typeIs QI
  (WX QI ht.typeIs entry_tuple_getitem ?_ (args_tuple_getitem _ _)))
 show We _ _ (Builtin.Tuple.tupleItemsOf (.ref t) >>= _) _ _ s;refine W0 (tupleItemsOf_ ht ?_);refine W0 (JA vM ?_);rw[if_pos (by decide)];refine W0 (HT.Bh hs pl pu ?_);show We _ _ (if (((HT.aU items.size 0 lo:Nat):Int) == 0 && (1:Int) == 1 && (HT.aU items.size items.size hi - HT.aU items.size 0 lo) == items.size)=true then _ else _) _ _ s;rw[hw.1,hw.2];rw[if_pos (by simp)];refine W0 (m:=Builtin.Tuple.tupleIsExact (.ref t)) ?_;unfold Builtin.Tuple.tupleIsExact;refine W0 (JA ht.typeIs (W7 ?_));rw[if_pos (by decide)];exact W0 (J3 (W0 (W7 (W7 ⟨_,rfl,W7 h⟩))))
end
section
variable {X:Cx}
def Cg(K:W2):V->Option Int->Option Int->Hp->VK->Prop:=λx lo hi H Q=>∃ a xs,x = .ref a/\cL K H a xs /\
 ((HT.aU xs.length 0 lo=0/\HT.aU xs.length xs.length hi=xs.length)->Q (.ref a) H)/\(¬ (HT.aU xs.length 0 lo=0/\HT.aU xs.length xs.length hi=xs.length)->∀ p,H p=none->Q (.ref p) (upd H p (.tup (lL xs lo hi))))
theorem LP:jN X (Cg X.K):=by
 intro pins s σ H x v vl vu lo hi sl Q I rx hs pl pu h;obtain⟨a,xs,rfl,hx,q1,q2⟩:=h;by_cases hw:HT.aU xs.length 0 lo=0/\HT.aU xs.length xs.length hi=xs.length
 ·cases rx;obtain⟨ae,r,ht,hz⟩:=I.tuple hx;have hlen:ae.toArray.size=xs.length:=by rw[Wq]; exact r.length.symm
  refine⟨"tuple",_,PyProof.Rows.slot_tuple_getitem.lookup,ht.typeIs,?_⟩;exact LO ht hs pl pu (by rw[hlen]; exact hw) ⟨.ref a,H,I,rfl,q1 hw⟩
 ·exact Kc pins s σ H (.ref a) v vl vu lo hi sl Q I rx hs pl pu ⟨a,xs,rfl,hx,hw,q2 hw⟩
theorem LQ(a b:Nat):sliceRange (a:Int) (b:Int) 1=(W4 (b - a)).map (λk=>a + k):=by
 have h0:((1:Int) > 0)=True:=by simp
 unfold sliceRange;simp only[h0,if_true];by_cases a7:(a:Int) < (b:Int)
 ·rw[if_pos a7];have e3:(((b:Int) - (a:Int) + 1 - 1) / 1).toNat=b - a:=by
   rw[Int.ediv_one]; omega
  rw[e3];refine QT λk _=>?_
  omega
 ·rw[if_neg a7];have:b - a=0:=by omega
  rw[this];rfl
theorem Ci(lo hi:Option Int)(n:Nat):QB lo hi 1 n=(W4 (HT.aU n n hi - HT.aU n 0 lo)).map (λk=>HT.aU n 0 lo + k):=by
 have c:∀ (i:Int) (d:Nat),max 0 (min (if i < 0 then i + (n:Int) else i) (n:Int))=((HT.aU n d (some i):Nat):Int):=by
  intro i d;show max 0 (min (if i < 0 then i + (n:Int) else i) (n:Int))=(((if i < 0 then(i + (n:Int)).toNat else min i.toNat n):Nat):Int);by_cases hi:i < 0
  ·simp only[if_pos hi]; omega
  ·simp only[if_neg hi]; omega
 have h0:((1:Int) > 0)=True:=by simp
 rw[<- LQ];unfold QB;simp only[h0,if_true]
 cases lo with
 | none =>
  cases hi with
  | none=>rfl
  | some j=>show sliceRange 0 (max 0 (min (if j < 0 then j + (n:Int) else j) (n:Int))) 1=_; rw[c j n]; rfl
 | some i =>
  cases hi with
  | none=>show sliceRange (max 0 (min (if i < 0 then i + (n:Int) else i) (n:Int))) (n:Int) 1=_; rw[c i 0]; rfl
  | some j=>show sliceRange (max 0 (min (if i < 0 then i + (n:Int) else i) (n:Int))) (max 0 (min (if j < 0 then j + (n:Int) else j) (n:Int))) 1=_; rw[c i 0,c j n]
theorem LR(x:Tx)(lo hi:Option Int):(⟨((QB lo hi 1 (toS x).length).filterMap ((toS x).cps[·]?)).toArray⟩:Str)=toS (cY x lo hi):=by
 unfold toS;congr 1
 rw[Ci];have:=pick_run (x.toArray) (HT.aU x.length 0 lo) (HT.aU x.length x.length hi - HT.aU x.length 0 lo);have hl:({ cps:=x.toArray }:Str).length=x.length:=by simp[Str.length]
 rw[hl];rw[this];rfl
def Cj:V->Option Int->Option Int->Hp->VK->Prop:=λx lo hi H Q=>∃ z:Tx,x = .str (toS z)/\z.length<=Wc/\Q (.str (toS (cY z lo hi))) H
theorem Ck(p:IsPart v o):∃ q:Option (Int×Tok),v=partValue q/\q.map (·.1)=o:=by
 cases p with
 | none=>exact⟨none,rfl,rfl⟩
 | int i t=>exact⟨some (i,t),rfl,rfl⟩
theorem LS:jN X Cj:=by
 intro pins s σ H x v vl vu lo hi sl Q I rx hs pl pu h;obtain⟨z,rfl,hz,q⟩:=h;obtain⟨t,rfl⟩:=rx;obtain⟨l,rfl,el⟩:=Ck pl;obtain⟨u,rfl,eu⟩:=Ck pu;obtain⟨o,ho,hc,hd⟩:=hs;refine⟨"str",_,F.slot_str_getitem.lookup,typeIs_str s _ t,?_⟩;refine wpAny_getItem_str_slice (l:=l) (u:=u) (st:=none) ⟨o,ho,hc,hd⟩ rfl ?_;unfold sliceMade;have e:(slicePicked (toS z) l u none)=QB lo hi 1 (toS z).length:=by
  unfold slicePicked;rw[el,eu];rfl
 rw[e];by_cases hw:(((none:Option (Int×Tok)).map (·.1)).getD 1 == 1 && (QB lo hi 1 (toS z).length).length == (toS z).length)=true
 ·rw[if_pos hw];refine⟨.str (toS (cY z lo hi)),H,I,⟨t,?_⟩,q⟩;congr 1
  rw[Wv] at hw;have wu:=eq_of_beq hw.2;rw[Ci,Q5,List.length_range,ji] at wu;have h1:=HT.vL z.length 0 (Qn _) lo;have h2:=HT.vL z.length z.length (Wf _) hi;unfold cY;congr 1
  by_cases h0:z.length=0
  ·have:z=[]:=List.eq_nil_of_length_eq_zero h0;subst this;simp
  ·have a1:HT.aU z.length 0 lo=0:=by omega
   rw[a1] at wu ⊢;rw[wu];simp
 ·rw[if_neg hw];show Made.post (.str _) _ _;rw[LR];exact⟨by rw[ji]; exact Wu (LM z lo hi) hz,.str (toS (cY z lo hi)),H,I.tok _,⟨_,rfl⟩,q⟩
theorem LU:bx X (Qc .Add) (λx y H Q=>∃ a b ys,x = .ref a/\y = .ref b/\cL X.K H a []/\cL X.K H b ys/\Q (.ref b) H):=by
 intro pins s σ H x y v u Q I rx ry h;obtain⟨a,b,ys,rfl,rfl,ha,hb,q⟩:=h
 cases rx
 cases ry;obtain⟨ae,r1,p1,_⟩:=I.tuple ha;obtain⟨its2,r2,p2,_⟩:=I.tuple hb
 cases r1;obtain⟨⟨cls,dd,data,sl⟩,ho,hc,n,hd⟩:=id p1;obtain⟨⟨cls2,mV,data2,lK⟩,ko,hc2,n2,hd2⟩:=id p2;simp only at hc hd hc2 hd2;subst hc hd hc2 hd2;exact concat_meets ⟨_,ho,rfl⟩ ⟨_,ko,rfl⟩ noFill_tuple_add seq_tuple_add PySem.F.slot_tuple_add PySem.F.entry_tuple_add (PySem.F.args_tuple_add_2 _ _)
   (tuple_addW0 a b #[] its2.toArray n n2 dd mV sl lK rfl) ⟨ho,ko,.ref b,H,I,rfl,q⟩
def Cn(K:W2):R2:=λx y H Q=>∃ l b xs zs,x = .ref l/\y = .ref b/\cq K H l xs/\cq K H b zs/\xs.length + zs.length<=Wc/\∀ p,H p=none->Q (.ref p) (upd H p (.lst (xs ++ zs)))
theorem LV:bx X (Qc .Add) (Cn X.K):=by
 intro pins s σ H x y v u Q I rx ry h;obtain⟨l,b,xs,zs,rfl,rfl,hH,hB,hz,q⟩:=h
 cases rx
 cases ry;obtain⟨ae,r,⟨⟨cls,dd,data,sl⟩,n,e,hc,jR,hd⟩,z⟩:=I.list hH;obtain⟨its2,r2,⟨⟨cls2,mV,data2,lK⟩,n2,e2,hc2,hdd2,hd2⟩,z2⟩:=I.list hB;simp only at hc hd jR hc2 hd2 hdd2;subst hc hd jR hc2 hd2 hdd2;have hl:=r.length;have jS:=r2.length;refine concat_meets ⟨_,e,rfl⟩ ⟨_,e2,rfl⟩ noFill_list_add seq_list_add PySem.F.slot_list_add PySem.F.entry_list_add (PySem.F.args_list_add_2 _ _)
   (list_addW l b ae.toArray its2.toArray n n2 none none sl lK (by rw[Wq,Wq]; omega)) ⟨e,e2,?_⟩
 have ea:ae.toArray ++ its2.toArray=(ae ++ its2).toArray:=by simp
 rw[ea];exact⟨.ref _,_,I.Kx (t':=s.toks) (r.append r2) (by rw[Qb]; omega),rfl,q _ I.fresh⟩
theorem tE:∀ {ys:List Str} {us:List Value},Vals (ys.map V.str) us->StrsAre us ys
 | [],us,r=>by cases r; exact .nil
 | y :: ys,us,r=>by
  cases r with
  | cons r1 r2 =>
   obtain⟨t,rfl⟩:=r1;exact .cons y t (tE r2)
theorem Co:∀ {ys:List Str} {us:List Value},StrsAre us ys->Vals (ys.map V.str) us
 | _,_,.nil=>.nil
 | _,_,.cons y t h=>.cons ⟨t,rfl⟩ (Co h)
def tG(K:W2):V->List V->Hp->VK->Prop:=λx vs H Q=>∃ (z:Str) (a:Addr) (ys:List Str),x = .str z/\vs=[.ref a]/\(cq K H a (ys.map V.str)\/cL K H a (ys.map V.str)) /\
 (ys.map (·.length)).sum + ys.length * z.length<=16777216/\Q (.str (Txt.join z ys)) H
theorem LW:qg X "str.join" (tG X.K):=by
 intro pins s σ H x vs v us Q I rx rv h;obtain⟨z,a,ys,rfl,rfl,hq,hz,q⟩:=h;obtain⟨t,rfl⟩:=rx;obtain⟨u,rfl,ru⟩:=rv.one
 cases ru;rcases hq with hq | hq
 ·obtain⟨ae,r,p,_⟩:=I.list hq;exact join_list p.isList (by simpa using tE r) hz λt' k=>⟨.str _,H,I.tok _,⟨t',rfl⟩,q⟩
 ·obtain⟨ae,r,p,_⟩:=I.tuple hq;exact join_tuple p (by simpa using tE r) hz λt' k=>⟨.str _,H,I.tok _,⟨t',rfl⟩,q⟩
theorem Cp:∀ {bs:List Bool} {us:List Value},Vals (bs.map V.bl) us->∀ (i:Nat) v,us[i]? = some v->∃ b,bs[i]? = some b/\v = .bool b
 | [],us,r,i,v,e=>by cases r; simp at e
 | b :: bs,us,r,i,v,e=>by
  cases r with
  | cons r1 r2 =>
   cases i with
   | zero =>
    simp at e;subst e;exact⟨b,rfl,r1⟩
   | succ i=>exact Cp r2 i v (by simpa using e)
theorem Cq:∀ bs:List Bool,((W4 bs.length).all λi=>(bs[i]?).getD true)=bs.all id
 | []=>rfl
 | b :: bs=>by
  rw[WL,List.range_succ_eq_map,JQ,List.all_map];have:=Cq bs;simp only[List.getElem?_cons_zero,Option.getD_some,JQ,id];rw[<- this];rfl
theorem LX (hc:X.calm=true):er X (.builtin "all") (λxs H Q=>∃ (a:Addr) (bs:List Bool),xs=[.ref a]/\cq X.K H a (bs.map V.bl)/\Q (.bl (bs.all (λb=>b))) H):=by
 intro pins s σ H xs us Q I r h;obtain⟨a,bs,rfl,hq,q⟩:=h;obtain⟨u,rfl,ru⟩:=gY r
 cases ru;obtain⟨ae,r',p,_⟩:=I.list hq;have hl:=p.isList;have a7:a < s.heap.objs.size:=by obtain⟨_,e,_⟩:=hl; exact Wr e
 have hlen:=r'.length;rw[Q5] at hlen;refine call_all_walk (JK hl ?_);refine⟨s.heap.objs.size,[s.heap.objs.size,a],[s.heap.objs.size],ae.toArray.size,_,_,λi=>(bs[i]?).getD true,rfl,Walks.list (A:=X.A.in1) (I.ok.hd hc) _ a (WP a7) ae.toArray,
  ⟨⟨_,Wn _ rfl,rfl,rfl⟩,hl.push _⟩,λi v s' Q' E' hP hQ=>?_,λh' tk hk=>?_⟩
 ·obtain⟨b,e,rfl⟩:=Cp r' i v (by simpa using hP);simp only[e,Option.getD_some] at hQ;exact Qp hQ
 ·have e:((W4 ae.toArray.size).all λi=>(bs[i]?).getD true)=bs.all id:=by
   rw[Wq,<- hlen]; exact Cq bs
  rw[e];exact⟨.bl _,H,I.kept λb o e=>hk b o (λhm=>by rw[List.mem_singleton.mp hm] at e; exact Qt _ (Wr e)) (Wd _ e),rfl,q⟩
def kF(x:Tx):List Tx->List Tx
 | []=>[x]
 | y :: r=>if y < x then y :: kF x r else x :: y :: r
def hJ:List Tx->List Tx
 | []=>[]
 | x :: r=>kF x (hJ r)
theorem wx(x:Tx):∀ l:List Tx,(kF x l).Perm (x :: l)
 | []=>.refl _
 | y :: r=>by
  unfold kF;split
  ·exact((wx x r).cons y).trans (.swap x y r)
  ·exact .refl _
theorem wz:∀ l:List Tx,(hJ l).Perm l
 | []=>.refl _
 | x :: r=>(wx x _).trans ((wz r).cons x)
abbrev iI(a b:Tx):Prop:=¬ b < a
theorem Cr(h1:iI a b)(h2:iI b c):iI a c:=List.not_lt.mpr (List.le_trans (List.not_lt.mp h1) (List.not_lt.mp h2))
theorem LY(h1:iI a b)(h2:iI b a):a=b:=List.le_antisymm (List.not_lt.mp h1) (List.not_lt.mp h2)
theorem Cs(x:Tx):∀ l:List Tx,l.Pairwise iI->(kF x l).Pairwise iI
 | [],_=>by simp[kF]
 | y :: r,h=>by
  unfold kF;obtain⟨h1,h2⟩:=Qr.mp h;split
  ·rename_i a7;refine Qr.mpr ⟨λz hz=>?_,Cs x r h2⟩;rcases Wj.mp ((wx x r).mem_iff.mp hz) with e | hz
   ·subst e;intro q;exact absurd (List.lt_trans a7 q) (List.lt_irrefl _)
   ·exact h1 z hz
  ·rename_i hge;refine Qr.mpr ⟨λz hz=>?_,h⟩;rcases Wj.mp hz with e | hz
   ·subst e; exact hge
   ·exact Cr hge (h1 z hz)
theorem Ct:∀ l:List Tx,(hJ l).Pairwise iI
 | []=>.nil
 | x :: r=>Cs x _ (Ct r)
theorem LZ(hp:l'.Perm l)(hs:l'.Pairwise iI):l'=hJ l :=
 List.Perm.eq_of_pairwise (λ_ _ _ _ h1 h2=>LY h1 h2) hs (Ct l) (hp.trans (wz l).symm)
theorem Cu:∀ (x:Str) (r:List Str),risingS x r=true->((x :: r).map λz:Str=>z.cps.toList).Pairwise iI
 | x,[],_=>by simp
 | x,y :: r,h=>by
  have h':(!ltCps y.cps.toList x.cps.toList && risingS y r)=true:=h;rw[Wv] at h';have ih:=Cu y r h'.2;have qz:iI x.cps.toList y.cps.toList:=by
   have:=h'.1;rw[ltCps_eq] at this;simpa using this
  rw[Wo];refine Qr.mpr ⟨λz hz=>?_,ih⟩;rw[Wo] at hz ih;rcases Wj.mp hz with e | hz
  ·subst e; exact qz
  ·exact Cr qz ((Qr.mp ih).1 z hz)
theorem L0:er X (.builtin "sorted") (λxs H Q=>∃ (a:Addr) (ts:List Tx),xs=[.ref a]/\cq X.K H a (ts.map λz=>V.str (toS z))/\ts.length < 64/\∀ p,H p=none->Q (.ref p) (upd H p (.lst ((hJ ts).map λz=>V.str (toS z))))):=by
 intro pins s σ H xs us Q I r h;obtain⟨a,ts,rfl,hq,hz,q⟩:=h;obtain⟨u,rfl,ru⟩:=gY r
 cases ru;obtain⟨ae,r',p,_⟩:=I.list hq;have r2:Vals ((ts.map toS).map V.str) ae:=by rw[Wz]; exact r'
 have hlen:=r'.length;rw[Q5] at hlen;refine sorted_strs p.isList (tE r2) (by omega) λout ss hS hp hs=>?_
 have e:ss=(hJ ts).map toS:=by
  have L1:(ss.map λz:Str=>z.cps.toList).Pairwise iI:=by
   cases ss with
   | nil=>simp
   | cons x r=>exact Cu x r hs
  have wA:(ss.map λz:Str=>z.cps.toList).Perm ts:=by
   have:=hp.map λz:Str=>z.cps.toList
   rw[Wz] at this;have e2:ts.map ((λz:Str=>z.cps.toList) ∘ toS)=ts:=by
    rw[show((λz:Str=>z.cps.toList) ∘ toS)=id from funext λz=>sX z,List.map_id]
   rw[e2] at this;exact this
  rw[<- LZ wA L1,Wz];have:(toS ∘ λz:Str=>z.cps.toList)=id:=funext λz=>(B7 z).symm
  rw[this,List.map_id]
 obtain⟨ep,he⟩:=sortedAll_at s.heap ae out;have hv:Vals ((hJ ts).map λz=>V.str (toS z)) out.toList:=by
  have:=Co hS;rw[e,Wz] at this;exact this
 have jS:((hJ ts).map λz=>V.str (toS z)).length<=Wc:=by
  rw[Q5,(wz ts).length_eq];exact Wu (Jn hz) (by rw[JO]; decide)
 refine⟨.ref (s.heap.objs.size + 1),_,I.laid (a:=s.heap.objs.size + 1) (o:=.lst ((hJ ts).map λz=>V.str (toS z))) (t':=s.toks) (λb u e=>sortedAll_old e) (Nat.le_succ _) ?_,rfl,q _ (I.aG.fresh (Nat.le_succ _))⟩;exact⟨jS,out.toList,ep,hv,by simpa[seqObj] using he⟩
end
def p2(p:D->D->Option S)(x y:D)(δ:Dl):Rs S:=match p x y with
 | some s=>.ok s δ
 | none=>.stuck
def aD(p:D->D->Option S)(fa:DE)(fb:BE):DE:=λδ=>(fa δ).bind λx δ1=>(fb δ1).bind λy δ2=>p2 p x.d y δ2
def a0(p:D->D->Option S)(i:Nat)(fb:BE):DE:=λδ=>(fb δ).bind λy δ1=>(aj i δ1).bind λx δ2=>p2 p x y δ2
def b9(r:R2)(p:D->D->Option S):Prop:=∀ (c:Fc) (σ:St) (δ:Dl) (H:Hp) (x y:V) (d e:D) (s:S) (Q:VK),Ok c σ δ H->cJ c σ δ H x d->cJ c σ δ H y e->p d e=some s ->
 (∀ v H',aV c σ δ H σ δ H'->bf c σ δ H H' v s->Q v H')->r x y H Q
section
variable {X:Cx} {c:Fc} {a b:Expr} {fa:DE} {fb:BE} {r:R2} {p:D->D->Option S} {pos:Pos}
theorem wC(hp:b9 r p)(k:Ok c σ δ H)(rx:cJ c σ δ H x d)(ry:cJ c σ δ H y e)
  (h:post c (p2 p d e δ) λs δ'=>∀ v H',aV c σ δ H σ δ' H'->bf c σ δ' H H' v s->Q v H'):r x y H Q:=by
 unfold p2 at h
 cases e1:p d e with
 | none=>rw[e1] at h; exact h.elim
 | some s=>rw[e1] at h; exact hp c σ δ H x y d e s Q k rx ry e1 h
theorem tH(hp:b9 r p)(h:tD c (aD p fa fb) σ H Q):jb r (tD c fa) (tB c fb) σ H Q:=by
 obtain⟨δ,k,q⟩:=h;refine⟨δ,k,?_⟩;unfold aD at q;rw[ba] at q;refine aS q λx δ1 q1 v H1 a1 r1=>⟨δ1,a1.ok,?_⟩
 rw[ba] at q1;refine aS q1 λy δ2 q2 u H2 a2 r2=>?_
 exact wC hp a2.ok (.inl (Rep.dh r1.rep a2)) r2 (aS q2 λs δ3 q3 v' H3 a3 r3=>q3 v' H3 (a1.trans (a2.trans a3)) (bf.back r3 (a1.trans a2)))
theorem L3(hp:b9 r p)(h:tD c (a0 p i fb) σ H Q)(hv:∀ δ,Ok c σ δ H->post c (fb δ) (λ_ _=>True)->∃ v,σ[i]? = some (some v)):jb r (bZ i) (tB c fb) σ H Q:=by
 obtain⟨δ,k,q⟩:=h;unfold a0 at q;rw[ba] at q;obtain⟨v,ev⟩:=hv δ k (aS q λ_ _ _=>trivial);refine⟨v,ev,δ,k,aS q λy δ1 q1 u H1 a1 r1=>?_⟩;rw[ba] at q1;unfold aj at q1
 cases e:δ1[i]? with
 | none=>rw[e] at q1; exact q1.elim
 | some o =>
  cases o with
  | none=>rw[e] at q1; exact q1.elim
  | some w =>
   rw[e] at q1;have qA:post c (p2 p w.d y δ1) λs δ'=>∀ v H',aV c σ δ H σ δ' H'->bf c σ δ' H H' v s->Q v H':=q1
   have rb:cJ c σ δ1 H1 v w.d:=by
    cases w with
    | pure d =>
     obtain⟨v',e1,r⟩:=a1.ok.slot i d e;rw[ev] at e1; cases e1
     exact .inl r
    | own d =>
     obtain⟨a,e1,r,_⟩:=a1.ok.own i d e;rw[ev] at e1; cases e1
     exact .inr ⟨a,rfl,r⟩
   exact wC hp a1.ok rb r1 (aS qA λs δ3 q3 v' H3 a3 r3=>q3 v' H3 (a1.trans a3) (bf.back r3 a1))
theorem tJ{i:Nat}{σ:St}{δ:Dl}{H:Hp}(k:Ok c σ δ H){w:S}(e:δ[i]? = some (some w)):∃ v,σ[i]? = some (some v):=by
 cases w with
 | pure d=>obtain⟨v,e1,_⟩:=k.slot i d e; exact⟨v,e1⟩
 | own d=>obtain⟨a,e1,_⟩:=k.own i d e; exact⟨_,e1⟩
end
def ak(p:D->D->Option S)(i:Nat)(fb:BE):DE:=λδ=>match δ[i]? with
 | some (some _)=>a0 p i fb δ
 | _=>.stuck
section
variable {X:Cx} {c:Fc} {a b:Expr} {fa:DE} {fb:BE} {r:R2} {p:D->D->Option S} {pos:Pos}
theorem tK(hp:b9 r p){i:Nat}{σ:St}{H:Hp}{Q:VK}(h:tD c (ak p i fb) σ H Q):jb r (bZ i) (tB c fb) σ H Q:=by
 obtain⟨δ,k,q⟩:=h;unfold ak at q
 cases e:δ[i]? with
 | none=>rw[e] at q; exact q.elim
 | some o =>
  cases o with
  | none=>rw[e] at q; exact q.elim
  | some w =>
   rw[e] at q;obtain⟨v,ev⟩:=tJ k e;exact L3 hp (i:=i) ⟨δ,k,q⟩ λ_ _ _=>⟨v,ev⟩
theorem cM{op:Operator}(ho:bx X (Qc op) r)(hp:b9 r p)(ha:SE X c a fa)(hb:SB X c b fb):SE X c (.BinOp a op b pos) (aD p fa fb):=PE.weak (vz ho ha hb) λ_ _ _ h=>tH hp h
theorem fO{op:Operator}{i:Nat}(ho:bx X (Qc op) r)(hp:b9 r p)(ha:PE X a (bZ i))(hb:SB X c b fb):SE X c (.BinOp a op b pos) (ak p i fb):=PE.weak (vz ho ha hb) λ_ _ _ h=>tK hp h
theorem tL{op:CmpOp}(ho:bx X (WM op) r)(hp:b9 r p)(ha:SE X c a fa)(hb:SB X c b fb)(hm:Qu op b=false):SE X c (.Compare a [op] [b] pos) (aD p fa fb):=PE.weak (A0 ho ha hb hm) λ_ _ _ h=>tH hp h
theorem Cv{op:CmpOp}{i:Nat}(ho:bx X (WM op) r)(hp:b9 r p)(ha:PE X a (bZ i))(hb:SB X c b fb)(hm:Qu op b=false):SE X c (.Compare a [op] [b] pos) (ak p i fb):=PE.weak (A0 ho ha hb hm) λ_ _ _ h=>tK hp h
theorem Cw(hr:gv X r)(hp:b9 r p)(ha:SE X c a fa)(hb:SB X c b fb)(hs:om b):SE X c (.Subscript a b pos) (aD p fa fb):=PE.weak (qh hr ha hb hs) λ_ _ _ h=>tH hp h
theorem bB{i:Nat}(hr:gv X r)(hp:b9 r p)(ha:PE X a (bZ i))(hb:SB X c b fb)(hs:om b):SE X c (.Subscript a b pos) (ak p i fb):=PE.weak (qh hr ha hb hs) λ_ _ _ h=>tK hp h
end
abbrev DT:=Dl->Rs Bool
def tT(c:Fc)(f:DT):TT:=λσ H Q=>∃ δ,Ok c σ δ H/\post c (f δ) λb δ'=>∀ H',aV c σ δ H σ δ' H'->Q b H'
abbrev ST(X:Cx)(c:Fc)(e:Expr)(f:DT):Prop:=PT X e (tT c f)
theorem PT.weak(h:PT X e t)(w:∀ σ H Q,t' σ H Q->t σ H Q):PT X e t':=λpins s σ H Q I q=>h pins s σ H Q I (w σ H Q q)
def aB(f:DE):DT:=λδ=>(f δ).bind λr δ'=>match r with
 | .pure (.bl b)=>.ok b δ'
 | _=>.stuck
section
variable {X:Cx} {c:Fc} {a b:Expr} {fa f:DE} {fb:BE} {r:R2} {p:D->D->Option S} {pos:Pos}
theorem wD(h:tT c (aB f) σ H Q):tD c f σ H λx H'=>∃ k,x = .bl k/\Q k H':=by
 obtain⟨δ,k,q⟩:=h;refine⟨δ,k,?_⟩;unfold aB at q;rw[ba] at q;refine aS q λr δ1 q1 v H1 a1 r1=>?_
 cases r with
 | own d=>exact q1.elim
 | pure d =>
  cases d <;> first | exact q1.elim | skip
  rename_i b
  cases r1;exact⟨b,rfl,q1 H1 a1⟩
theorem eK{op:CmpOp}(ho:bx X (WM op) r)(hp:b9 r p)(ha:SE X c a fa)(hb:SB X c b fb)(hm:Qu op b=false):ST X c (.Compare a [op] [b] pos) (aB (aD p fa fb)) :=
 PT.weak (A1 ho ha hb hm) λσ H Q h=>tH hp (wD h)
theorem kG{op:CmpOp}{i:Nat}(ho:bx X (WM op) r)(hp:b9 r p)(ha:PE X a (bZ i))(hb:SB X c b fb)(hm:Qu op b=false):ST X c (.Compare a [op] [b] pos) (aB (ak p i fb)) :=
 PT.weak (A1 ho ha hb hm) λσ H Q h=>tK hp (wD h)
theorem nj{e:Expr}(h:SE X c e f)(he:∀ whole,isTrue e X.env whole=(do let v <- whole; standAt e.pos; holding [v] (truthy v)):=by intro _; rfl):ST X c e (aB f) :=
 PT.weak (Hv h he) λσ H Q h=>wD h
def kH(t u:DT):DT:=λδ=>(t δ).bind λb δ1=>if b then u δ1 else .ok false δ1
def gz(t u:DT):DT:=λδ=>(t δ).bind λb δ1=>if b then .ok true δ1 else u δ1
def gG(t:DT):DT:=λδ=>(t δ).bind λb δ1=>.ok (!b) δ1
abbrev SW(X:Cx)(c:Fc)(e:Expr)(f:DT):Prop:=PW X e (tT c f)
theorem PW.weak(h:PW X e t)(w:∀ σ H Q,t' σ H Q->t σ H Q):PW X e t':=λwh pins s σ H Q I q=>h wh pins s σ H Q I (w σ H Q q)
variable {t u:DT} {rest:List Expr}
theorem wF(ha:ST X c a t):SW X c (.BoolOp .And [a] pos) t:=Hz ha
theorem wG(ha:ST X c a t):SW X c (.BoolOp .Or [a] pos) t:=HA ha
theorem wH(ha:ST X c a t)(hb:SW X c (.BoolOp .And (b :: rest) pos) u):SW X c (.BoolOp .And (a :: b :: rest) pos) (kH t u):=PW.weak (HB ha hb) λσ H Q ⟨δ,k,q⟩=>by
 unfold kH at q;rw[ba] at q;refine⟨δ,k,aS q λx δ1 q1 H1 a1=>?_⟩
 cases x with
 | true=>exact⟨δ1,a1.ok,aS q1 λy δ2 q2 H2 a2=>q2 H2 (a1.trans a2)⟩
 | false=>exact q1 H1 a1
theorem oB(ha:ST X c a t)(hb:SW X c (.BoolOp .Or (b :: rest) pos) u):SW X c (.BoolOp .Or (a :: b :: rest) pos) (gz t u):=PW.weak (pw_or ha hb) λσ H Q ⟨δ,k,q⟩=>by
 unfold gz at q;rw[ba] at q;refine⟨δ,k,aS q λx δ1 q1 H1 a1=>?_⟩
 cases x with
 | false=>exact⟨δ1,a1.ok,aS q1 λy δ2 q2 H2 a2=>q2 H2 (a1.trans a2)⟩
 | true=>exact q1 H1 a1
theorem oC(h:SW X c a t):ST X c a t:=PW.pt h
theorem oD(ha:ST X c a t):ST X c (.UnaryOp .Not a pos) (gG t):=PT.weak (HC ha) λσ H Q ⟨δ,k,q⟩=>by
 unfold gG at q;rw[ba] at q;exact⟨δ,k,q⟩
def wI(f g:DE):DE:=λδ=>(f δ).bind λr δ1=>match r with
 | .pure (.bl true)=>g δ1
 | .pure (.bl false)=>.ok (.pure (.bl false)) δ1
 | _=>.stuck
def wJ(f:DE):DE:=λδ=>(f δ).bind λr δ1=>match r with
 | .pure (.bl b)=>.ok (.pure (.bl (!b))) δ1
 | _=>.stuck
def qB(t:DT)(f g:DE):DE:=λδ=>(t δ).bind λb δ1=>if b then f δ1 else g δ1
variable {g:DE}
theorem L4{op}(h:SE X c a f):SE X c (.BoolOp op [a] pos) f:=HF h
theorem L5(ha:SE X c a f)(hb:SE X c (.BoolOp .And (b :: rest) pos) g):SE X c (.BoolOp .And (a :: b :: rest) pos) (wI f g):=PE.weak (HG ha hb) λσ H Q ⟨δ,k,q⟩=>by
 unfold wI at q;rw[ba] at q;refine⟨δ,k,aS q λr δ1 q1 v H1 a1 r1=>?_⟩
 cases r with
 | own d=>exact q1.elim
 | pure d =>
  cases d <;> first | exact q1.elim | skip
  rename_i b
  cases r1;refine⟨b,rfl,?_⟩
  cases b with
  | true=>exact⟨δ1,a1.ok,aS q1 λy δ2 q2 v H2 a2 r2=>q2 v H2 (a1.trans a2) (bf.back r2 a1)⟩
  | false=>exact q1 _ H1 a1 (.bl false)
theorem L6(ha:SE X c a f):SE X c (.UnaryOp .Not a pos) (wJ f):=PE.weak (HH ha) λσ H Q ⟨δ,k,q⟩=>by
 unfold wJ at q;rw[ba] at q;refine⟨δ,k,aS q λr δ1 q1 v H1 a1 r1=>?_⟩
 cases r with
 | own d=>exact q1.elim
 | pure d =>
  cases d <;> first | exact q1.elim | skip
  rename_i b
  cases r1;exact⟨b,rfl,q1 _ H1 a1 (.bl _)⟩
theorem L7{e:Expr}(ht:ST X c e t)(ha:SE X c a f)(hb:SE X c b g):SE X c (.IfExp e a b pos) (qB t f g):=PE.weak (HJ ht ha hb) λσ H Q ⟨δ,k,q⟩=>by
 unfold qB at q;rw[ba] at q;refine⟨δ,k,aS q λx δ1 q1 H1 a1=>?_⟩
 cases x with
 | true=>exact⟨δ1,a1.ok,aS q1 λy δ2 q2 v H2 a2 r2=>q2 v H2 (a1.trans a2) (bf.back r2 a1)⟩
 | false=>exact⟨δ1,a1.ok,aS q1 λy δ2 q2 v H2 a2 r2=>q2 v H2 (a1.trans a2) (bf.back r2 a1)⟩
end
section
variable {c:Fc} {σ:St} {δ:Dl} {H:Hp} {x:V}
theorem cJ.int(h:cJ c σ δ H x (.int i)):x = .int i:=by
 rcases h with h | ⟨_,_,h⟩
 ·cases h; rfl
 ·exact h.elim
theorem cJ.bl(h:cJ c σ δ H x (.bl b)):x = .bl b:=by
 rcases h with h | ⟨_,_,h⟩
 ·cases h; rfl
 ·exact h.elim
theorem cJ.str(h:cJ c σ δ H x (.str z)):x = .str (toS z):=by
 rcases h with h | ⟨_,_,h⟩
 ·cases h; rfl
 ·exact h.elim
theorem cJ.tup(h:cJ c σ δ H x (.tup ds)):∃ a vs,x = .ref a/\H a=some (.tup vs)/\aH H (Av c σ δ) vs ds:=by
 rcases h with h | ⟨_,_,h⟩
 ·cases h with
  | tup h1 h2 h3 h4=>exact⟨_,_,rfl,h2,h3,h4⟩
 ·exact h.elim
theorem cJ.lst(h:cJ c σ δ H x (.lst ds)):∃ a vs,x = .ref a/\Rd H a (.lst vs)/\aH H (Av c σ δ) vs ds:=by
 rcases h with h | ⟨a,e,h⟩
 ·cases h with
  | lst h1 h2 h3 h4=>exact⟨_,_,rfl,h2,h3,h4⟩
 ·obtain⟨vs,h1,h2⟩:=h;exact⟨a,vs,e,.inl h1,h2⟩
theorem cJ.aw(h:cJ c σ δ H x (.aw ds)):∃ a ws,x = .ref a/\H a=some (.dK ws)/\ws.map (·.1)=ds.map (λp=>cD p.1)/\∀ (i:Nat) p q,ws[i]? = some p->ds[i]? = some q->Rep H (Av c σ δ) p.2 q.2:=by
 rcases h with h | ⟨a,e,h⟩
 ·cases h with
  | aw h1 h2 h3 h4=>exact⟨_,_,rfl,h2,h3,h4⟩
 ·obtain⟨ws,h1,h2,h3⟩:=h;exact⟨a,ws,e,h1,h2,h3⟩
end
theorem Cy(h:z.length<=Wc):(toS z).length<=Wc:=by rw[ji]; exact h
theorem L8(x y:Tx):toS x ++ toS y=toS (x ++ y):=by
 show Str.append (toS x) (toS y)=_;simp[toS,Str.append]
def bX:D->D->Option S
 | .int i,.int j=>some (.pure (.int (i + j)))
 | .str x,.str y=>if x.length + y.length<=Wc then some (.pure (.str (x ++ y))) else none
 | .tup xs,.tup ys=>if xs.length + ys.length<=Wc then some (.pure (.tup (xs ++ ys))) else none
 | .lst xs,.lst ys=>if xs.length + ys.length<=Wc then some (.own (.lst (xs ++ ys))) else none
 | _,_=>none
def Cz(K:W2):R2:=λx y H Q=>iD (λi j=>V.int (i + j)) x y H Q\/(∃ i j,x = .str i/\y = .str j/\i.length + j.length<=Wc/\Q (.str (i ++ j)) H) \/
 (∃ a b ys,x = .ref a/\y = .ref b/\cL K H a []/\cL K H b ys/\Q (.ref b) H)\/Bj K x y H Q\/Cn K x y H Q
theorem hU:bx X (Qc .Add) (Cz X.K):=AY.or (IC.or (LU.or (Kd.or LV)))
theorem hZ{K:W2}:b9 (Cz K) bX:=by
 intro c σ δ H x y d e s Q k rx ry hp q
 cases d <;> cases e <;> first
  | (simp[bX] at hp; done)
  | skip
 ·rename_i i j;simp only[bX,W8] at hp;subst hp;exact .inl ⟨i,j,rx.int,ry.int,q _ H (.refl k) (.int _)⟩
 ·rename_i u w;simp only[bX] at hp;split at hp
  ·rename_i hz;simp only[W8] at hp;subst hp;refine .inr (.inl ⟨toS u,toS w,rx.str,ry.str,by rw[ji,ji]; exact hz,?_⟩);rw[L8];exact q _ H (.refl k) (.str _)
  ·cases hp
 ·rename_i us ws;simp only[bX] at hp;split at hp
  ·rename_i hz;simp only[W8] at hp;subst hp;obtain⟨a,vs,ea,ha,ra⟩:=rx.tup;obtain⟨b,zs,eb,hb,rb⟩:=ry.tup
   cases vs with
   | nil =>
    have:us=[]:=by have:=ra.1; simpa using this.symm
    subst this;refine .inr (.inr (.inl ⟨a,b,zs,ea,eb,.of ha,.of hb,?_⟩));rw[eb] at ry;rcases ry with ry | ⟨_,_,ry⟩
    ·exact q _ H (.refl k) ry
    ·exact ry.elim
   | cons v0 vr =>
    refine .inr (.inr (.inr (.inl ⟨a,b,_,zs,ea,eb,.of ha,.of hb,by simp,by rw[ra.1,rb.1]; exact hz,λe0=>?_,λ_ p hp=>?_⟩)))
    ·subst e0;have:ws=[]:=by have:=rb.1; simpa using this.symm
     subst this;rw[ea] at rx;rcases rx with rx | ⟨_,_,rx⟩
     ·rw[QM] at q;exact q _ H (.refl k) rx
     ·exact rx.elim
    ·exact q _ _ (.alloc k hp _) (bf.oz k (ra.append rb) hp)
  ·cases hp
 ·rename_i us ws;simp only[bX] at hp;split at hp
  ·rename_i hz;simp only[W8] at hp;subst hp;obtain⟨a,vs,ea,ha,ra⟩:=rx.lst;obtain⟨b,zs,eb,hb,rb⟩:=ry.lst;exact .inr (.inr (.inr (.inr ⟨a,b,vs,zs,ea,eb,.inl ha,.inl hb,by rw[ra.1,rb.1]; exact hz,λp hp=>q _ _ (.alloc k hp _) (bf.oy k (ra.append rb) hp)⟩)))
  ·cases hp
def eC(C:Int->Int->Bool)(g:Int->Int->D):D->D->Option S
 | .int i,.int j=>if C i j then some (.pure (g i j)) else none
 | _,_=>none
theorem nq(hC:∀ i j,C' i j=true->C i j)(hg:∀ i j H O,Rep H O (g i j) (g' i j)):b9 (rI C g) (eC C' g'):=by
 intro c σ δ H x y d e s Q k rx ry hp q
 cases d <;> cases e <;> first
  | (simp[eC] at hp; done)
  | skip
 rename_i i j;simp only[eC] at hp;split at hp
 ·rename_i hc;simp only[W8] at hp;subst hp;exact⟨i,j,rx.int,ry.int,hC i j hc,q _ H (.refl k) (hg i j H _)⟩
 ·cases hp
theorem L9(hg:∀ i j H O,Rep H O (g i j) (g' i j)):b9 (iD g) (eC (λ_ _=>true) g'):=by
 intro c σ δ H x y d e s Q k rx ry hp q
 cases d <;> cases e <;> first
  | (simp[eC] at hp; done)
  | skip
 rename_i i j;simp only[eC,if_true,W8] at hp;subst hp;exact⟨i,j,rx.int,ry.int,q _ H (.refl k) (hg i j H _)⟩
def jo:=eC (λ_ _=>true) λi j=>.int (i - j)
theorem wK:b9 (iD λi j=>V.int (i - j)) jo:=L9 λ_ _ _ _=>.int _
def jT(i j:Int):Bool:=(decide (-(2 ^ 64) < i) && decide (i < 2 ^ 64)) || (decide (-(2 ^ 64) < j) && decide (j < 2 ^ 64))
def qC:=eC jT λi j=>.int (i * j)
theorem L_:b9 (rI qb λi j=>V.int (i * j)) qC:=nq (λi j h=>by
 unfold jT at h;simp only[Bool.or_eq_true,Wv,decide_eq_true_eq] at h;exact h) λ_ _ _ _=>.int _
def qD(_ j:Int):Bool:=decide (0 < j) && decide (j < 1073741824)
def qE:=eC qD λi j=>.int (i / j)
theorem CA:b9 (rI AW λi j=>V.int (i / j)) qE:=nq (λi j h=>by
 unfold qD at h;simp only[Wv,decide_eq_true_eq] at h;exact h) λ_ _ _ _=>.int _
def e9:=eC (λ_ j=>decide (0 < j)) λi j=>.int (i % j)
theorem lU:b9 (rI (λ_ j=>0 < j) λi j=>V.int (i % j)) e9:=nq (λi j h=>by simpa using h) λ_ _ _ _=>.int _
def wL(i j:Int):Bool:=decide (0<=j) && decide (j<=1000000) && decide (i.natAbs < 2 ^ 64)
def wM:=eC wL λi j=>.int (i ^ j.toNat)
theorem Ma:b9 (rI AX λi j=>V.int (i ^ j.toNat)) wM:=nq (λi j h=>by
 unfold wL at h;simp only[Wv,decide_eq_true_eq] at h;exact⟨h.1.1,h.1.2,h.2⟩) λ_ _ _ _=>.int _
def bU(d e:D):Option S:=if flat 50 d && flat 50 e then some (.pure (.bl (aA d e))) else none
def cZ(d e:D):Option S:=if flat 50 d && flat 50 e then some (.pure (.bl (!aA d e))) else none
theorem jq:b9 Cd bU:=by
 intro c σ δ H x y d e s Q k rx ry hp q;unfold bU at hp;split at hp
 ·rename_i hf;rw[Wv] at hf;simp only[W8] at hp;subst hp;exact⟨d,e,rx.un,ry.un,hf.1,hf.2,q _ H (.refl k) (.bl _)⟩
 ·cases hp
theorem lV:b9 Ce cZ:=by
 intro c σ δ H x y d e s Q k rx ry hp q;unfold cZ at hp;split at hp
 ·rename_i hf;rw[Wv] at hf;simp only[W8] at hp;subst hp;exact⟨d,e,rx.un,ry.un,hf.1,hf.2,q _ H (.refl k) (.bl _)⟩
 ·cases hp
def iJ(f:Int->Int->Bool)(g:Tx->Tx->Bool):D->D->Option S
 | .int i,.int j=>some (.pure (.bl (f i j)))
 | .str x,.str y=>some (.pure (.bl (g x y)))
 | _,_=>none
def qF(f:Int->Int->Bool)(g:List Nat->List Nat->Bool):R2:=λx y H Q=>iD (λi j=>V.bl (f i j)) x y H Q\/∃ i j,x = .str i/\y = .str j/\Q (.bl (g i.cps.toList j.cps.toList)) H
theorem lW:b9 (qF f g) (iJ f g):=by
 intro c σ δ H x y d e s Q k rx ry hp q
 cases d <;> cases e <;> first
  | (simp[iJ] at hp; done)
  | skip
 ·rename_i i j;simp only[iJ,W8] at hp;subst hp;exact .inl ⟨i,j,rx.int,ry.int,q _ H (.refl k) (.bl _)⟩
 ·rename_i i j;simp only[iJ,W8] at hp;subst hp;refine .inr ⟨toS i,toS j,rx.str,ry.str,?_⟩;rw[sX,sX];exact q _ H (.refl k) (.bl _)
theorem CB{X:Cx}{op:CmpOp}{g:List Nat->List Nat->Bool}(rule:∀ (i j:Str) (t u:Tok) (Q:Value->W3->Prop) (s:W3),Q (.bool (g i.cps.toList j.cps.toList)) s->We (model X.prog X.w) X.A (WM op (.str i t) (.str j u)) Q X.xe s) :
  bx X (WM op) (λx y H Q=>∃ i j,x = .str i/\y = .str j/\Q (.bl (g i.cps.toList j.cps.toList)) H):=by
 intro pins s σ H x y v u Q I rx ry h;obtain⟨i,j,rfl,rfl,q⟩:=h;obtain⟨t,rfl⟩:=rx;obtain⟨t',rfl⟩:=ry;exact rule i j t t' _ s ⟨.bl _,H,I,rfl,q⟩
def kI:=iJ (λi j=>decide (i < j)) λx y=>decide (x < y)
theorem wN:bx X (WM .Lt) (qF (λi j=>decide (i < j)) λx y=>decide (x < y)):=Ir.or Iw
theorem wO:b9 (qF (λi j=>decide (i < j)) λx y=>decide (x < y)) kI:=lW
def ax:D->D->Option S
 | .lst ds,.int i=>(c8 ds i).map .pure
 | .tup ds,.int i=>(c8 ds i).map .pure
 | .str x,.int i=>if x.length<=Wc then(c8 x i).map λn=>.pure (.str [n]) else none
 | _,_=>none
theorem CD(r:aH H O vs ds)(h:c8 ds i=some d):∃ v,c8 vs i=some v/\Rep H O v d:=by
 unfold c8 at h ⊢;rw[r.1]
 cases e:dW ds.length i with
 | none=>rw[e] at h; cases h
 | some j =>
  rw[e] at h;exact r.get h
theorem bC{K:W2}:b9 (qj K) ax:=by
 intro c σ δ H x y d e s Q k rx ry hp q
 cases d <;> cases e <;> first
  | (simp[ax] at hp; done)
  | skip
 ·rename_i z i;simp only[ax] at hp;split at hp
  ·rename_i hz
   cases e1:c8 z i with
   | none=>rw[e1] at hp; cases hp
   | some n =>
    rw[e1] at hp;simp only[WB,W8] at hp;subst hp;refine .inr (.inr ⟨toS z,i,n,rx.str,ry.int,Cy hz,by rw[sX]; exact e1,?_⟩);exact q (.str (toS [n])) H (.refl k) (.str [n])
  ·cases hp
 ·rename_i ds i;simp only[ax] at hp
  cases e1:c8 ds i with
  | none=>rw[e1] at hp; cases hp
  | some n =>
   rw[e1] at hp;simp only[WB,W8] at hp;subst hp;obtain⟨a,vs,ea,ha,ra⟩:=rx.tup;obtain⟨v,e2,r2⟩:=CD ra e1;exact .inr (.inl ⟨a,vs,i,v,ea,ry.int,.of ha,e2,q v H (.refl k) r2⟩)
 ·rename_i ds i;simp only[ax] at hp
  cases e1:c8 ds i with
  | none=>rw[e1] at hp; cases hp
  | some n =>
   rw[e1] at hp;simp only[WB,W8] at hp;subst hp;obtain⟨a,vs,ea,ha,ra⟩:=rx.lst;obtain⟨v,e2,r2⟩:=CD ra e1;exact .inl ⟨a,vs,i,v,ea,ry.int,.inl ha,e2,q v H (.refl k) r2⟩
def fT:=iJ (λi j=>decide (j < i)) λx y=>decide (y < x)
def CF:=iJ (λi j=>decide (j<=i)) λx y=>!decide (x < y)
theorem oE:bx X (WM .Gt) (qF (λi j=>decide (j < i)) λx y=>decide (y < x)):=Iu.or (CB (g:=λx y=>decide (y < x)) λ_ _ _ _ _ _ h=>PySem.P.gt_str h)
theorem Mb:bx X (WM .GtE) (qF (λi j=>decide (j<=i)) λx y=>!decide (x < y)):=Iv.or (CB (g:=λx y=>!decide (x < y)) λ_ _ _ _ _ _ h=>PySem.P.ge_str h)
abbrev DA:=Dl->Rs (List D)
def Mc(c:Fc)(f:DA):TA:=λσ H Q=>∃ δ,Ok c σ δ H/\post c (f δ) λds δ'=>∀ vs H',aV c σ δ H σ δ' H'->aH H' (Av c σ δ') vs ds->Q vs H'
structure SA(X:Cx)(c:Fc)(es:List Expr)(f:DA):Prop where
 pa:PA X es (Mc c f)
 len:∀ δ ds δ',f δ = .ok ds δ'->ds.length=es.length
theorem PA.weak(h:PA X es t)(w:∀ σ H Q,t' σ H Q->t σ H Q):PA X es t':=λpos pins s σ H Q I q=>h pos pins s σ H Q I (w σ H Q q)
def cP:DA:=λδ=>.ok [] δ
def bS(f:DE)(g:DA):DA:=λδ=>(f δ).bind λx δ1=>(g δ1).bind λxs δ2=>.ok (x.d :: xs) δ2
section
variable {X:Cx} {c:Fc} {e:Expr} {es:List Expr} {f:DE} {g:DA} {pos:Pos}
theorem fA:SA X c [] cP:=⟨PA.weak iF λσ H Q ⟨δ,k,q⟩=>q [] H (.refl k) .nil,λδ ds δ' h=>by cases h; rfl⟩
theorem CG(ha:SE X c e f)(hr:SA X c es g)(hs:Wk (e :: es) X.env=(false,eval e X.env) :: Wk es X.env:=by rfl):SA X c (e :: es) (bS f g):=by
 refine⟨PA.weak (fK ha hr.pa hs) λσ H Q ⟨δ,k,q⟩=>?_,λδ ds δ' h=>?_⟩
 ·unfold bS at q;rw[ba] at q;refine⟨δ,k,aS q λx δ1 q1 v H1 a1 r1=>⟨δ1,a1.ok,?_⟩⟩;rw[ba] at q1;exact aS q1 λxs δ2 q2 vs H2 a2 r2=>q2 (v :: vs) H2 (a1.trans a2) (.cons (Rep.dh r1.rep a2) r2)
 ·unfold bS at h
  cases h1:f δ with
  | ok x δ1 =>
   rw[h1] at h
   cases h2:g δ1 with
   | ok xs δ2 =>
    simp only[Rs.bind,h2] at h
    cases h;simp[hr.len _ _ _ h2]
   | exc x δx=>simp only[Rs.bind,h2] at h; cases h
   | stuck=>simp only[Rs.bind,h2] at h; cases h
  | exc x δx=>rw[h1] at h; cases h
  | stuck=>rw[h1] at h; cases h
def h9(f:DA):DE:=λδ=>(f δ).bind λds δ'=>.ok (.pure (.tup ds)) δ'
def fU(f:DA):DE:=λδ=>(f δ).bind λds δ'=>.ok (.own (.lst ds)) δ'
theorem CH(h:n<=1000):n<=Wc:=Jn (La h)
theorem CI(h:post c r k):post c r λa δ=>r = .ok a δ/\k a δ:=by
 cases r with
 | ok a δ=>exact⟨rfl,h⟩
 | exc x δx=>exact h
 | stuck=>exact h
theorem oF{x1}(h:SA X c es g)(hz:es.length<=1000:=by decide):SE X c (.Tuple es x1 pos) (h9 g):=PE.weak (IL h.pa) λσ H Q ⟨δ,k,q⟩=>by
 unfold h9 at q;rw[ba] at q;refine⟨δ,k,aS (CI q) λds δ1 ⟨e1,q1⟩ vs H1 a1 r1=>?_⟩;have hl:=h.len _ _ _ e1;exact⟨by rw[r1.1,hl]; exact CH hz,λp hp=>q1 _ _ (a1.trans (.alloc a1.ok hp _)) (bf.back (bf.oz a1.ok r1 hp) a1)⟩
theorem jU(h:SA X c es g)(hz:es.length<=1000:=by decide):SE X c (.List es pos) (fU g):=PE.weak (IM h.pa) λσ H Q ⟨δ,k,q⟩=>by
 unfold fU at q;rw[ba] at q;refine⟨δ,k,aS (CI q) λds δ1 ⟨e1,q1⟩ vs H1 a1 r1=>?_⟩;have hl:=h.len _ _ _ e1;exact⟨by rw[r1.1,hl]; exact CH hz,λp hp=>q1 _ _ (a1.trans (.alloc a1.ok hp _)) (bf.back (bf.oy a1.ok r1 hp) a1)⟩
end
def p1(p:D->Option S)(x:D)(δ:Dl):Rs S:=match p x with
 | some s=>.ok s δ
 | none=>.stuck
def aO(p:D->Option S)(fb:BE):DE:=λδ=>(fb δ).bind λx δ1=>p1 p x δ1
def lX(r:V->Hp->VK->Prop)(p:D->Option S):Prop:=∀ (c:Fc) (σ:St) (δ:Dl) (H:Hp) (x:V) (d:D) (s:S) (Q:VK),Ok c σ δ H->cJ c σ δ H x d->p d=some s ->
 (∀ v H',aV c σ δ H σ δ H'->bf c σ δ H H' v s->Q v H')->r x H Q
section
variable {X:Cx} {c:Fc} {e:Expr} {fb:BE} {r:V->Hp->VK->Prop} {p:D->Option S} {x:Str} {id T:String} {pp pos:Pos}
theorem CJ(hp:lX r p)(k:Ok c σ δ H)(rx:cJ c σ δ H v d)
  (h:post c (p1 p d δ) λs δ'=>∀ v H',aV c σ δ H σ δ' H'->bf c σ δ' H H' v s->Q v H'):r v H Q:=by
 unfold p1 at h
 cases e1:p d with
 | none=>rw[e1] at h; exact h.elim
 | some s=>rw[e1] at h; exact hp c σ δ H v d s Q k rx e1 h
theorem tM(hp:lX r p)(h:tD c (aO p fb) σ H Q):AU r (tB c fb) σ H Q:=by
 obtain⟨δ,k,q⟩:=h;unfold aO at q;rw[ba] at q;exact⟨δ,k,aS q λy δ1 q1 v H1 a1 r1=>CJ hp a1.ok r1 (aS q1 λs δ2 q2 w H2 a2 r2=>q2 w H2 (a1.trans a2) (bf.back r2 a1))⟩
theorem qG(hc:er X (.builtin id) rl)(hl:∀ v H Q,r v H Q->rl [v] H Q)(hp:lX r p)(hg:Gl X x)(hm:X.mg x=none)(hv:QC x=some (.builtin id))(he:SB X c e fb)
  (hn:x≠"__name__":=by decide) (gZ:(x == ("__debug__" : Str))=false:=by decide) (hs:Wk [e] X.env=(false,eval e X.env) :: Wk [] X.env:=by rfl) (dB:(QK pos (Wk [] X.env)).any (·.1)=false:=by rfl) :
  SE X c (.Call (.Name x pp) [e] [] pos) (aO p fb):=PE.weak (vK hc hg hm hv (fK he iF hs) hn gZ hs dB) λσ H Q h=>by
 obtain⟨δ,k,q⟩:=tM hp h;exact⟨δ,k,aS q λy δ1 q1 v H1 a1 r1=>hl _ _ _ (q1 v H1 a1 r1)⟩
theorem tN(hc:er X (.type T) rl)(hl:∀ v H Q,r v H Q->rl [v] H Q)(hp:lX r p)(hg:Gl X x)(hm:X.mg x=none)(hv:QC x=some (.type T))(he:SB X c e fb)
  (hn:x≠"__name__":=by decide) (gZ:(x == ("__debug__" : Str))=false:=by decide) (hs:Wk [e] X.env=(false,eval e X.env) :: Wk [] X.env:=by rfl) (dB:(QK pos (Wk [] X.env)).any (·.1)=false:=by rfl) :
  SE X c (.Call (.Name x pp) [e] [] pos) (aO p fb):=PE.weak (IV hc hg hm hv (fK he iF hs) hn gZ hs dB) λσ H Q h=>by
 obtain⟨δ,k,q⟩:=tM hp h;exact⟨δ,k,aS q λy δ1 q1 v H1 a1 r1=>hl _ _ _ (q1 v H1 a1 r1)⟩
def bh:D->Option S
 | .lst ds=>some (.pure (.int ds.length))
 | .tup ds=>some (.pure (.int ds.length))
 | .str z=>if z.length<=Wc then some (.pure (.int z.length)) else none
 | .aw ds=>some (.pure (.int ds.length))
 | _=>none
def Md(K:W2):V->Hp->VK->Prop:=λv H Q=>((∃ p ys,v = .ref p/\(cq K H p ys\/cL K H p ys)/\Q (.int ys.length) H)\/∃ z,v = .str z/\z.length<=Wc/\Q (.int z.length) H)\/∃ a kvs,v=V.ref a/\H a=some (.dK kvs)/\Q (.int kvs.length) H
theorem Me{K:W2}:lX (Md K) bh:=by
 intro c σ δ H x d s Q k rx hp q
 cases d with
 | lst ds =>
  simp only[bh,W8] at hp;subst hp;obtain⟨a,vs,ea,ha,ra⟩:=rx.lst;exact .inl (.inl ⟨a,vs,ea,.inl (.inl ha),by rw[ra.1]; exact q _ H (.refl k) (.int _)⟩)
 | tup ds =>
  simp only[bh,W8] at hp;subst hp;obtain⟨a,vs,ea,ha,ra⟩:=rx.tup;exact .inl (.inl ⟨a,vs,ea,.inr (.of ha),by rw[ra.1]; exact q _ H (.refl k) (.int _)⟩)
 | str z =>
  simp only[bh] at hp;split at hp
  ·rename_i hz;simp only[W8] at hp;subst hp;exact .inl (.inr ⟨toS z,rx.str,Cy hz,by rw[ji]; exact q _ H (.refl k) (.int _)⟩)
  ·cases hp
 | aw ds =>
  simp only[bh,W8] at hp;subst hp;obtain⟨a,ws,ea,ha,h1,h2⟩:=rx.aw;have hl:ws.length=ds.length:=by have:=congrArg Jt h1; simpa using this
  exact .inr ⟨a,ws,ea,ha,by rw[hl]; exact q _ H (.refl k) (.int _)⟩
 | _=>simp[bh] at hp
theorem gH (hg:Gl X "len") (hm:X.mg "len" = none) (he:SB X c e fb) (hs:Wk [e] X.env=(false,eval e X.env) :: Wk [] X.env:=by rfl):SE X c (.Call (.Name "len" pp) [e] [] pos) (aO bh fb) :=
 qG ((Kq.or Kr).or Lb) (λv H Q h=>by
  rcases h with (⟨p,ys,e,h⟩ | ⟨z,e,h⟩) | ⟨a,kvs,e,h⟩
  ·exact .inl (.inl ⟨p,ys,by rw[e],h⟩)
  ·exact .inl (.inr ⟨z,by rw[e],h⟩)
  ·exact .inr ⟨a,kvs,by rw[e],h⟩) (Me (K:=X.K)) hg hm PySem.boot_len he (by decide) (by decide) hs
def e_:D->Option S
 | .lst ds=>some (.pure (.tup ds))
 | .tup ds=>some (.pure (.tup ds))
 | _=>none
def Mf(K:W2):V->Hp->VK->Prop:=λv H Q=>∃ p ys,v = .ref p/\((cq K H p ys/\∀ l,H l=none->Q (.ref l) (upd H l (.tup ys)))\/(cL K H p ys/\Q (.ref p) H))
theorem Mg{K:W2}:lX (Mf K) e_:=by
 intro c σ δ H x d s Q k rx hp q
 cases d with
 | lst ds =>
  simp only[e_,W8] at hp;subst hp;obtain⟨a,vs,ea,ha,ra⟩:=rx.lst;exact⟨a,vs,ea,.inl ⟨.inl ha,λl hl=>q _ _ (.alloc k hl _) (bf.oz k ra hl)⟩⟩
 | tup ds =>
  simp only[e_,W8] at hp;subst hp;obtain⟨a,vs,ea,ha,ra⟩:=rx.tup;refine⟨a,vs,ea,.inr ⟨.of ha,?_⟩⟩;rw[ea] at rx;rcases rx with rx | ⟨_,_,rx⟩
  ·exact q _ H (.refl k) rx
  ·exact rx.elim
 | _=>simp[e_] at hp
theorem qH (hg:Gl X "tuple") (hm:X.mg "tuple" = none) (he:SB X c e fb) (hs:Wk [e] X.env=(false,eval e X.env) :: Wk [] X.env:=by rfl):SE X c (.Call (.Name "tuple" pp) [e] [] pos) (aO e_ fb) :=
 tN Ks (λv H Q ⟨p,ys,e,h⟩=>⟨p,ys,by rw[e],h⟩) (Mg (K:=X.K)) hg hm PyProof.Rows.boot_tuple he (by decide) (by decide) hs
def oG:D->Option S
 | .int i=>some (.pure (.int i))
 | .bl b=>some (.pure (.int (if b then 1 else 0)))
 | _=>none
theorem Mh (hg:Gl X "int") (hm:X.mg "int" = none) (he:SB X c e fb) (hs:Wk [e] X.env=(false,eval e X.env) :: Wk [] X.env:=by rfl):SE X c (.Call (.Name "int" pp) [e] [] pos) (aO oG fb) :=
 tN (r:=λv H Q=>(∃ i,v = .int i/\Q (.int i) H)\/∃ k,v = .bl k/\Q (.int (if k then 1 else 0)) H) IF (λv H Q h=>by
  rcases h with ⟨i,e,q⟩ | ⟨k,e,q⟩
  ·exact .inl ⟨i,by rw[e],q⟩
  ·exact .inr ⟨k,by rw[e],q⟩) (λc σ δ H x d s Q k rx hp q=>by
  cases d with
  | int i =>
   simp only[oG,W8] at hp;subst hp;exact .inl ⟨i,rx.int,q _ H (.refl k) (.int _)⟩
  | bl b =>
   simp only[oG,W8] at hp;subst hp;exact .inr ⟨b,rx.bl,q _ H (.refl k) (.int _)⟩
  | _=>simp[oG] at hp) hg hm PyProof.Rows.boot_int he (by decide) (by decide) hs
def jV:List D->Option (List Bool)
 | []=>some []
 | .bl b :: r=>(jV r).map (b :: ·)
 | _ :: _=>none
def fB:List D->Option (List Tx)
 | []=>some []
 | .str x :: r=>(fB r).map (x :: ·)
 | _ :: _=>none
theorem CK:∀ {ds:List D} {vs:List V} {bs:List Bool},jV ds=some bs->aH H O vs ds->vs=bs.map V.bl
 | [],vs,bs,h,r=>by
  simp only[jV,W8] at h;subst h;have:=r.1;simpa using this
 | d :: ds,[],bs,h,r=>by have:=r.1; simp at this
 | d :: ds,v :: vs,bs,h,r=>by
  cases d with
  | bl b =>
   simp only[jV] at h
   cases e:jV ds with
   | none=>rw[e] at h; cases h
   | some bs' =>
    rw[e] at h;simp only[WB,W8] at h;subst h;have:=r.head
    cases this;rw[CK e r.tail];rfl
  | _=>simp[jV] at h
theorem oH:∀ {ds:List D} {vs:List V} {bs:List Tx},fB ds=some bs->aH H O vs ds->vs=bs.map λz=>V.str (toS z)
 | [],vs,bs,h,r=>by
  simp only[fB,W8] at h;subst h;have:=r.1;simpa using this
 | d :: ds,[],bs,h,r=>by have:=r.1; simp at this
 | d :: ds,v :: vs,bs,h,r=>by
  cases d with
  | str b =>
   simp only[fB] at h
   cases e:fB ds with
   | none=>rw[e] at h; cases h
   | some bs' =>
    rw[e] at h;simp only[WB,W8] at h;subst h;have:=r.head
    cases this;rw[oH e r.tail];rfl
  | _=>simp[fB] at h
theorem CL:∀ ts:List Tx,aH H O (ts.map λz=>V.str (toS z)) (ts.map D.str)
 | []=>.nil
 | t :: ts=>.cons (.str t) (CL ts)
def kJ:D->Option S
 | .lst ds=>(jV ds).map λbs=>.pure (.bl (bs.all (λb=>b)))
 | _=>none
def nr:D->Option S
 | .lst ds=>match fB ds with
  | some ts=>if ts.length < 64 then some (.own (.lst ((hJ ts).map D.str))) else none
  | none=>none
 | _=>none
theorem Mi:QC "all" = some (.builtin "all"):=by decide +kernel
theorem Mj (hc:X.calm=true) (hg:Gl X "all") (hm:X.mg "all" = none) (he:SB X c e fb) (hs:Wk [e] X.env=(false,eval e X.env) :: Wk [] X.env:=by rfl):SE X c (.Call (.Name "all" pp) [e] [] pos) (aO kJ fb) :=
 qG (r:=λv H Q=>∃ (a:Addr) (bs:List Bool),v = .ref a/\cq X.K H a (bs.map V.bl)/\Q (.bl (bs.all (λb=>b))) H) (LX hc) (λv H Q ⟨a,bs,e,h⟩=>⟨a,bs,by rw[e],h⟩) (λc σ δ H x d s Q k rx hp q=>by
  cases d with
  | lst ds =>
   simp only[kJ] at hp
   cases e:jV ds with
   | none=>rw[e] at hp; cases hp
   | some bs =>
    rw[e] at hp;simp only[WB,W8] at hp;subst hp;obtain⟨a,vs,ea,ha,ra⟩:=rx.lst;have:=CK e ra;subst this;exact⟨a,bs,ea,.inl ha,q _ H (.refl k) (.bl _)⟩
  | _=>simp[kJ] at hp) hg hm Mi he (by decide) (by decide) hs
theorem CM (hg:Gl X "sorted") (hm:X.mg "sorted" = none) (he:SB X c e fb) (hs:Wk [e] X.env=(false,eval e X.env) :: Wk [] X.env:=by rfl):SE X c (.Call (.Name "sorted" pp) [e] [] pos) (aO nr fb) :=
 qG (r:=λv H Q=>∃ (a:Addr) (ts:List Tx),v = .ref a/\cq X.K H a (ts.map λz=>V.str (toS z))/\ts.length < 64/\∀ p,H p=none->Q (.ref p) (upd H p (.lst ((hJ ts).map λz=>V.str (toS z))))) L0 (λv H Q ⟨a,bs,e,h⟩=>⟨a,bs,by rw[e],h⟩) (λc σ δ H x d s Q k rx hp q=>by
  cases d with
  | lst ds =>
   simp only[nr] at hp
   cases e:fB ds with
   | none=>rw[e] at hp; cases hp
   | some ts =>
    rw[e] at hp;simp only at hp;split at hp
    ·rename_i hz;simp only[W8] at hp;subst hp;obtain⟨a,vs,ea,ha,ra⟩:=rx.lst;have:=oH e ra;subst this;exact⟨a,ts,ea,.inl ha,hz,λp hp=>q _ _ (.alloc k hp _) (bf.oy k (CL _) hp)⟩
    ·cases hp
  | _=>simp[nr] at hp) hg hm PyProof.Rows.boot_sorted he (by decide) (by decide) hs
def wQ:D->D->Option S
 | .int i,.int j=>some (.pure (.int (if j > i then j else i)))
 | _,_=>none
def tO(f g:DE):DE:=λδ=>(f δ).bind λx δ1=>(g δ1).bind λy δ2=>p2 wQ x.d y.d δ2
theorem Mk {a b:Expr} {f g:DE} (hc:X.calm=true) (hg:Gl X "max") (hm:X.mg "max" = none) (ha:SE X c a f) (hb:SE X c b g) (hs:Wk [a,b] X.env=(false,eval a X.env) :: Wk [b] X.env:=by rfl)
  (nt:Wk [b] X.env=(false,eval b X.env) :: Wk [] X.env:=by rfl) (dB:(QK pos (Wk [b] X.env)).any (·.1)=false:=by rfl):SE X c (.Call (.Name "max" pp) [a,b] [] pos) (tO f g) :=
 PE.weak (vK (IE hc) hg hm PyProof.Rows.boot_max (fK ha (fK hb iF nt) hs) (by decide) (by decide) hs dB) λσ H Q ⟨δ,k,q⟩=>by
  unfold tO at q;rw[ba] at q;refine⟨δ,k,aS q λx δ1 q1 v H1 a1 r1=>⟨δ1,a1.ok,?_⟩⟩;rw[ba] at q1;refine aS q1 λy δ2 q2 u H2 a2 r2=>?_
  unfold p2 at q2;have hx:cJ c σ δ2 H2 v x.d:=.inl (Rep.dh r1.rep a2);have hy:=r2.b;generalize x.d=dx at q2 hx;generalize y.d=dy at q2 hy
  cases dx <;> cases dy <;> first
   | exact q2.elim
   | skip
  rename_i i j;exact⟨i,j,by rw[hx.int,hy.int],q2 _ H2 (a1.trans a2) (.int _)⟩
def oI(T:String):D->Option Bool
 | .aJ=>some (T == "NoneType")
 | .bl _=>some (T == "bool" || T == "int")
 | .int _=>some (T == "int")
 | .str _=>some (T == "str")
 | .tup _=>some (T == "tuple")
 | .lst _=>some (T == "list")
 | .aw _=>some (T == "dict")
 | .exc _ _=>none
 | .xd _=>none
 | .fn _=>none
 | .dic _=>none
structure kK(K:W2)(T:String):Prop where
 aJ:QU K (.type "NoneType") (.type T)=some (T == "NoneType")
 bl:QU K (.type "bool") (.type T)=some (T == "bool" || T == "int")
 int:QU K (.type "int") (.type T)=some (T == "int")
 str:QU K (.type "str") (.type T)=some (T == "str")
 tup:QU K (.type "tuple") (.type T)=some (T == "tuple")
 lst:QU K (.type "list") (.type T)=some (T == "list")
 aw:QU K (.type "dict") (.type T)=some (T == "dict")
def kL(T:String)(fb:BE):DE:=λδ=>(fb δ).bind λd δ'=>match oI T d with
 | some b=>.ok (.pure (.bl b)) δ'
 | none=>.stuck
theorem Ml(ty:kK X.K T)(I:Inv X pins σ H s)(ru:RelV v u)(r:Rep H cO v d)(e:oI T d=some b)(q:Q (.bl b) H) :
  We (model X.prog X.w) X.A (call (.builtin "isinstance") [u,.type T]) (EP X pins σ Q) X.xe s:=by
 have fin:∀ tk,EP X pins σ Q (.bool b) { s with toks:=tk }:=λtk=>⟨.bl b,H,I.tok tk,rfl,q⟩
 cases r with
 | aJ=>exact lF I ru .aJ (ty.aJ.trans e) fin
 | bl x=>exact lF I ru (.bl x) (ty.bl.trans e) fin
 | int x=>exact lF I ru (.int x) (ty.int.trans e) fin
 | str x=>exact lF I ru (.str _) (ty.str.trans e) fin
 | tup _ h2 _ _=>exact lF I ru (.tup h2) (ty.tup.trans e) fin
 | lst _ h2 _ _ =>
  rcases h2 with h2 | ⟨o,h2⟩
  ·exact lF I ru (.lst h2) (ty.lst.trans e) fin
  ·exact lF I ru (.frz h2) (ty.lst.trans e) fin
 | aw _ h2 _ _=>exact lF I ru (.dK h2) (ty.aw.trans e) fin
 | exc _ _=>cases e
 | xd _ _=>cases e
 | fn _=>cases e
 | dic _=>cases e
theorem Mm (ty:kK X.K T):er X (.builtin "isinstance") (λxs H Q=>∃ v d b,xs=[v,.ty T]/\Rep H cO v d/\oI T d=some b/\Q (.bl b) H):=by
 intro pins s σ H xs us Q I r h;obtain⟨v,d,b,rfl,rp,e,q⟩:=h;obtain⟨u,w',rfl,r1,r2⟩:=A3 r
 cases r2;exact Ml ty I r1 rp e q
theorem tP {y:Str} {py:Pos} (ty:kK X.K T) (hg:Gl X "isinstance") (hm:X.mg "isinstance" = none) (Mn:Gl X y) (Mo:X.mg y=none) (Mp:QC y=some (.type T)) (he:SB X c e fb)
  (Mq:y≠"__name__":=by decide) (Mr:(y == ("__debug__" : Str))=false:=by decide)
  (hs:Wk [e,.Name y py] X.env=(false,eval e X.env) :: Wk [.Name y py] X.env:=by rfl) (dB:(QK pos (Wk [.Name y py] X.env)).any (·.1)=false:=by rfl) :
  SE X c (.Call (.Name "isinstance" pp) [e,.Name y py] [] pos) (kL T fb) :=
 PE.weak (vK (Mm ty) hg hm PyProof.Rows.boot_isinstance (fK he (fK (Ht (v:=.ty T) Mn Mo Mp rfl Mq Mr) iF) hs) (by decide) (by decide) hs dB) λσ H Q ⟨δ,k,q⟩=>by
  unfold kL at q;rw[ba] at q;refine⟨δ,k,aS q λd δ1 q1 v H1 a1 r1=>?_⟩
  cases e1:oI T d with
  | none=>rw[e1] at q1; exact q1.elim
  | some b =>
   rw[e1] at q1;exact⟨v,d,b,rfl,r1.un,e1,q1 _ H1 a1 (.bl _)⟩
end
abbrev lY:=Dl->Rs (Option Int)
def Ms(c:Fc)(f:lY):TO:=λσ H Q=>∃ δ,Ok c σ δ H/\post c (f δ) λo δ'=>∀ H',aV c σ δ H σ δ' H'->Q o H'
abbrev SO(X:Cx)(c:Fc)(e:Option Expr)(f:lY):Prop:=PO X e (Ms c f)
theorem PO.weak(h:PO X e t)(w:∀ σ H Q,t' σ H Q->t σ H Q):PO X e t':=λpins s σ H Q I q=>h pins s σ H Q I (w σ H Q q)
def qI:lY:=λδ=>.ok none δ
def jr(f:DE):lY:=λδ=>(f δ).bind λr δ'=>match r with
 | .pure (.int i)=>.ok (some i) δ'
 | _=>.stuck
section
variable {X:Cx} {c:Fc} {e:Expr} {f:DE} {fb:BE} {fl fh:lY} {lo hi:Option Expr} {pos p2:Pos}
theorem Mt:SO X c none qI:=PO.weak JY λσ H Q ⟨δ,k,q⟩=>q H (.refl k)
theorem wR(h:SE X c e f):SO X c (some e) (jr f):=PO.weak (JZ h) λσ H Q ⟨δ,k,q⟩=>by
 unfold jr at q;rw[ba] at q;refine⟨δ,k,aS q λr δ1 q1 v H1 a1 r1=>?_⟩
 cases r with
 | own d=>exact q1.elim
 | pure d =>
  cases d <;> first | exact q1.elim | skip
  rename_i i
  cases r1;exact⟨i,rfl,q1 H1 a1⟩
def iK(lo hi:Option Int):D->Option S
 | .str x=>if x.length<=Wc then some (.pure (.str (cY x lo hi))) else none
 | .tup ds=>some (.pure (.tup (cY ds lo hi)))
 | .lst ds=>some (.own (.lst (cY ds lo hi)))
 | _=>none
def CN(K:W2):V->Option Int->Option Int->Hp->VK->Prop:=λx lo hi H Q=>Cj x lo hi H Q\/Cg K x lo hi H Q\/Bq K x lo hi H Q
theorem Mu:jN X (CN X.K):=LS.or (LP.or Km)
theorem Mv{K:W2}(lo hi:Option Int):lX (λx H Q=>CN K x lo hi H Q) (iK lo hi):=by
 intro c σ δ H x d s Q k rx hp q
 cases d with
 | str z =>
  simp only[iK] at hp;split at hp
  ·rename_i hz;simp only[W8] at hp;subst hp;exact .inl ⟨z,rx.str,hz,q _ H (.refl k) (.str _)⟩
  ·cases hp
 | tup ds =>
  simp only[iK,W8] at hp;subst hp;obtain⟨a,vs,ea,ha,ra⟩:=rx.tup;refine .inr (.inl ⟨a,vs,ea,.of ha,λhw=>?_,λ_ p hp=>?_⟩)
  ·rw[ra.1] at hw;rw[LN hw] at q;rw[ea] at rx;rcases rx with rx | ⟨_,_,rx⟩
   ·exact q _ H (.refl k) rx
   ·exact rx.elim
  ·rw[<- Cf];exact q _ _ (.alloc k hp _) (bf.oz k (ra.cut lo hi) hp)
 | lst ds =>
  simp only[iK,W8] at hp;subst hp;obtain⟨a,vs,ea,ha,ra⟩:=rx.lst;refine .inr (.inr ⟨a,vs,ea,.inl ha,λp hp=>?_⟩);rw[<- Cf];exact q _ _ (.alloc k hp _) (bf.oy k (ra.cut lo hi) hp)
 | _=>simp[iK] at hp
def Mw(f:DE)(fl fh:lY):DE:=λδ=>(f δ).bind λx δ1=>(fl δ1).bind λl δ2=>(fh δ2).bind λh δ3=>p1 (iK l h) x.d δ3
def kM(i:Nat)(fl fh:lY):DE:=λδ=>match δ[i]? with
 | some (some _)=>(fl δ).bind λl δ2=>(fh δ2).bind λh δ3=>(aj i δ3).bind λx δ4=>p1 (iK l h) x δ4
 | _=>.stuck
theorem wU{i:Nat}{σ:St}{δ:Dl}{H:Hp}{v:V}{w:S}(k:Ok c σ δ H)(e:δ[i]? = some (some w))(ev:σ[i]? = some (some v)):cJ c σ δ H v w.d:=by
 cases w with
 | pure d =>
  obtain⟨v',e1,r⟩:=k.slot i d e;rw[ev] at e1; cases e1
  exact .inl r
 | own d =>
  obtain⟨a,e1,r,_⟩:=k.own i d e;rw[ev] at e1; cases e1
  exact .inr ⟨a,rfl,r⟩
theorem Mx(h:post c ((aj i δ).bind g) kk):∃ w,δ[i]? = some (some w)/\post c (g w.d δ) kk:=by
 unfold aj at h
 cases e:δ[i]? with
 | none=>rw[e] at h; exact h.elim
 | some o =>
  cases o with
  | none=>rw[e] at h; exact h.elim
  | some w=>rw[e] at h; exact⟨w,rfl,h⟩
theorem CO{i:Nat}(he:PE X e (bZ i))(hl:SO X c lo fl)(hh:SO X c hi fh):SE X c (.Subscript e (.Slice lo hi none p2) pos) (kM i fl fh):=PE.weak (Ka Mu he hl hh) λσ H Q ⟨δ,k,q⟩=>by
 unfold kM at q
 cases e:δ[i]? with
 | none=>rw[e] at q; exact q.elim
 | some o =>
  cases o with
  | none=>rw[e] at q; exact q.elim
  | some w =>
   rw[e] at q;obtain⟨v,ev⟩:=tJ k e;have q':post c ((fl δ).bind λl δ2=>(fh δ2).bind λh δ3=>(aj i δ3).bind λx δ4=>p1 (iK l h) x δ4) λr δ'=>∀ v H',aV c σ δ H σ δ' H'->bf c σ δ' H H' v r->Q v H':=q
   rw[ba] at q';refine⟨v,ev,δ,k,aS q' λl δ2 q2 H2 a2=>⟨δ2,a2.ok,?_⟩⟩;rw[ba] at q2;refine aS q2 λh δ3 q3 H3 a3=>?_
   obtain⟨w3,e3,q4⟩:=Mx q3;exact CJ (Mv l h) a3.ok (wU a3.ok e3 ev) (aS q4 λs δ4 q4 w H4 a4 r4=>q4 w H4 (a2.trans (a3.trans a4)) (bf.back r4 (a2.trans a3)))
def ju(z:Tx):List Tx->Tx
 | []=>[]
 | [x]=>x
 | x :: y :: r=>x ++ z ++ ju z (y :: r)
theorem CP(z:Tx):∀ (r:List Tx) (acc:Tx),((r.map toS).foldl (λ(acc:Array Nat) p=>acc ++ (toS z).cps ++ p.cps) acc.toArray)=(match r with | []=>acc | x :: r'=>acc ++ z ++ ju z (x :: r')).toArray
 | [],acc=>rfl
 | x :: r,acc=>by
  rw[Wo,Ji];have e:acc.toArray ++ (toS z).cps ++ (toS x).cps=(acc ++ z ++ x).toArray:=by simp[toS]
  rw[e,CP z r (acc ++ z ++ x)]
  cases r with
  | nil=>simp[ju]
  | cons y r'=>simp[ju]
theorem My(z:Tx)(ts:List Tx):Txt.join (toS z) (ts.map toS)=toS (ju z ts):=by
 show Builtin.Str.glued _ _=_;unfold Builtin.Str.glued
 cases ts with
 | nil=>rfl
 | cons x r =>
  rw[Wo];show(⟨(List.foldl _ (toS x).cps (r.map toS))⟩:Str)=_;have:=CP z r x;have e:(toS x).cps=x.toArray:=rfl;rw[e,this]
  cases r with
  | nil=>rfl
  | cons y r'=>rfl
def iM(ts:List Tx):Nat:=(ts.map (·.length)).sum
def dF(z:Tx):D->Option S
 | .lst ds=>match fB ds with
  | some ts=>if iM ts + ts.length * z.length<=16777216 then some (.pure (.str (ju z ts))) else none
  | none=>none
 | .tup ds=>match fB ds with
  | some ts=>if iM ts + ts.length * z.length<=16777216 then some (.pure (.str (ju z ts))) else none
  | none=>none
 | _=>none
theorem Mz{K:W2}(z:Tx):lX (λx H Q=>tG K (.str (toS z)) [x] H Q) (dF z):=by
 intro c σ δ H x d s Q k rx hp q;have key:∀ (a:Addr) (vs:List V) (ds:List D),x = .ref a->(cq K H a vs\/cL K H a vs)->aH H (Av c σ δ) vs ds->(match fB ds with | some ts=>if iM ts + ts.length * z.length<=16777216 then some (S.pure (.str (ju z ts))) else none | none=>none)=some s->tG K (.str (toS z)) [x] H Q:=by
  intro a vs ds ea ha ra hp
  cases e:fB ds with
  | none=>rw[e] at hp; cases hp
  | some ts =>
   rw[e] at hp;simp only at hp;split at hp
   ·rename_i hz;simp only[W8] at hp;subst hp;have:=oH e ra;subst this;refine⟨toS z,a,ts.map toS,rfl,by rw[ea],?_,?_,?_⟩
    ·rw[Wz]; exact ha
    ·rw[Wz,Q5,ji];have:((λx:Str=>x.length) ∘ toS)=λx:Tx=>x.length:=funext λx=>ji x
     rw[this];exact hz
    ·rw[My];exact q _ H (.refl k) (.str _)
   ·cases hp
 cases d with
 | lst ds =>
  obtain⟨a,vs,ea,ha,ra⟩:=rx.lst;exact key a vs ds ea (.inl (.inl ha)) ra hp
 | tup ds =>
  obtain⟨a,vs,ea,ha,ra⟩:=rx.tup;exact key a vs ds ea (.inr (.of ha)) ra hp
 | _=>simp[dF] at hp
theorem tQ{x:Str}{j}{p0 apos bA:Pos}(z:Tx)(he:SB X c e fb)(hx:x=toS z:=by decide +kernel)
  (g7:Qv (.Constant (.str x) j p0) "join" X.env (eval (.Constant (.str x) j p0) X.env)=eval (.Constant (.str x) j p0) X.env:=by rfl)
  (kB:((QK bA (Wk [e] X.env)).all (λx=>!x.1) && (backToKw bA (JP [] X.env)).all (λx=>x.1.isSome)
   && decide ([e].length + ([]:List Keyword).length + (if ([]:List Keyword).isEmpty then 0 else 1) < 30))=true:=by rfl)
  (dX:(apos.endLine == bA.line)=true:=by rfl) (hs:Wk [e] X.env=(false,eval e X.env) :: Wk [] X.env:=by rfl) :
  SE X c (.Call (.Attribute (.Constant (.str x) j p0) "join" apos) [e] [] bA) (aO (dF z) fb):=by
 subst hx;refine PE.weak (sI PySem.F.plainAttrs_str PySem.F.slot_str_join PySem.F.type_str_join LW Az (fK he iF hs) g7 kB dX hs rfl) λσ H Q h=>?_
 obtain⟨δ,k,q⟩:=tM (r:=λx H Q=>tG X.K (.str (toS z)) [x] H Q) (Mz z) h;refine⟨?_,δ,k,q⟩;show("str" : String) = "str";rfl
end
inductive Fl where
 | next | ret (r:S) | brk | cont
abbrev DS:=Dl->Rs Fl
def fin(c:Fc)(D:Ends)(σ:St)(δ:Dl)(H:Hp):Fl->Prop
 | .next=>D.nx σ H
 | .ret r=>∀ v,bf c σ δ c.H₀ H v r->D.rt v H
 | .brk=>D.bk σ H
 | .cont=>D.ct σ H
def fg(c:Fc)(D:Ends)(σ:St)(δ:Dl)(H:Hp)(r:Rs Fl):Prop:=post c r λfl δ'=>∀ σ' H',aV c σ δ H σ' δ' H'->fin c D σ' δ' H' fl
def qJ(c:Fc)(f:DS):TS:=λD σ H=>∃ δ,Ok c σ δ H/\fg c D σ δ H (f δ)
abbrev SS(X:Cx)(c:Fc)(st:Stmt)(f:DS):Prop:=PS X st (qJ c f)
abbrev iN(X:Cx)(c:Fc)(st:List Stmt)(f:DS):Prop:=dU X st (qJ c f)
theorem PS.weak{X:Cx}{st:Stmt}{t t':TS}(h:PS X st t)(w:∀ D σ H,t' D σ H->t D σ H):PS X st t':=λpins s σ H D I q=>h pins s σ H D I (w D σ H q)
theorem dU.weak{X:Cx}{st:List Stmt}{t t':TS}(h:dU X st t)(w:∀ D σ H,t' D σ H->t D σ H):dU X st t':=λpins s σ H D I q=>h pins s σ H D I (w D σ H q)
def cA:DS:=λδ=>.ok .next δ
def aC(f g:DS):DS:=λδ=>(f δ).bind λfl δ1=>match fl with
 | .next=>g δ1
 | .ret r=>.ok (.ret r) δ1
 | .brk=>.ok .brk δ1
 | .cont=>.ok .cont δ1
def MA(f:DE):DS:=λδ=>(f δ).bind λ_ δ1=>.ok .next δ1
def bN(f:DE):DS:=λδ=>(f δ).bind λr δ1=>.ok (.ret r) δ1
def b_(t:DT)(f g:DS):DS:=λδ=>(t δ).bind λb δ1=>if b then f δ1 else g δ1
def U2(np:List Nat)(i:Nat):DE:=λδ=>match δ[i]? with
 | some (some (.own d))=>if np.contains i then .ok (.pure d) (δ.set i (some (.pure d))) else .ok (.own d) (δ.set i none)
 | some (some (.pure d))=>.ok (.pure d) δ
 | _=>.stuck
section
variable {X:Cx} {c:Fc} {st:Stmt} {CQ:List Stmt} {e a:Expr} {f g:DS} {fe:DE} {t:DT} {pos pos':Pos}
theorem eN:iN X c [] cA:=dU.weak HN λD σ H ⟨δ,k,q⟩=>q σ H (.refl k)
theorem aP(h1:SS X c st f)(h2:iN X c CQ g):iN X c (st :: CQ) (aC f g):=dU.weak (so h1 h2) λD σ H ⟨δ,k,q⟩=>by
 unfold aC fg at q;rw[ba] at q;refine⟨δ,k,aS q λfl δ1 q1 σ1 H1 a1=>?_⟩
 cases fl with
 | next=>exact⟨δ1,a1.ok,aS q1 λU3 δ2 q2 σ2 H2 a2=>q2 σ2 H2 (a1.trans a2)⟩
 | ret r=>exact q1 σ1 H1 a1
 | brk=>exact q1 σ1 H1 a1
 | cont=>exact q1 σ1 H1 a1
theorem bj(h1:SS X c st f):iN X c [st] f:=dU.weak (AD h1) λD σ H h=>h
theorem cE(he:SE X c e fe):SS X c (.Return (some e) pos) (bN fe):=PS.weak (AF he) λD σ H ⟨δ,k,q⟩=>by
 unfold bN fg at q;rw[ba] at q;exact⟨δ,k,aS q λr δ1 q1 v H1 a1 r1=>q1 σ H1 a1 v r1.LC⟩
theorem eQ{b1 b2:List Stmt}(ht:ST X c e t)(h1:iN X c b1 f)(h2:iN X c b2 g):SS X c (.If e b1 b2 pos) (b_ t f g):=PS.weak (HS ht h1 h2) λD σ H ⟨δ,k,q⟩=>by
 unfold b_ fg at q;rw[ba] at q;refine⟨δ,k,aS q λb δ1 q1 H1 a1=>?_⟩
 cases b with
 | true=>exact⟨δ1,a1.ok,aS q1 λfl δ2 q2 σ2 H2 a2=>q2 σ2 H2 (a1.trans a2)⟩
 | false=>exact⟨δ1,a1.ok,aS q1 λfl δ2 q2 σ2 H2 a2=>q2 σ2 H2 (a1.trans a2)⟩
theorem Own.qK(h:Own (σ.set i (some v)) (δ.set i (some r)) b):Own σ δ b\/(v = .ref b/\∃ d,r = .own d):=by
 obtain⟨j,d,e1,e2⟩:=h;by_cases hj:i=j
 ·subst hj;right
  rw[Qa] at e1 e2;simp at e1 e2;obtain⟨_,h1⟩:=e1;obtain⟨_,h2⟩:=e2;exact⟨h2,d,h1⟩
 ·rw[W6 hj] at e1 e2;exact .inl ⟨j,d,e1,e2⟩
theorem Ok.set(x:aV c σ₀ δ₀ H₁ σ δ H)(hr:bf c σ δ H₁ H v r)(hp:∀ p ∈ c.pin,p.1≠i):aV c σ₀ δ₀ H₁ (σ.set i (some v)) (δ.set i (some r)) H:=by
 have k:=x.ok;-- all slots avoid the new address,too
 have all:∃ c':Fc,c'.H₀=c.H₀/\c'.pin=c.pin/\Ok c' σ δ H/\(∀ b,Av c (σ.set i (some v)) (δ.set i (some r)) b->Av c' σ δ b):=by
  cases r with
  | pure d =>
   refine⟨c,rfl,rfl,k,λb z=>?_⟩;rcases z with z | z
   ·exact .inl z
   ·rcases z.qK with z | ⟨_,d',e⟩
    ·exact .inr z
    ·cases e
  | own d =>
   obtain⟨a,ea,o,n,f,k2,_⟩:=hr;refine⟨c.plus a,rfl,rfl,k2,λb z=>?_⟩;rcases z with z | z
   ·exact .inl (.inl z)
   ·rcases z.qK with z | ⟨e,_⟩
    ·exact .inr z
    ·rw[ea] at e; cases e
     exact .inl (.inr rfl)
 obtain⟨c',eH,eP,k2,sub⟩:=all;have eI:∀ a,c'.I a ↔ c.I a:=λa=>by unfold Fc.I; rw[eP]
 have MB:Rep H (Av c (σ.set i (some v)) (δ.set i (some r))) v r.d\/∃ d,r = .own d:=by
  cases r with
  | pure d =>
   left
   refine Rep.aL hr λb z=>?_
   rcases z with z | z
   ·exact .inl (.inl z)
   ·rcases z.qK with z | ⟨_,d',e⟩
    ·exact .inl (.inr z)
    ·cases e
  | own d=>exact .inr ⟨d,rfl⟩
 refine⟨⟨k.keep,k.bd,k.dC,by rw[Q7,Q7]; exact k.len,λj d e=>?_,λj d e=>?_,λj l a d d' e1 e2 e3 e4=>?_,λp hm=>?_⟩,x.keep,λb z=>?_,x.there⟩
 ·by_cases hj:i=j
  ·subst hj;rw[Qa] at e;simp at e;obtain⟨hi,rfl⟩:=e;have kE:i < σ.length:=by rw[<- k.len]; exact hi
   rcases MB with h | ⟨_,h⟩
   ·exact⟨v,by rw[Wa kE],h⟩
   ·cases h
  ·rw[W6 hj] at e;obtain⟨w,e1,q⟩:=k2.slot j d e;exact⟨w,by rw[W6 hj]; exact e1,q.aL λb z=>.inl (sub b z)⟩
 ·by_cases hj:i=j
  ·subst hj;rw[Qa] at e;simp at e;obtain⟨hi,rfl⟩:=e;have kE:i < σ.length:=by rw[<- k.len]; exact hi
   obtain⟨a,ea,o,n,f,k3,_⟩:=hr;refine⟨a,by rw[Wa kE,ea],o.aL λb z=>.inl ?_,.inr f,n⟩;rcases z with z | z
   ·exact .inl (.inl z)
   ·rcases z.qK with z | ⟨e,_⟩
    ·exact .inr z
    ·rw[ea] at e; cases e
     exact .inl (.inr rfl)
  ·rw[W6 hj] at e;obtain⟨a,e1,q,q2,q3⟩:=k.own j d e;obtain⟨a',e1',q',_,_⟩:=k2.own j d e;rw[e1] at e1'; cases e1'
   exact⟨a,by rw[W6 hj]; exact e1,q'.aL λb z=>.inl (sub b z),q2,q3⟩
 ·by_cases hj:i=j
  ·subst hj;by_cases hl:i=l
   ·exact hl
   ·rw[W6 hl] at e2 e4;rw[Qa] at e1 e3;simp at e1 e3;obtain⟨_,rfl⟩:=e1;obtain⟨_,rfl⟩:=e3;obtain⟨a',ea,o,n,f,k3,_⟩:=hr
    cases ea;exact absurd ⟨l,d',e2,e4⟩ (ow k3)
  ·rw[W6 hj] at e1 e3;by_cases hl:i=l
   ·subst hl;rw[Qa] at e2 e4;simp at e2 e4;obtain⟨_,rfl⟩:=e2;obtain⟨_,rfl⟩:=e4;obtain⟨a',ea,o,n,f,k3,_⟩:=hr
    cases ea;exact absurd ⟨j,d,e1,e3⟩ (ow k3)
   ·rw[W6 hl] at e2 e4;exact k.inj j l a d d' e1 e2 e3 e4
 ·rw[W6 (Ne.symm (hp p hm))];exact k.pinned p hm
 ·rcases z.qK with z | ⟨e,d,ed⟩
  ·exact x.own b z
  ·subst ed;obtain⟨a,ea,_,_,_,_,hs⟩:=hr;rw[ea] at e; cases e
   exact .inr hs
abbrev DG:=S->Dl->Option Dl
def tR(c:Fc)(g:DG):TG:=λv σ H Q=>∃ σ₀ δ₀ H₁ δ r δ',aV c σ₀ δ₀ H₁ σ δ H/\bf c σ δ H₁ H v r/\g r δ=some δ'/\∀ σ',aV c σ₀ δ₀ H₁ σ' δ' H->Q σ' H
abbrev SG(X:Cx)(c:Fc)(tg:Expr)(g:DG):Prop:=PG X tg (tR c g)
def ag(np:List Nat)(i:Nat):DG:=λr δ=>if np.contains i then none else some (δ.set i (some r))
def Np(c:Fc)(np:List Nat):Prop:=∀ p ∈ c.pin,np.contains p.1=true
theorem wV(hp:Np c np)(h:tR c (ag np i) v σ H Q):sr i v σ H Q:=by
 obtain⟨σ₀,δ₀,H₁,δ,r,δ',x,rr,e,q⟩:=h;unfold ag at e;split at e
 ·cases e
 ·rename_i hn
  cases e;exact q _ (Ok.set x rr λp hm e=>hn (by rw[<- e]; exact hp p hm))
theorem PG.weak{tg:Expr}{t t':TG}(h:PG X tg t)(w:∀ v σ H Q,t' v σ H Q->t v σ H Q):PG X tg t':=λpins s σ H v u Q I r q=>h pins s σ H v u Q I r (w v σ H Q q)
theorem gX.weak{tg:List Expr}{t t':lC}(h:gX X tg t)(w:∀ v σ H Q,t' v σ H Q->t v σ H Q):gX X tg t':=λpins s σ H v u Q I r q=>h pins s σ H v u Q I r (w v σ H Q q)
theorem eE{np:List Nat}{i:Nat}{x:Str}(hp:Np c np)(hN:X.N.Nodup)(hi:X.N[i]? = some x)(hx:Loc X.env.scope x)(hf:X.fn x=true\/X.env.scope.names.lookup x=some .local):SG X c (.Name x pos) (ag np i) :=
 PG.weak (AI hN hi hx hf) λv σ H Q h=>wV hp h
abbrev iO:=List D->Dl->Option Dl
def MC(c:Fc)(g:iO):lC:=λvs σ H Q=>∃ δ ds δ',Ok c σ δ H/\aH H (Av c σ δ) vs ds/\g ds δ=some δ'/\∀ σ',aV c σ δ H σ' δ' H->Q σ' H
abbrev tS(X:Cx)(c:Fc)(tg:List Expr)(g:iO):Prop:=gX X tg (MC c g)
def bY:iO:=λds δ=>match ds with
 | []=>some δ
 | _=>none
def aY(g:DG)(gs:iO):iO:=λds δ=>match ds with
 | []=>none
 | d :: r=>(g (.pure d) δ).bind λδ1=>gs r δ1
theorem qL:tS X c [] bY:=gX.weak AJ λvs σ H Q ⟨δ,ds,δ',k,r,e,q⟩=>by
 cases ds with
 | nil =>
  cases e;have:vs=[]:=by have:=r.1; simpa using this
  exact⟨this,q σ (.refl k)⟩
 | cons d r=>cases e
theorem jW{es:List Expr}{g:DG}{gs:iO}(h1:SG X c e g)(h2:tS X c es gs)(hs:(Qf (e :: es) X.env).map (·.2)=assign e X.env :: (Qf es X.env).map (·.2):=by rfl):tS X c (e :: es) (aY g gs) :=
 gX.weak (AK h1 h2 hs) λvs σ H Q ⟨δ,ds,δ',k,r,e,q⟩=>by
  cases ds with
  | nil=>cases e
  | cons d ds =>
   cases vs with
   | nil=>have:=r.1; simp at this
   | cons v vs =>
    simp only[aY] at e
    cases e1:g (.pure d) δ with
    | none=>rw[e1] at e; cases e
    | some δ1 =>
     rw[e1] at e;refine⟨v,vs,rfl,σ,δ,H,δ,.pure d,δ1,.refl k,r.head,e1,λσ1 a1=>?_⟩;exact⟨δ1,ds,δ',a1.ok,aH.dh r.tail a1,e,λσ2 a2=>q σ2 (a1.trans a2)⟩
def bV(n:Nat)(gs:iO):DG:=λr δ=>match r.d with
 | .tup ds=>if ds.length=n then gs ds δ else none
 | _=>none
theorem qM{es:List Expr}{k:Nat}{gs:iO}{n:Nat}(hc:X.calm=true)(h:tS X c es gs)(hn:(Qf es X.env).length=n:=by rfl)(jL:(Qf es X.env).findIdx? (·.1)=none:=by rfl) :
  SG X c (.Tuple es k pos) (bV n gs):=PG.weak (AL hc h hn jL) λv σ H Q hw=>by
 obtain⟨σ₀,δ₀,H₁,δ,r,δ',x,rr,e,q⟩:=hw;have hb:=rr.b;unfold bV at e;generalize r.d=d at e hb
 cases d <;> first | (cases e; done) | skip
 rename_i ds;simp only at e;split at e
 ·rename_i hl;obtain⟨a,vs,ea,ha,ra⟩:=hb.tup;exact⟨a,vs,ea,.of ha,by rw[ra.1]; exact hl,δ,ds,δ',x.ok,ra,e,λσ' a1=>q σ' (x.trans a1)⟩
 ·cases e
def az(f:DE)(g:DG):DS:=λδ=>(f δ).bind λr δ1=>match g r δ1 with
 | some δ2=>.ok .next δ2
 | none=>.stuck
theorem wW{g:DG}{D:Ends}{σ:St}{H:Hp}{te:TE}{tg:TG}(he:∀ σ H Q,tD c fe σ H Q->te σ H Q)(hg:∀ v σ H Q,tR c g v σ H Q->tg v σ H Q)(h:qJ c (az fe g) D σ H):pY te tg D σ H:=by
 obtain⟨δ,k,q⟩:=h;unfold az fg at q;rw[ba] at q;refine he _ _ _ ⟨δ,k,aS q λr δ1 q1 v H1 a1 r1=>hg _ _ _ _ ?_⟩
 cases e:g r δ1 with
 | none=>rw[e] at q1; exact q1.elim
 | some δ2 =>
  rw[e] at q1;exact⟨σ,δ,H,δ1,r,δ2,a1,r1,e,λσ' a2=>q1 σ' H1 a2⟩
theorem CS{tg:Expr}{g:DG}(he:SE X c e fe)(hg:SG X c tg g)(hs:Jr [tg] e pos.line X.env=pure false:=by rfl)(hw:Js [tg] e X.env=pure none:=by rfl)
  (h1:(Qf [tg] X.env).map (·.2)=[assign tg X.env]:=by rfl):SS X c (.Assign [tg] e pos) (az fe g):=PS.weak (vo he hg hs hw h1) λD σ H h=>wW (λ_ _ _ h=>h) (λ_ _ _ _ h=>h) h
theorem bO{np:List Nat}{i:Nat}{x:Str}(hp:Np c np)(hN:X.N.Nodup)(hi:X.N[i]? = some x)(hx:Loc X.env.scope x)(he:SE X c e fe)(hs:Jq e (some (.Name x pos')) pos.line X.env=pure false)(hf:X.fn x=true\/X.env.scope.names.lookup x=some .local) :
  SS X c (.Assign [.Name x pos'] e pos) (az fe (ag np i)):=PS.weak (HX hN hi hx he hs hf) λD σ H h=>wW (λ_ _ _ h=>h) (λ_ _ _ _ h=>wV hp h) h
theorem Ok.wX{σ:St}{δ:Dl}{H:Hp}{i:Nat}{ds dJ:List D}{a:Addr}{fM:List V}(k:Ok c σ δ H)(e:δ[i]? = some (some (.own (.lst ds))))(ea:σ[i]? = some (some (.ref a)))(r:aH H (Av c σ δ) fM dJ) :
  aV c σ δ H σ (δ.set i (some (.own (.lst dJ)))) (upd H a (.lst fM)):=by
 have hi:i < δ.length:=(W1.mp e).1;obtain⟨a',dD,oa,ia,nb⟩:=k.own i _ e;rw[ea] at dD; cases dD
 obtain⟨vs,ha,_⟩:=oa;have qN:Own σ δ a:=⟨i,_,e,ea⟩
 have wY:Av c σ δ a:=.inr qN;have qO:∀ b,Own σ (δ.set i (some (.own (.lst dJ)))) b ↔ Own σ δ b:=λb=>by
  constructor
  ·rintro ⟨j,d,e1,e2⟩;by_cases hj:i=j
   ·subst hj;exact⟨i,_,e,e2⟩
   ·rw[W6 hj] at e1;exact⟨j,d,e1,e2⟩
  ·rintro ⟨j,d,e1,e2⟩;by_cases hj:i=j
   ·subst hj;exact⟨i,_,by rw[Wa hi],e2⟩
   ·exact⟨j,d,by rw[W6 hj]; exact e1,e2⟩
 have nu:∀ b,Av c σ (δ.set i (some (.own (.lst dJ)))) b->Av c σ δ b:=λb z=>z.elim .inl λz=>.inr ((qO b).mp z)
 have ne:∀ b,¬ Av c σ δ b->b≠a:=λb n z=>n (by rw[z]; exact wY)
 have kp:∀ b o,H b=some o->¬ Av c σ δ b->upd H a (.lst fM) b=some o:=λb o h n=>by rw[aQ (ne b n)]; exact h
 have jX:∀ b o,H b=some o->∃ o',upd H a (.lst fM) b=some o':=λb o h=>by
  by_cases hb:b=a
  ·exact⟨_,by rw[hb]; exact cN⟩
  ·exact⟨o,by rw[aQ hb]; exact h⟩
 refine⟨⟨λb o h n=>?_,λb z=>?_,λb z=>?_,by rw[Q7]; exact k.len,λj d h=>?_,λj d h=>?_,λj l b d d' h1 h2 h3 h4=>?_,k.pinned⟩,λb o h n=>?_,λb z=>.inl ((qO b).mp z),jX⟩
 ·have hb:b≠a:=λz=>by
   subst z;rcases ia with z | z
   ·exact n z
   ·rw[z] at h; cases h
  rw[aQ hb];exact k.keep b o h n
 ·obtain⟨o,h⟩:=k.bd b z;exact jX b o h
 ·obtain⟨o,h⟩:=k.dC b z;exact jX b o h
 ·have hj:i≠j:=λz=>by subst z; rw[Wa hi] at h; cases h
  rw[W6 hj] at h;obtain⟨v,h1,h2⟩:=k.slot j d h;exact⟨v,h1,(h2.keep kp).aL λb z=>.inl (nu b z)⟩
 ·by_cases hj:i=j
  ·subst hj;rw[Wa hi] at h
   cases h;exact⟨a,ea,⟨fM,cN,aH.aL (aH.keep r kp) λb z=>.inl (nu b z)⟩,ia,nb⟩
  ·rw[W6 hj] at h;obtain⟨b,h1,h2,h3,h4⟩:=k.own j d h;have hb:b≠a:=λz=>by subst z; exact hj (k.inj i j b _ d e h ea h1)
   exact⟨b,h1,(h2.keep kp λo q=>by rw[aQ hb]; exact q).aL λb z=>.inl (nu b z),h3,h4⟩
 ·have f1:∃ d,δ[j]? = some (some (.own d)):=by
   by_cases hj:i=j
   ·subst hj; exact⟨_,e⟩
   ·rw[W6 hj] at h1; exact⟨d,h1⟩
  have f2:∃ d,δ[l]? = some (some (.own d)):=by
   by_cases hj:i=l
   ·subst hj; exact⟨_,e⟩
   ·rw[W6 hj] at h2; exact⟨d',h2⟩
  obtain⟨_,f1⟩:=f1;obtain⟨_,f2⟩:=f2;exact k.inj j l b _ _ f1 f2 h3 h4
 ·have hb:b≠a:=λz=>n (by rw[z]; exact qN)
  rw[aQ hb]; exact h
def gh(δ:Dl)(i:Nat):Bool:=match δ[i]? with
 | some (some (.own (.lst _)))=>true
 | _=>false
def putL(δ:Dl)(i:Nat)(f:List D->Option (List D)):Rs Fl:=match δ[i]? with
 | some (some (.own (.lst ds)))=>match f ds with
  | some dJ=>.ok .next (δ.set i (some (.own (.lst dJ))))
  | none=>.stuck
 | _=>.stuck
theorem CT(h:gh δ i=true):∃ ds,δ[i]? = some (some (.own (.lst ds))):=by
 unfold gh at h;split at h
 ·rename_i ds e; exact⟨ds,e⟩
 ·cases h
theorem CU{δ:Dl}{i:Nat}{g:List D->Option (List D)}{kk:Fl->Dl->Prop}(h:post c (putL δ i g) kk):∃ ds dJ,δ[i]? = some (some (.own (.lst ds)))/\g ds=some dJ/\kk .next (δ.set i (some (.own (.lst dJ)))):=by
 unfold putL at h;split at h
 ·rename_i ds e;split at h
  ·rename_i dJ e2;exact⟨ds,dJ,e,e2,h⟩
  ·exact h.elim
 ·exact h.elim
def dm(i:Nat)(f:DE):DS:=λδ=>if gh δ i then(f δ).bind λr δ1=>putL δ1 i λds=>if ds.length < Wc then some (ds ++ [r.d]) else none else .stuck
theorem MD{i:Nat}{o:Expr}{p0 apos bA:Pos}(ho:PE X o (bZ i))(he:SE X c e fe)
  (h:PS X (.Expr (.Call (.Attribute o "append" apos) [e] [] bA) pos) (AE (Bu X.K "list" By (bZ i) (vG (tD c fe) A5)))):SS X c (.Expr (.Call (.Attribute o "append" apos) [e] [] bA) pos) (dm i fe) :=
 PS.weak h λD σ H ⟨δ,k,q⟩=>by
  unfold dm fg at q;split at q
  ·rename_i gI;obtain⟨ds0,e0⟩:=CT gI;rw[ba] at q;obtain⟨a,ea,oa,_⟩:=k.own i _ e0;refine⟨.ref a,ea,?_,δ,k,aS q λr δ1 q1 v H1 a1 r1=>?_⟩
   ·obtain⟨vs,ha,_⟩:=oa;exact .inl ⟨rfl,vs,.of ha⟩
   ·obtain⟨ds,dJ,e1,e2,q2⟩:=CU q1;split at e2
    ·rename_i hz
     cases e2;obtain⟨a',dD,oa1,_⟩:=a1.ok.own i _ e1;rw[ea] at dD; cases dD
     obtain⟨vs,ha,ra⟩:=id oa1;refine⟨a,vs,v,rfl,rfl,ha,by rw[ra.1]; exact hz,?_⟩;exact q2 σ _ (a1.trans (Ok.wX a1.ok e1 ea (ra.append (.cons r1.rep .nil))))
    ·cases e2
  ·exact q.elim
def kO(i:Nat)(fi:DE)(fe:DE):DS:=λδ=>if gh δ i then(fe δ).bind λr δ1=>(fi δ1).bind λk δ2=>match k with
 | .pure (.int j)=>putL δ2 i λds=>(dW ds.length j).map λn=>ds.set n r.d
 | _=>.stuck else .stuck
theorem wZ{i:Nat}{o ix:Expr}{fi:DE}{sp:Pos}(ho:PE X o (bZ i))(hi:SE X c ix fi)(he:SE X c e fe)
  (ha:∀ v,assign (.Subscript o ix sp) X.env v=(do
   let ov <- holding [v] (eval o X.env)
   let iv <- holding [v,ov] (eval ix X.env)
   standAt sp
   holding [v,ov,iv] (setItem ov iv v)
   release [v,ov,iv] []):=by intro _; rfl)
  (hs:Jr [.Subscript o ix sp] e pos.line X.env=pure false:=by rfl) (hw:Js [.Subscript o ix sp] e X.env=pure none:=by rfl)
  (h1:(Qf [.Subscript o ix sp] X.env).map (·.2)=[assign (.Subscript o ix sp) X.env]:=by rfl):SS X c (.Assign [.Subscript o ix sp] e pos) (kO i fi fe) :=
 PS.weak (vo he (AN ho hi Bp ha) hs hw h1) λD σ H ⟨δ,k,q⟩=>by
  unfold kO fg at q;split at q
  ·rename_i gI;obtain⟨ds0,e0⟩:=CT gI;rw[ba] at q;obtain⟨a,ea,_,_⟩:=k.own i _ e0;refine⟨δ,k,aS q λr δ1 q1 v H1 a1 r1=>⟨.ref a,ea,δ1,a1.ok,?_⟩⟩;rw[ba] at q1;refine aS q1 λkx δ2 q2 u H2 a2 r2=>?_
   cases kx with
   | own d=>exact q2.elim
   | pure d =>
    cases d <;> first | exact q2.elim | skip
    rename_i j
    cases r2;obtain⟨ds,dJ,e1,e2,q3⟩:=CU q2
    cases e3:dW ds.length j with
    | none=>rw[e3] at e2; cases e2
    | some n =>
     rw[e3] at e2
     cases e2;obtain⟨a',dD,oa1,_⟩:=a2.ok.own i _ e1;rw[ea] at dD; cases dD
     obtain⟨vs,ha,ra⟩:=id oa1;refine⟨a,vs,j,n,rfl,rfl,ha,by rw[ra.1]; exact e3,?_⟩;exact q3 σ _ (a1.trans (a2.trans (Ok.wX a2.ok e1 ea (ra.set (Rep.dh r1.rep a2) n))))
  ·exact q.elim
end
abbrev DI:=Dl->Rs (List D)
def nv(c:Fc)(σ:St)(δ:Dl)(H:Hp)(J:It)(ds:List D):Prop:=∀ H2,(∀ a o,H a=some o->¬ Own σ δ a->H2 a=some o)->J.stop ds.length H2 /\
 ∀ (i:Nat) d,ds[i]? = some d->J.go i H2/\∀ x H3,J.p_ i H2 x H3->(H3=H2/\Rep H (Av c σ δ) x d) \/
  ∃ p vs es,H2 p=none/\H3=upd H2 p (.tup vs)/\x = .ref p/\d = .tup es/\aH H (Av c σ δ) vs es
def tI(c:Fc)(f:DI):TI:=λσ H R=>∃ δ,Ok c σ δ H/\post c (f δ) λds δ'=>∀ J H',aV c σ δ H σ δ' H'->nv c σ δ' H' J ds->R J H'
abbrev SI(X:Cx)(c:Fc)(tg iter:Expr)(f:DI):Prop:=PI X tg iter (tI c f)
theorem PI.weak(h:PI X tg iter t)(w:∀ σ H R,t' σ H R->t σ H R):PI X tg iter t':=λpins s σ H R I q=>h pins s σ H R I (w σ H R q)
section
variable {X:Cx} {c:Fc} {tg e:Expr} {fe:DE} {pos pp:Pos}
theorem ME(K:W2)(h:H a=some (.tup vs))(n:¬ Own σ δ a)(r:aH H (Av c σ δ) vs ds):nv c σ δ H (vq K a) ds:=by
 intro H2 kp;have h2:=kp a _ h n;refine⟨⟨vs,.of h2,by rw[r.1]; exact Wf _⟩,λi d e=>?_⟩;obtain⟨v,ev,rv⟩:=r.get e;refine⟨⟨vs,v,.of h2,ev⟩,λx H3 ⟨e3,y⟩=>.inl ⟨e3,?_⟩⟩;have:=y vs (.of h2);rw[ev] at this
 cases this;exact rv
def cg(lo:Int)(n:Nat):List D:=(W4 n).map λk:Nat=>D.int (lo + k)
theorem tU{lo:Int}{n i:Nat}{d:D}(h:(cg lo n)[i]? = some d):i < n/\d = .int (lo + i):=by
 unfold cg at h;rw[Wl] at h;by_cases hi:i < n
 ·rw[Qd hi] at h;simp at h;exact⟨hi,h.symm⟩
 ·rw[WN (by simpa using hi)] at h
  cases h
theorem MF(lo:Int)(n:Nat):nv c σ δ H (sx lo n) (cg lo n):=by
 intro H2 kp;refine⟨by show n<=(cg lo n).length; simp[cg],λi d e=>?_⟩;obtain⟨hi,rfl⟩:=tU e;exact⟨hi,λx H3 ⟨e3,ex⟩=>.inl ⟨e3,by rw[ex]; exact .int _⟩⟩
def oJ(j:Int):Bool:=decide (-(2 ^ 62)<=j) && decide (j < 2 ^ 62)
def dY(f:DE):DI:=λδ=>(f δ).bind λr δ1=>match r with
 | .pure (.int j)=>if oJ j then .ok (cg 0 j.toNat) δ1 else .stuck
 | _=>.stuck
theorem kP (hg:Gl X "range") (hm:X.mg "range" = none) (he:SE X c e fe) (hs:Wk [e] X.env=[(false,eval e X.env)]:=by rfl):SI X c tg (.Call (.Name "range" pp) [e] [] pos) (dY fe) :=
 PI.weak (Ig hg hm (fK he iF hs) hs) λσ H R ⟨δ,k,q⟩=>by
  unfold dY at q;rw[ba] at q;refine⟨δ,k,aS q λr δ1 q1 v H1 a1 r1=>?_⟩
  cases r with
  | own d=>exact q1.elim
  | pure d =>
   cases d <;> first | exact q1.elim | skip
   rename_i j
   cases r1;simp only at q1;split at q1
   ·rename_i hj;unfold oJ at hj;simp only[Wv,decide_eq_true_eq] at hj;exact⟨j,rfl,hj.1,hj.2,q1 _ H1 a1 (MF 0 j.toNat)⟩
   ·exact q1.elim
def forL(g:DG)(b:DS):List D->DS
 | [],δ=>.ok .next δ
 | d :: r,δ=>match g (.pure d) δ with
  | none=>.stuck
  | some δ1=>(b δ1).bind λfl δ2=>match fl with
   | .next=>forL g b r δ2
   | .cont=>forL g b r δ2
   | .brk=>.ok .next δ2
   | .ret v=>.ok (.ret v) δ2
def dZ(it:DI)(g:DG)(b:DS):DS:=λδ=>(it δ).bind λds δ1=>forL g b ds δ1
theorem CV(io:nv c σ δ H J ds)(a:aV c σ δ H σ2 δ2 H2)(e:ds[i]? = some d)(y:J.p_ i H2 x H3):aV c σ2 δ2 H2 σ2 δ2 H3/\Rep H3 (Av c σ2 δ2) x d:=by
 obtain⟨_,t⟩:=io H2 a.keep;rcases (t i d e).2 x H3 y with ⟨e3,r⟩ | ⟨p,vs,es,hp,e3,ex,ed,r⟩
 ·subst e3;exact⟨.refl a.ok,Rep.dh r a⟩
 ·subst e3 ex ed;have:=bf.oz a.ok (aH.dh r a) hp;exact⟨.alloc a.ok hp _,this⟩
theorem h_{iter:Expr}{body:List Stmt}{it:DI}{g:DG}{b:DS}(hp:PassesOwn (model X.prog X.w) X.A X.env X.xe)(hc:X.calm=true)(hi:SI X c tg iter it)(hg:SG X c tg g)(hb:iN X c body b)
  (hs:∀ x,QQ iter X.env x=pure x:=by intro _; rfl):SS X c (.For tg iter body [] pos) (dZ it g b):=PS.weak (AS hp hc hi hg hb hs) λD σ H ⟨δ,k,q⟩=>by
 unfold dZ fg at q;rw[ba] at q;refine⟨δ,k,aS q λds δ1 q1 J H1 a1 io=>?_⟩;refine⟨λi m σ2 H2=>∃ δ2,m=ds.length - i/\i<=ds.length/\aV c σ δ1 H1 σ2 δ2 H2/\fg c D σ2 δ2 H2 (forL g b (ds.drop i) δ2),⟨ds.length,δ1,by simp,Qn _,.refl a1.ok,?_⟩,?_⟩
 ·rw[List.drop_zero];exact aS q1 λfl δ2 q2 σ2 H2 a2=>q2 σ2 H2 (a1.trans a2)
 ·rintro i m σ2 H2 ⟨δ2,rfl,jv,a2,p2⟩;by_cases a7:i < ds.length
  ·right
   have e:ds[i]? = some ds[i]:=by simp[a7]
   rw[Qq a7] at p2;refine⟨((io H2 a2.keep).2 i _ e).1,λσ4 H4=>∃ δ4,aV c σ δ1 H1 σ4 δ4 H4/\fg c D σ4 δ4 H4 (forL g b (ds.drop (i + 1)) δ4),λσ4 H4 ⟨δ4,a4,p4⟩=>⟨ds.length - (i + 1),by omega,δ4,rfl,a7,a4,p4⟩,λx H3 y=>?_⟩;obtain⟨a3,r3⟩:=CV io a2 e y;simp only[forL,fg] at p2
   cases eg:g (.pure ds[i]) δ2 with
   | none=>rw[eg] at p2; exact p2.elim
   | some δ3 =>
    rw[eg] at p2;refine⟨σ2,δ2,H3,δ2,.pure ds[i],δ3,.refl a3.ok,r3,eg,λσ3 a3'=>?_⟩;have p3:post c ((b δ3).bind λfl δ2=>match fl with
     | .next=>forL g b (ds.drop (i + 1)) δ2
     | .cont=>forL g b (ds.drop (i + 1)) δ2
     | .brk=>.ok .next δ2
     | .ret v=>.ok (.ret v) δ2) λfl δ'=>∀ σ' H',aV c σ2 δ2 H2 σ' δ' H'->fin c D σ' δ' H' fl:=p2
    rw[ba] at p3;have MG:aV c σ2 δ2 H2 σ3 δ3 H3:=a3.trans a3';refine⟨δ3,a3'.ok,aS p3 λfl δ4 p4 σ4 H4 a4=>?_⟩;have ib:=MG.trans a4
    cases fl with
    | next=>exact⟨δ4,a2.trans ib,aS p4 λfl δ5 p5 σ5 H5 a5=>p5 σ5 H5 (ib.trans a5)⟩
    | cont=>exact⟨δ4,a2.trans ib,aS p4 λfl δ5 p5 σ5 H5 a5=>p5 σ5 H5 (ib.trans a5)⟩
    | brk=>exact p4 σ4 H4 ib
    | ret r=>exact p4 σ4 H4 ib
  ·left
   have w8:i=ds.length:=by omega
   subst w8;rw[List.drop_length] at p2;exact⟨(io H2 a2.keep).1,p2 σ2 H2 (.refl a2.ok)⟩
def dq(t:DT)(b:DS):Nat->DS
 | 0,_=>.stuck
 | n + 1,δ=>(t δ).bind λx δ1=>if x then(b δ1).bind λfl δ2=>match fl with
   | .next=>dq t b n δ2
   | .cont=>dq t b n δ2
   | .brk=>.ok .next δ2
   | .ret v=>.ok (.ret v) δ2
  else .ok .next δ1
theorem w_{e:Expr}{body:List Stmt}{t:DT}{b:DS}(n:Nat)(hw:∀ {tt:TT} {tb:TS},PT X e tt->dU X body tb->PS X (.While e body [] pos) (AO tt tb))(ht:ST X c e t)(hb:iN X c body b):SS X c (.While e body [] pos) (dq t b n) :=
 PS.weak (hw ht hb) λD σ H ⟨δ,k,q⟩=>by
  refine⟨λm σ2 H2=>∃ δ2,Ok c σ2 δ2 H2/\fg c D σ2 δ2 H2 (dq t b m δ2),⟨n,δ,k,q⟩,?_⟩;rintro m σ2 H2 ⟨δ2,k2,q2⟩
  cases m with
  | zero=>exact q2.elim
  | succ m =>
   simp only[dq,fg] at q2;rw[ba] at q2;refine⟨δ2,k2,aS q2 λx δ3 q3 H3 a3=>?_⟩
   cases x with
   | false=>exact q3 σ2 H3 a3
   | true =>
    have p3:post c ((b δ3).bind λfl δ2=>match fl with
     | .next=>dq t b m δ2
     | .cont=>dq t b m δ2
     | .brk=>.ok .next δ2
     | .ret v=>.ok (.ret v) δ2) λfl δ'=>∀ σ' H',aV c σ2 δ2 H2 σ' δ' H'->fin c D σ' δ' H' fl:=q3
    rw[ba] at p3;refine⟨λσ4 H4=>∃ δ4,Ok c σ4 δ4 H4/\fg c D σ4 δ4 H4 (dq t b m δ4),λσ4 H4 w=>⟨m,Nat.lt_succ_self _,w⟩,δ3,a3.ok,aS p3 λfl δ4 p4 σ4 H4 a4=>?_⟩;have ib:=a3.trans a4
    cases fl with
    | next=>exact⟨δ4,a4.ok,aS p4 λfl δ5 p5 σ5 H5 a5=>p5 σ5 H5 (ib.trans a5)⟩
    | cont=>exact⟨δ4,a4.ok,aS p4 λfl δ5 p5 σ5 H5 a5=>p5 σ5 H5 (ib.trans a5)⟩
    | brk=>exact p4 σ4 H4 ib
    | ret r=>exact p4 σ4 H4 ib
end
def bD(cs:List Nat)(δ:Dl):Dl:=cs.foldl (λδ i=>δ.set i none) δ
def c9(cs:List Nat)(δ₁ δ:Dl):Dl:=cs.foldl (λδ i=>match δ₁[i]? with | some o=>δ.set i o | none=>δ) δ
def cj(δ:Dl)(i:Nat):Bool:=match δ[i]? with
 | some (some (.own _))=>true
 | _=>false
theorem CW(cs:List Nat):∀ δ:Dl,(bD cs δ).length=δ.length:=by
 induction cs with
 | nil=>intro δ; rfl
 | cons i r ih =>
  intro δ;show(bD r (δ.set i none)).length=_;rw[ih]; simp
theorem iP:∀ (cs:List Nat) (δ:Dl) (i:Nat) (v:S),(bD cs δ)[i]? = some (some v)->δ[i]? = some (some v)/\i ∉ cs:=by
 intro cs;induction cs with
 | nil=>intro δ i v h; exact⟨h,by simp⟩
 | cons j r ih =>
  intro δ i v h;have h':(bD r (δ.set j none))[i]? = some (some v):=h;obtain⟨h1,h2⟩:=ih _ i v h';by_cases e:j=i
  ·subst e;rw[Qa] at h1;simp at h1
  ·rw[W6 e] at h1;exact⟨h1,by simp only[Wj,not_or]; exact⟨Ne.symm e,h2⟩⟩
theorem kQ:∀ (cs:List Nat) (σ:St) (i:Nat),i ∉ cs->(bH cs σ)[i]? = σ[i]?:=by
 intro cs;induction cs with
 | nil=>intro σ i _; rfl
 | cons j r ih =>
  intro σ i h;simp only[Wj,not_or] at h;show(bH r (σ.set j none))[i]? = _;rw[ih _ _ h.2,W6 (Ne.symm h.1)]
theorem MH:∀ (cs:List Nat) (δ:Dl) (i:Nat),i ∉ cs->(bD cs δ)[i]? = δ[i]?:=by
 intro cs;induction cs with
 | nil=>intro σ i _; rfl
 | cons j r ih =>
  intro σ i h;simp only[Wj,not_or] at h;show(bD r (σ.set j none))[i]? = _;rw[ih _ _ h.2,W6 (Ne.symm h.1)]
theorem MI(cs:List Nat)(δ₁:Dl):∀ δ:Dl,(c9 cs δ₁ δ).length=δ.length:=by
 induction cs with
 | nil=>intro δ; rfl
 | cons i r ih =>
  intro δ;unfold c9;rw[Ji];have:=ih (match δ₁[i]? with | some o=>δ.set i o | none=>δ);unfold c9 at this;rw[this]
  cases δ₁[i]? <;> simp
theorem tV:∀ (cs:List Nat) (δ₁ δ:Dl) (i:Nat),i ∉ cs->(c9 cs δ₁ δ)[i]? = δ[i]?:=by
 intro cs δ₁;induction cs with
 | nil=>intro δ i _; rfl
 | cons j r ih =>
  intro δ i h;simp only[Wj,not_or] at h;unfold c9;rw[Ji];have:=ih (match δ₁[j]? with | some o=>δ.set j o | none=>δ) i h.2;unfold c9 at this;rw[this]
  cases δ₁[j]? with
  | none=>rfl
  | some o=>simp only; rw[W6 (Ne.symm h.1)]
theorem xa:∀ (cs:List Nat) (δ₁ δ:Dl) (i:Nat),δ₁.length=δ.length->i ∈ cs->(c9 cs δ₁ δ)[i]? = δ₁[i]?:=by
 intro cs δ₁;induction cs with
 | nil=>intro δ i _ h; simp at h
 | cons j r ih =>
  intro δ i hl h;unfold c9;rw[Ji];have jS:δ₁.length=(match δ₁[j]? with | some o=>δ.set j o | none=>δ).length:=by cases δ₁[j]? <;> simp[hl]
  by_cases hr:i ∈ r
  ·have:=ih (match δ₁[j]? with | some o=>δ.set j o | none=>δ) i jS hr;unfold c9 at this;exact this
  ·have e:i=j:=by
    rcases Wj.mp h with e | e
    ·exact e
    ·exact absurd e hr
   subst e;have:=tV r δ₁ (match δ₁[i]? with | some o=>δ.set i o | none=>δ) i hr;unfold c9 at this;rw[this]
   cases e:δ₁[i]? with
   | none =>
    simp only;have:=List.getElem?_eq_none_iff.mp e;exact WN (by omega)
   | some o =>
    simp only;have:=(W1.mp e).1;rw[Wa (by omega)]
section
variable {c:Fc} {σ:St} {δ δ':Dl} {H H':Hp} {l:Addr} {cs:List Nat}
theorem Ok.less(k:Ok (c.plus l) σ δ H):Ok c σ δ H:=by
 have sub:∀ b,Av c σ δ b->Av (c.plus l) σ δ b:=λb z=>z.elim (λz=>.inl (.inl z)) .inr
 refine⟨k.keep,λa z=>k.bd a (.inl z),k.dC,k.len,λi d e=>?_,λi d e=>?_,k.inj,k.pinned⟩
 ·obtain⟨v,h1,h2⟩:=k.slot i d e;exact⟨v,h1,h2.aL λb z=>.inl (sub b z)⟩
 ·obtain⟨a,h1,h2,h3,h4⟩:=k.own i d e;exact⟨a,h1,h2.aL λb z=>.inl (sub b z),h3,λz=>h4 (.inl z)⟩
theorem Ok.MJ(k:Ok c σ δ H)(hb:c.B l)(h0:c.H₀ l=none)(o:HO):Ok c σ δ (upd H l o):=by
 have kp:∀ b w,H b=some w->¬ Av c σ δ b->upd H l o b=some w:=λb w e n=>by
  rw[aQ (λz=>n (by rw[z]; exact .inl hb))]; exact e
 have jX:∀ b w,H b=some w->∃ w',upd H l o b=some w':=λb w h=>by
  by_cases hb:b=l
  ·exact⟨_,by rw[hb]; exact cN⟩
  ·exact⟨w,by rw[aQ hb]; exact h⟩
 refine⟨λa w e n=>?_,λa z=>?_,λa z=>?_,k.len,λi d e=>?_,λi d e=>?_,k.inj,k.pinned⟩
 ·have:a≠l:=λz=>by rw[z,h0] at e; cases e
  rw[aQ this]; exact k.keep a w e n
 ·obtain⟨w,e⟩:=k.bd a z; exact jX a w e
 ·obtain⟨w,e⟩:=k.dC a z; exact jX a w e
 ·obtain⟨v,h1,h2⟩:=k.slot i d e;exact⟨v,h1,h2.keep kp⟩
 ·obtain⟨a,h1,h2,h3,h4⟩:=k.own i d e;have:a≠l:=λz=>h4 (by rw[z]; exact hb)
  exact⟨a,h1,h2.keep kp λw q=>by rw[aQ this]; exact q,h3,h4⟩
theorem Own.bH(h:Own (bH cs σ) (bD cs δ) l):Own σ δ l:=by
 obtain⟨i,d,e1,e2⟩:=h;exact⟨i,d,(iP cs δ i _ e1).1,(lQ cs σ i _ e2).1⟩
theorem Ok.bH(k:Ok c σ δ H)(hp:∀ p ∈ c.pin,p.1 ∉ cs):Ok c (L2.bH cs σ) (bD cs δ) H:=by
 have sub:∀ b,Av c (L2.bH cs σ) (bD cs δ) b->Av c σ δ b:=λb z=>z.elim .inl λz=>.inr z.bH
 refine⟨k.keep,k.bd,k.dC,by rw[CW,sS]; exact k.len,λi d e=>?_,λi d e=>?_,λi j a d d' e1 e2 e3 e4=>?_,λp hm=>?_⟩
 ·obtain⟨e',hi⟩:=iP cs δ i _ e;obtain⟨v,h1,h2⟩:=k.slot i d e';exact⟨v,by rw[kQ cs σ i hi]; exact h1,h2.aL λb z=>.inl (sub b z)⟩
 ·obtain⟨e',hi⟩:=iP cs δ i _ e;obtain⟨a,h1,h2,h3⟩:=k.own i d e';exact⟨a,by rw[kQ cs σ i hi]; exact h1,h2.aL λb z=>.inl (sub b z),h3⟩
 ·exact k.inj i j a d d' (iP cs δ i _ e1).1 (iP cs δ j _ e2).1 (lQ cs σ i _ e3).1 (lQ cs σ j _ e4).1
 ·rw[kQ cs σ _ (hp p hm)]; exact k.pinned p hm
theorem aV.back(k:Ok c₀ σ δ H)(MK:c.pin=c₀.pin)(hB:∀ b,c.B b->c₀.B b\/H b=none)(ku:cs.any (cj δ)=false)(x:aV c (L2.bH cs σ) (bD cs δ) H (L2.bH cs σ) δ' H'):aV c σ δ H σ (c9 cs δ δ') H':=by
 have len:δ.length=δ'.length:=by
  have:=x.ok.len;rw[sS] at this;rw[this]; exact k.len
 have pO:∀ i d,i ∈ cs->δ[i]?≠some (some (.own d)):=λi d hi e=>by
  have:=List.any_eq_false.mp ku i hi;unfold cj at this;rw[e] at this;simp at this
 have ownOut:∀ i d,(c9 cs δ δ')[i]? = some (some (.own d))->i ∉ cs/\δ'[i]? = some (some (.own d)):=λi d e=>by
  by_cases hi:i ∈ cs
  ·rw[xa cs δ δ' i len hi] at e;exact absurd e (pO i d hi)
  ·rw[tV cs δ δ' i hi] at e;exact⟨hi,e⟩
 have sub:∀ b,Own σ (c9 cs δ δ') b->Own (L2.bH cs σ) δ' b:=λb ⟨i,d,e1,e2⟩=>by
  obtain⟨hi,e⟩:=ownOut i d e1;exact⟨i,d,e,by rw[kQ cs σ i hi]; exact e2⟩
 have iQ:∀ b,Av c σ (c9 cs δ δ') b->Av c (L2.bH cs σ) δ' b:=λb z=>z.elim .inl λz=>.inr (sub b z)
 have ownEq:∀ b,Own σ δ b->Own (L2.bH cs σ) (bD cs δ) b:=λb ⟨i,d,e1,e2⟩=>by
  have hi:i ∉ cs:=λz=>pO i d z e1
  exact⟨i,d,by rw[MH cs δ i hi]; exact e1,by rw[kQ cs σ i hi]; exact e2⟩
 refine⟨⟨x.ok.keep,x.ok.bd,x.ok.dC,by rw[MI,<- len]; exact k.len,λi d e=>?_,λi d e=>?_,λi j a d d' e1 e2 e3 e4=>?_,by rw[MK]; exact k.pinned⟩,λa o e n=>?_,λa z=>?_,x.there⟩
 ·by_cases hi:i ∈ cs
  ·rw[xa cs δ δ' i len hi] at e;obtain⟨v,h1,h2⟩:=k.slot i d e;have h3:Rep H (Av c (L2.bH cs σ) (bD cs δ)) v d:=h2.aL λb z=>by
    rcases z with z | z
    ·exact(hB b z).elim (λz=>.inl (.inl z)) .inr
    ·exact .inl (.inr z.bH)
   exact⟨v,h1,(Rep.dh h3 x).aL λb z=>.inl (iQ b z)⟩
  ·rw[tV cs δ δ' i hi] at e;obtain⟨v,h1,h2⟩:=x.ok.slot i d e;exact⟨v,(lQ cs σ i v h1).1,h2.aL λb z=>.inl (iQ b z)⟩
 ·obtain⟨hi,e'⟩:=ownOut i d e;obtain⟨a,h1,h2,h3⟩:=x.ok.own i d e';exact⟨a,(lQ cs σ i _ h1).1,h2.aL λb z=>.inl (iQ b z),h3⟩
 ·obtain⟨hi,f1⟩:=ownOut i d e1;obtain⟨hj,f2⟩:=ownOut j d' e2;exact x.ok.inj i j a d d' f1 f2 (by rw[kQ cs σ i hi]; exact e3) (by rw[kQ cs σ j hj]; exact e4)
 ·exact x.keep a o e λz=>n z.bH
 ·rcases x.own a (sub a z) with q | q
  ·exact .inl q.bH
  ·exact .inr q
end
def cy(cs:List Nat)(g:DG)(t:DT)(el:DE):List D->Dl->List D->Rs (List D)
 | [],δ,acc=>.ok acc δ
 | d :: r,δ,acc=>match g (.pure d) δ with
  | none=>.stuck
  | some δ1=>(t δ1).bind λb δ2=>if b then(el δ2).bind λx δ3=>if acc.length < Wc then cy cs g t el r (bD cs δ3) (acc ++ [x.d]) else .stuck
   else cy cs g t el r (bD cs δ2) acc
def bJ(cs:List Nat)(it:DI)(g:DG)(t:DT)(el:DE):DE:=λδ=>(it δ).bind λds δ1=>if cs.any (cj δ1) then .stuck else
 (cy cs g t el ds (bD cs δ1) []).bind λacc δ2=>.ok (.own (.lst acc)) (c9 cs δ1 δ2)
def a_:DT:=λδ=>.ok true δ
abbrev tW(X:Cx)(c:Fc)(ifs:List Expr)(t:DT):Prop:=ot X ifs (tT c t)
theorem gj{X:Cx}{c:Fc}:tW X c [] a_:=λpins s σ H Q I ⟨δ,k,q⟩=>Lp pins s σ H Q I (q H (.refl k))
theorem xb{X:Cx}{c:Fc}{e:Expr}{t:DT}(h:ST X c e t):tW X c [e] t:=Lq h
section
variable {X:Cx} {c:Fc} {cs:List Nat} {tg iter elt:Expr} {ifs:List Expr} {scope:Scope} {pos:Pos} {it:DI} {g:DG} {t:DT} {el:DE}
theorem aV.clear(x:aV c (L2.bH cs σ) δ H σ4 δ4 H4)(le:Le (L2.bH cs σ) σ4)(hp:∀ p ∈ c.pin,p.1 ∉ cs)(hs:∀ (i:Nat) v,σ4[i]? = some (some v)->i ∉ cs->σ[i]? = some (some v)):aV c (L2.bH cs σ) δ H (L2.bH cs σ) (bD cs δ4) H4:=by
 have eq:∀ i,i ∉ cs->∀ v,σ4[i]? = some (some v)->(L2.bH cs σ)[i]? = some (some v):=λi hi v e=>by rw[kQ cs σ i hi]; exact hs i v e hi
 have own:∀ b,Own (L2.bH cs σ) (bD cs δ4) b->Own σ4 δ4 b:=λb ⟨i,d,e1,e2⟩=>by
  exact⟨i,d,(iP cs δ4 i _ e1).1,le.2 i _ e2⟩
 have sub:∀ b,Av c (L2.bH cs σ) (bD cs δ4) b->Av c σ4 δ4 b:=λb z=>z.elim .inl λz=>.inr (own b z)
 have k:=x.ok;refine⟨⟨k.keep,k.bd,k.dC,by rw[CW,k.len]; exact le.1,λi d e=>?_,λi d e=>?_,λi j a d d' e1 e2 e3 e4=>?_,λp hm=>?_⟩,x.keep,λa z=>x.own a (own a z),x.there⟩
 ·obtain⟨e',hi⟩:=iP cs δ4 i _ e;obtain⟨v,h1,h2⟩:=k.slot i d e';exact⟨v,eq i hi v h1,h2.aL λb z=>.inl (sub b z)⟩
 ·obtain⟨e',hi⟩:=iP cs δ4 i _ e;obtain⟨a,h1,h2,h3⟩:=k.own i d e';exact⟨a,eq i hi _ h1,h2.aL λb z=>.inl (sub b z),h3⟩
 ·exact k.inj i j a d d' (iP cs δ4 i _ e1).1 (iP cs δ4 j _ e2).1 (le.2 i _ e3) (le.2 j _ e4)
 ·exact eq p.1 (hp p hm) _ (k.pinned p hm)
def Out(cs:List Nat)(σ σ':St):Prop:=σ'.length=σ.length/\∀ i,i ∉ cs->σ'[i]? = σ[i]?
theorem Out.trans(a:Out cs σ σ')(b:Out cs σ' σ''):Out cs σ σ'':=⟨b.1.trans a.1,λi h=>(b.2 i h).trans (a.2 i h)⟩
def tY(cs:List Nat)(c:Fc)(g:DG):TG:=λv σ H Q=>∃ σ₀ δ₀ H₁ δ r δ',aV c σ₀ δ₀ H₁ σ δ H/\bf c σ δ H₁ H v r/\g r δ=some δ'/\∀ σ',aV c σ₀ δ₀ H₁ σ' δ' H->Out cs σ σ'->Q σ' H
abbrev qP(X:Cx)(c:Fc)(cs:List Nat)(tg:Expr)(g:DG):Prop:=PG X tg (tY cs c g)
theorem dO{np:List Nat}{i:Nat}{x:Str}(hp:Np c np)(hN:X.N.Nodup)(hi:X.N[i]? = some x)(hx:Loc X.env.scope x)(hf:X.fn x=true\/X.env.scope.names.lookup x=some .local)(hc:i ∈ cs):qP X c cs (.Name x pos) (ag np i) :=
 PG.weak (AI hN hi hx hf) λv σ H Q ⟨σ₀,δ₀,H₁,δ,r,δ',x,rr,e,q⟩=>by
  unfold ag at e;split at e
  ·cases e
  ·rename_i hn
   cases e;refine q _ (Ok.set x rr λp hm e=>hn (by rw[<- e]; exact hp p hm)) ⟨by simp,λj hj=>?_⟩;rw[W6 (λz=>hj (by rw[<- z]; exact hc))]
def ML(cs:List Nat)(c:Fc)(g:iO):lC:=λvs σ H Q=>∃ δ ds δ',Ok c σ δ H/\aH H (Av c σ δ) vs ds/\g ds δ=some δ'/\∀ σ',aV c σ δ H σ' δ' H->Out cs σ σ'->Q σ' H
abbrev tZ(X:Cx)(c:Fc)(cs:List Nat)(tg:List Expr)(g:iO):Prop:=gX X tg (ML cs c g)
theorem qQ:tZ X c cs [] bY:=gX.weak AJ λvs σ H Q ⟨δ,ds,δ',k,r,e,q⟩=>by
 cases ds with
 | nil =>
  cases e;have:vs=[]:=by have:=r.1; simpa using this
  exact⟨this,q σ (.refl k) ⟨rfl,λ_ _=>rfl⟩⟩
 | cons d r=>cases e
theorem jY{e:Expr}{es:List Expr}{g:DG}{gs:iO}(h1:qP X c cs e g)(h2:tZ X c cs es gs)(hs:(Qf (e :: es) X.env).map (·.2)=assign e X.env :: (Qf es X.env).map (·.2):=by rfl):tZ X c cs (e :: es) (aY g gs) :=
 gX.weak (AK h1 h2 hs) λvs σ H Q ⟨δ,ds,δ',k,r,e,q⟩=>by
  cases ds with
  | nil=>cases e
  | cons d ds =>
   cases vs with
   | nil=>have:=r.1; simp at this
   | cons v vs =>
    simp only[aY] at e
    cases e1:g (.pure d) δ with
    | none=>rw[e1] at e; cases e
    | some δ1 =>
     rw[e1] at e;refine⟨v,vs,rfl,σ,δ,H,δ,.pure d,δ1,.refl k,r.head,e1,λσ1 a1 o1=>?_⟩;exact⟨δ1,ds,δ',a1.ok,aH.dh r.tail a1,e,λσ2 a2 o2=>q σ2 (a1.trans a2) (o1.trans o2)⟩
theorem qR{es:List Expr}{k:Nat}{gs:iO}{n:Nat}(hc:X.calm=true)(h:tZ X c cs es gs)(hn:(Qf es X.env).length=n:=by rfl)(jL:(Qf es X.env).findIdx? (·.1)=none:=by rfl) :
  qP X c cs (.Tuple es k pos) (bV n gs):=PG.weak (AL hc h hn jL) λv σ H Q hw=>by
 obtain⟨σ₀,δ₀,H₁,δ,r,δ',x,rr,e,q⟩:=hw;have hb:=rr.b;unfold bV at e;generalize r.d=d at e hb
 cases d <;> first | (cases e; done) | skip
 rename_i ds;simp only at e;split at e
 ·rename_i hl;obtain⟨a,vs,ea,ha,ra⟩:=hb.tup;exact⟨a,vs,ea,.of ha,by rw[ra.1]; exact hl,δ,ds,δ',x.ok,ra,e,λσ' a1 o1=>q σ' (x.trans a1) o1⟩
 ·cases e
theorem aV.less(x:aV (c.plus l) σ δ H σ' δ' H'):aV c σ δ H σ' δ' H':=⟨x.ok.less,x.keep,x.own,x.there⟩
theorem CY(MM:∀ σ H R,tI c it σ H R->wi σ H R)(hg:∀ l v σ H Q,tY cs (c.plus l) g v σ H Q->gt v σ H Q)(ht:∀ l σ H Q,tT (c.plus l) t σ H Q->tt σ H Q)(he:∀ l σ H Q,tD (c.plus l) el σ H Q->te σ H Q)
  (hp:∀ p ∈ c.pin,p.1 ∉ cs) (h:tD c (bJ cs it g t el) σ H Q):v_ cs wi gt tt te σ H Q:=by
 obtain⟨δ,k,q⟩:=h;unfold bJ at q;rw[ba] at q;refine MM _ _ _ ⟨δ,k,aS q λds δ1 q1 J H1 a1 io=>?_⟩;intro l hl;split at q1
 ·exact q1.elim
 ·rename_i ku;have CZ:cs.any (cj δ1)=false:=by simpa using ku
  rw[ba] at q1;have k1:=a1.ok;have kp:=k1.plus hl (.lst []);have k0:Ok (c.plus l) (L2.bH cs σ) (bD cs δ1) (upd H1 l (.lst [])):=kp.bH hp;have up:∀ a w,H1 a=some w->upd H1 l (.lst []) a=some w:=λa w e=>by
   rw[aQ (gb e hl)]; exact e
  have h0:c.H₀ l=none:=k1.ox hl;-- the walked things,as the block sees them
  have xf:nv (c.plus l) (L2.bH cs σ) (bD cs δ1) H1 J ds:=by
   intro H2 kp2;obtain⟨s1,s2⟩:=io H2 λa o e n=>kp2 a o e λz=>n z.bH
   have cv:∀ {x:V} {d:D},Rep H1 (Av c σ δ1) x d->Rep H1 (Av (c.plus l) (L2.bH cs σ) (bD cs δ1)) x d:=λ{x d} r =>
    r.aL λb z=>by
     rcases z with (z | z) | z
     ·exact .inl (.inl z)
     ·exact .inr (by rw[z]; exact hl)
     ·exact .inl (.inr z.bH)
   refine⟨s1,λi d e=>⟨(s2 i d e).1,λx H3 y=>?_⟩⟩;rcases (s2 i d e).2 x H3 y with ⟨e3,r⟩ | ⟨p,vs,es,hp,e3,ex,ed,r⟩
   ·exact .inl ⟨e3,cv r⟩
   ·exact .inr ⟨p,vs,es,hp,e3,ex,ed,r.1,λi v d e1 e2=>cv (r.2 i v d e1 e2)⟩
  let Fin:List D->Dl->Prop:=λacc δ'=>∀ H' vs,aV (c.plus l) (L2.bH cs σ) (bD cs δ1) H1 (L2.bH cs σ) δ' H'->H' l=some (.lst vs)->aH H' (Av (c.plus l) (L2.bH cs σ) δ') vs acc->Q (.ref l) H'
  have q2:post c (cy cs g t el ds (bD cs δ1) []) Fin:=aS q1 λacc δ2 q2 H' vs x hv r=>by
   have b1:aV (c.plus l) σ δ1 H1 σ (c9 cs δ1 δ2) H':=aV.back k1 rfl (λb z=>z.elim .inl λz=>.inr (by rw[z]; exact hl)) CZ x;have b2:aV c σ δ1 H1 σ (c9 cs δ1 δ2) H':=b1.less;have len:δ1.length=δ2.length:=by
    have:=x.ok.len;rw[sS] at this;rw[this]; exact k1.len
   have MN:H l=none:=by
    cases e:H l with
    | none=>rfl
    | some o =>
     obtain⟨o',e'⟩:=a1.there l o e;rw[hl] at e'; cases e'
   refine q2 _ H' (a1.trans b2) ⟨l,rfl,⟨vs,hv,aH.aL r λb z=>.inl ?_⟩,λz=>k1.jQ hl (.inl z),h0,b1.ok,MN⟩;rcases z with z | ⟨i,d,e1,e2⟩
   ·exact .inl z
   ·have hi:i ∉ cs:=λhi=>by
     rw[xa cs δ1 δ2 i len hi] at e1;have:=List.any_eq_false.mp CZ i hi;unfold cj at this;rw[e1] at this;simp at this
    rw[tV cs δ1 δ2 i hi] at e1;exact .inr ⟨i,d,e1,by rw[kQ cs σ i hi]; exact e2⟩
  refine⟨λi m H2=>∃ δ2 acc vs,m=ds.length - i/\i<=ds.length/\aV (c.plus l) (L2.bH cs σ) (bD cs δ1) H1 (L2.bH cs σ) δ2 H2/\H2 l=some (.lst vs)/\aH H2 (Av (c.plus l) (L2.bH cs σ) δ2) vs acc /\
   post c (cy cs g t el (ds.drop i) δ2 acc) Fin,⟨ds.length,bD cs δ1,[],[],by simp,Qn _,⟨k0,λa w e _=>up a w e,λa z=>.inl z,λa w e=>⟨w,up a w e⟩⟩,cN,.nil,by rw[List.drop_zero]; exact q2⟩,?_⟩
  rintro i m H2 ⟨δ2,acc,vs,rfl,jv,a2,hv,rv,p2⟩;by_cases a7:i < ds.length
  ·right
   have e:ds[i]? = some ds[i]:=by simp[a7]
   rw[Qq a7] at p2;refine⟨((xf H2 a2.keep).2 i _ e).1,λx H3 y=>hg l _ _ _ _ ?_⟩;obtain⟨a3,r3⟩:=CV xf a2 e y;simp only[cy] at p2
   cases eg:g (.pure ds[i]) δ2 with
   | none=>rw[eg] at p2; exact p2.elim
   | some δ3 =>
    rw[eg] at p2;have p3:post c ((t δ3).bind λb δ2=>if b then(el δ2).bind λx δ3=>if acc.length < Wc then cy cs g t el (ds.drop (i + 1)) (bD cs δ3) (acc ++ [x.d]) else .stuck
     else cy cs g t el (ds.drop (i + 1)) (bD cs δ2) acc) Fin:=p2
    refine⟨L2.bH cs σ,δ2,H3,δ2,.pure ds[i],δ3,.refl a3.ok,r3,eg,λσ4 a4 o4=>?_⟩;have le:Le (L2.bH cs σ) σ4:=⟨o4.1,λj v ej=>by
     rw[o4.2 j (lQ cs σ j v ej).2]; exact ej⟩
    have hs:∀ (j:Nat) v,σ4[j]? = some (some v)->j ∉ cs->σ[j]? = some (some v):=λj v ej hj=>by
     rw[o4.2 j hj] at ej;exact(lQ cs σ j v ej).1
    refine⟨le,ht l _ _ _ ⟨δ3,a4.ok,?_⟩⟩;rw[ba] at p3;have C0:∀ p ∈ (c.plus l).pin,p.1 ∉ cs:=hp;have ib:=a2.trans (a3.trans a4);have ln:∀ {σ':St} {δ':Dl} {H':Hp},Ok (c.plus l) σ' δ' H'->¬ Own σ' δ' l:=λ{σ' δ' H'} k=>ow k
    have MO:post (c.plus l) (t δ3) λb δ5=>post c (if b then(el δ5).bind λx δ3=>if acc.length < Wc then cy cs g t el (ds.drop (i + 1)) (bD cs δ3) (acc ++ [x.d]) else .stuck
     else cy cs g t el (ds.drop (i + 1)) (bD cs δ5) acc) Fin:=p3
    refine aS MO λb δ5 p5 H5 a5=>?_
    have C3:=ib.trans a5;have MP:H3 l=some (.lst vs):=a3.keep l _ hv (ln a2.ok);have C4:H5 l=some (.lst vs):=a5.keep l _ MP (ln a4.ok);have C5:=aH.dh (aH.dh (aH.dh rv a3) a4) a5
    cases b with
    | false =>
     have c5:=C3.clear le C0 hs;refine⟨ds.length - (i + 1),by omega,bD cs δ5,acc,vs,rfl,a7,c5,C4,aH.aL C5 λb z=>.inl ?_,p5⟩;exact z.elim .inl λ⟨j,d,e1,e2⟩=>.inr ⟨j,d,(iP cs δ5 j _ e1).1,le.2 j _ e2⟩
    | true =>
     have C6:post c ((el δ5).bind λx δ3=>if acc.length < Wc then cy cs g t el (ds.drop (i + 1)) (bD cs δ3) (acc ++ [x.d]) else .stuck) Fin:=p5;rw[ba] at C6;refine he l _ _ _ ⟨δ5,a5.ok,?_⟩;have p6:post (c.plus l) (el δ5) λx δ6=>post c (if acc.length < Wc then cy cs g t el (ds.drop (i + 1)) (bD cs δ6) (acc ++ [x.d]) else .stuck) Fin:=C6
     refine aS p6 λx δ6 p7 v H6 a6 r6=>?_
     split at p7
     ·rename_i hz;have MQ:=C3.trans a6;have MR:H6 l=some (.lst vs):=a6.keep l _ C4 (ln a5.ok);have C7:=aH.dh C5 a6;have rr:aH H6 (Av (c.plus l) σ4 δ6) (vs ++ [v]) (acc ++ [x.d]):=C7.append (.cons r6.rep .nil);have c6:=MQ.clear le C0 hs;have t4:∀ b o,H6 b=some o->¬ Av (c.plus l) σ4 δ6 b->upd H6 l (.lst (vs ++ [v])) b=some o:=λb o e n=>by
       rw[aQ (λz=>n (by rw[z]; exact .inl (.inr rfl)))]; exact e
      have MS:∀ b,Av (c.plus l) (L2.bH cs σ) (bD cs δ6) b->Av (c.plus l) σ4 δ6 b:=λb z=>z.elim .inl λ⟨j,d,e1,e2⟩=>.inr ⟨j,d,(iP cs δ6 j _ e1).1,le.2 j _ e2⟩
      refine⟨vs,ds.length - (i + 1),MR,by rw[C7.1]; exact hz,by omega,bD cs δ6,acc ++ [x.d],vs ++ [v],rfl,a7,?_,cN,aH.aL (aH.keep rr t4) λb z=>.inl (MS b z),p7⟩;-- the list that is built has grown
      refine⟨c6.ok.MJ (.inr rfl) h0 _,λa o ea n=>?_,λa z=>c6.own a z,λa o ea=>?_⟩
      ·have t5:a≠l:=λz=>by rw[z,hl] at ea; cases ea
       rw[aQ t5]; exact c6.keep a o ea n
      ·by_cases t5:a=l
       ·exact⟨_,by rw[t5]; exact cN⟩
       ·obtain⟨o',e'⟩:=c6.there a o ea;exact⟨o',by rw[aQ t5]; exact e'⟩
     ·exact p7.elim
  ·left
   have w8:i=ds.length:=by omega
   subst w8;rw[List.drop_length] at p2;exact⟨(xf H2 a2.keep).1,p2 H2 vs a2 hv rv⟩
theorem ic(hc:X.calm=true)(S:mZ X scope cs)(hi:SI X c tg iter it)(hg:∀ l s₀ H₀ ex,qP (e7 X scope s₀ H₀ ex) (c.plus l) cs tg g)(ht:∀ l s₀ H₀ ex,tW (e7 X scope s₀ H₀ ex) (c.plus l) ifs t)
  (he:∀ l s₀ H₀ ex,SE (e7 X scope s₀ H₀ ex) (c.plus l) elt el) (hp:∀ p ∈ c.pin,p.1 ∉ cs) (hs:∀ x,QQ iter X.env x=pure x:=by intro _; rfl) :
  SE X c (.ListComp elt [⟨tg,iter,ifs,0⟩] scope pos) (bJ cs it g t el) :=
 PE.weak (Ly (g:=λv σ H Q=>∃ l,tY cs (c.plus l) g v σ H Q) (tt:=λσ H Q=>∃ l,tT (c.plus l) t σ H Q) (te:=λσ H Q=>∃ l,tD (c.plus l) el σ H Q) hc S hi
  (λs₀ H₀ ex pins s σ H v u Q I r ⟨l,q⟩=>hg l s₀ H₀ ex pins s σ H v u Q I r q) (λs₀ H₀ ex pins s σ H Q I ⟨l,q⟩=>ht l s₀ H₀ ex pins s σ H Q I q) (λs₀ H₀ ex pins s σ H Q I ⟨l,q⟩=>he l s₀ H₀ ex pins s σ H Q I q) hs)
  λσ H Q h=>CY (λ_ _ _ h=>h) (λl _ _ _ _ h=>⟨l,h⟩) (λl _ _ _ h=>⟨l,h⟩) (λl _ _ _ h=>⟨l,h⟩) hp h
theorem qS{np:List Nat}{i:Nat}{y:Str}{py sW:Pos}(au:Np c np)(hc:X.calm=true)(S:mZ X scope cs)(hN:X.N.Nodup)(kE:X.N[i]? = some y)(hy:X.env.scope.names.lookup y=some .local)
  (hi:SI X c tg iter it) (hg:∀ l s₀ H₀ ex,qP (e7 X scope s₀ H₀ ex) (c.plus l) cs tg g) (ht:∀ l s₀ H₀ ex,tW (e7 X scope s₀ H₀ ex) (c.plus l) ifs t)
  (he:∀ l s₀ H₀ ex,SE (e7 X scope s₀ H₀ ex) (c.plus l) elt el) (hp:∀ p ∈ c.pin,p.1 ∉ cs)
  (qy:Jq (.ListComp elt [⟨tg,iter,ifs,0⟩] scope pos) (some (.Name y py)) sW.line X.env=pure true:=by rfl) (hs:∀ x,QQ iter X.env x=pure x:=by intro _; rfl) :
  SS X c (.Assign [.Name y py] (.ListComp elt [⟨tg,iter,ifs,0⟩] scope pos) sW) (az (bJ cs it g t el) (ag np i)) :=
 PS.weak (Lz (g:=λv σ H Q=>∃ l,tY cs (c.plus l) g v σ H Q) (tt:=λσ H Q=>∃ l,tT (c.plus l) t σ H Q) (te:=λσ H Q=>∃ l,tD (c.plus l) el σ H Q) hc S hN kE hy hi
  (λs₀ H₀ ex pins s σ H v u Q I r ⟨l,q⟩=>hg l s₀ H₀ ex pins s σ H v u Q I r q) (λs₀ H₀ ex pins s σ H Q I ⟨l,q⟩=>ht l s₀ H₀ ex pins s σ H Q I q) (λs₀ H₀ ex pins s σ H Q I ⟨l,q⟩=>he l s₀ H₀ ex pins s σ H Q I q) qy hs)
  λD σ H h=>wW (λσ H Q h=>CY (λ_ _ _ h=>h) (λl _ _ _ _ h=>⟨l,h⟩) (λl _ _ _ h=>⟨l,h⟩) (λl _ _ _ h=>⟨l,h⟩) hp h) (λ_ _ _ _ h=>wV au h) h
end
abbrev DF:=List S->Option (S×List S)
def dG:Nat->List S->List V->List (Nat×Addr)
 | n,.own _ :: ss,.ref a :: vs=>(n,a) :: dG (n + 1) ss vs
 | n,_ :: ss,_ :: vs=>dG (n + 1) ss vs
 | _,_,_=>[]
theorem qT:∀ {n:Nat} {ss:List S} {vs:List V} {i:Nat} {a:Addr},(i,a) ∈ dG n ss vs->∃ j d,i=n + j/\ss[j]? = some (.own d)/\vs[j]? = some (.ref a)
 | n,[],vs,i,a,h=>by simp[dG] at h
 | n,s :: ss,[],i,a,h=>by cases s <;> simp[dG] at h
 | n,s :: ss,v :: vs,i,a,h=>by
  have xg:(i,a) ∈ dG (n + 1) ss vs->∃ j d,i=n + j/\(s :: ss)[j]? = some (.own d)/\(v :: vs)[j]? = some (.ref a):=λh=>by
   obtain⟨j,d,e,h1,h2⟩:=qT h;exact⟨j + 1,d,by omega,by simpa using h1,by simpa using h2⟩
  cases s with
  | pure d=>exact xg h
  | own d =>
   cases v with
   | ref b =>
    rcases Wj.mp h with e | h
    ·cases e;exact⟨0,d,rfl,rfl,rfl⟩
    ·exact xg h
   | _=>exact xg h
theorem t6:∀ {n:Nat} {ss:List S} {vs:List V} {j:Nat} {d:D} {a:Addr},ss[j]? = some (.own d)->vs[j]? = some (.ref a)->(n + j,a) ∈ dG n ss vs
 | n,[],vs,j,d,a,h,_=>by simp at h
 | n,s :: ss,[],j,d,a,_,h=>by simp at h
 | n,s :: ss,v :: vs,0,d,a,h1,h2=>by
  simp at h1 h2;subst h1 h2;exact Wh
 | n,s :: ss,v :: vs,j + 1,d,a,h1,h2=>by
  have ih:=t6 (n:=n + 1) (ss:=ss) (vs:=vs) (j:=j) (d:=d) (a:=a) (by simpa using h1) (by simpa using h2);have e:n + 1 + j=n + (j + 1):=by omega
  rw[e] at ih
  cases s with
  | pure d=>exact ih
  | own d =>
   cases v with
   | ref b=>exact W9 _ ih
   | _=>exact ih
abbrev cQ(vs:List V):St:=vs.map some
abbrev cR(ss:List S):Dl:=ss.map some
theorem fD{ss:List S}{i:Nat}{r:S}:(cR ss)[i]? = some (some r) ↔ ss[i]? = some r:=by
 rw[Wl]
 cases ss[i]? <;> simp
theorem fP{vs:List V}{i:Nat}{v:V}:(cQ vs)[i]? = some (some v) ↔ vs[i]? = some v:=by
 rw[Wl]
 cases vs[i]? <;> simp
def kR(n:Nat)(G:DF):Sp:=λvs H Q _=>∃ ss B,vs.length=n/\Ok ⟨H,B,dG 0 ss vs,λ_ _=>False⟩ (cQ vs) (cR ss) H/\∃ r aW,G ss=some (r,aW) /\
 ∀ v H',aV ⟨H,B,dG 0 ss vs,λ_ _=>False⟩ (cQ vs) (cR ss) H (cQ vs) (cR aW) H'->bf ⟨H,B,dG 0 ss vs,λ_ _=>False⟩ (cQ vs) (cR aW) H H' v r->Q v H'
def aX(P:Wm)(w:Ws)(K:W2)(mg:Str->Option Value)(base:Heap)(k:Nat)(x:Str)(n:Nat)(G:DF):Prop :=
 ∃ (f:Addr) (fd:Qi) (ps:List Str),mg x=some (.ref f)/\JH K (.ref f)=true/\Binds K fd ps []/\jd P w K mg base jg k f fd ps (kR n G)
def bQ(n:Nat)(ss:List S):Dl:=cR ss ++ Wg (n - ss.length) none
def cu:Nat->List S->Dl->Option (List S)
 | _,[],_=>some []
 | n,.pure d :: ss,δ=>(cu (n + 1) ss δ).map (.pure d :: ·)
 | n,.own _ :: ss,δ=>match δ[n]? with
  | some (some (.own d'))=>(cu (n + 1) ss δ).map (.own d' :: ·)
  | _=>none
def dt:Fl->Option S
 | .next=>some (.pure .aJ)
 | .ret r=>some r
 | _=>none
def gJ(f:DS)(n:Nat)(ss:List S):Option (S×List S):=match f (bQ n ss) with
 | .ok fl δ=>(dt fl).bind λr=>(cu 0 ss δ).map λaW=>(r,aW)
 | _=>none
def cF(np:List Nat):Nat->List S->Bool
 | _,[]=>true
 | n,.own _ :: ss=>np.contains n && cF np (n + 1) ss
 | n,.pure _ :: ss=>cF np (n + 1) ss
theorem C8:∀ {n:Nat} {ss:List S} {j:Nat} {d:D},cF np n ss=true->ss[j]? = some (.own d)->np.contains (n + j)=true
 | n,[],j,d,_,h=>by simp at h
 | n,s :: ss,0,d,h,e=>by
  simp at e;subst e;simp only[cF,Wv] at h;exact h.1
 | n,s :: ss,j + 1,d,h,e=>by
  have h':cF np (n + 1) ss=true:=by
   cases s with
   | pure d=>exact h
   | own d=>simp only[cF,Wv] at h; exact h.2
  have:=C8 (n:=n + 1) (j:=j) h' (by simpa using e);rw[show n + (j + 1)=n + 1 + j by omega];exact this
theorem t8:∀ {n:Nat} {ss aW:List S} {δ:Dl},cu n ss δ=some aW->aW.length=ss.length/\∀ (i:Nat) s,ss[i]? = some s->(∃ d,s = .pure d/\aW[i]? = some (.pure d))\/∃ d d',s = .own d/\δ[n + i]? = some (some (.own d'))/\aW[i]? = some (.own d')
 | n,[],aW,δ,h=>by
  simp only[cu,W8] at h;subst h;exact⟨rfl,λi s e=>by simp at e⟩
 | n,.pure d :: ss,aW,δ,h=>by
  simp only[cu] at h
  cases e:cu (n + 1) ss δ with
  | none=>rw[e] at h; cases h
  | some os =>
   rw[e] at h;simp only[WB,W8] at h;subst h;obtain⟨h1,h2⟩:=t8 e;refine⟨by simp[h1],λi s es=>?_⟩
   cases i with
   | zero=>simp at es; subst es; exact .inl ⟨d,rfl,rfl⟩
   | succ i =>
    rcases h2 i s (by simpa using es) with ⟨d,z1,z2⟩ | ⟨d,d',z1,z2,z3⟩
    ·exact .inl ⟨d,z1,by simpa using z2⟩
    ·exact .inr ⟨d,d',z1,by rw[show n + (i + 1)=n + 1 + i by omega]; exact z2,by simpa using z3⟩
 | n,.own d :: ss,aW,δ,h=>by
  simp only[cu] at h;split at h
  ·rename_i d' ed
   cases e:cu (n + 1) ss δ with
   | none=>rw[e] at h; cases h
   | some os =>
    rw[e] at h;simp only[WB,W8] at h;subst h;obtain⟨h1,h2⟩:=t8 e;refine⟨by simp[h1],λi s es=>?_⟩
    cases i with
    | zero=>simp at es; subst es; exact .inr ⟨d,d',rfl,ed,rfl⟩
    | succ i =>
     rcases h2 i s (by simpa using es) with ⟨d,z1,z2⟩ | ⟨d,d',z1,z2,z3⟩
     ·exact .inl ⟨d,z1,by simpa using z2⟩
     ·exact .inr ⟨d,d',z1,by rw[show n + (i + 1)=n + 1 + i by omega]; exact z2,by simpa using z3⟩
  ·cases h
section
variable {c:Fc} {H H':Hp} {vs:List V} {ss aW:List S} {σ':St} {δ':Dl}
theorem lZ{α:Type}{l:List (Option α)}{k i:Nat}{v:α}(h:(l ++ Wg k none)[i]? = some (some v)):l[i]? = some (some v):=by
 by_cases hi:i < l.length
 ·rw[J4 hi] at h; exact h
 ·rw[List.getElem?_append_right (by omega),List.getElem?_replicate] at h;split at h <;> cases h
theorem kS{α:Type}{l:List (Option α)}{k i:Nat}{v:α}(h:l[i]? = some (some v)):(l ++ Wg k none)[i]? = some (some v):=by
 have hi:i < l.length:=(W1.mp h).1;rw[J4 hi]; exact h
theorem Own.ext{σ:St}{δ:Dl}{k:Nat}{a:Addr}:Own (σ ++ Wg k none) (δ ++ Wg k none) a ↔ Own σ δ a :=
 ⟨λ⟨i,d,e1,e2⟩=>⟨i,d,lZ e1,lZ e2⟩,λ⟨i,d,e1,e2⟩=>⟨i,d,kS e1,kS e2⟩⟩
theorem Ok.ext{σ:St}{δ:Dl}(k:Ok c σ δ H)(n:Nat):Ok c (σ ++ Wg n none) (δ ++ Wg n none) H:=by
 have sub:∀ b,Av c (σ ++ Wg n none) (δ ++ Wg n none) b->Av c σ δ b:=λb z=>z.elim .inl λz=>.inr (Own.ext.mp z)
 refine⟨k.keep,k.bd,k.dC,by simp[k.len],λi d e=>?_,λi d e=>?_,λi j a d d' e1 e2 e3 e4=>k.inj i j a d d' (lZ e1) (lZ e2) (lZ e3) (lZ e4),λp hm=>kS (k.pinned p hm)⟩
 ·obtain⟨v,h1,h2⟩:=k.slot i d (lZ e);exact⟨v,kS h1,h2.aL λb z=>.inl (sub b z)⟩
 ·obtain⟨a,h1,h2,h3⟩:=k.own i d (lZ e);exact⟨a,kS h1,h2.aL λb z=>.inl (sub b z),h3⟩
theorem C9{B:Addr->Prop}{n:Nat}(hc:c = ⟨H,B,dG 0 ss vs,λ_ _=>False⟩)(k:Ok c (cQ vs) (cR ss) H)(x:aV c (cQ vs ++ Wg n none) (cR ss ++ Wg n none) H σ' δ' H')(ho:cu 0 ss δ'=some aW) :
  aV c (cQ vs) (cR ss) H (cQ vs) (cR aW) H'/\∀ v r,bf c σ' δ' H H' v r->bf c (cQ vs) (cR aW) H H' v r:=by
 obtain⟨hlen,l0⟩:=t8 ho;have ny:ss.length=vs.length:=by have:=k.len; simpa using this
 have pin:∀ (i:Nat) (a:Addr) (d:D),ss[i]? = some (.own d)->vs[i]? = some (.ref a)->σ'[i]? = some (some (.ref a)):=λi a d h1 h2=>by
  have:=t6 (n:=0) h1 h2;rw[QD] at this;exact x.ok.pinned (i,a) (by rw[hc]; exact this)
 have t9:∀ (i:Nat) (d:D),aW[i]? = some (.own d)->(∃ d₀,ss[i]? = some (.own d₀))/\δ'[i]? = some (some (.own d)):=λi d e=>by
  have hi:i < ss.length:=by rw[<- hlen]; exact(W1.mp e).1
  rcases l0 i ss[i] (by simp[hi]) with ⟨d₁,z1,z2⟩ | ⟨d₁,d',z1,z2,z3⟩
  ·rw[e] at z2; cases z2
  ·rw[e] at z3; cases z3
   rw[QD] at z2;exact⟨⟨d₁,by rw[W5 hi,z1]⟩,z2⟩
 have sub:∀ b,Own (cQ vs) (cR aW) b->Own σ' δ' b:=λb ⟨i,d,e1,e2⟩=>by
  obtain⟨⟨d₀,h0⟩,h1⟩:=t9 i d (fD.mp e1);exact⟨i,d,h1,pin i b d₀ h0 (fP.mp e2)⟩
 have iQ:∀ b,Av c (cQ vs) (cR aW) b->Av c σ' δ' b:=λb z=>z.elim .inl λz=>.inr (sub b z)
 have C_:∀ {c':Fc},c'.pin=c.pin->Ok c' σ' δ' H'->(∀ b,c.B b->c'.B b)->(∀ (i:Nat) d v,ss[i]? = some (.pure d)->vs[i]? = some v->Rep H' (Av c' σ' δ') v d)->Ok c' (cQ vs) (cR aW) H':=λ{c'} ep k' hB hsl=>by
  have Dc:∀ b,Av c' (cQ vs) (cR aW) b->Av c' σ' δ' b:=λb z=>z.elim .inl λz=>.inr (sub b z)
  refine⟨k'.keep,k'.bd,k'.dC,by simp[hlen,ny],λi d e=>?_,λi d e=>?_,λi j a d d' e1 e2 e3 e4=>?_,λp hm=>?_⟩
  ·have e':=fD.mp e;have hi:i < ss.length:=by rw[<- hlen]; exact(W1.mp e').1
   have hv:i < vs.length:=by omega
   rcases l0 i ss[i] (by simp[hi]) with ⟨d₁,z1,z2⟩ | ⟨d₁,d',z1,z2,z3⟩
   ·rw[e'] at z2; cases z2
    exact⟨vs[i],by simp[hv],(hsl i d vs[i] (by rw[W5 hi,z1]) (by simp[hv])).aL λb z=>.inl (Dc b z)⟩
   ·rw[e'] at z3; cases z3
  ·have e':=fD.mp e;obtain⟨⟨d₀,h0⟩,h1⟩:=t9 i d e';obtain⟨a₀,h2,_⟩:=k.own i d₀ (fD.mpr h0);obtain⟨a,h3,h4,h5⟩:=k'.own i d h1;rw[pin i a₀ d₀ h0 (fP.mp h2)] at h3
   cases h3;exact⟨a₀,h2,h4.aL λb z=>.inl (Dc b z),h5⟩
  ·obtain⟨⟨d₀,h0⟩,h1⟩:=t9 i d (fD.mp e1);obtain⟨⟨d₁,h2⟩,h3⟩:=t9 j d' (fD.mp e2);exact k'.inj i j a d d' h1 h3 (pin i a d₀ h0 (fP.mp e3)) (pin j a d₁ h2 (fP.mp e4))
  ·exact k.pinned p (by rw[<- ep]; exact hm)
 have slots:∀ (i:Nat) d v,ss[i]? = some (.pure d)->vs[i]? = some v->Rep H' (Av c σ' δ') v d:=λi d v h1 h2=>by
  obtain⟨w,e1,r⟩:=(k.ext n).slot i d (kS (fD.mpr h1));rw[kS (fP.mpr h2)] at e1
  cases e1;exact Rep.dh r x
 refine⟨⟨C_ rfl x.ok (λ_ z=>z) slots,λa o e m=>x.keep a o e λz=>m (Own.ext.mp z),λa z=>(x.own a (sub a z)).elim (λz=>.inl (Own.ext.mp z)) .inr,x.there⟩,λv r hr=>?_⟩
 cases r with
 | pure d=>exact Rep.aL hr λb z=>.inl (iQ b z)
 | own d =>
  obtain⟨a,ea,o,nb,h0,kp,hs⟩:=hr;refine⟨a,ea,o.aL λb z=>.inl (z.elim .inl λz=>.inr (sub b z)),nb,h0,C_ rfl kp (λ_ z=>.inl z) λi d v h1 h2=>?_,hs⟩;obtain⟨w,e1,r⟩:=(k.ext n).slot i d (kS (fD.mpr h1));rw[kS (fP.mpr h2)] at e1
  cases e1;have oK:H a=none:=hs;have r1:Rep H (Av c (cQ vs ++ Wg n none) (cR ss ++ Wg n none)) v d:=r;have r2:Rep H (λb=>Av c (cQ vs ++ Wg n none) (cR ss ++ Wg n none) b\/Av (c.plus a) σ' δ' b) v d:=r1.aL λb z=>by
   rcases z with z | (z | z) | z
   ·exact .inl z
   ·exact .inl (.inl z)
   ·exact .inr (by rw[z]; exact oK)
   ·rcases x.own b z with q | q
    ·exact .inl (.inr q)
    ·exact .inr q
  exact(r2.keep λb o e m=>x.keep b o e λz=>m (.inl (.inr z))).aL λb z=>.inl (.inr z)
end
section
variable {P:Wm} {w:Ws} {K:W2} {mg:Str->Option Value} {base:Heap}
theorem Dd{x qual:Str}{st:Stmt}{f:Addr}{fd:Qi}{N ps:List Str}{k:Nat}{np:List Nat}{fb:DS}{G:DF}(F:cx K x qual st f fd)(S:cW N ps (bW st))
  (mU:∀ (c:Fc) (bu:Value) (A:Wt) (outer:List Env) (s:W3) (H:Hp) (E:XK),eB k (A.deeper (envOfC qual (bW st) s.heap.objs.size f bu))->Np c np->iN (lH jg P w K mg base N qual (bW st) f bu A outer s H E).oi c (jf st) fb)
  (hG:∀ ss y,G ss=some y->cF np 0 ss=true/\gJ fb N.length ss=some y):jd P w K mg base jg (k + 1) f fd ps (kR ps.length G):=by
 refine F.ok S (λvs H Q E h=>?_) λbu A outer s H vs Q E hr h=>?_
 ·obtain⟨ss,B,hl,_⟩:=h;exact hl
 ·obtain⟨ss,B,hl,ok,r,aW,hg,q⟩:=h;obtain⟨ie,hrun⟩:=hG ss _ hg;have ny:ss.length=vs.length:=by have:=ok.len; simpa using this
  have MT:Np ⟨H,B,dG 0 ss vs,λ_ _=>False⟩ np:=λp hp=>by
   obtain⟨j,d,e,h1,_⟩:=qT (i:=p.1) (a:=p.2) hp;rw[e];exact C8 ie h1
  refine⟨qJ ⟨H,B,dG 0 ss vs,λ_ _=>False⟩ fb,mU ⟨H,B,dG 0 ss vs,λ_ _=>False⟩ bu A outer s H E hr MT,?_⟩;have jL:fw N vs=cQ vs ++ Wg (N.length - ss.length) none:=by rw[ny]; rfl
  refine⟨bQ N.length ss,by rw[jL]; exact ok.ext _,?_⟩;unfold gJ at hrun;unfold fg
  cases e:fb (bQ N.length ss) with
  | exc x δx=>rw[e] at hrun; cases hrun
  | stuck=>rw[e] at hrun; cases hrun
  | ok fl δ' =>
   rw[e] at hrun;show ∀ σ' H',aV _ (fw N vs) (bQ N.length ss) H σ' δ' H'->fin _ _ σ' δ' H' fl;intro σ' H' a;rw[jL] at a;simp only at hrun
   cases fl with
   | brk=>cases hrun
   | cont=>cases hrun
   | next =>
    simp only[dt,Qs] at hrun
    cases eo:cu 0 ss δ' with
    | none=>rw[eo] at hrun; cases hrun
    | some os =>
     rw[eo] at hrun
     cases hrun;obtain⟨l1,l2⟩:=C9 rfl ok a eo;exact q .aJ H' l1 .aJ
   | ret r' =>
    simp only[dt,Qs] at hrun
    cases eo:cu 0 ss δ' with
    | none=>rw[eo] at hrun; cases hrun
    | some os =>
     rw[eo] at hrun
     cases hrun;obtain⟨l1,l2⟩:=C9 rfl ok a eo;exactλv rv=>q v H' l1 (l2 v _ rv)
theorem d_{x qual:Str}{st:Stmt}{f:Addr}{fd:Qi}{N ps:List Str}{k:Nat}{np:List Nat}{fb:DS}{G:DF}(F:cx K x qual st f fd)(hm:mg x=some (.ref f))(hb:Binds K fd ps [])(S:cW N ps (bW st))
  (mU:∀ (c:Fc) (bu:Value) (A:Wt) (outer:List Env) (s:W3) (H:Hp) (E:XK),eB k (A.deeper (envOfC qual (bW st) s.heap.objs.size f bu))->Np c np->iN (lH jg P w K mg base N qual (bW st) f bu A outer s H E).oi c (jf st) fb)
  (hG:∀ ss y,G ss=some y->cF np 0 ss=true/\gJ fb N.length ss=some y):aX P w K mg base (k + 1) x ps.length G:=⟨f,fd,ps,hm,F.kp,hb,Dd F S mU hG⟩
end
inductive Ak where
 | val (f:DE)
 | io (i:Nat)
def bK:List Ak->Dl->Rs (List (Option D))
 | [],δ=>.ok [] δ
 | .val f :: r,δ=>(f δ).bind λx δ1=>(bK r δ1).bind λxs δ2=>.ok (some x.d :: xs) δ2
 | .io _ :: r,δ=>(bK r δ).bind λxs δ2=>.ok (none :: xs) δ2
inductive iR (c:Fc) (σ:St) (δ:Dl) (H:Hp):List V->List Ak->List (Option D)->Prop
 | nil:iR c σ δ H [] [] []
 | val {v:V} {d:D} {f:DE} {vs:List V} {as:List Ak} {ds:List (Option D)}:Rep H (Av c σ δ) v d->iR c σ δ H vs as ds->iR c σ δ H (v :: vs) (.val f :: as) (some d :: ds)
 | io {v:V} {i:Nat} {vs:List V} {as:List Ak} {ds:List (Option D)}:σ[i]? = some (some v)->iR c σ δ H vs as ds->iR c σ δ H (v :: vs) (.io i :: as) (none :: ds)
def tX(c:Fc)(as:List Ak):TA:=λσ H Q=>∃ δ,Ok c σ δ H/\(∀ i,Ak.io i ∈ as->∃ v,σ[i]? = some (some v))/\post c (bK as δ) λds δ'=>∀ vs H',aV c σ δ H σ δ' H'->iR c σ δ' H' vs as ds->Q vs H'
abbrev SX(X:Cx)(c:Fc)(es:List Expr)(as:List Ak):Prop:=PA X es (tX c as)
section
variable {X:Cx} {c:Fc} {e:Expr} {es:List Expr} {fe:DE} {as:List Ak} {pos pp:Pos}
theorem cf:SX X c [] []:=PA.weak iF λσ H Q ⟨δ,k,_,q⟩=>q [] H (.refl k) .nil
theorem MU(ha:SE X c e fe)(hr:SX X c es as)(hs:Wk (e :: es) X.env=(false,eval e X.env) :: Wk es X.env:=by rfl):SX X c (e :: es) (.val fe :: as):=PA.weak (fK ha hr hs) λσ H Q ⟨δ,k,ie,q⟩=>by
 unfold bK at q;rw[ba] at q;refine⟨δ,k,aS q λx δ1 q1 v H1 a1 r1=>⟨δ1,a1.ok,λi hi=>ie i (W9 _ hi),?_⟩⟩;rw[ba] at q1;exact aS q1 λxs δ2 q2 vs H2 a2 r2=>q2 (v :: vs) H2 (a1.trans a2) (.val (Rep.dh r1.rep a2) r2)
theorem MV(ha:PE X e (bZ i))(hr:SX X c es as)(hs:Wk (e :: es) X.env=(false,eval e X.env) :: Wk es X.env:=by rfl):SX X c (e :: es) (.io i :: as):=PA.weak (fK ha hr hs) λσ H Q ⟨δ,k,ie,q⟩=>by
 obtain⟨v,ev⟩:=ie i Wh;unfold bK at q;rw[ba] at q;exact⟨v,ev,δ,k,λi hi=>ie i (W9 _ hi),aS q λxs δ2 q2 vs H2 a2 r2=>q2 (v :: vs) H2 a2 (.io ev r2)⟩
end
def bo:List Ak->List (Option D)->Dl->Option (List S)
 | [],[],_=>some []
 | .val _ :: as,some d :: ds,δ=>(bo as ds δ).map (.pure d :: ·)
 | .io i :: as,none :: ds,δ=>match δ[i]? with
  | some (some (.own d))=>(bo as ds δ).map (.own d :: ·)
  | _=>none
 | _,_,_=>none
def aZ:List Ak->List Nat
 | []=>[]
 | .val _ :: as=>aZ as
 | .io i :: as=>i :: aZ as
def aT:List Ak->List S->Dl->Dl
 | .io i :: as,r :: rs,δ=>aT as rs (δ.set i (some r))
 | .val _ :: as,_ :: rs,δ=>aT as rs δ
 | _,_,δ=>δ
def bR:List Nat->Bool
 | []=>true
 | i :: r=>!r.contains i && bR r
def aI(G:DF)(as:List Ak):DE:=λδ=>if (aZ as).all (cj δ) && bR (aZ as) then(bK as δ).bind λds δ1=>match bo as ds δ1 with
  | none=>.stuck
  | some ss=>match G ss with
   | none=>.stuck
   | some (r,aW)=>.ok r (aT as aW δ1)
 else .stuck
theorem De:∀ {l:List Nat},bR l=true->l.Nodup
 | [],_=>.nil
 | i :: r,h=>by
  simp only[bR,Wv,Bool.not_eq_true'] at h;exact WT.mpr ⟨λhm=>by have:=h.1; simp at this; exact this hm,De h.2⟩
theorem l5:∀ {as:List Ak} {i:Nat},i ∈ aZ as ↔ Ak.io i ∈ as
 | [],i=>by simp[aZ]
 | .val f :: as,i=>by simp[aZ,l5 (as:=as)]
 | .io j :: as,i=>by simp[aZ,l5 (as:=as)]
theorem xh:∀ {as:List Ak} {i j k:Nat},(aZ as).Nodup->as[j]? = some (.io i)->as[k]? = some (.io i)->j=k
 | [],i,j,k,_,h,_=>by simp at h
 | .val f :: as,i,j,k,nd,h1,h2=>by
  cases j with
  | zero=>simp at h1
  | succ j =>
   cases k with
   | zero=>simp at h2
   | succ k=>exact congrArg (· + 1) (xh (as:=as) nd (by simpa using h1) (by simpa using h2))
 | .io n :: as,i,j,k,nd,h1,h2=>by
  have oM:=WT.mp nd
  cases j with
  | zero =>
   simp at h1;subst h1
   cases k with
   | zero=>rfl
   | succ k=>exact absurd (l5.mpr (WE (by simpa using h2))) oM.1
  | succ j =>
   cases k with
   | zero =>
    simp at h2;subst h2;exact absurd (l5.mpr (WE (by simpa using h1))) oM.1
   | succ k=>exact congrArg (· + 1) (xh (as:=as) oM.2 (by simpa using h1) (by simpa using h2))
section
variable {c:Fc} {σ:St} {δ:Dl} {H:Hp} {vs:List V} {as:List Ak} {ds:List (Option D)} {ss:List S}
theorem t_(h:iR c σ δ H vs as ds):∀ {ss:List S},bo as ds δ=some ss->ss.length=vs.length/\as.length=vs.length/\∀ (j:Nat) s v,ss[j]? = some s->vs[j]? = some v ->
  (∃ d f,s = .pure d/\as[j]? = some (.val f)/\Rep H (Av c σ δ) v d)\/∃ d i,s = .own d/\as[j]? = some (.io i)/\σ[i]? = some (some v)/\δ[i]? = some (some (.own d)):=by
 induction h with
 | nil =>
  intro ss h;simp only[bo,W8] at h;subst h;exact⟨rfl,rfl,λj s v e _=>by simp at e⟩
 | @val v d f vs as ds r _ ih =>
  intro ss h;simp only[bo] at h
  cases e:bo as ds δ with
  | none=>rw[e] at h; cases h
  | some rs =>
   rw[e] at h;simp only[WB,W8] at h;subst h;obtain⟨h1,h2,h3⟩:=ih e;refine⟨by simp[h1],by simp[h2],λj s v' e1 e2=>?_⟩
   cases j with
   | zero=>simp at e1 e2; subst e1 e2; exact .inl ⟨d,f,rfl,rfl,r⟩
   | succ j=>simpa using h3 j s v' (by simpa using e1) (by simpa using e2)
 | @io v i vs as ds ev _ ih =>
  intro ss h;simp only[bo] at h;split at h
  ·rename_i d ed
   cases e:bo as ds δ with
   | none=>rw[e] at h; cases h
   | some rs =>
    rw[e] at h;simp only[WB,W8] at h;subst h;obtain⟨h1,h2,h3⟩:=ih e;refine⟨by simp[h1],by simp[h2],λj s v' e1 e2=>?_⟩
    cases j with
    | zero=>simp at e1 e2; subst e1 e2; exact .inr ⟨d,i,rfl,rfl,ev,ed⟩
    | succ j=>simpa using h3 j s v' (by simpa using e1) (by simpa using e2)
  ·cases h
theorem xi:∀ (as:List Ak) (rs:List S) (δ:Dl),(aT as rs δ).length=δ.length
 | [],rs,δ=>by simp[aT]
 | .val f :: as,[],δ=>by simp[aT]
 | .io i :: as,[],δ=>by simp[aT]
 | .val f :: as,r :: rs,δ=>by simp[aT,xi as rs δ]
 | .io i :: as,r :: rs,δ=>by simp[aT,xi as rs]
theorem qU:∀ (as:List Ak) (rs:List S) (δ:Dl) (i:Nat),i ∉ aZ as->(aT as rs δ)[i]? = δ[i]?
 | [],rs,δ,i,_=>by simp[aT]
 | .val f :: as,[],δ,i,_=>by simp[aT]
 | .io j :: as,[],δ,i,_=>by simp[aT]
 | .val f :: as,r :: rs,δ,i,h=>by rw[aT]; exact qU as rs δ i h
 | .io j :: as,r :: rs,δ,i,h=>by
  simp only[aZ,Wj,not_or] at h;rw[aT,qU as rs _ i h.2,W6 (Ne.symm h.1)]
theorem ua:∀ (as:List Ak) (rs:List S) (δ:Dl) (i j:Nat) (r:S),(aZ as).Nodup->as[j]? = some (.io i)->rs[j]? = some r->i < δ.length->(aT as rs δ)[i]? = some (some r)
 | [],rs,δ,i,j,r,_,h,_,_=>by simp at h
 | a :: as,[],δ,i,j,r,_,_,h,_=>by simp at h
 | .val f :: as,r0 :: rs,δ,i,j,r,nd,h1,h2,hi=>by
  cases j with
  | zero=>simp at h1
  | succ j=>rw[aT]; exact ua as rs δ i j r nd (by simpa using h1) (by simpa using h2) hi
 | .io k :: as,r0 :: rs,δ,i,j,r,nd,h1,h2,hi=>by
  have oM:=WT.mp nd
  cases j with
  | zero =>
   simp at h1 h2;subst h1 h2;rw[aT,qU as rs _ k oM.1,Wa hi]
  | succ j=>rw[aT]; exact ua as rs _ i j r oM.2 (by simpa using h1) (by simpa using h2) (by simpa using hi)
theorem Df(k:Ok c σ δ H)(hr:iR c σ δ H vs as ds)(hm:bo as ds δ=some ss)(nd:(aZ as).Nodup) :
  Ok ⟨H,λa=>Av c σ δ a/\¬ ∃ (j:Nat) (d:D),ss[j]? = some (S.own d)/\vs[j]? = some (V.ref a),dG 0 ss vs,λ_ _=>False⟩ (cQ vs) (cR ss) H:=by
 obtain⟨h1,h2,h3⟩:=t_ hr hm;have at':∀ (j:Nat) s,ss[j]? = some s->∃ v,vs[j]? = some v:=λj s e=>by
  have:j < vs.length:=by rw[<- h1]; exact(W1.mp e).1
  exact⟨vs[j],by simp[this]⟩
 have Dg:∀ a,Own (cQ vs) (cR ss) a ↔ ∃ (j:Nat) (d:D),ss[j]? = some (S.own d)/\vs[j]? = some (V.ref a):=λa =>
  ⟨λ⟨j,d,e1,e2⟩=>⟨j,d,fD.mp e1,fP.mp e2⟩,λ⟨j,d,e1,e2⟩=>⟨j,d,fD.mpr e1,fP.mpr e2⟩⟩
 have Dh:∀ a,Own (cQ vs) (cR ss) a->Own σ δ a:=λa z=>by
  obtain⟨j,d,e1,e2⟩:=(Dg a).mp z;rcases h3 j _ _ e1 e2 with ⟨d',f,e,_⟩ | ⟨d',i,e,_,es,ed⟩
  ·cases e
  ·exact⟨i,d',ed,es⟩
 have sub:∀ a,Av ⟨H,λa=>Av c σ δ a/\¬ ∃ (j:Nat) (d:D),ss[j]? = some (S.own d)/\vs[j]? = some (V.ref a),dG 0 ss vs,λ_ _=>False⟩ (cQ vs) (cR ss) a->Av c σ δ a:=λa z=>z.elim (λz=>z.1) λz=>.inr (Dh a z)
 refine⟨λa o e _=>e,λa z=>k.B9 z.1,λa ⟨i,hi⟩=>?_,by simp[h1],λj d e=>?_,λj d e=>?_,λi j a d d' e1 e2 e3 e4=>?_,λp hp=>?_⟩
 ·obtain⟨j,d,_,e1,e2⟩:=qT hi;exact k.lR (Dh a ((Dg a).mpr ⟨j,d,e1,e2⟩))
 ·have e':=fD.mp e;obtain⟨v,ev⟩:=at' j _ e';rcases h3 j _ v e' ev with ⟨d',f,e,_,r⟩ | ⟨d',i,e,_⟩
  ·cases e;exact⟨v,fP.mpr ev,r.aL λb z=>.inl (sub b z)⟩
  ·cases e
 ·have e':=fD.mp e;obtain⟨v,ev⟩:=at' j _ e';rcases h3 j _ v e' ev with ⟨d',f,e,_,r⟩ | ⟨d',i,e,_,es,ed⟩
  ·cases e
  ·cases e;obtain⟨a,g1,g2,g3⟩:=k.own i d ed;rw[es] at g1
   cases g1;refine⟨a,fP.mpr ev,g2.aL λb z=>.inl (sub b z),.inl ⟨0 + j,t6 e' ev⟩,λz=>z.2 ⟨j,d,e',ev⟩⟩
 ·have f1:=fD.mp e1;have f2:=fD.mp e2;rcases h3 i _ _ f1 (fP.mp e3) with ⟨_,_,e,_⟩ | ⟨d1,i1,e,a1,s1,x1⟩
  ·cases e
  ·rcases h3 j _ _ f2 (fP.mp e4) with ⟨_,_,e',_⟩ | ⟨d2,i2,e',a2,s2,x2⟩
   ·cases e'
   ·have:=k.inj i1 i2 a d1 d2 x1 x2 s1 s2;subst this;exact xh nd a1 a2
 ·obtain⟨j,d,e,e1,e2⟩:=qT (i:=p.1) (a:=p.2) hp;rw[QD] at e;rw[e];exact fP.mpr e2
theorem Di(k:Ok c σ δ H)(hr:iR c σ δ H vs as ds)(hm:bo as ds δ=some ss)(nd:(aZ as).Nodup)(hB:B=λa=>Av c σ δ a/\¬ ∃ (j:Nat) (d:D),ss[j]? = some (S.own d)/\vs[j]? = some (V.ref a))
  (x:aV ⟨H,B,dG 0 ss vs,λ_ _=>False⟩ (cQ vs) (cR ss) H (cQ vs) (cR aW) H') (ie:∀ (j:Nat) d,ss[j]? = some (.own d)->∃ d',aW[j]? = some (.own d')) (U4:∀ (j:Nat) d,ss[j]? = some (.pure d)->∃ d',aW[j]? = some (.pure d')) :
  aV c σ δ H σ (aT as aW δ) H'/\∀ v r,bf ⟨H,B,dG 0 ss vs,λ_ _=>False⟩ (cQ vs) (cR aW) H H' v r->bf c σ (aT as aW δ) H H' v r:=by
 obtain⟨h1,h2,h3⟩:=t_ hr hm;have ub:∀ i,i ∈ aZ as->∃ (j:Nat) (d:D) (a:Addr),as[j]? = some (.io i)/\ss[j]? = some (.own d)/\vs[j]? = some (.ref a)/\σ[i]? = some (some (.ref a))/\δ[i]? = some (some (.own d)):=λi hi=>by
  obtain⟨j,hj,ej⟩:=List.mem_iff_getElem.mp (l5.mp hi);have hv:j < vs.length:=by omega
  have hs:j < ss.length:=by omega
  have xj:as[j]? = some (.io i):=by rw[W5 hj,ej]
  rcases h3 j ss[j] vs[j] (by simp[hs]) (by simp[hv]) with ⟨d,f,e,a1,_⟩ | ⟨d,i',e,a1,s1,x1⟩
  ·rw[xj] at a1; cases a1
  ·rw[xj] at a1; cases a1
   obtain⟨a,g1,_⟩:=k.own i d x1;rw[s1] at g1;have g2:vs[j] = .ref a:=by
    have:=Wx g1;exact Wx this
   exact⟨j,d,a,xj,by rw[W5 hs,e],by rw[W5 hv,g2],by rw[s1,g2],x1⟩
 have qV:∀ a,(∃ (j:Nat) (d:D),ss[j]? = some (S.own d)/\vs[j]? = some (V.ref a))->Own σ δ a:=λa ⟨j,d,e1,e2⟩=>by
  rcases h3 j _ _ e1 e2 with ⟨d',f,e,_⟩ | ⟨d',i,e,_,es,ed⟩
  ·cases e
  ·exact⟨i,d',ed,es⟩
 have U5:∀ a,(⟨H,B,dG 0 ss vs,λ_ _=>False⟩:Fc).I a ↔ ∃ (j:Nat) (d:D),ss[j]? = some (S.own d)/\vs[j]? = some (V.ref a):=λa =>
  ⟨λ⟨i,hi⟩=>by obtain⟨j,d,_,e1,e2⟩:=qT hi; exact⟨j,d,e1,e2⟩,λ⟨j,d,e1,e2⟩=>⟨0 + j,t6 e1 e2⟩⟩
 have ownIn:∀ a,Own (cQ vs) (cR ss) a->∃ (j:Nat) (d:D),ss[j]? = some (S.own d)/\vs[j]? = some (V.ref a):=λa ⟨j,d,e1,e2⟩=>⟨j,d,fD.mp e1,fP.mp e2⟩
 -- the owned addresses are the same
 have uc:∀ (i:Nat) (d:D),(aT as aW δ)[i]? = some (some (.own d))->(i ∉ aZ as/\δ[i]? = some (some (.own d)))\/(i ∈ aZ as/\∃ (j:Nat) (d0:D) (a:Addr),as[j]? = some (.io i)/\ss[j]? = some (.own d0)/\vs[j]? = some (.ref a)/\σ[i]? = some (some (.ref a))/\aW[j]? = some (.own d)):=λi d e=>by
  by_cases hi:i ∈ aZ as
  ·right
   obtain⟨j,d0,a,a1,a2,a3,a4,a5⟩:=ub i hi;obtain⟨d',ed'⟩:=ie j d0 a2;have a7:i < δ.length:=(W1.mp a5).1;have:=ua as aW δ i j (.own d') nd a1 ed' a7;rw[e] at this
   cases this;exact⟨hi,j,d0,a,a1,a2,a3,a4,ed'⟩
  ·rw[qU as aW δ i hi] at e;exact .inl ⟨hi,e⟩
 have qW:∀ b,Own σ (aT as aW δ) b->Own σ δ b:=λb ⟨i,d,e1,e2⟩=>by
  rcases uc i d e1 with ⟨_,e⟩ | ⟨hi,j,d0,a,_,a2,a3,a4,_⟩
  ·exact⟨i,d,e,e2⟩
  ·rw[e2] at a4;have:b=a:=by injection (Wx (Wx a4))
   subst this;exact qV b ⟨j,d0,a2,a3⟩
 have MW:∀ (i:Nat) (d:D),(aT as aW δ)[i]? = some (some (.pure d))->i ∉ aZ as/\δ[i]? = some (some (.pure d)):=λi d e=>by
  by_cases hi:i ∈ aZ as
  ·obtain⟨j,d0,a,a1,a2,a3,a4,a5⟩:=ub i hi;obtain⟨d',ed'⟩:=ie j d0 a2;have a7:i < δ.length:=(W1.mp a5).1;have:=ua as aW δ i j (.own d') nd a1 ed' a7;rw[e] at this
   cases this
  ·rw[qU as aW δ i hi] at e;exact⟨hi,e⟩
 have Dj:∀ a o,H a=some o->¬ Av c σ δ a->H' a=some o:=λa o e n=>x.keep a o e λz=>n (.inr (qV a (ownIn a z)))
 have iQ:∀ b,Av c σ (aT as aW δ) b->Av c σ δ b:=λb z=>z.elim .inl λz=>.inr (qW b z)
 -- the callee's set holds ours
 have big:∀ {c':Fc},c'.B=B->∀ b,Av c σ δ b->Av c' (cQ vs) (cR aW) b:=λ{c'} hB' b z=>by
  by_cases hp:∃ (j:Nat) (d:D),ss[j]? = some (S.own d)/\vs[j]? = some (V.ref b)
  ·obtain⟨j,d,e1,e2⟩:=hp;obtain⟨d',ed'⟩:=ie j d e1;exact .inr ⟨j,d',fD.mpr ed',fP.mpr e2⟩
  ·exact .inl (by rw[hB',hB]; exact⟨z,hp⟩)
 have Dk:∀ (c1 c2:Fc),c1.H₀=c.H₀->c1.pin=c.pin->(∀ b,c1.B b->c.B b\/(c2.B b/\H b=none))->c2.pin=dG 0 ss vs->(∀ b,B b->c2.B b)->Ok c2 (cQ vs) (cR aW) H'->(∀ b,c1.B b->∃ o,H' b=some o)->Ok c1 σ (aT as aW δ) H':=λc1 c2 e0 e1 e2 e3 e4 k2 hex=>by
  have Dm:∀ b,Av c1 σ (aT as aW δ) b->Av c σ δ b\/H b=none:=λb z=>by
   rcases z with z | z
   ·rcases e2 b z with z | ⟨_,z⟩
    ·exact .inl (.inl z)
    ·exact .inr z
   ·exact .inl (.inr (qW b z))
  have sY:∀ b,Av c1 σ (aT as aW δ) b->Av c2 (cQ vs) (cR aW) b:=λb z=>by
   have bg:∀ b,Av c σ δ b->Av c2 (cQ vs) (cR aW) b:=λb z=>by
    by_cases hp:∃ (j:Nat) (d:D),ss[j]? = some (S.own d)/\vs[j]? = some (V.ref b)
    ·obtain⟨j,d,e1,e2⟩:=hp;obtain⟨d',ed'⟩:=ie j d e1;exact .inr ⟨j,d',fD.mpr ed',fP.mpr e2⟩
    ·exact .inl (e4 b (by rw[hB]; exact⟨z,hp⟩))
   rcases z with z | z
   ·rcases e2 b z with z | ⟨z,_⟩
    ·exact bg b (.inl z)
    ·exact .inl z
   ·exact bg b (.inr (qW b z))
  have MX:∀ {v:V} {d:D},Rep H (Av c σ δ) v d->Rep H' (Av c1 σ (aT as aW δ)) v d:=λ{v d} r=>by
   have r1:Rep H (λb=>Av c σ δ b\/Av c1 σ (aT as aW δ) b) v d:=r.aL λb z=>z.elim .inl (Dm b)
   exact(r1.keep λb o e n=>Dj b o e λz=>n (.inl z)).aL λb z=>.inl (.inr z)
  refine⟨λa o e n=>?_,hex,λa z=>?_,by rw[xi]; exact k.len,λi d e=>?_,λi d e=>?_,λi j a d d' f1 f2 f3 f4=>?_,by rw[e1]; exact k.pinned⟩
  ·rw[e0] at e;have n':¬ c.I a:=λz=>n (by unfold Fc.I at z ⊢; rw[e1]; exact z)
   refine x.keep a o (k.keep a o e n') λz=>?_
   obtain⟨i,d,g1,g2⟩:=qV a (ownIn a z);obtain⟨a',g3,_,g4,_⟩:=k.own i d g1;rw[g2] at g3; cases g3
   rcases g4 with g4 | g4
   ·exact n' g4
   ·rw[g4] at e; cases e
  ·have z':c.I a:=by unfold Fc.I at z ⊢; rw[<- e1]; exact z
   obtain⟨o,e⟩:=k.dC a z';exact x.there a o e
  ·obtain⟨hi,e'⟩:=MW i d e;obtain⟨v,g1,g2⟩:=k.slot i d e';exact⟨v,g1,MX g2⟩
  ·rcases uc i d e with ⟨hi,e'⟩ | ⟨hi,j,d0,a,b1,b2,b3,b4,b5⟩
   ·obtain⟨a,g1,g2,g3,g4⟩:=k.own i d e';have na:¬ Own (cQ vs) (cR ss) a:=λz=>by
     obtain⟨j,d1,q1,q2⟩:=ownIn a z;rcases h3 j _ _ q1 q2 with ⟨d',f,ee,_⟩ | ⟨d',i',ee,ai,es,ed⟩
     ·cases ee
     ·have:=k.inj i i' a d d' e' ed g1 es;subst this;exact hi (l5.mpr (WE ai))
    have qX:fz H' (Av c1 σ (aT as aW δ)) a d:=by
     have o1:fz H (λb=>Av c σ δ b\/Av c1 σ (aT as aW δ) b) a d:=g2.aL λb z=>z.elim .inl (Dm b)
     exact(o1.keep (λb o e n=>Dj b o e λz=>n (.inl z)) λo e=>x.keep a o e na).aL λb z=>.inl (.inr z)
    refine⟨a,g1,qX,by unfold Fc.I at g3 ⊢; rw[e0,e1]; exact g3,λz=>?_⟩;rcases e2 a z with z | ⟨_,z⟩
    ·exact g4 z
    ·obtain⟨o,eo⟩:=g2.some;rw[z] at eo; cases eo
   ·obtain⟨a',g1,g2,g3,g4⟩:=k2.own j d (fD.mpr b5);rw[fP.mpr b3] at g1
    cases g1;obtain⟨i0,d1,q1,q2⟩:=qV a ⟨j,d0,b2,b3⟩;obtain⟨a'',q3,q4,q5,q6⟩:=k.own i0 d1 q1;rw[q2] at q3; cases q3
    refine⟨a,b4,g2.aL λb z=>.inl (sY b z),by unfold Fc.I at q5 ⊢; rw[e0,e1]; exact q5,λz=>?_⟩;rcases e2 a z with z | ⟨_,z⟩
    ·exact q6 z
    ·obtain⟨o,eo⟩:=q4.some;rw[z] at eo; cases eo
  ·obtain⟨d1,g1⟩:∃ d1,δ[i]? = some (some (.own d1)):=by
    rcases uc i d f1 with ⟨_,e'⟩ | ⟨hi,_⟩
    ·exact⟨d,e'⟩
    ·obtain⟨_,d1,_,_,_,_,_,a5⟩:=ub i hi;exact⟨d1,a5⟩
   obtain⟨d2,g2⟩:∃ d2,δ[j]? = some (some (.own d2)):=by
    rcases uc j d' f2 with ⟨_,e'⟩ | ⟨hi,_⟩
    ·exact⟨d',e'⟩
    ·obtain⟨_,d1,_,_,_,_,_,a5⟩:=ub j hi;exact⟨d1,a5⟩
   exact k.inj i j a d1 d2 g1 g2 f3 f4
 have kT:Ok c σ (aT as aW δ) H':=Dk c ⟨H,B,dG 0 ss vs,λ_ _=>False⟩ rfl rfl (λb z=>.inl z) rfl (λb z=>z) x.ok λb z=>by
  obtain⟨o,e⟩:=k.bd b z;exact x.there b o e
 refine⟨⟨kT,λa o e n=>x.keep a o e λz=>n (qV a (ownIn a z)),λa z=>.inl (qW a z),x.there⟩,λv r hr=>?_⟩
 cases r with
 | pure d=>exact Rep.aL hr λb z=>.inl (big rfl b (iQ b z))
 | own d =>
  obtain⟨a,ea,o,nb,h0,kp,hs⟩:=hr;have oK:H a=none:=hs;have jQ:¬ Av c σ δ a:=k.jQ oK;refine⟨a,ea,o.aL λb z=>.inl ?_,λz=>jQ (.inl z),k.ox oK,?_,oK⟩
  ·rcases z with (z | z) | z
   ·exact(big rfl b (.inl z)).elim (λz=>.inl (.inl z)) .inr
   ·exact .inl (.inr z)
   ·exact(big rfl b (.inr (qW b z))).elim (λz=>.inl (.inl z)) .inr
  ·refine Dk (c.plus a) (Fc.plus ⟨H,B,dG 0 ss vs,λ_ _=>False⟩ a) rfl rfl (λb z=>?_) rfl (λb z=>.inl z) kp λb z=>?_
   ·rcases z with z | z
    ·exact .inl z
    ·exact .inr ⟨.inr z,by rw[z]; exact oK⟩
   ·rcases z with z | z
    ·obtain⟨o,e⟩:=k.bd b z;exact x.there b o e
    ·rw[z]; exact o.some
end
def c7(G:DF):Prop:=∀ ss r aW,G ss=some (r,aW)->aW.length=ss.length/\∀ (j:Nat),(∀ d,ss[j]? = some (.own d)->∃ d',aW[j]? = some (.own d'))/\∀ d,ss[j]? = some (.pure d)->∃ d',aW[j]? = some (.pure d')
theorem MY(hG:∀ ss y,G ss=some y->gJ fb n ss=some y):c7 G:=λss r aW h=>by
 have:=hG ss _ h;unfold gJ at this
 cases e:fb (bQ n ss) with
 | exc x δx=>rw[e] at this; cases this
 | stuck=>rw[e] at this; cases this
 | ok fl δ =>
  rw[e] at this;simp only at this
  cases e1:dt fl with
  | none=>rw[e1] at this; cases this
  | some r' =>
   rw[e1] at this;simp only[Qs] at this
   cases e2:cu 0 ss δ with
   | none=>rw[e2] at this; cases this
   | some os =>
    rw[e2] at this
    cases this;obtain⟨h1,h2⟩:=t8 e2;refine⟨h1,λj=>⟨λd ed=>?_,λd ed=>?_⟩⟩
    ·rcases h2 j _ ed with ⟨d',z,_⟩ | ⟨d',d'',_,_,z⟩
     ·cases z
     ·exact⟨d'',z⟩
    ·rcases h2 j _ ed with ⟨d',z,z'⟩ | ⟨d',d'',z,_⟩
     ·exact⟨d',z'⟩
     ·cases z
section
variable {X:Cx} {c:Fc} {e:Expr} {es:List Expr} {as:List Ak} {k n:Nat} {x:Str} {G:DF} {pp pos:Pos}
theorem MZ{ps:List Str}(hK:c7 G){σ:St}{H:Hp}{Q:VK}(hl:as.length=n)(h:tD c (aI G as) σ H Q):vH (kR n G) [] E0 (tX c as) σ H Q:=by
 obtain⟨δ,kk,q⟩:=h;unfold aI at q;split at q
 ·rename_i hc;rw[Wv] at hc;have nd:=De hc.2;rw[ba] at q;refine⟨δ,kk,λi hi=>?_,aS q λds δ1 q1 vs H1 a1 r1=>?_⟩
  ·have:=WY.mp hc.1 i (l5.mpr hi);unfold cj at this;split at this
   ·rename_i d ed;exact tJ kk ed
   ·cases this
  ·cases em:bo as ds δ1 with
   | none=>rw[em] at q1; exact q1.elim
   | some ss =>
    rw[em] at q1;simp only at q1
    cases eg:G ss with
    | none=>rw[eg] at q1; exact q1.elim
    | some y =>
     obtain⟨r,aW⟩:=y;rw[eg] at q1;have qY:=Df a1.ok r1 em nd;obtain⟨m1,m2,_⟩:=t_ r1 em;obtain⟨g1,g2⟩:=hK ss r aW eg;refine⟨ss,_,by rw[QM,<- m2]; exact hl,by rw[QM]; exact qY,r,aW,eg,λv H2 a2 r2=>?_⟩;rw[QM] at a2 r2;obtain⟨o1,o2⟩:=Di a1.ok r1 em nd rfl a2 (λj d ed=>(g2 j).1 d ed) λj d ed=>(g2 j).2 d ed
     exact q1 v H2 (a1.trans o1) (bf.back (o2 v r r2) a1)
 ·exact q.elim
theorem ck (F:aX X.prog X.w X.K X.mg X.base k x n G) (hK:c7 G) (hr:eB k X.A) (hg:Gl X x) (ha:SX X c (e :: es) as) (hl:as.length=n) (gZ:(x == ("__debug__" : Str))=false:=by decide)
  (he:Wk (e :: es) X.env=(false,eval e X.env) :: Wk es X.env:=by rfl) (dB:(QK pos (Wk es X.env)).any (·.1)=false:=by rfl):SE X c (.Call (.Name x pp) (e :: es) [] pos) (aI G as):=by
 obtain⟨f,fd,ps,hm,hk,hb,ok⟩:=F;exact PE.weak (A6 ok hr hg hm hk hb .nil BN ha gZ he dB) λσ H Q h=>MZ (ps:=ps) hK hl h
end
def cn(np:List Nat)(n:Nat)(b:DS):DF:=λss=>if cF np 0 ss then gJ b n ss else none
theorem dH(h:cn np n b ss=some y):cF np 0 ss=true/\gJ b n ss=some y:=by
 unfold cn at h;split at h
 ·rename_i hi; exact⟨hi,h⟩
 ·cases h
theorem dP:c7 (cn np n b):=MY λ_ _ h=>(dH h).2
theorem dQ(r:eB k A):A.units + 64 < WQ:=by have:=r.un; omega
theorem fE{c:Fc}{np cs:List Nat}(h:Np c np)(hc:cs.all (λi=>!np.contains i)=true):∀ p ∈ c.pin,p.1 ∉ cs:=λp hp z=>by
 have h1:=h p hp;have h2:=WY.mp hc p.1 z;rw[h1] at h2
 cases h2
def ud:List Str->Bool
 | []=>true
 | x :: r=>!r.contains x && ud r
theorem Dn:∀ {l:List Str},ud l=true->l.Nodup
 | [],_=>.nil
 | x :: r,h=>by
  simp only[ud,Wv,Bool.not_eq_true'] at h;exact WT.mpr ⟨λhm=>by have:=h.1; simp at this; exact this hm,Dn h.2⟩
def ig(names:List (Str×NameKind))(x:Str)(k:NameKind):Bool:=match names.lookup x with
 | some j=>j == k
 | none=>false
theorem xk(h:ig names x k=true):names.lookup x=some k:=by
 unfold ig at h;split at h
 ·rename_i j e; rw[e,eq_of_beq h]
 ·cases h
def Dp(names:List (Str×NameKind))(N:List Str)(sc:List (Str×NameKind))(cs:List Nat):Bool :=
 sc.all (λx=>!(x.2 == .local) || ig sc x.1 .local) && sc.all (λx=>!(x.2 == .free) || (ig names x.1 .cell || ig names x.1 .free)) && ud (sc.map (·.1)) &&
 (W4 N.length).all λi=>match N[i]? with
  | some x=>!(ig sc x .local || ig sc x .cell) || cs.contains i
  | none=>true
theorem Dq(h:names.lookup x=some k):ig names x k=true:=by
 unfold ig; rw[h]; simp
theorem fF{X:Cx}{scope:Scope}{cs:List Nat}(hk:scope.kind = .function)(h:Dp X.env.scope.names X.N scope.names cs=true):mZ X scope cs:=by
 unfold Dp at h;simp only[Wv] at h;obtain⟨⟨⟨h1,h2⟩,h3⟩,h4⟩:=h;refine⟨hk,λx hx hl=>?_,λx hx hf=>?_,Dn h3,λi x hi hl=>?_⟩
 ·have:=WY.mp h1 x hx;rw[hl] at this;exact xk (by simpa using this)
 ·have:=WY.mp h2 x hx;rw[hf] at this;have:ig X.env.scope.names x.1 .cell=true\/ig X.env.scope.names x.1 .free=true:=by simpa using this
  exact this.elim (λz=>.inl (xk z)) λz=>.inr (xk z)
 ·have jv:i < X.N.length:=(W1.mp hi).1;have:=WY.mp h4 i (WR.mpr jv);rw[hi] at this;have gc:(ig scope.names x .local || ig scope.names x .cell)=true:=by
   rcases hl with z | z
   ·rw[Dq z]; rfl
   ·rw[Dq z]; simp
  simp only[gc,Bool.not_true,Bool.false_or] at this;simpa using this
theorem M0 {K:W2}:kK K "int":=⟨rfl,rfl,rfl,rfl,rfl,rfl,rfl⟩
theorem M1 {K:W2}:kK K "bool":=⟨rfl,rfl,rfl,rfl,rfl,rfl,rfl⟩
theorem M3 {K:W2}:kK K "tuple":=⟨rfl,rfl,rfl,rfl,rfl,rfl,rfl⟩
def nC:Expr->Bool
 | .Starred ..=>false
 | _=>true
theorem oN(h:nC e=true):Wk (e :: es) env=(false,eval e env) :: Wk es env:=by
 cases e <;> first | (cases h; done) | rw[Wk] | rfl
 all_goals (intros; contradiction)
section
variable {X:Cx} {c:Fc} {e:Expr} {es:List Expr} {f fe:DE} {g:DA} {as:List Ak}
theorem ef(ha:SE X c e f)(hr:SA X c es g)(hs:nC e=true:=by rfl):SA X c (e :: es) (bS f g):=CG ha hr (oN hs)
theorem bG(ha:SE X c e fe)(hr:SX X c es as)(hs:nC e=true:=by rfl):SX X c (e :: es) (.val fe :: as):=MU ha hr (oN hs)
theorem iS{i:Nat}(ha:PE X e (bZ i))(hr:SX X c es as)(hs:nC e=true:=by rfl):SX X c (e :: es) (.io i :: as):=MV ha hr (oN hs)
end
mutual
def jZ:Nat->Expr->Option D
 | _,.Constant (.int i) _ _=>some (.int i)
 | _,.Constant (.bool b) _ _=>some (.bl b)
 | _,.Constant .none _ _=>some .aJ
 | _,.Constant (.str x) _ _=>some (.str x.cps.toList)
 | n + 1,.Tuple es _ _=>if es.length<=1000 then(nD n es).map .tup else none
 | _,_=>none
def nD:Nat->List Expr->Option (List D)
 | _,[]=>some []
 | n,e :: es=>match jZ n e,nD n es with
  | some d,some ds=>some (d :: ds)
  | _,_=>none
end
theorem M4:∀ {n:Nat} {e:Expr} {d:D},jZ n e=some d->nC e=true:=λ{n e d} h=>by
 cases e <;> first | rfl | (cases n <;> simp[jZ] at h)
mutual
theorem M5:∀ {n:Nat} {e:Expr} {d:D},jZ n e=some d->SE X c e (eD d)
 | _,.Constant (.int i) _ _,d,h=>by
  simp only[jZ,W8] at h; subst h; exact aM
 | _,.Constant (.bool b) _ _,d,h=>by
  simp only[jZ,W8] at h; subst h; exact jk
 | _,.Constant .none _ _,d,h=>by
  simp only[jZ,W8] at h; subst h; exact sZ
 | _,.Constant (.str x) _ _,d,h=>by
  simp only[jZ,W8] at h; subst h; exact B_ _ (B7 x)
 | 0,.Tuple es k pos,d,h=>by simp[jZ] at h
 | n + 1,.Tuple es k pos,d,h=>by
  simp only[jZ] at h;split at h
  ·rename_i hl
   cases e:nD n es with
   | none=>rw[e] at h; cases h
   | some ds =>
    rw[e] at h;simp only[WB,W8] at h;subst h;exact oF (xl e) hl
  ·cases h
theorem xl:∀ {n:Nat} {es:List Expr} {ds:List D},nD n es=some ds->SA X c es (λδ=>.ok ds δ)
 | _,[],ds,h=>by
  simp only[nD,W8] at h; subst h; exact fA
 | n,e :: es,ds,h=>by
  simp only[nD] at h;split at h
  ·rename_i d dJ h1 h2
   cases h;exact CG (M5 h1) (xl h2) (oN (M4 h1))
  ·cases h
end
def l6(ds:List D):DE:=λδ=>.ok (.own (.lst ds)) δ
theorem Dr{X:Cx}{c:Fc}{es:List Expr}{ds:List D}{pos:Pos}(h:nD 9 es=some ds)(hl:es.length<=1000):SE X c (.List es pos) (l6 ds):=jU (xl h) hl
section
variable {X:Cx} {c:Fc} {e:Expr} {fe:DE} {pos:Pos} {tg:Expr}
theorem nE{i:Nat}{o:Expr}{apos bA:Pos}(ho:PE X o (bZ i))(he:SE X c e fe)
  (g7:Qv o "append" X.env (eval o X.env)=eval o X.env:=by rfl)
  (kB:((QK bA (Wk [e] X.env)).all (λx=>!x.1) && (backToKw bA (JP [] X.env)).all (λx=>x.1.isSome)
   && decide ([e].length + ([]:List Keyword).length + (if ([]:List Keyword).isEmpty then 0 else 1) < 30))=true:=by rfl)
  (dX:(apos.endLine == bA.line)=true:=by rfl) (hs:Wk [e] X.env=(false,eval e X.env) :: Wk [] X.env:=by rfl)
  (qy:Jq (.Call (.Attribute o "append" apos) [e] [] bA) none pos.line X.env=pure false:=by rfl):SS X c (.Expr (.Call (.Attribute o "append" apos) [e] [] bA) pos) (dm i fe) :=
 MD (p0:=apos) ho he (HP (sI PySem.F.plainAttrs_list PySem.F.slot_list_append PySem.F.type_list_append Bz ho (fK he iF hs) g7 kB dX hs rfl) qy)
end
def xm(K:W2):Bool:=K.all λp=>match p.2.cls with
 | .type t=>!(t == "list")
 | _=>true
theorem Ds[BEq α][LawfulBEq α]:∀ {K:List (α×β)} {a:α} {o:β},K.lookup a=some o->(a,o) ∈ K
 | [],a,o,e=>by simp at e
 | (b,o') :: r,a,o,e=>by
  rw[Qj] at e
  cases hb:a == b with
  | true =>
   rw[hb] at e;have h1:o'=o:=Wx e;have h2:a=b:=eq_of_beq hb;rw[h1,h2];exact Wh
  | false =>
   rw[hb] at e;exact W9 _ (Ds e)
theorem M6 {K:W2} {a:Addr} {o:Obj} (h:xm K=true) (e:K.lookup a=some o) (hc:o.cls = .type "list"):False:=by
 have hm:(a,o) ∈ (K:List (Addr×Obj)):=Ds e;have h1:=WY.mp h (a,o) hm;have h2:(match o.cls with | .type t=>!(t == "list") | _=>true)=true:=h1;rw[hc] at h2;have h3:(!(("list" : String) == "list"))=true:=h2;rw[beq_self_eq_true] at h3
 cases h3
theorem M7{K:W2}{G:DF}{H:Hp}{a:Addr}{ns:List Int}{E:XK}(hK:xm K=true)(hS:cq K H a (ns.map V.int))(hG:∃ aW,G [.pure (.lst (ns.map .int))]=some (.pure (.bl true),aW)) :
  kR 1 G [.ref a] H (λv _=>v = .bl true) E:=by
 have hR:Rd H a (.lst (ns.map V.int)):=by
  rcases hS with h | ⟨o,ae,n,e,hc,_⟩
  ·exact h
  ·exact(M6 hK e hc).elim
 obtain⟨aW,hg⟩:=hG;have rep:∀ O:Addr->Prop,¬ O a->Rep H O (.ref a) (.lst (ns.map D.int)):=λO hO=>.lst hO hR (by simp) λi v d e1 e2=>by
  rw[Wl] at e1 e2
  cases e:ns[i]? with
  | none=>rw[e] at e1; cases e1
  | some k=>rw[e] at e1 e2; cases e1; cases e2; exact .int k
 refine⟨[.pure (.lst (ns.map .int))],λ_=>False,rfl,⟨λb o e _=>e,λb z=>z.elim,λb ⟨i,z⟩=>?_,rfl,λi d e=>?_,λi d e=>?_,λi j b d d' e1 e2 e3 e4=>?_,λp z=>?_⟩,_,aW,hg,λv H' x r=>?_⟩
 ·simp[dG] at z
 ·cases i with
  | zero =>
   simp at e;subst e;refine⟨.ref a,rfl,rep _ λz=>?_⟩;rcases z with z | ⟨j,d',z1,z2⟩
   ·exact z
   ·cases j with
    | zero=>simp at z1
    | succ j=>simp at z1
  | succ i=>simp at e
 ·cases i with
  | zero=>simp at e
  | succ i=>simp at e
 ·cases i with
  | zero=>simp at e1
  | succ i=>simp at e1
 ·simp[dG] at z
 ·cases r;rfl
theorem M8{l:PySem.W.OpenLaw}{q:Wm}{loose:List Str}{XP:(Str->Option Value)->Heap->Prop}{YP:Ws->Heap->Prop}{d:DefRec}{K:Params->W2}{k:Nat}{G:DF}(hn:l.most=some 63)(qr:d.params.defaults=[])(hr:eB k callerA)
  (hY:∀ (w:Ws) (h:Heap),YP w h->(K w.params).In h) (hL:∀ p:Params,xm (K p)=true)
  (hG:∀ ns:List Int,ns.length<=63->∃ aW,G [.pure (.lst (ns.map .int))]=some (.pure (.bl true),aW))
  (F:∀ (w:Ws) (mg:Str->Option Value) (fa:Addr) (h:Heap),(K w.params).In h->h.Ns WG mg->mg d.name=some (.ref fa) ->
   ∃ fd:Qi,(∀ (s:W3) (u:Value),BindsTo s fd ⟨[u],[]⟩ [("script",u)])/\∀ base:Heap,(K w.params).In base->base.Ns WG mg->jd l.prog w (K w.params) mg base jg k fa fd ["script"] (kR 1 G)) :
  PySem.W.WalkO q loose XP YP l.row.toRowW d [] (λf vs=>PySem.call f vs) :=
 L2.K9 (n:=63) (k:=k) (x:="script") (CX:=λ_=>jg) (sp:=λ_=>kR 1 G) hn (by decide) qr hr hY F (λw H a ns hl _ hS=>M7 (hL w.params) hS (hG ns hl)) λ_ _ _ _ _ z=>z
end DV
set_option maxHeartbeats 400000
namespace L2
open PySem PySem.Spec PyProof.Rows
def xn(x:Str):It:=⟨λi _=>i < x.cps.size,λi H y H'=>H'=H/\∃ c,x.cps[i]? = some c/\y = .str ⟨#[c]⟩,λi _=>i=x.cps.size⟩
theorem M9 {P:Wm} {w:Ws} {K:W2} {tg:Expr} (x:Str) (t:Tok) (it:Addr) (T:String) (hT:T = "str_ascii_iterator"\/T = "str_iterator"):Turn P w K tg (xn x) [it] it (λi h=>h.IsStrIter it T x t i):=by
 have W:∀ A:Wt,A.handled=none->Walks P w A it [it] [it] x.cps.size (SignAt x) (λi h=>h.IsStrIter it T x t i):=λA hh=>by
  rcases hT with rfl | rfl
  ·exact Walks.strAscii hh it x t
  ·exact Walks.strWide hh it x t
 refine⟨by simp,λi h st b hb=>?_,λi h h' st k=>?_,?_,?_,λA i s Q E st h=>?_⟩
 ·have e:b=it:=by simpa using hb
  subst e;obtain⟨o,e,c,d⟩:=st;exact⟨o,e,λv z=>by rw[d] at z; cases z⟩
 ·obtain⟨o,e,r⟩:=st;exact⟨o,k it (by simp) o e,r⟩
 ·intro X hP hw hK hc i pins s σ H E I hf st hg;subst hP hw hK;obtain⟨f0,f1,f2,f3,f4,f5⟩:=hf it (by simp);refine(W X.A (I.ok.hd hc)).item i s _ _ hg st λv h' tk hv gu kk=>?_
  obtain⟨c,u,hx,rfl⟩:=hv;have I1:Inv X pins σ H { s with heap:=h',toks:=tk }:=I.turned (λb o hb e=>kk b o (by simpa using hb) e) f0 f1 f3 f4 f5;obtain⟨o,e,c',d⟩:=id gu;refine⟨_,rfl,sv (s:={ s with heap:=h',toks:=tk }) e c' d (by rcases hT with rfl | rfl <;> decide) ⟨.str ⟨#[c]⟩,H,I1,⟨u,rfl⟩,⟨rfl,c,hx,rfl⟩,gu,λb hb=>(hf b hb).1⟩⟩
 ·intro X hP hw hK hc i pins s σ H E I hf st hg;subst hP hw hK;have sU:i=x.cps.size:=hg;subst sU;obtain⟨f0,f1,f2,f3,f4,f5⟩:=hf it (by simp);exact(W X.A (I.ok.hd hc)).done s _ _ st λh' tk eb=>⟨rfl,I.turned (λb o hb e=>eb b o (by simpa using hb) e) f0 f1 f3 f4 f5⟩
 ·rcases hT with rfl | rfl
  ·exact wpAny_pyIter_striter_ascii st h
  ·exact wpAny_pyIter_striter_wide st h
end L2
namespace DV
open PySem PySem.Spec PyProof.Rows L2
section
variable {X:Cx} {c:Fc} {tg e:Expr} {fe:DE} {pos pp:Pos}
def M_(K:W2)(tl:TE):TI:=λσ H R=>tl σ H λx H1=>(∃ a,x = .ref a/\(∃ xs,cq K H1 a xs)/\R (AR K a) H1)\/(∃ a,x = .ref a/\(∃ xs,cL K H1 a xs)/\R (vq K a) H1)\/∃ z,x = .str z/\R (xn z) H1
theorem Dt{l:Expr}{tl:TE}(hl:PE X l tl):PI X tg l (M_ X.K tl):=by
 intro pins s σ H R I h;refine aR (hl pins s σ H _ I h) λv s1 ⟨x,H1,I1,r1,q1⟩=>?_
 rcases q1 with q1 | q1 | ⟨z,e,q⟩
 ·obtain⟨a,e,⟨xs,hq⟩,q⟩:=q1;subst e
  cases r1;obtain⟨ae,rv,p,hz⟩:=I1.list hq;refine JK p.isList ?_;refine⟨s1.heap.objs.size,[s1.heap.objs.size],_,_,H1,rfl,I1.kept (t':=s1.toks) λb o e=>Wd _ e,H_ a _,⟨_,Wn _ rfl,rfl,rfl⟩,λb hb=>?_,q⟩;have e:b=s1.heap.objs.size:=by simpa using hb
  subst e;exact I1.jM (Wf _) (I1.aG.fresh (Wf _))
 ·obtain⟨a,e,⟨xs,hq⟩,q⟩:=q1;subst e
  cases r1;obtain⟨ae,rv,p,hz⟩:=I1.tuple hq;refine wpAny_pyIter_tuple (show s1.heap.IsTuple a ae.toArray from p) ?_;refine⟨s1.heap.objs.size,[s1.heap.objs.size],_,_,H1,rfl,I1.kept (t':=s1.toks) λb o e=>Wd _ e,Ia a _,⟨_,Wn _ rfl,rfl,rfl⟩,λb hb=>?_,q⟩;have e:b=s1.heap.objs.size:=by simpa using hb
  subst e;exact I1.jM (Wf _) (I1.aG.fresh (Wf _))
 ·subst e;obtain⟨t,rfl⟩:=r1;refine wpAny_pyIter_strU ?_;have hT:strIterType z = "str_ascii_iterator"\/strIterType z = "str_iterator":=by
   unfold strIterType;split
   ·exact .inl rfl
   ·exact .inr rfl
  refine⟨s1.heap.objs.size,[s1.heap.objs.size],_,_,H1,rfl,I1.kept (t':=s1.toks) λb o e=>Wd _ e,M9 z t _ _ hT,⟨_,Wn _ rfl,rfl,rfl⟩,λb hb=>?_,q⟩;have e:b=s1.heap.objs.size:=by simpa using hb
  subst e;exact I1.jM (Wf _) (I1.aG.fresh (Wf _))
theorem Na(z:Tx):nv c σ δ H (xn (toS z)) (z.map λn=>D.str [n]):=by
 intro H2 kp;have hsz:(toS z).cps.size=z.length:=by simp[toS]
 refine⟨by show(z.map _).length=_; rw[hsz]; simp,λi d e=>?_⟩;rw[Wl] at e
 cases ez:z[i]? with
 | none=>rw[ez] at e; cases e
 | some n =>
  rw[ez] at e
  cases e;have hi:i < z.length:=(W1.mp ez).1;refine⟨by show i < _; rw[hsz]; exact hi,λx H3 ⟨e3,cc,hc,hx⟩=>.inl ⟨e3,?_⟩⟩;have:(toS z).cps[i]? = z[i]?:=by simp[toS]
  rw[this,ez] at hc
  cases hc;rw[hx];exact .str [n]
def bL(f:DE):DI:=λδ=>(f δ).bind λr δ1=>match r.d with
 | .lst ds=>.ok ds δ1
 | .tup ds=>.ok ds δ1
 | .str x=>.ok (x.map λn=>.str [n]) δ1
 | _=>.stuck
theorem fG(he:SE X c e fe):SI X c tg e (bL fe):=PI.weak (Dt he) λσ H R ⟨δ,k,q⟩=>by
 unfold bL at q;rw[ba] at q;refine⟨δ,k,aS q λr δ1 q1 v H1 a1 r1=>?_⟩;have rr:=r1.rep;generalize r.d=d at q1 rr
 cases d <;> first | exact q1.elim | skip
 ·cases rr;exact .inr (.inr ⟨_,rfl,q1 _ H1 a1 (Na _)⟩)
 ·cases rr with
  | tup h1 h2 h3 h4=>exact .inr (.inl ⟨_,rfl,⟨_,.of h2⟩,q1 _ H1 a1 (ME _ h2 (λz=>h1 (.inr z)) ⟨h3,h4⟩)⟩)
 ·cases rr with
  | lst h1 h2 h3 h4 =>
   refine .inl ⟨_,rfl,⟨_,.inl h2⟩,q1 _ H1 a1 ?_⟩;intro H2 kp;rename_i a vs;have h5:Rd H2 a (.lst vs):=Rd.keep h2 λo e=>kp a o e λz=>h1 (.inr z)
   have r':aH H1 (Av c σ δ1) vs _:=⟨h3,h4⟩
   refine⟨⟨vs,.inl h5,by rw[r'.1]; exact Wf _⟩,λi d e=>?_⟩;obtain⟨v,ev,rv⟩:=r'.get e;refine⟨⟨vs,v,.inl h5,ev⟩,λx H3 ⟨e3,y⟩=>.inl ⟨e3,?_⟩⟩;have:=y vs (.inl h5);rw[ev] at this
   cases this;exact rv
end
end DV
namespace L2
open PySem PySem.Spec PyProof.Rows
theorem Nb(a:Int)(t:Tok)(l:Addr)(dd:Option Addr)(items:Array Value)(n:Nat)(sl:Array (Option Value)) :
  Meets (Builtin.«int.__rmul__» ⟨[.int a t,.ref l],[]⟩) (λ_ R s=>s.heap.get? l=some { cls:=.type "tuple",dict:=dd,data:=.seq items n,slots:=sl }/\R (.ok (.ret Value.notImplemented)) s) :=
 .of_wp λprog w A R s h=>by obtain⟨hp,g,d,tk,os⟩:=s; obtain⟨hl,h⟩:=h; wp_walk; exact⟨_,rfl,h⟩
theorem Nc:fillsNumberSlot (.type "tuple") "mul" = pure false :=
 PySem.fillsNumberSlot_seq (id:="tuple.__mul__") (r:=some (.builtin "tuple.__rmul__")) F.slot_tuple_mul.lookup (by decide +kernel) F.slot_tuple_rmul.lookup (by decide +kernel)
theorem Nd:seqRepeat? (.type "tuple")=pure (some (.builtin "tuple.__mul__")):=by
 unfold seqRepeat?;rw[PySem.seqSlot_of (T:="tuple") (name:="__mul__") (id:="tuple.__mul__") F.slot_tuple_mul.lookup (by decide +kernel),PySem.seqSlot_of (T:="tuple") (name:="__rmul__") (id:="tuple.__rmul__") F.slot_tuple_rmul.lookup (by decide +kernel)];rfl
theorem Nf(l:Addr)(dd:Option Addr)(items:Array Value)(n:Nat)(sl:Array (Option Value))(x:Int)(u:Tok)(h1:¬ (decide (x < -(2 ^ 63)) || decide (x ≥ 2 ^ 63))=true)(h2:¬ (items.isEmpty || x == 1)=true)(h3:¬ (decide (x<=0) || items.isEmpty)=true)(h4:¬ items.size * x > (2 ^ 63 - 1) / 8)(h5:¬ Builtin.Tuple.tupleTooMany (items.size * x)=true)(h6:((Wg x.toNat items).foldl (· ++ ·) #[]).size<=Wc) :
  Meets (Builtin.«tuple.__mul__» ⟨[.ref l,.int x u],[]⟩) (λ_ R s=>s.heap.get? l=some { cls:=.type "tuple",dict:=dd,data:=.seq items n,slots:=sl } /\
   R (.ok (.ret (.ref s.heap.objs.size))) { s with heap:=s.heap.push { cls:=.type "tuple",data:=.seq ((Wg x.toNat items).foldl (· ++ ·) #[]) } }) :=
 .of_wp λprog w A R s h=>by
  obtain⟨hp,g,d,tk,os⟩:=s; obtain⟨hl,h⟩:=h
  wp_walk
  rw[if_neg h1];wp_walk
  try rw[if_neg h2]
  try wp_walk
  try rw[if_neg h3]
  try wp_walk
  try rw[if_neg h4]
  try wp_walk
  try rw[if_neg h5]
  try wp_walk
  exact⟨_,rfl,h⟩
theorem xo(ae:List α):∀ (k:Nat) (acc:List α),List.foldl (λx1 x2:Array α=>x1 ++ x2) acc.toArray (Wg k ae.toArray)=(acc ++ (Wg k ae).flatten).toArray
 | 0,acc=>by simp
 | k + 1,acc=>by
  rw[Q9,Ji,show acc.toArray ++ ae.toArray=(acc ++ ae).toArray by simp,xo ae k];simp[Q9]
section
variable {X:Cx}
def Du(K:W2):R2:=λx y H Q=>∃ l k xs,x = .ref l/\y = .int k/\cL K H l xs/\xs≠[]/\2<=k/\k<=1000000/\xs.length * k.toNat<=Wc/\∀ p,H p=none->Q (.ref p) (upd H p (.tup (Wg k.toNat xs).flatten))
theorem zev:bx X (Qc .Mult) (Du X.K):=by
 intro pins s σ H x y v u Q I rx ry h;obtain⟨l,k,xs,rfl,rfl,hH,cC,h1,h2,hz,q⟩:=h
 cases rx;obtain⟨t,rfl⟩:=ry;obtain⟨ae,r,pl,hl⟩:=I.tuple hH;obtain⟨⟨cls,dd,data,sl⟩,ho,hc,n,hd⟩:=id pl;simp only at hc hd;subst hc hd;have hlen:ae.toArray.size=xs.length:=by rw[Wq]; exact r.length.symm
 have l7:ae.toArray.isEmpty=false:=by
  cases ae with
  | nil=>exact absurd (r.qf.mp rfl) cC
  | cons a b=>rfl
 have dX:Wc=16777216:=rfl;have hk:(k.toNat:Int)=k:=by omega
 have hmul:((ae.toArray.size:Nat):Int) * k=((xs.length * k.toNat:Nat):Int):=by rw[hlen,Q8,hk]
 have ue:List.foldl (λx1 x2=>x1 ++ x2) #[] (Wg k.toNat ae.toArray)=(Wg k.toNat ae).flatten.toArray:=by
  have:=vR ae k.toNat [];rw[QO] at this;exact this
 refine wpAny_binaryOp_repeat_ref (T:="tuple") (U:="int") (by decide) ⟨_,ho,rfl⟩ (λs'=>Jh s' k t) Nc F.fills_int_mul F.slot_int_rmul Nd F.slot_int_index.lookup
  (Jj F.slot_int_rmul (Jh s k t) F.entry_int_rmul (F.args_int_rmul_2 _ _) (Nb k t l dd ae.toArray n sl)
   ⟨ho,rfl,⟨_,ho,rfl⟩,Jj F.slot_tuple_mul ⟨_,ho,rfl⟩ F.entry_tuple_mul (F.args_tuple_mul_2 _ _) (Nf l dd ae.toArray n sl k t ?_ ?_ ?_ ?_ ?_ ?_) ⟨ho,?_⟩⟩)
 ·simp; omega
 ·rw[l7]; simp; omega
 ·rw[l7]; simp; omega
 ·rw[hmul]; omega
 ·rw[hmul];unfold Builtin.Tuple.tupleTooMany;rw[dX] at hz;generalize xs.length * k.toNat=m at hz;simp only[dX,decide_eq_true_eq];omega
 ·rw[ue,Wq,sJ,<- r.length,JD]; exact hz
 ·rw[ue];have I1:Inv X pins σ (upd H s.heap.objs.size (.tup (Wg k.toNat xs).flatten)) { s with heap:=s.heap.push { cls:=.type "tuple",data:=.seq (Wg k.toNat ae).flatten.toArray } } :=
   I.laid (t':=s.toks) (λb o e=>Wd _ e) (Wf _) (show bP X.prog X.w _ _ _ (.tup (Wg k.toNat xs).flatten) from⟨by rw[sJ,JD]; exact hz,(Wg k.toNat ae).flatten,r.rep k.toNat,iC.new _ _⟩)
  exact⟨.ref _,_,I1,rfl,q _ (I.aG.fresh (Wf _))⟩
def Dv:R2:=λx y H Q=>∃ z k,x = .str z/\y = .int k/\2<=k/\k<=1000000/\0 < z.length/\z.length * k.toNat<=Wc/\Q (.str ⟨(Wg k.toNat z.cps).foldl (· ++ ·) #[]⟩) H
theorem Ng:bx X (Qc .Mult) Dv:=by
 intro pins s σ H x y v u Q I rx ry h;obtain⟨z,k,rfl,rfl,h1,h2,h0,hz,q⟩:=h;obtain⟨t,rfl⟩:=rx;obtain⟨t',rfl⟩:=ry;have dX:Wc=16777216:=rfl;have c1:¬ k < 1:=by omega
 have c2:(k == 1 || z.length == 0)=false:=by
  simp;omega
 refine PySem.P.mul_str (by simp; omega) (λ_ _=>?_) (λ_ _=>?_) ?_
 ·have hm:(z.length:Int) * k<=16777216:=by
   have:(z.length:Int) * k=((z.length * k.toNat:Nat):Int):=by rw[Q8,show(k.toNat:Int)=k by omega]
   rw[this];rw[dX] at hz;omega
  have:(z.length:Int)<=(2 ^ 63 - 1) / k:=(Int.le_ediv_iff_mul_le (by omega)).mpr (by omega);omega
 ·unfold Builtin.Str.tooLong;rw[dX] at hz;generalize z.length * k.toNat=m at hz;simp only[dX,decide_eq_false_iff_not];omega
 ·rw[if_neg c1,if_neg (by rw[c2]; simp)];have hsz:((Wg k.toNat z.cps).foldl (· ++ ·) #[]).size=k.toNat * z.length:=by
   have h:=xo z.cps.toList k.toNat [];simp only[QO,Array.toArray_toList] at h;rw[h,Wq,sJ];simp[Str.length]
  exact⟨by show((Wg k.toNat z.cps).foldl (· ++ ·) #[]).size<=_; rw[hsz,JD]; exact hz,.str _,H,I.tok _,⟨_,rfl⟩,q⟩
end
end L2
namespace DV
open PySem PySem.Spec PyProof.Rows L2
def gK:D->D->Option S
 | .int i,.int j=>qC (.int i) (.int j)
 | .str x,.int k=>if 2<=k/\k<=1000000/\0 < x.length/\x.length * k.toNat<=Wc then some (.pure (.str (Wg k.toNat x).flatten)) else none
 | .tup xs,.int k=>if 2<=k/\k<=1000000/\0 < xs.length/\xs.length * k.toNat<=Wc then some (.pure (.tup (Wg k.toNat xs).flatten)) else none
 | _,_=>none
def Dw(K:W2):R2:=λx y H Q=>rI qb (λi j=>V.int (i * j)) x y H Q\/Dv x y H Q\/Du K x y H Q
theorem uf:bx X (Qc .Mult) (Dw X.K):=Il.or (Ng.or zev)
theorem aH.rep(h:aH H O vs ds):∀ k:Nat,aH H O (Wg k vs).flatten (Wg k ds).flatten
 | 0=>.nil
 | k + 1=>by rw[Q9,Q9,Qy,Qy]; exact h.append (aH.rep h k)
theorem ug{K:W2}:b9 (Dw K) gK:=by
 intro c σ δ H x y d e s Q k rx ry hp q
 cases d <;> cases e <;> first | (simp[gK] at hp; done) | skip
 ·exact .inl (L_ c σ δ H x y _ _ s Q k rx ry hp q)
 ·rename_i z n;simp only[gK] at hp;split at hp
  ·rename_i h
   cases hp;refine .inr (.inl ⟨toS z,n,rx.str,ry.int,h.1,h.2.1,by rw[ji]; exact h.2.2.1,by rw[ji]; exact h.2.2.2,?_⟩);have e:(⟨(Wg n.toNat (toS z).cps).foldl (· ++ ·) #[]⟩:Str)=toS (Wg n.toNat z).flatten:=by
    unfold toS;congr 1
    have:=xo z n.toNat [];rw[QO] at this;exact this
   rw[e];exact q _ H (.refl k) (.str _)
  ·cases hp
 ·rename_i ds n;simp only[gK] at hp;split at hp
  ·rename_i h
   cases hp;obtain⟨a,vs,ex,ha,r⟩:=rx.tup;refine .inr (.inr ⟨a,n,vs,ex,ry.int,.of ha,?_,h.1,h.2.1,by rw[r.1]; exact h.2.2.2,λp qZ=>?_⟩)
   ·intro z;rw[z] at r;have:=r.1;simp at this;omega
   ·exact q _ _ (.alloc k qZ _) (bf.oz k (aH.rep r _) qZ)
  ·cases hp
theorem bf.newD(k:Ok c σ δ H)(hp:H p=none):bf c σ δ H (upd H p (.dK [])) (.ref p) (.own (.aw [])):=by
 refine⟨p,rfl,⟨[],cN,rfl,λi p q e=>by simp at e⟩,λz=>k.jQ hp (.inl z),k.ox hp,k.plus hp _,hp⟩
def q_:DE:=λδ=>.ok (.own (.aw [])) δ
theorem Dx{X:Cx}{c:Fc}{pos:Pos}:SE X c (.Dict [] [] pos) q_:=PE.weak KQ λσ H Q ⟨δ,k,q⟩=>λp hp=>q _ _ (.alloc k hp _) (bf.newD k hp)
section
variable {X:Cx} {c:Fc} {e a x y:Expr} {fb:BE} {f g fa:DE} {pos pp p p2:Pos}
def Nh(neg:Bool)(fa f g:DE):DE:=λδ=>(fa δ).bind λv δ1=>(f δ1).bind λlo δ2=>(g δ2).bind λhi δ3=>match v.d,lo.d,hi.d with
 | .int i,.int l,.int h=>.ok (.pure (.bl (if neg then !(decide (l<=i) && decide (i < h)) else(decide (l<=i) && decide (i < h))))) δ3
 | _,_,_=>.stuck
end
end DV
set_option maxHeartbeats 1000000
namespace L2
open PySem PySem.Spec PyProof.Rows
theorem Dy:entryFor table "dict.update.loop" = some Builtin.«dict.update.loop»:=entryFor_of_tree (by kernel_rfl)
theorem rd:plainId "dict.update.loop" = true:=by decide +kernel
theorem Ni:typeLookup (.type "tuple") "keys" = pure none:=by rw[typeLookup_type,builtinLookup_eq_fast]; kernel_rfl
theorem Nj:typeLookup (.type "list") "keys" = pure none:=by rw[typeLookup_type,builtinLookup_eq_fast]; kernel_rfl
set_option maxRecDepth 8000 in
theorem Nk
  (hx:s.heap.get? a=some o) (hc:o.cls = .type "tuple") (l8:o.data = .seq xs k) (hd:o.dict=none) (hA:A.handled=none)
  (h:∀ h' tk,(∀ b ob,s.heap.get? b=some ob->h'.get? b=some ob)->Q none { s with heap:=h',toks:=tk }) :
  We (model prog w) A (getAttr? (.ref a) "keys") Q E s:=by
 obtain⟨c,aw,dat,sl⟩:=o;simp only at hc l8 hd;subst hc l8 hd;obtain⟨hp,g,d,tk,os⟩:=s;have hT:∀ l9,(⟨hp,g,d,l9,os⟩:W3).TypeIs (.ref a) "tuple":=λ_=>⟨_,hx,rfl⟩
 have f1:=sub_AttributeError;have f3:=F.slot_tuple_getattribute.lookup;have f4:=F.slot_tuple_getattribute.bind (.ref a);have f5:=am_tuple_getattr_none;have xp:=Ni;unfold getAttr? getAttrBy? getAttrBy;repeat (any_goals (first | assumption | exact hT _ | ((with_reducible show We _ _ (call (Value.builtin "tuple.__getattribute__") _ _) _ _ _); refine Jj F.slot_tuple_getattribute (hT _) am_entry_tuple_getattribute (F.args_tuple_getattribute_2 _ _) (meets_getattribute_miss_tuple a xs k sl "keys" _ xp (by decide +kernel)) ⟨hx,hA,λh' l9 e kn=>?_⟩) | wp_step))
 obtain⟨t',u',he⟩:=kn.there;show We _ _ (JE _ _ _ _ _ _ _) _ _ _;unfold JE;repeat (any_goals (first | assumption | wp_step))
 exact h _ _ kn.keeps
set_option maxRecDepth 8000 in
theorem Nl
  (hx:s.heap.get? a=some o) (hc:o.cls = .type "list") (l8:o.data = .seq xs k) (hd:o.dict=none) (hA:A.handled=none)
  (h:∀ h' tk,(∀ b ob,s.heap.get? b=some ob->h'.get? b=some ob)->Q none { s with heap:=h',toks:=tk }) :
  We (model prog w) A (getAttr? (.ref a) "keys") Q E s:=by
 obtain⟨c,aw,dat,sl⟩:=o;simp only at hc l8 hd;subst hc l8 hd;obtain⟨hp,g,d,tk,os⟩:=s;have hT:∀ l9,(⟨hp,g,d,l9,os⟩:W3).TypeIs (.ref a) "list":=λ_=>⟨_,hx,rfl⟩
 have f1:=sub_AttributeError;have f3:=F.slot_list_getattribute.lookup;have f4:=F.slot_list_getattribute.bind (.ref a);have f5:=am_list_getattr_none;have xp:=Nj;unfold getAttr? getAttrBy? getAttrBy;repeat (any_goals (first | assumption | exact hT _ | ((with_reducible show We _ _ (call (Value.builtin "list.__getattribute__") _ _) _ _ _); refine Jj F.slot_list_getattribute (hT _) am_entry_list_getattribute (F.args_list_getattribute_2 _ _) (meets_getattribute_miss_list a xs k sl "keys" _ xp (by decide +kernel)) ⟨hx,hA,λh' l9 e kn=>?_⟩) | wp_step))
 obtain⟨t',u',he⟩:=kn.there;show We _ _ (JE _ _ _ _ _ _ _) _ _ _;unfold JE;repeat (any_goals (first | assumption | wp_step))
 exact h _ _ kn.keeps
def fQ(kps:List (Key×V))(acc:List (Key×V)):List (Key×V):=kps.foldl (λa kv=>putK a kv.1 kv.2) acc
theorem Nn{prog:Wm}{w:Ws}{A:Wt}{R:Result->W3->Prop}{s:W3}{dl it:Addr}{i:Int}{t0:Tok}
  (hn:We (model prog w) A.in1 (J2 (.ref it)) (λr s1=>∃ (q:Addr) (k v:Value) (n:Nat),r=some (.ref q)/\s1.heap.get? q=some { cls:=.type "tuple",dict:=none,data:=.seq #[k,v] n,slots:=#[] } /\
   We (model prog w) A.in1 (dictSet dl k v) (λ_ s2=>Jo (model prog w) A (.builtin "dict.update.loop" ⟨[.ref dl,.ref it,rawInt (i + 1),.none],[]⟩) R s2) (λ_ _=>False) s1) (λ_ _=>False) s) :
  Jo (model prog w) A (.builtin "dict.update.loop" ⟨[.ref dl,.ref it,.int i t0,.none],[]⟩) R s:=by
 refine codeAny_builtin Dy ?_;rw[Around.under_plainId rd _];show We _ A.in1 (J2 (.ref it) >>= _) _ _ s;refine W0 (QF hn (λr s1 hr=>?_) λ_ _ z=>z.elim);obtain⟨q,k,v,n,rfl,hq,hd⟩:=hr;dsimp only;refine W0 ?_;try with_reducible refine Ql ?_
 refine W0 (wpAny_tryCatch ?_);have hT:s1.TypeIs (.ref q) "tuple":=⟨_,hq,rfl⟩
 unfold Builtin.Dict.pairItems;refine W0 (JA hT ?_);rw[if_pos (by decide)];refine W0 ?_;unfold seqItems?;refine W0 (wpAny_load hq (W7 ?_));refine W7 ?_;show We _ A.in1 (holding [k,v] (dictSet dl k v)) _ _ s1;try with_reducible refine Ql ?_
 refine QF hd (λ_ s2 h2=>?_) λ_ _ z=>z.elim
 exact W7 ⟨plainId_quiet rd _,h2⟩
theorem Nq{prog:Wm}{w:Ws}{A:Wt}{R:Result->W3->Prop}{s:W3}{dl it:Addr}{i:Int}{t0:Tok}
  (hn:We (model prog w) A.in1 (J2 (.ref it)) (λr s1=>r=none/\R (.ok (.ret .none)) s1) (λ_ _=>False) s) :
  Jo (model prog w) A (.builtin "dict.update.loop" ⟨[.ref dl,.ref it,.int i t0,.none],[]⟩) R s:=by
 refine codeAny_builtin Dy ?_;rw[Around.under_plainId rd _];show We _ A.in1 (J2 (.ref it) >>= _) _ _ s;refine W0 (QF hn (λr s1 hr=>?_) λ_ _ z=>z.elim);obtain⟨rfl,hd⟩:=hr;dsimp only;show We _ A.in1 (Builtin.Dict.addKeywords dl [] >>= _) _ _ s1;exact W0 (W7 (W7 hd))
section
variable {X:Cx} {pins:List (Addr×Obj)} {σ:St} {H:Hp}
theorem Rd.sub(h:Rd H a u)(k:∀ b o,H b=some o->H' b=some o):Rd H' a u:=by
 rcases h with h | ⟨o,h⟩
 ·exact .inl (k _ _ h)
 ·exact .inr ⟨o,k _ _ h⟩
def uh(H:Hp)(ys:List V)(kps:List (Key×V)):Prop:=ys.length=kps.length/\∀ (i:Nat) y kv,ys[i]? = some y->kps[i]? = some kv->∃ q,y = .ref q/\H q=some (.tup [kV kv.1,kv.2])
theorem Dz:∀ (kps acc:List (Key×V)),(fQ kps acc).length<=acc.length + kps.length
 | [],acc=>Wf _
 | kv :: r,acc=>by
  have h1:=Dz r (putK acc kv.1 kv.2);have h2:=qk acc kv.1 kv.2;show(fQ r (putK acc kv.1 kv.2)).length<=_;simp only[WL];omega
theorem Nr(kps:List (Key×V))(kv:Key×V)(acc:List (Key×V)):fQ (kps ++ [kv]) acc=putK (fQ kps acc) kv.1 kv.2:=by
 unfold fQ;rw[List.foldl_append];rfl
theorem DB{A:Wt}{R:Result->W3->Prop}{dl it:Addr}{ys:List V}{kps:List (Key×V)}{tn:Nat->Heap->Prop}(hP:uh H ys kps)(jw:H dl=none)(hz:kps.length<=Wc)
  (item:∀ (i:Nat) (y:V) (H':Hp) (s:W3) (Q:Option Value->W3->Prop),(∀ b o,H b=some o->H' b=some o)->H' it=none->Inv X pins σ H' s->tn i s.heap->ys[i]? = some y->(∀ u s',RelV y u->Inv X pins σ H' s'->tn (i + 1) s'.heap->Q (some u) s')->We (model X.prog X.w) A.in1 (J2 (.ref it)) Q (λ_ _=>False) s)
  (done:∀ (H':Hp) (s:W3) (Q:Option Value->W3->Prop),(∀ b o,H b=some o->H' b=some o)->H' it=none->Inv X pins σ H' s->tn ys.length s.heap->(∀ s',Inv X pins σ H' s'->Q none s')->We (model X.prog X.w) A.in1 (J2 (.ref it)) Q (λ_ _=>False) s)
  (keep:∀ (i:Nat) (h h':Heap),tn i h->(∀ o,h.get? it=some o->h'.get? it=some o)->tn i h') (hit:H it=none) (cC:it≠dl) (hR:∀ s',Inv X pins σ (upd H dl (.dK (fQ kps []))) s'->R (.ok (.ret .none)) s') :
  ∀ (k i:Nat) (s:W3) (j:Int) (t0:Tok),ys.length - i=k->i<=ys.length->Inv X pins σ (upd H dl (.dK (fQ (kps.take i) []))) s->tn i s.heap ->
   Jo (model X.prog X.w) A (.builtin "dict.update.loop" ⟨[.ref dl,.ref it,.int j t0,.none],[]⟩) R s:=by
 have up:∀ (acc:List (Key×V)) b o,H b=some o->upd H dl (.dK acc) b=some o:=λacc b o e=>by rw[aQ (gb e jw)]; exact e
 have lz:∀ acc:List (Key×V),upd H dl (.dK acc) it=none:=λacc=>by rw[aQ cC]; exact hit
 intro k;induction k with
 | zero =>
  intro i s j t0 hk hi I st;have e:i=ys.length:=by omega
  subst e;rw[hP.1,Jm (Wf _)] at I;refine Nq (done _ s _ (up _) (lz _) I st λs' I'=>⟨rfl,hR s' I'⟩)
 | succ k ih =>
  intro i s j t0 hk hi I st;have a7:i < ys.length:=by omega
  have l_:i < kps.length:=by rw[<- hP.1]; exact a7
  obtain⟨q,ey,hq⟩:=hP.2 i ys[i] kps[i] (by simp[a7]) (by simp[l_]);-- the item is a tuple of two
  have main:∀ s1,Inv X pins σ (upd H dl (.dK (fQ (kps.take i) []))) s1->tn (i + 1) s1.heap->∃ (kk vv:Value) (n:Nat),s1.heap.get? q=some { cls:=.type "tuple",dict:=none,data:=.seq #[kk,vv] n,slots:=#[] }/\RelV (kV kps[i].1) kk/\RelV kps[i].2 vv:=λs1 I1 _=>by
   obtain⟨_,ae,r,n,e⟩:=(show bP X.prog X.w _ s1.heap q (.tup [kV kps[i].1,kps[i].2]) from I1.aG q _ (up _ q _ hq))
   obtain⟨u,v,rfl,r1,r2⟩:=Vals.two r;exact⟨u,v,n,e,r1,r2⟩
  refine Nn (item i ys[i] _ s _ (up _) (lz _) I st (by simp[a7]) λu s' ru I' gu=>?_);rw[ey] at ru
  cases ru;obtain⟨kk,vv,n,e,r1,r2⟩:=main s' I' gu;refine⟨q,kk,vv,n,rfl,e,?_⟩;obtain⟨z,hd,vs,rel,dd⟩:=qo I'.aG cN;have ny:vs.length<=Wc:=by rw[<- rel.length]; exact z
  have hl:(putK (fQ (kps.take i) []) kps[i].1 kps[i].2).length<=Wc:=by
   have h1:=qk (fQ (kps.take i) []) kps[i].1 kps[i].2;have h2:=Dz (kps.take i) [];simp at h2;omega
  refine wpAny_dictSet_pairs (hsz:=ny) (lN r1) dd λh' jO hs=>?_
  have he:∃ q,h'.get? dl=some q:=let ⟨q,_,_,hq,_⟩:=jO; ⟨q,hq⟩
  have I2:=sO (t':=s'.toks + 1) I' (by rw[cN]; exact True.intro) hs he (vT hl hd (rel.put kps[i].1 r2) jO);rw[Hb] at I2;have et:kps.take (i + 1)=kps.take i ++ [kps[i]]:=by rw[List.take_add_one]; simp[l_]
  rw[show putK (fQ (kps.take i) []) kps[i].1 kps[i].2=fQ (kps.take (i + 1)) [] by rw[et,Nr]] at I2;exact ih (i + 1) _ (j + 1) _ (by omega) a7 I2 (keep (i + 1) _ _ gu λo eo=>(hs.2 it cC).trans eo)
theorem Nt (hc:X.calm=true):er X (.type "dict") (λxs H Q=>∃ p ys kps,xs=[.ref p]/\(H p=some (.tup ys)\/Rd H p (.lst ys))/\uh H ys kps/\kps.length<=Wc/\∀ l,H l=none->Q (.ref l) (upd H l (.dK (fQ kps [])))):=by
 intro pins s σ H xs us Q I r h;obtain⟨p,ys,kps,rfl,hp,hP,hz,q⟩:=h;obtain⟨u,rfl,rx⟩:=gY r
 cases rx;have hA:X.A.handled=none:=I.ok.hd hc;refine callType_codes (Q₁:=λobj s₁=>obj = .ref s.heap.objs.size/\s₁ = { s with heap:=s.heap.push { cls:=.type "dict",data:=.dict #[] } }) F.kt_called_dict (F.kt_typeCall_dict_1 _) F.entry_dict_init (kt_code_dict_new _ ⟨rfl,rfl⟩) ?_;rintro obj s₁ ⟨rfl,rfl⟩;have jw:H s.heap.objs.size=none:=I.aG.fresh (Wf _);have I1:Inv X pins σ (upd H s.heap.objs.size (.dK [])) { s with heap:=s.heap.push { cls:=.type "dict",data:=.dict #[] } }:=I.laid (t':=s.toks) (λ_ _ q=>Wd _ q) (Wf _) (vU s.heap I.big);generalize jR:s.heap.objs.size=dl at jw I1;have up:∀ (acc:List (Key×V)) b o,H b=some o->upd H dl (.dK acc) b=some o:=λacc b o e=>by rw[aQ (gb e jw)]; exact e
 have DC:({ s with heap:=s.heap.push { cls:=.type "dict",data:=.dict #[] } }:W3).TypeIs (.ref dl) "dict":=⟨_,by rw[<- jR]; exact Wn _ rfl,rfl⟩
 refine⟨DC,F.args_dict_init_2 _ _,?_⟩;unfold Builtin.«dict.__init__»;refine W0 ?_;unfold Builtin.Dict.selfAndRest;refine W0 (wpAny_notOrdered_dict DC ?_);show We _ _ (pure (dl,[Value.ref p])) _ _ _;refine W7 ?_;show We _ _ (Builtin.Dict.updateFrom "dict.__init__" dl (.ref p) [] .none) _ _ _;unfold Builtin.Dict.updateFrom;have fin:∀ s',Inv X pins σ (upd H dl (.dK (fQ kps []))) s'->EP X pins σ Q (.ref dl) s':=λs' I'=>⟨.ref dl,_,I',rfl,q dl jw⟩
 rcases hp with hp | hp
 ·obtain⟨_,ae,r,n,e⟩:=(show bP X.prog X.w _ (s.heap.push { cls:=.type "dict",data:=.dict #[] }) p (.tup ys) from I1.aG p _ (up _ p _ hp))
  refine W0 (JA ⟨_,e,rfl⟩ ?_);rw[if_pos (by decide)];refine W0 (Nk e rfl rfl rfl hA λh' tk kp=>?_);rw[if_pos (show(none:Option Value).isNone=true from rfl)];refine W0 (J3 ?_);have I2:Inv X pins σ (upd H dl (.dK [])) { s with heap:=h',toks:=tk }:=I1.kept kp;have xq:h'.IsTuple p ae.toArray:=⟨_,kp _ _ e,rfl,n,rfl⟩
  refine W0 (wpAny_pyIter_tuple (s:={ s with heap:=h',toks:=tk }) xq ?_);refine W7 ⟨plainId_quiet rd _,?_⟩;have jh:upd H dl (.dK []) h'.objs.size=none:=I2.aG.fresh (Wf _);have cC:h'.objs.size≠dl:=λz=>by rw[z,cN] at jh; cases jh
  have hit:H h'.objs.size=none:=by rw[aQ cC] at jh; exact jh
  have fp:∀ H':Hp,H' h'.objs.size=none->gf X pins H' h'.objs.size:=λH' hn=>I2.jM (Wf _) hn
  refine DB (X:=X) (pins:=pins) (σ:=σ) (H:=H) (dl:=dl) (it:=h'.objs.size) (ys:=ys) (kps:=kps) (tn:=λi h=>h.IsTupleIter h'.objs.size p i) hP jw hz ?_ ?_ (λi h h2 st k=>st.at k) hit cC (λs' I'=>⟨rfl,fin s' I'⟩) ys.length 0 _ 0 _ (Nat.sub_zero _) (Qn _) ?_ ?_
  ·intro i y H' s' Q' sub hn I' st hy k;obtain⟨_,its2,r2,n2,e2⟩:=(show bP X.prog X.w _ s'.heap p (.tup ys) from I'.aG p _ (sub p _ hp))
   obtain⟨v,hv,rv⟩:=r2.get hy;obtain⟨f0,f1,f2,f3,f4,f5⟩:=fp H' hn;refine wpAny_pyNext_tuple_item st (items:=its2.toArray) ⟨_,e2,rfl,n2,rfl⟩ (x:=v) (by simpa using hv) λh3 lD sb=>?_
   exact k v { s' with heap:=h3 } rv (I'.turned (t':=s'.toks) (λb o hb e=>(sb.2 b hb).trans e) f0 f1 f3 f4 f5) lD
  ·intro H' s' Q' sub hn I' st k;obtain⟨_,its2,r2,n2,e2⟩:=(show bP X.prog X.w _ s'.heap p (.tup ys) from I'.aG p _ (sub p _ hp))
   obtain⟨f0,f1,f2,f3,f4,f5⟩:=fp H' hn;have jS:=r2.length;exact wpAny_pyNext_tuple_end (show X.A.in1.in1.handled=none from hA) st (items:=its2.toArray) ⟨_,e2,rfl,n2,rfl⟩ (by simp; omega) λh3 eb=>k { s' with heap:=h3 } (I'.turned (t':=s'.toks) (λb o hb e=>eb b o hb e) f0 f1 f3 f4 f5)
  ·exact I2.kept (t':=tk) λb o e=>Wd _ e
  ·exact⟨_,Wn _ rfl,rfl,rfl⟩
 ·obtain⟨_,ae,n,r,e⟩:=(show bP X.prog X.w _ (s.heap.push { cls:=.type "dict",data:=.dict #[] }) p (.lst ys) from(Rd.sub hp (up _)).ok I1.aG)
  refine W0 (JA ⟨_,e,rfl⟩ ?_);rw[if_pos (by decide)];refine W0 (Nl e rfl rfl rfl hA λh' tk kp=>?_);rw[if_pos (show(none:Option Value).isNone=true from rfl)];refine W0 (J3 ?_);have I2:Inv X pins σ (upd H dl (.dK [])) { s with heap:=h',toks:=tk }:=I1.kept kp;have xq:h'.IsList p ae.toArray:=⟨_,kp _ _ e,rfl,n,rfl⟩
  refine W0 (JK (s:={ s with heap:=h',toks:=tk }) xq ?_);refine W7 ⟨plainId_quiet rd _,?_⟩;have jh:upd H dl (.dK []) h'.objs.size=none:=I2.aG.fresh (Wf _);have cC:h'.objs.size≠dl:=λz=>by rw[z,cN] at jh; cases jh
  have hit:H h'.objs.size=none:=by rw[aQ cC] at jh; exact jh
  have fp:∀ H':Hp,H' h'.objs.size=none->gf X pins H' h'.objs.size:=λH' hn=>I2.jM (Wf _) hn
  refine DB (X:=X) (pins:=pins) (σ:=σ) (H:=H) (dl:=dl) (it:=h'.objs.size) (ys:=ys) (kps:=kps) (tn:=λi h=>h.IsListIter h'.objs.size p i) hP jw hz ?_ ?_ (λi h h2 st k=>st.at k) hit cC (λs' I'=>⟨rfl,fin s' I'⟩) ys.length 0 _ 0 _ (Nat.sub_zero _) (Qn _) ?_ ?_
  ·intro i y H' s' Q' sub hn I' st hy k;obtain⟨_,its2,n2,r2,e2⟩:=(show bP X.prog X.w _ s'.heap p (.lst ys) from(Rd.sub hp sub).ok I'.aG)
   obtain⟨v,hv,rv⟩:=r2.get hy;obtain⟨f0,f1,f2,f3,f4,f5⟩:=fp H' hn;refine wpAny_pyNext_list_item st (items:=its2.toArray) ⟨_,e2,rfl,n2,rfl⟩ (x:=v) (by simpa using hv) λh3 lD sb=>?_
   exact k v { s' with heap:=h3 } rv (I'.turned (t':=s'.toks) (λb o hb e=>(sb.2 b hb).trans e) f0 f1 f3 f4 f5) lD
  ·intro H' s' Q' sub hn I' st k;obtain⟨_,its2,n2,r2,e2⟩:=(show bP X.prog X.w _ s'.heap p (.lst ys) from(Rd.sub hp sub).ok I'.aG)
   obtain⟨f0,f1,f2,f3,f4,f5⟩:=fp H' hn;have jS:=r2.length;exact wpAny_pyNext_list_end (show X.A.in1.in1.handled=none from hA) st (items:=its2.toArray) ⟨_,e2,rfl,n2,rfl⟩ (by simp; omega) λh3 eb=>k { s' with heap:=h3 } (I'.turned (t':=s'.toks) (λb o hb e=>eb b o hb e) f0 f1 f3 f4 f5)
  ·exact I2.kept (t':=tk) λb o e=>Wd _ e
  ·exact⟨_,Wn _ rfl,rfl,rfl⟩
end
end L2
set_option maxHeartbeats 400000
namespace DV
open PySem PySem.Spec PyProof.Rows L2
def dR(kvs:List (bc×D))(k:bc):Option D:=(kvs.find? λkv=>decide (kv.1=k)).map (·.2)
def putD(kvs:List (bc×D))(k:bc)(v:D):List (bc×D) :=
 if (kvs.any λkv=>decide (kv.1=k))=true then kvs.map (λkv=>if kv.1=k then(kv.1,v) else kv) else kvs ++ [(k,v)]
def me(kps acc:List (bc×D)):List (bc×D):=kps.foldl (λa kv=>putD a kv.1 kv.2) acc
theorem Nu(h:cD k=cD j):k=j:=by
 cases k <;> cases j <;> simp[cD] at h
 ·rw[h]
 ·rw[we h]
def DR(H:Hp)(O:Addr->Prop):List (Key×V)->List (bc×D)->Prop
 | [],[]=>True
 | p :: ws,q :: ds=>p.1=cD q.1/\Rep H O p.2 q.2/\DR H O ws ds
 | _,_=>False
section
variable {H H':Hp} {O O':Addr->Prop}
theorem DR.of:∀ {ws:List (Key×V)} {ds:List (bc×D)},ws.map (·.1)=ds.map (λp=>cD p.1)->(∀ (i:Nat) p q,ws[i]? = some p->ds[i]? = some q->Rep H O p.2 q.2)->DR H O ws ds
 | [],[],_,_=>trivial
 | [],_ :: _,h,_=>by simp at h
 | _ :: _,[],h,_=>by simp at h
 | p :: ws,q :: ds,h,k=>by
  simp only[Wo,List.cons.injEq] at h;exact⟨h.1,k 0 p q rfl rfl,DR.of h.2 λi p' q' e1 e2=>k (i + 1) p' q' (by simpa using e1) (by simpa using e2)⟩
theorem DR.keys:∀ {ws:List (Key×V)} {ds:List (bc×D)},DR H O ws ds->ws.map (·.1)=ds.map (λp=>cD p.1)
 | [],[],_=>rfl
 | [],_ :: _,h=>h.elim
 | _ :: _,[],h=>h.elim
 | p :: ws,q :: ds,h=>by simp only[Wo,h.1,DR.keys h.2.2]
theorem DR.vals:∀ {ws:List (Key×V)} {ds:List (bc×D)},DR H O ws ds->∀ (i:Nat) p q,ws[i]? = some p->ds[i]? = some q->Rep H O p.2 q.2
 | [],[],_,i,p,q,e,_=>by simp at e
 | [],_ :: _,h,_,_,_,_,_=>h.elim
 | _ :: _,[],h,_,_,_,_,_=>h.elim
 | p :: ws,q :: ds,h,i,p',q',e1,e2=>by
  cases i with
  | zero=>simp at e1 e2; subst e1 e2; exact h.2.1
  | succ i=>exact DR.vals h.2.2 i p' q' (by simpa using e1) (by simpa using e2)
theorem DR.map:∀ {ws:List (Key×V)} {ds:List (bc×D)},DR H O ws ds->(∀ v d,Rep H O v d->Rep H' O' v d)->DR H' O' ws ds
 | [],[],_,_=>trivial
 | [],_ :: _,h,_=>h.elim
 | _ :: _,[],h,_=>h.elim
 | p :: ws,q :: ds,h,k=>⟨h.1,k _ _ h.2.1,DR.map h.2.2 k⟩
theorem nF(h:p=cD q):(p=cD k) ↔ q=k:=⟨λe=>Nu (by rw[<- h]; exact e),λe=>by rw[h,e]⟩
theorem DR.any:∀ {ws:List (Key×V)} {ds:List (bc×D)} (k:bc),DR H O ws ds->(ws.any λkv=>decide (kv.1=cD k))=ds.any λkv=>decide (kv.1=k)
 | [],[],_,_=>rfl
 | [],_ :: _,_,h=>h.elim
 | _ :: _,[],_,h=>h.elim
 | p :: ws,q :: ds,k,h=>by
  rw[Qg,Qg,DR.any k h.2.2];congr 1
  exact decide_eq_decide.mpr (nF h.1)
theorem DR.val:∀ {ws:List (Key×V)} {ds:List (bc×D)} (k:bc),DR H O ws ds->(dR ds k=none/\de ws (cD k)=none)\/∃ v d,dR ds k=some d/\de ws (cD k)=some v/\Rep H O v d
 | [],[],_,_=>.inl ⟨rfl,rfl⟩
 | [],_ :: _,_,h=>h.elim
 | _ :: _,[],_,h=>h.elim
 | p :: ws,q :: ds,k,h=>by
  by_cases e:q.1=k
  ·have e':=(nF h.1).mpr e;exact .inr ⟨p.2,q.2,by simp[dR,WU,e],iG e',h.2.1⟩
  ·have e':¬ p.1=cD k:=λz=>e ((nF h.1).mp z)
   have ev:dR (q :: ds) k=dR ds k:=by simp[dR,WU,e]
   rw[ev,iH e'];exact DR.val k h.2.2
theorem DR.append:∀ {ws DD:List (Key×V)} {ds dJ:List (bc×D)},DR H O ws ds->DR H O DD dJ->DR H O (ws ++ DD) (ds ++ dJ)
 | [],_,[],_,_,h'=>h'
 | [],_,_ :: _,_,h,_=>h.elim
 | _ :: _,_,[],_,h,_=>h.elim
 | p :: ws,_,q :: ds,_,h,h'=>⟨h.1,h.2.1,DR.append h.2.2 h'⟩
theorem DR.store:∀ {ws:List (Key×V)} {ds:List (bc×D)} {k:bc} {v:V} {d:D},DR H O ws ds->Rep H O v d->DR H O (ws.map λkv=>if kv.1=cD k then(kv.1,v) else kv) (ds.map λkv=>if kv.1=k then(kv.1,d) else kv)
 | [],[],_,_,_,_,_=>trivial
 | [],_ :: _,_,_,_,h,_=>h.elim
 | _ :: _,[],_,_,_,h,_=>h.elim
 | p :: ws,q :: ds,k,v,d,h,r=>by
  refine⟨?_,?_,DR.store h.2.2 r⟩
  ·by_cases e:q.1=k
   ·dsimp only; rw[if_pos ((nF h.1).mpr e),if_pos e]; exact h.1
   ·dsimp only; rw[if_neg λz=>e ((nF h.1).mp z),if_neg e]; exact h.1
  ·by_cases e:q.1=k
   ·dsimp only; rw[if_pos ((nF h.1).mpr e),if_pos e]; exact r
   ·dsimp only; rw[if_neg λz=>e ((nF h.1).mp z),if_neg e]; exact h.2.1
theorem DR.put(h:DR H O ws ds)(r:Rep H O v d):DR H O (putK ws (cD k) v) (putD ds k d):=by
 unfold putK putD;rw[DR.any k h];split
 ·exact DR.store h r
 ·exact DR.append h ⟨rfl,r,trivial⟩
theorem DR.xr:∀ {kps:List (Key×V)} {ui:List (bc×D)} {ws:List (Key×V)} {ds:List (bc×D)},DR H O kps ui->DR H O ws ds->DR H O (fQ kps ws) (me ui ds)
 | [],[],_,_,_,h=>h
 | [],_ :: _,_,_,h,_=>h.elim
 | _ :: _,[],_,_,h,_=>h.elim
 | p :: kps,q :: ui,ws,ds,h,h'=>by
  show DR H O (fQ kps (putK ws p.1 p.2)) (me ui (putD ds q.1 q.2));rw[h.1];exact DR.xr h.2.2 (DR.put h' h.2.1)
end
def eU:D->Option bc
 | .int i=>some (.inl i)
 | .str x=>some (.inr x)
 | _=>none
theorem DH(h:eU d=some k)(r:Rep H O v d):v=kV (cD k):=by
 cases d <;> simp[eU] at h <;> subst h <;> cases r <;> rfl
theorem uj(h:eU d=some k)(r:cJ c σ δ H v d):v=kV (cD k):=by
 rcases r with r | ⟨a,rfl,r⟩
 ·exact DH h r
 ·cases d <;> simp[eU] at h <;> exact r.elim
def iT:List D->Option (List (bc×D))
 | []=>some []
 | .tup [k,v] :: r=>match eU k,iT r with
  | some k',some r'=>some ((k',v) :: r')
  | _,_=>none
 | _ :: _=>none
def jx:D->Option S
 | .lst ds=>(iT ds).bind λps=>if ps.length<=Wc then some (.own (.aw (me ps []))) else none
 | .tup ds=>(iT ds).bind λps=>if ps.length<=Wc then some (.own (.aw (me ps []))) else none
 | _=>none
theorem xt:∀ {ds:List D} {vs:List V} {ps:List (bc×D)},iT ds=some ps->aH H O vs ds->∃ kps,uh H vs kps/\DR H O kps ps/\kps.length=ps.length
 | [],[],ps,h,_=>by
  simp[iT] at h;subst h;exact⟨[],⟨rfl,λi y kv e=>by simp at e⟩,trivial,rfl⟩
 | [],_ :: _,_,_,r=>by have:=r.1; simp at this
 | _ :: _,[],_,_,r=>by have:=r.1; simp at this
 | d :: ds,v :: vs,ps,h,r=>by
  unfold iT at h;split at h
  ·rename_i heq; cases heq
  ·rename_i k w r' heq
   cases heq;split at h
   ·rename_i k' r'' hk hr
    cases h;obtain⟨kps,hP,hD,hL⟩:=xt hr r.tail;have rp:=r.head
    cases rp with
    | tup h1 h2 h3 h4 =>
     rename_i a us;match us,h3,h4,h2 with
     | [x,y],_,h4,h2 =>
      have rk:=h4 0 x k rfl rfl;have rv:=h4 1 y w rfl rfl;have ek:=DH hk rk;subst ek;refine⟨(cD k',y) :: kps,⟨by simp[hP.1],λi z kv e1 e2=>?_⟩,⟨rfl,rv,hD⟩,by simp[hL]⟩
      cases i with
      | zero=>simp at e1 e2; subst e1 e2; exact⟨a,rfl,h2⟩
      | succ i=>exact hP.2 i z kv (by simpa using e1) (by simpa using e2)
   ·cases h
  ·cases h
theorem bf.DJ(k:Ok c σ δ H)(hp:H p=none)(r:DR H (Av c σ δ) ws ds):bf c σ δ H (upd H p (.dK ws)) (.ref p) (.own (.aw ds)):=by
 have up:∀ a w,H a=some w->upd H p (.dK ws) a=some w:=λa w e=>by rw[aQ (gb e hp)]; exact e
 have r1:DR (upd H p (.dK ws)) (Av (c.plus p) σ δ) ws ds:=r.map λv d h=>(h.aL λb z=>by
  rcases z with (z | z) | z
  ·exact .inl (.inl z)
  ·exact .inr (by rw[z]; exact hp)
  ·exact .inl (.inr z)).keep λb w e _=>up b w e
 exact⟨p,rfl,⟨ws,cN,r1.keys,r1.vals⟩,λz=>k.jQ hp (.inl z),k.ox hp,k.plus hp _,hp⟩
section
variable {X:Cx} {c:Fc} {e:Expr} {fb:BE} {pos pp:Pos}
theorem Nv:QC "dict" = some (.type "dict"):=by decide +kernel
theorem DK (hc:X.calm=true) (hg:Gl X "dict") (hm:X.mg "dict" = none) (he:SB X c e fb) (hs:nC e=true:=by rfl):SE X c (.Call (.Name "dict" pp) [e] [] pos) (aO jx fb) :=
 tN (r:=λv H Q=>∃ p ys kps,v = .ref p/\(H p=some (.tup ys)\/Rd H p (.lst ys))/\uh H ys kps/\kps.length<=Wc/\∀ l,H l=none->Q (.ref l) (upd H l (.dK (fQ kps []))))
  (Nt hc) (λv H Q ⟨p,ys,kps,e,h⟩=>⟨p,ys,kps,by rw[e],h⟩)
  (λc σ δ H x d s Q k rx hp q=>by
   cases d with
   | lst ds =>
    simp only[jx] at hp
    cases hps:iT ds with
    | none=>rw[hps] at hp; cases hp
    | some ps =>
     rw[hps] at hp;simp only[Qs] at hp;split at hp
     ·rename_i hz
      cases hp;obtain⟨a,vs,ex,ha,r⟩:=rx.lst;obtain⟨kps,hP,hD,hL⟩:=xt hps r;exact⟨a,vs,kps,ex,.inr ha,hP,by rw[hL]; exact hz,λl hl=>q _ _ (.alloc k hl _) (bf.DJ k hl (DR.xr hD (ws:=[]) (ds:=[]) trivial))⟩
     ·cases hp
   | tup ds =>
    simp only[jx] at hp
    cases hps:iT ds with
    | none=>rw[hps] at hp; cases hp
    | some ps =>
     rw[hps] at hp;simp only[Qs] at hp;split at hp
     ·rename_i hz
      cases hp;obtain⟨a,vs,ex,ha,r⟩:=rx.tup;obtain⟨kps,hP,hD,hL⟩:=xt hps r;exact⟨a,vs,kps,ex,.inl ha,hP,by rw[hL]; exact hz,λl hl=>q _ _ (.alloc k hl _) (bf.DJ k hl (DR.xr hD (ws:=[]) (ds:=[]) trivial))⟩
     ·cases hp
   | _=>simp[jx] at hp) hg hm Nv he (by decide) (by decide) (oN hs)
end
theorem DL(r:cJ c σ δ H v (.aw ds)):∃ a ws,v = .ref a/\H a=some (.dK ws)/\DR H (Av c σ δ) ws ds:=by
 obtain⟨a,ws,e,h,k1,k2⟩:=r.aw;exact⟨a,ws,e,h,DR.of k1 k2⟩
def xu(neg:Bool):R2:=λx y H Q=>∃ a kvs k,y = .ref a/\H a=some (.dK kvs)/\x=kV k/\Q (.bl (if neg then !(de kvs k).isSome else(de kvs k).isSome)) H
theorem U6(hu:X.A.units + 64 < WQ):bx X (WM .In) (xu false):=by
 intro pins s σ H x y v u Q I rx ry h;obtain⟨a,kvs,k,rfl,ha,rfl,q⟩:=h
 cases ry;exact KH (by omega) I (lO.k ha) rx λs' I'=>⟨.bl _,H,I',rfl,q⟩
theorem Nw(hu:X.A.units + 64 < WQ):bx X (WM .NotIn) (xu true):=by
 intro pins s σ H x y v u Q I rx ry h;obtain⟨a,kvs,k,rfl,ha,rfl,q⟩:=h
 cases ry;exact KI (by omega) I (lO.k ha) rx λs' I'=>⟨.bl _,H,I',rfl,q⟩
def DM(K:W2)(neg:Bool):R2:=λx y H Q=>xu neg x y H Q\/Bs K neg x y H Q\/∃ i j,x = .str i/\y = .str j/\Q (.bl (if neg then !(!(Builtin.Str.occurrences j i 0 j.length 1).isEmpty) else !(Builtin.Str.occurrences j i 0 j.length 1).isEmpty)) H
theorem DO{X:Cx}(hu:X.A.units + 64 < WQ):bx X (WM .NotIn) (DM X.K true):=(Nw hu).or (Ko.or IA)
def gL(neg:Bool)(x y:D):Option S:=match y with
 | .aw ds=>(eU x).map λk=>.pure (.bl (if neg then !(dR ds k).isSome else(dR ds k).isSome))
 | .str y=>match x with
  | .str [n]=>some (.pure (.bl (if neg then !decide (n ∈ y) else decide (n ∈ y))))
  | _=>none
 | .lst ds=>match x,fB ds with
  | .str z,some ts=>some (.pure (.bl (if neg then !ts.contains z else ts.contains z)))
  | _,_=>none
 | .tup ds=>match x,fB ds with
  | .str z,some ts=>some (.pure (.bl (if neg then !ts.contains z else ts.contains z)))
  | _,_=>none
 | _=>none
theorem DP(z:Tx)(ts:List Tx):sG (V.str (toS z)) (ts.map λz=>V.str (toS z))=ts.contains z:=by
 unfold sG;rw[List.any_map];induction ts with
 | nil=>rfl
 | cons t r ih =>
  rw[Qg,List.contains_cons,ih];congr 1
  show(toS t == toS z)=(z == t);rw[oA,Bool.beq_comm]
theorem DQ(ts:List Tx):(ts.map λz=>V.str (toS z)).all kz=true:=by
 rw[List.all_map];exact List.all_eq_true.mpr λ_ _=>rfl
theorem DU{K:W2}(neg:Bool):b9 (DM K neg) (gL neg):=by
 intro c σ δ H x y d e s Q k rx ry hp q
 cases e <;> first | (simp[gL] at hp; done) | skip
 ·rename_i z;simp only[gL] at hp;split at hp <;> first | (cases hp; done) | skip
  rename_i n
  cases hp;refine .inr (.inr ⟨toS [n],toS z,rx.str,ry.str,?_⟩);rw[show toS [n] = ⟨#[n]⟩ from rfl,PySem.StrLaws.found_one,show(toS z).cps.toList=z by simp[toS]];exact q _ H (.refl k) (.bl _)
 ·rename_i ds;simp only[gL] at hp;split at hp <;> first | (cases hp; done) | skip
  rename_i z ts ht
  cases hp;obtain⟨a,vs,ea,ha,r⟩:=ry.tup;have ev:=oH ht r;refine .inr (.inl ⟨a,vs,ea,.inr (.of ha),by rw[rx.str]; rfl,by rw[ev]; exact DQ ts,?_⟩);rw[rx.str,ev,DP];exact q _ H (.refl k) (.bl _)
 ·rename_i ds;simp only[gL] at hp;split at hp <;> first | (cases hp; done) | skip
  rename_i z ts ht
  cases hp;obtain⟨a,vs,ea,ha,r⟩:=ry.lst;have ev:=oH ht r;refine .inr (.inl ⟨a,vs,ea,.inl (.inl ha),by rw[rx.str]; rfl,by rw[ev]; exact DQ ts,?_⟩);rw[rx.str,ev,DP];exact q _ H (.refl k) (.bl _)
 ·rename_i ds;simp only[gL] at hp
  cases hk:eU d with
  | none=>rw[hk] at hp; cases hp
  | some kk =>
   rw[hk] at hp
   cases hp;obtain⟨a,ws,ea,ha,dr⟩:=DL ry;refine .inl ⟨a,ws,cD kk,ea,ha,uj hk rx,?_⟩;have:(de ws (cD kk)).isSome=(dR ds kk).isSome:=by
    rcases dr.val kk with ⟨e1,e2⟩ | ⟨v,d,e1,e2,_⟩
    ·rw[e1,e2]; rfl
    ·rw[e1,e2]; rfl
   rw[this];exact q _ H (.refl k) (.bl _)
def rf:R2:=λx y H Q=>∃ a kvs k v,x = .ref a/\H a=some (.dK kvs)/\y=kV k/\de kvs k=some v/\Q v H
def j3:D->D->Option S
 | .aw ds,k=>(eU k).bind λk=>(dR ds k).map .pure
 | x,y=>ax x y
theorem xw(hu:X.A.units + 64 < WQ):gv X rf:=by
 intro value slice pins s σ H x y v u Q I rx ry h hs;obtain⟨a,kvs,k,w,rfl,ha,rfl,hv,q⟩:=h
 cases rx;obtain⟨_,_,vs,_,dd⟩:=qo I.aG ha;have hT:s.TypeIs (.ref a) "dict":=dd.typeIs;exact tail_any hT F.slot_dict_getitem.lookup (KG (v:=w) (by omega) I (by rw[<- hv]; exact lO.k ha) ry λw' s' I' aK=>⟨w,H,I',aK,q⟩) hs
theorem DW{K:W2}:b9 (λx y H Q=>rf x y H Q\/qj K x y H Q) j3:=by
 intro c σ δ H x y d e s Q k rx ry hp q
 cases d with
 | aw ds =>
  simp only[j3] at hp
  cases hk:eU e with
  | none=>rw[hk] at hp; cases hp
  | some kk =>
   rw[hk] at hp;simp only[Qs,WC] at hp;obtain⟨dv,hv,rfl⟩:=hp;obtain⟨a,ws,ea,ha,dr⟩:=DL rx;rcases dr.val kk with ⟨e1,e2⟩ | ⟨v,d',e1,e2,r⟩
   ·rw[e1] at hv; cases hv
   ·rw[e1] at hv; cases hv
    exact .inl ⟨a,ws,cD kk,v,ea,ha,uj hk ry,e2,q v H (.refl k) r⟩
 | _=>exact .inr (bC c σ δ H x y _ e s Q k rx ry hp q)
end DV
namespace PySem
open Sem (wp)
open AutoSeq1 (wpAny_loadPart')
section
variable {prog:Wm} {w:Ws} {A:Wt} {E:Value->W3->Prop} {s:W3}
theorem Nx{items}(hit:s.heap.IsTupleIter it l i)(hl:s.heap.IsTuple l items)(hx:items[i]? = some x)
  (hQ:∀ h',h'.IsTupleIter it l (i + 1)->QJ it s.heap h'->Q x { s with heap:=h' }):We (model prog w) A (Q2 (.ref it)) Q E s:=by
 obtain⟨o,ho,hc,hd⟩:=id hit;obtain⟨ol,hol,_,nl,jw⟩:=hl;unfold Q2;refine W0 (WZ (name:=Str.ofString "__next__") hit.typeIs J1
  (WX J1 hit.typeIs F.entry_tuple_iterator_next ?_ (F.args_tuple_iterator_next_1 _)))
 show We _ _ (field (.ref it) 0 >>= _) _ _ s;refine W0 (WW ho hd (x:=.ref l) rfl ?_);show We _ _ (if (Value.ref l == Value.none)=true then _ else _) _ _ s;rw[if_neg (show ¬ ((Value.ref l == Value.none)=true) from WJ)];show We _ _ (field (.ref it) 1 >>= _) _ _ s;refine W0 (WW ho hd (x:=.int i 0) rfl ?_);show We _ _ (seqItems? (.ref l) >>= _) _ _ s;refine W0 (QH hol jw ?_);simp only[QA,hx];refine W0 (wpAny_setField ho hd (by simp) (W7 ⟨x,rfl,W7 (hQ _ ?_ (Heap.SameBut.update ..))⟩));exact⟨_,Heap.get?_update_self _ ho (Obj.isFreed_of_fields (Obj.data_mapFields hd _)),(Obj.cls_mapFields ..).trans hc,by
  rw[Obj.data_mapFields hd]; simp[rawInt]⟩
theorem Ny{items}(hh:A.handled=none)(hit:s.heap.IsTupleIter it l i)(hl:s.heap.IsTuple l items)(hx:items[i]? = none)
  (hE:∀ h' e,Heap.ExtBut it s.heap h'->(∃ o,h'.get? e=some o/\o.cls = .type "StopIteration")->E (.ref e) { s with heap:=h' }):We (model prog w) A (Q2 (.ref it)) Q E s:=by
 obtain⟨o,ho,hc,hd⟩:=id hit;obtain⟨ol,hol,_,nl,jw⟩:=hl;unfold Q2;refine W0 (WZ (name:=Str.ofString "__next__") hit.typeIs J1
  (WX J1 hit.typeIs F.entry_tuple_iterator_next ?_ (F.args_tuple_iterator_next_1 _)))
 show We _ _ (field (.ref it) 0 >>= _) _ _ s;refine W0 (WW ho hd (x:=.ref l) rfl ?_);show We _ _ (if (Value.ref l == Value.none)=true then _ else _) _ _ s;rw[if_neg (show ¬ ((Value.ref l == Value.none)=true) from WJ)];show We _ _ (field (.ref it) 1 >>= _) _ _ s;refine W0 (WW ho hd (x:=.int i 0) rfl ?_);show We _ _ (seqItems? (.ref l) >>= _) _ _ s;refine W0 (QH hol jw ?_);simp only[QA,hx];refine W0 (J3 (W0 (wpAny_setField ho hd (by simp) ?_)));show We _ _ (newExc (.type "StopIteration") [] >>= _) _ _ _;refine W0 ?_;simp only[newExc,newTuple];refine W0 (Q0 ?_ (by size_fits));refine W0 (m:=firstArgMember _ _) (wpAny_of_eq (a:=Value.none) (by first | rfl | (simp only[firstArgMember]; rfl)) ?_);refine Q0 ?_ (by size_fits);simp only[raiseNew];refine W0 (wpAny_handled ?_);first | rw[show A.in1.handled=none from hh] | rw[hh]
 refine W0 (W7 (wpAny_throw ?_));exact hE _ _ (((Heap.SameBut.update ..).extBut.push _).push _) ⟨_,Wn _ rfl,rfl⟩
end
theorem IsTuple.at'{h h':Heap}{l:Addr}{items:Array Value}(x:h.IsTuple l items)(k:∀ o,h.get? l=some o->h'.get? l=some o):h'.IsTuple l items:=by
 obtain⟨o,ho,r⟩:=x;exact⟨o,k o ho,r⟩
theorem Draws.tuple'{prog:Wm}{w:Ws}{A:Wt}(hh:A.handled=none)(it l:Addr)(cC:l≠it)(items:Array Value) :
  Draws prog w A it [it,l] items.size (λi v=>items[i]? = some v) (λi h=>h.IsTupleIter it l i/\h.IsTuple l items) where
 live:=λ_ _ st=>let ⟨o,ho,_⟩:=st.1; ⟨o,ho⟩
 frame:=λ_ _ _ st hk=>⟨st.1.at λo e=>hk it (by simp) o e,IsTuple.at' st.2 λo e=>hk l (by simp) o e⟩
 item:=λi s Q E hi st hQ=>by
  refine Nx st.1 st.2 (x:=items[i]) (by simp[hi]) λh' Nz jP=>?_
  exact hQ _ h' s.toks (by simp[hi]) ⟨Nz,IsTuple.at' st.2 λo e=>(jP.2 l cC).trans e⟩ jP
 done:=λs Q E st hE=>Ny hh st.1 st.2 (by simp) hE
end PySem
namespace L2
open PySem PySem.Spec PyProof.Rows
section
variable {X:Cx} {pins:List (Addr×Obj)} {σ:St} {H:Hp} {s:W3} {h':Heap}
theorem Inv.uk(fp:List Addr)(I:Inv X pins σ H s)(k:∀ b o,b ∉ fp->s.heap.get? b=some o->h'.get? b=some o)(hf:∀ b ∈ fp,gf X pins H b):Inv X pins σ H { s with heap:=h',toks:=t' }:=by
 have lz:∀ b u,H b=some u->b ∉ fp:=λb u e z=>by rw[(hf b z).1] at e; cases e
 refine I.step (g':=s.gens) (d':=s.drawn) (ch:=fp) (λb hb=>?_) (λb o _ _ hc e _=>k b o hc e) (λb o _ _ hc e _=>⟨o.slots,k b o hc e⟩) (λ_ _ _ _ n=>n)
  (λb o hc e=>⟨o,k b o hc e⟩) (λ_ _ e=>e) (λ_ _ _ e=>e) (λb ps e=>⟨#[],by rw[e]; simp⟩) (λm hm=>?_) (λb u e=>?_) I.bare
 ·obtain⟨f0,f1,f2,f3,f4,f5⟩:=hf b hb;exact⟨f3,f1,f4,f5⟩
 ·obtain⟨o,es,ep,ho,r⟩:=hm;exact⟨o,es,ep,k _ o (λz=>(hf _ z).2.1 rfl) ho,r⟩
 ·refine(I.aG b u e).n_ (λc v hc q=>k c v ?_ q) (λ_ q=>q) (λ_ _ q=>q) λ_ _ _ q=>q
  rcases hc with z | z
  ·rw[z]; exact lz b u e
  ·exact lz c _ z
end
end L2
namespace DV
open PySem PySem.Spec PyProof.Rows L2
section
variable {X:Cx} {c:Fc} {tg e:Expr} {fe:DE} {pos pp:Pos}
end
end DV
namespace HT
open PySem PySem.Spec PyProof.Rows
section
variable {prog:Wm} {w:Ws} {A:Wt} {E:Value->W3->Prop} {s:W3}
end
end HT
namespace DV
open PySem PySem.Spec PyProof.Rows L2
section
variable {X:Cx} {c:Fc} {e:Expr} {fb:BE} {pos p2:Pos}
def oO:D->Option S
 | .int i=>some (.pure (.int (-i)))
 | _=>none
theorem NA(he:SB X c e fb):SE X c (.UnaryOp .USub e pos) (aO oO fb) :=
 PE.weak (Ik Iq he) λσ H Q h=>tM (λc σ δ H x d s Q k rx hp q=>by
  cases d with
  | int i =>
   simp only[oO,W8] at hp;subst hp;exact⟨i,rx.int,q _ H (.refl k) (.int _)⟩
  | _=>simp[oO] at hp) h
def nG:D->Bool
 | .aJ=>true
 | _=>false
def gM(neg:Bool)(d e:D):Option S:=match e with
 | .aJ=>some (.pure (.bl (neg != nG d)))
 | _=>none
theorem NB:b9 (λx y H Q=>y = .aJ/\Q (.bl (decide (x = .aJ))) H) (gM false):=by
 intro c σ δ H x y d e s Q k rx ry hp q
 cases e with
 | aJ =>
  simp only[gM,W8] at hp;subst hp;have ey:y = .aJ:=by
   rcases ry with r | ⟨a,e,o⟩
   ·cases r; rfl
   ·exact o.elim
  have:decide (x=V.aJ)=(false != nG d):=by
   rcases rx with r | ⟨a,e,o⟩
   ·cases r <;> simp[nG]
   ·subst e
    cases d <;> first | exact o.elim | simp[nG]
  exact⟨ey,by rw[this]; exact q _ H (.refl k) (.bl _)⟩
 | _=>simp[gM] at hp
theorem NC:b9 (λx y H Q=>y = .aJ/\Q (.bl (!decide (x = .aJ))) H) (gM true):=by
 intro c σ δ H x y d e s Q k rx ry hp q
 cases e with
 | aJ =>
  simp only[gM,W8] at hp;subst hp;have ey:y = .aJ:=by
   rcases ry with r | ⟨a,e,o⟩
   ·cases r; rfl
   ·exact o.elim
  have:(!decide (x=V.aJ))=(true != nG d):=by
   rcases rx with r | ⟨a,e,o⟩
   ·cases r <;> simp[nG]
   ·subst e
    cases d <;> first | exact o.elim | simp[nG]
  exact⟨ey,by rw[this]; exact q _ H (.refl k) (.bl _)⟩
 | _=>simp[gM] at hp
end
def Fc.cS(c:Fc)(i:Nat)(a:Addr):Fc:=⟨c.H₀,λb=>c.B b\/b=a,(i,a) :: c.pin,c.xc⟩
theorem Np.cS(h:Np c np):Np (c.cS i a) (i :: np):=λp hp=>by
 rcases Wj.mp hp with e | hp
 ·subst e; simp
 ·have:=h p hp;simp at this ⊢;exact .inr this
section
variable {c:Fc} {σ σ':St} {δ δ':Dl} {H H':Hp} {i:Nat} {a:Addr} {ds:List D}
theorem Own.unset(h:Own σ (δ.set i none) b):Own σ δ b:=by
 obtain⟨j,d',e1,e2⟩:=h;by_cases hj:i=j
 ·subst hj;rw[Qa] at e1;split at e1
  ·split at e1 <;> cases e1
  ·rename_i q; exact absurd rfl q
 ·rw[W6 hj] at e1;exact⟨j,d',e1,e2⟩
theorem ND(k:Ok c σ δ H)(e:δ[i]? = some (some (.own (.lst ds))))(ea:σ[i]? = some (some (.ref a)))(b:Addr)(z:Av (c.cS i a) σ (δ.set i none) b):Av c σ δ b:=by
 rcases z with (z | z) | z
 ·exact .inl z
 ·subst z; exact .inr ⟨i,_,e,ea⟩
 ·exact .inr z.unset
theorem Ok.cS(k:Ok c σ δ H)(e:δ[i]? = some (some (.own (.lst ds))))(ea:σ[i]? = some (some (.ref a))):Ok (c.cS i a) σ (δ.set i none) H:=by
 have sub:=ND k e ea;have ne:∀ j d,(δ.set i none)[j]? = some (some d)->i≠j/\δ[j]? = some (some d):=λj d q=>by
  by_cases hj:i=j
  ·subst hj;rw[Wa (W1.mp e).1] at q; cases q
  ·rw[W6 hj] at q; exact⟨hj,q⟩
 refine⟨λb o h n=>k.keep b o h λ⟨j,z⟩=>n ⟨j,W9 _ z⟩,λb z=>?_,λb ⟨j,z⟩=>?_,by rw[Q7]; exact k.len,λj d q=>?_,λj d q=>?_,λj l b d d' q1 q2=>?_,λp hp=>?_⟩
 ·rcases z with z | z
  ·exact k.bd b z
  ·subst z; exact k.lR ⟨i,_,e,ea⟩
 ·rcases Wj.mp z with z | z
  ·cases z; exact k.lR ⟨i,_,e,ea⟩
  ·exact k.dC b ⟨j,z⟩
 ·obtain⟨_,q⟩:=ne j _ q;obtain⟨v,g1,g2⟩:=k.slot j d q;exact⟨v,g1,g2.aL λb z=>.inl (sub b z)⟩
 ·obtain⟨hj,q⟩:=ne j _ q;obtain⟨b,g1,g2,g3,g4⟩:=k.own j d q;refine⟨b,g1,g2.aL λb z=>.inl (sub b z),g3.imp (λ⟨l,z⟩=>⟨l,W9 _ z⟩) id,λz=>?_⟩;rcases z with z | z
  ·exact g4 z
  ·subst z; exact hj (k.inj i j b _ _ e q ea g1)
 ·exact k.inj j l b d d' (ne j _ q1).2 (ne l _ q2).2
 ·rcases Wj.mp hp with z | z
  ·subst z; exact ea
  ·exact k.pinned p z
end
def U7(i:Nat)(g:DG)(b:DS):DS:=λδ=>match δ[i]? with
 | some (some (.own (.lst ds)))=>(forL g b ds (δ.set i none)).bind λfl δ'=>match fl with
  | .ret (.own _)=>.stuck
  | fl=>.ok fl (δ'.set i (some (.own (.lst ds))))
 | _=>.stuck
section
variable {X:Cx} {c:Fc} {tg iter:Expr} {body:List Stmt} {g:DG} {b:DS} {i:Nat} {pos:Pos}
def j4(np:List Nat)(i:Nat):DS:=λδ=>match δ[i]? with
 | some (some (.own d))=>if np.contains i || !np.all (cj δ) then .ok (.ret (.pure d)) (δ.set i (some (.pure d))) else .ok (.ret (.own d)) (δ.set i none)
 | some (some (.pure d))=>.ok (.ret (.pure d)) δ
 | _=>.stuck
theorem um{np:List Nat}{e:Expr}(au:Np c np)(he:PE X e (bZ i)):SS X c (.Return (some e) pos) (j4 np i):=PS.weak (AF he) λD σ H ⟨δ,k,q⟩=>by
 unfold j4 fg at q;split at q
 ·rename_i d e;obtain⟨a,ea,oa,ia,nb⟩:=k.own i d e;refine⟨.ref a,ea,?_⟩;split at q
  ·obtain⟨a',dD,x,r⟩:=k.give e;rw[ea] at dD; cases dD
   exact q σ H x _ r
  ·rename_i hc;simp only[Bool.or_eq_true,not_or,Bool.not_eq_true,Bool.not_eq_false',WY] at hc;obtain⟨hc1,hc2⟩:=hc;have nI:¬ c.I a:=λ⟨j,z⟩=>by
    have z1:=au (j,a) z;have z2:=k.pinned (j,a) z;have z3:=hc2 j (by simpa using z1);unfold cj at z3;split at z3
    ·rename_i d' ej;have:=k.inj i j a _ _ e ej ea z2;subst this;rw[z1] at hc1; cases hc1
    ·cases z3
   have h0:c.H₀ a=none:=ia.resolve_left nI;have hi:i < δ.length:=(W1.mp e).1;have ne:∀ j d,(δ.set i none)[j]? = some (some d)->i≠j/\δ[j]? = some (some d):=λj d q=>by
    by_cases hj:i=j
    ·subst hj;rw[Wa hi] at q; cases q
    ·rw[W6 hj] at q; exact⟨hj,q⟩
   have sub:∀ b,Av (c.plus a) σ (δ.set i none) b->Av c σ δ b:=λb z=>by
    rcases z with (z | z) | z
    ·exact .inl z
    ·subst z; exact .inr ⟨i,_,e,ea⟩
    ·exact .inr z.unset
   have kp:Ok (c.plus a) σ (δ.set i none) H:=by
    refine⟨k.keep,λb z=>?_,k.dC,by rw[Q7]; exact k.len,λj d q=>?_,λj d q=>?_,λj l b d d' q1 q2=>k.inj j l b d d' (ne j _ q1).2 (ne l _ q2).2,k.pinned⟩
    ·rcases z with z | z
     ·exact k.bd b z
     ·subst z; exact k.lR ⟨i,_,e,ea⟩
    ·obtain⟨_,q⟩:=ne j _ q;obtain⟨v,g1,g2⟩:=k.slot j d q;exact⟨v,g1,g2.aL λb z=>.inl (sub b z)⟩
    ·obtain⟨hj,q⟩:=ne j _ q;obtain⟨b,g1,g2,g3,g4⟩:=k.own j d q;refine⟨b,g1,g2.aL λb z=>.inl (sub b z),g3,λz=>?_⟩;rcases z with z | z
     ·exact g4 z
     ·subst z; exact hj (k.inj i j b _ _ e q ea g1)
   have x:aV c σ δ H σ (δ.set i none) H:=by
    refine⟨⟨k.keep,k.bd,k.dC,by rw[Q7]; exact k.len,λj d q=>?_,λj d q=>?_,λj l b d d' q1 q2=>k.inj j l b d d' (ne j _ q1).2 (ne l _ q2).2,k.pinned⟩,λ_ _ w _=>w,λb z=>.inl z.unset,λ_ o w=>⟨o,w⟩⟩
    ·obtain⟨_,q⟩:=ne j _ q;obtain⟨v,g1,g2⟩:=k.slot j d q;exact⟨v,g1,g2.aL λb z=>.inl (z.elim .inl λz=>.inr z.unset)⟩
    ·obtain⟨hj,q⟩:=ne j _ q;obtain⟨b,g1,g2,g3,g4⟩:=k.own j d q;exact⟨b,g1,g2.aL λb z=>.inl (z.elim .inl λz=>.inr z.unset),g3,g4⟩
   exact q σ H x _ ⟨a,rfl,oa.aL λb z=>.inl (sub b z),nb,h0,kp,h0⟩
 ·rename_i d e;obtain⟨v,e1,r⟩:=k.slot i d e;exact⟨v,e1,q σ H (.refl k) v r⟩
 ·exact q.elim
end
theorem DY(hu:X.A.units + 64 < WQ):gv X (λx y H Q=>rf x y H Q\/qj X.K x y H Q):=(xw hu).or bw
end DV
namespace L2
open PySem PySem.Spec PyProof.Rows
section
variable {X:Cx}
end
end L2
namespace DV
open PySem PySem.Spec PyProof.Rows L2
section
variable {X:Cx} {c:Fc} {e:Expr} {fe:DE} {pos:Pos}
end
section
variable {c:Fc} {σ:St} {δ δ':Dl} {H H':Hp} {i:Nat} {a p:Addr} {ds:List D}
end
open Classical in
noncomputable def itAt (δ₀:Dl) (ds:List D):DI:=λδ=>if δ=δ₀ then .ok ds δ else .stuck
section
variable {X:Cx} {c:Fc} {cs:List Nat} {tg iter elt:Expr} {ifs:List Expr} {scope:Scope} {pos:Pos} {g:DG} {t:DT} {el:DE} {i:Nat}
end
section
variable {X:Cx} {c:Fc} {e:Expr} {fe:DE} {pos pos':Pos}
end
section
variable {X:Cx} {c:Fc} {pp pos:Pos}
end
section
variable {c:Fc} {σ:St} {δ:Dl} {H:Hp} {a:Addr} {d:D}
theorem gN(h:(xs ++ [x])[i]? = some y):xs[i]? = some y\/(i=xs.length/\y=x):=by
 rw[List.getElem?_append] at h;split at h
 ·exact .inl h
 ·rename_i hi;right
  have:i - xs.length=0:=by
   cases hk:i - xs.length with
   | zero=>rfl
   | succ k=>rw[hk] at h; simp at h
  rw[this] at h;simp at h;exact⟨by omega,h.symm⟩
theorem getL{α:Type}{xs:List α}{x y:α}{i:Nat}(h:xs[i]? = some y):(xs ++ [x])[i]? = some y:=by
 rw[J4 (W1.mp h).1]; exact h
theorem DZ(hl:δ.length=σ.length):Own (σ ++ [some (V.ref a)]) (δ ++ [some (S.own d)]) b->Own σ δ b\/b=a:=by
 rintro ⟨i,d',e1,e2⟩;rcases gN e1 with e1 | ⟨hi,_⟩
 ·rcases gN e2 with e2 | ⟨hi,_⟩
  ·exact .inl ⟨i,d',e1,e2⟩
  ·have:=(W1.mp e1).1; omega
 ·rcases gN e2 with e2 | ⟨_,e2⟩
  ·have:=(W1.mp e2).1; omega
  ·cases e2; exact .inr rfl
theorem uo(hl:δ.length=σ.length)(h:Av c (σ ++ [some (V.ref a)]) (δ ++ [some (S.own d)]) b):Av (c.plus a) σ δ b:=by
 rcases h with h | h
 ·exact .inl (.inl h)
 ·rcases DZ hl h with h | h
  ·exact .inr h
  ·exact .inl (.inr h)
theorem Ok.NF(k:Ok (c.plus a) σ δ H)(o:fz H (Av (c.plus a) σ δ) a d)(nb:¬ c.B a)(h0:c.H₀ a=none):Ok c (σ ++ [some (.ref a)]) (δ ++ [some (.own d)]) H:=by
 have hl:=k.len;refine⟨k.keep,λb z=>k.bd b (.inl z),k.dC,by simp[hl],λi d' e=>?_,λi d' e=>?_,λi j b d1 d2 e1 e2 s1 s2=>?_,λp hp=>getL (k.pinned p hp)⟩
 ·rcases gN e with e | ⟨_,e⟩
  ·obtain⟨v,g1,g2⟩:=k.slot i d' e;exact⟨v,getL g1,g2.aL λb z=>.inl (uo hl z)⟩
  ·cases e
 ·rcases gN e with e | ⟨hi,e⟩
  ·obtain⟨b,g1,g2,g3,g4⟩:=k.own i d' e;exact⟨b,getL g1,g2.aL λb z=>.inl (uo hl z),g3,λz=>g4 (.inl z)⟩
  ·cases e;subst hi;exact⟨a,by rw[hl]; simp,o.aL λb z=>.inl (uo hl z),.inr h0,nb⟩
 ·have na:∀ (i:Nat) (d:D),δ[i]? = some (some (.own d))->σ[i]? = some (some (.ref a))->False:=λi d q1 q2=>ow k ⟨i,d,q1,q2⟩
  rcases gN e1 with e1 | ⟨h1,_⟩ <;> rcases gN e2 with e2 | ⟨h2,_⟩
  ·have i1:=(W1.mp e1).1;have i2:=(W1.mp e2).1;rcases gN s1 with s1 | ⟨z,_⟩
   ·rcases gN s2 with s2 | ⟨z,_⟩
    ·exact k.inj i j b d1 d2 e1 e2 s1 s2
    ·omega
   ·omega
  ·subst h2;rw[hl] at s2;have hb:b=a:=by simpa using s2.symm
   subst hb;rcases gN s1 with s1 | ⟨z,_⟩
   ·exact(na i d1 e1 s1).elim
   ·have:=(W1.mp e1).1; omega
  ·subst h1;rw[hl] at s1;have hb:b=a:=by simpa using s1.symm
   subst hb;rcases gN s2 with s2 | ⟨z,_⟩
   ·exact(na j d2 e2 s2).elim
   ·have:=(W1.mp e2).1; omega
  ·rw[h1,h2]
theorem Ok.xx(hl:δ.length=σ.length)(k:Ok c (σ ++ [some (.ref a)]) (δ ++ [some (.own d)]) H)(hp:∀ p ∈ c.pin,p.1 < σ.length):Ok c σ δ H:=by
 have sub:∀ b,Av c σ δ b->Av c (σ ++ [some (.ref a)]) (δ ++ [some (.own d)]) b:=λb z=>z.elim .inl λ⟨i,d',e1,e2⟩=>.inr ⟨i,d',getL e1,getL e2⟩
 refine⟨k.keep,k.bd,k.dC,hl,λi d' e=>?_,λi d' e=>?_,λi j b d1 d2 e1 e2 s1 s2=>k.inj i j b d1 d2 (getL e1) (getL e2) (getL s1) (getL s2),λp hm=>?_⟩
 ·obtain⟨v,g1,g2⟩:=k.slot i d' (getL e);have hi:=(W1.mp e).1;rcases gN g1 with g1 | ⟨z,_⟩
  ·exact⟨v,g1,g2.aL λb z=>.inl (sub b z)⟩
  ·omega
 ·obtain⟨b,g1,g2,g3⟩:=k.own i d' (getL e);have hi:=(W1.mp e).1;rcases gN g1 with g1 | ⟨z,_⟩
  ·exact⟨b,g1,g2.aL λb z=>.inl (sub b z),g3⟩
  ·omega
 ·rcases gN (k.pinned p hm) with g | ⟨z,_⟩
  ·exact g
  ·have:=hp p hm; omega
end
def oP(G:DF)(f0:DE)(as:List Ak):DE:=λδ=>if (aZ as).isEmpty then(f0 δ).bind λr δ1=>match r with
  | .own d=>(bK as δ1).bind λds δ2=>match bo as ds δ2 with
   | none=>.stuck
   | some ss=>match G (.own d :: ss) with
    | none=>.stuck
    | some (r,_)=>.ok r δ2
  | _=>.stuck
 else .stuck
theorem D0:∀ {as:List Ak} {ds:List (Option D)} {δ:Dl},aZ as=[]->bo as ds (δ ++ [x])=bo as ds δ
 | [],[],δ,_=>rfl
 | [],_ :: _,δ,_=>rfl
 | .val f :: as,[],δ,_=>rfl
 | .val f :: as,none :: ds,δ,_=>rfl
 | .val f :: as,some d :: ds,δ,h=>by
  simp only[bo];rw[D0 (as:=as) (ds:=ds) (δ:=δ) (by simpa[aZ] using h)]
 | .io i :: as,ds,δ,h=>by simp[aZ] at h
theorem NG{c:Fc}{σ:St}{δ:Dl}{H:Hp}{a:Addr}{d:D}{vs:List V}{as:List Ak}{ds:List (Option D)}(hl:δ.length=σ.length)(h:iR (c.plus a) σ δ H vs as ds):iR c (σ ++ [some (.ref a)]) (δ ++ [some (.own d)]) H vs as ds:=by
 induction h with
 | nil=>exact .nil
 | val r _ ih=>exact .val (r.aL λb z=>.inl (uo hl z)) ih
 | io e _ ih=>exact .io (getL e) ih
section
variable {X:Cx} {c:Fc} {e:Expr} {es:List Expr} {as:List Ak} {f0:DE} {k n:Nat} {x:Str} {G:DF} {pp pos:Pos}
theorem NH(hK:c7 G){σ:St}{H:Hp}{Q:VK}(hl:as.length + 1=n)(h:tD c (oP G f0 as) σ H Q):vH (kR n G) [] E0 (vG (tD c f0) (λσ H Q=>∃ a,tX (c.plus a) as σ H Q)) σ H Q:=by
 obtain⟨δ,kk,q⟩:=h;unfold oP at q;split at q
 case isFalse=>exact q.elim
 rename_i ie;have uq:aZ as=[]:=by simpa using ie
 rw[ba] at q;refine⟨δ,kk,aS q λr δ1 q1 v0 H1 a1 r1=>?_⟩
 cases r with
 | pure d=>exact q1.elim
 | own d =>
  obtain⟨a,rfl,oa,nb,h0,kp,hs⟩:=r1;simp only at q1;rw[ba] at q1;refine⟨a,δ1,kp,λi hi=>absurd (l5.mpr hi) (by rw[uq]; simp),?_⟩;have qA:post (c.plus a) (bK as δ1) λds δ2=>post c (match bo as ds δ2 with
   | none=>.stuck
   | some ss=>match G (.own d :: ss) with
    | none=>.stuck
    | some (r,_)=>.ok r δ2) λr δ'=>∀ v H',aV c σ δ H σ δ' H'->bf c σ δ' H H' v r->Q v H':=by
   cases hf:bK as δ1 with
   | ok fl δ'=>rw[hf] at q1; exact q1
   | exc x δx=>rw[hf] at q1; exact q1
   | stuck=>rw[hf] at q1; exact q1
  refine aS qA λds δ2 q2 vs H2 a2 r2=>?_
  cases em:bo as ds δ2 with
  | none=>rw[em] at q2; exact q2.elim
  | some ss =>
   rw[em] at q2;simp only at q2
   cases eg:G (.own d :: ss) with
   | none=>rw[eg] at q2; exact q2.elim
   | some y =>
    obtain⟨r,aW⟩:=y;rw[eg] at q2;have nH:=a2.ok.len;have NI:fz H2 (Av (c.plus a) σ δ2) a d:=by
     have o1:fz H1 (λb=>Av (c.plus a) σ δ1 b\/Av (c.plus a) σ δ2 b) a d:=oa.aL λb z=>z.elim .inl (a2.av b)
     exact(o1.keep (λb o e n=>a2.keep b o e λz=>n (.inl (.inr z))) λo e=>a2.keep a o e (ow kp)).aL λb z=>.inl (.inr z)
    have k':=Ok.NF a2.ok NI nb h0;have r':iR c (σ ++ [some (.ref a)]) (δ2 ++ [some (.own d)]) H2 (.ref a :: vs) (.io σ.length :: as) (none :: ds):=.io (by simp) (NG nH r2);have xy:bo (.io σ.length :: as) (none :: ds) (δ2 ++ [some (.own d)])=some (.own d :: ss):=by
     simp only[bo];rw[<- nH,show(δ2 ++ [some (S.own d)])[δ2.length]? = some (some (.own d)) by simp];simp only[D0 uq,em,WB]
    have nd:(aZ (.io σ.length :: as)).Nodup:=by simp[aZ,uq]
    have qY:=Df k' r' xy nd;obtain⟨m1,m2,_⟩:=t_ r' xy;obtain⟨g1,g2⟩:=hK _ r aW eg;refine⟨.own d :: ss,_,by rw[QM]; rw[<- m2]; simpa using hl,by rw[QM]; exact qY,r,aW,eg,λv H3 a3 r3=>?_⟩;rw[QM] at a3 r3;obtain⟨o1,o2⟩:=Di k' r' xy nd rfl a3 (λj d ed=>(g2 j).1 d ed) λj d ed=>(g2 j).2 d ed
    have o3:=o2 v r r3;-- the virtual slot holds what came of the list
    obtain⟨d',ed'⟩:=(g2 0).1 d rfl;obtain⟨rs,ers⟩:∃ rs,aW = .own d' :: rs:=by
     cases aW with
     | nil=>simp at ed'
     | cons z rs=>simp at ed'; subst ed'; exact⟨rs,rfl⟩
    subst ers;have NJ:aT (.io σ.length :: as) (.own d' :: rs) (δ2 ++ [some (.own d)])=δ2 ++ [some (.own d')]:=by
     have hp:∀ (as:List Ak) (rs:List S) (δ:Dl),aZ as=[]->aT as rs δ=δ:=by
      intro as;induction as with
      | nil=>intro rs δ _; cases rs <;> rfl
      | cons x as ih =>
       intro rs δ h
       cases x with
       | val f=>cases rs with
        | nil=>rfl
        | cons y rs=>simp only[aT]; exact ih rs δ (by simpa[aZ] using h)
       | io i=>simp[aZ] at h
     simp only[aT];rw[hp as rs _ uq,<- nH];simp
    rw[NJ] at o1 o3;have xA:∀ p ∈ c.pin,p.1 < σ.length:=λp hm=>(W1.mp (kk.pinned p hm)).1
    have kc:Ok c σ δ2 H3:=Ok.xx nH o1.ok xA;have D3:∀ b,Own σ δ2 b->Own (σ ++ [some (.ref a)]) (δ2 ++ [some (.own d')]) b:=λb ⟨i,d1,e1,e2⟩=>⟨i,d1,getL e1,getL e2⟩
    have rg:aV c σ δ H σ δ2 H2:=a1.trans ⟨Ok.xx nH k' xA,a2.keep,a2.own,a2.there⟩;have fin:aV c σ δ H σ δ2 H3:=by
     refine⟨kc,λb o eb nO=>?_,rg.own,λb o eb=>?_⟩
     ·have NL:=rg.keep b o eb nO;refine o1.keep b o NL λz=>?_
      rcases DZ nH z with z | z
      ·rcases rg.own b z with w | w
       ·exact nO w
       ·rw[w] at eb; cases eb
      ·subst z; rw[hs] at eb; cases eb
     ·obtain⟨o',e'⟩:=rg.there b o eb;exact o1.there b o' e'
    have sub:∀ b,Av c σ δ2 b->Av c (σ ++ [some (.ref a)]) (δ2 ++ [some (.own d')]) b:=λb z=>z.elim .inl λz=>.inr (D3 b z)
    refine q2 v H3 fin ?_
    cases r with
    | pure dr=>exact Rep.aL (show Rep H3 (Av c (σ ++ [some (.ref a)]) (δ2 ++ [some (.own d')])) v dr from o3) λb z=>.inl (sub b z)
    | own dr =>
     obtain⟨p,e1,oo,np,f,kq,nt⟩:=o3;have NM:δ2.length=σ.length:=nH;refine⟨p,e1,oo.aL λb z=>.inl ?_,np,f,Ok.xx NM kq xA,?_⟩
     ·rcases z with z | z
      ·exact .inl z
      ·exact .inr (D3 b z)
     ·cases eH:H p with
      | none=>rfl
      | some o =>
       obtain⟨o',e'⟩:=rg.there p o eH;rw[nt] at e'; cases e'
theorem NN (F:aX X.prog X.w X.K X.mg X.base k x n G) (hK:c7 G) (hr:eB k X.A) (hg:Gl X x) (h0:SE X c e f0) (ha:∀ a,SX X (c.plus a) es as) (hl:as.length + 1=n) (gZ:(x == ("__debug__" : Str))=false:=by decide)
  (he:Wk (e :: es) X.env=(false,eval e X.env) :: Wk es X.env:=by rfl) (dB:(QK pos (Wk es X.env)).any (·.1)=false:=by rfl):SE X c (.Call (.Name x pp) (e :: es) [] pos) (oP G f0 as):=by
 obtain⟨f,fd,ps,hm,hk,hb,ok⟩:=F;exact PE.weak (A6 ok hr hg hm hk hb .nil BN (fK h0 (t:=λσ H Q=>∃ a,tX (c.plus a) as σ H Q) (λppp pins s σ H Q I ⟨a,q⟩=>ha a ppp pins s σ H Q I q) he) gZ he dB) λσ H Q h=>NH hK hl h
end
section
variable {X:Cx} {c:Fc} {e:Expr} {fe:DE} {pos:Pos}
theorem Ok.NO(k:Ok c σ δ H)(e:δ[i]? = some (some (.own (.aw ds))))(ea:σ[i]? = some (some (.ref a)))(r:DR H (Av c σ δ) fM dJ) :
  aV c σ δ H σ (δ.set i (some (.own (.aw dJ)))) (upd H a (.dK fM)):=by
 have hi:i < δ.length:=(W1.mp e).1;obtain⟨a',dD,oa,ia,nb⟩:=k.own i _ e;rw[ea] at dD; cases dD
 obtain⟨vs,ha,_⟩:=oa;have qN:Own σ δ a:=⟨i,_,e,ea⟩
 have wY:Av c σ δ a:=.inr qN;have qO:∀ b,Own σ (δ.set i (some (.own (.aw dJ)))) b ↔ Own σ δ b:=λb=>by
  constructor
  ·rintro ⟨j,d,e1,e2⟩;by_cases hj:i=j
   ·subst hj;exact⟨i,_,e,e2⟩
   ·rw[W6 hj] at e1;exact⟨j,d,e1,e2⟩
  ·rintro ⟨j,d,e1,e2⟩;by_cases hj:i=j
   ·subst hj;exact⟨i,_,by rw[Wa hi],e2⟩
   ·exact⟨j,d,by rw[W6 hj]; exact e1,e2⟩
 have nu:∀ b,Av c σ (δ.set i (some (.own (.aw dJ)))) b->Av c σ δ b:=λb z=>z.elim .inl λz=>.inr ((qO b).mp z)
 have ne:∀ b,¬ Av c σ δ b->b≠a:=λb n z=>n (by rw[z]; exact wY)
 have kp:∀ b o,H b=some o->¬ Av c σ δ b->upd H a (.dK fM) b=some o:=λb o h n=>by rw[aQ (ne b n)]; exact h
 have jX:∀ b o,H b=some o->∃ o',upd H a (.dK fM) b=some o':=λb o h=>by
  by_cases hb:b=a
  ·exact⟨_,by rw[hb]; exact cN⟩
  ·exact⟨o,by rw[aQ hb]; exact h⟩
 refine⟨⟨λb o h n=>?_,λb z=>?_,λb z=>?_,by rw[Q7]; exact k.len,λj d h=>?_,λj d h=>?_,λj l b d d' h1 h2 h3 h4=>?_,k.pinned⟩,λb o h n=>?_,λb z=>.inl ((qO b).mp z),jX⟩
 ·have hb:b≠a:=λz=>by
   subst z;rcases ia with z | z
   ·exact n z
   ·rw[z] at h; cases h
  rw[aQ hb];exact k.keep b o h n
 ·obtain⟨o,h⟩:=k.bd b z;exact jX b o h
 ·obtain⟨o,h⟩:=k.dC b z;exact jX b o h
 ·have hj:i≠j:=λz=>by subst z; rw[Wa hi] at h; cases h
  rw[W6 hj] at h;obtain⟨v,h1,h2⟩:=k.slot j d h;exact⟨v,h1,(h2.keep kp).aL λb z=>.inl (nu b z)⟩
 ·by_cases hj:i=j
  ·subst hj;rw[Wa hi] at h
   cases h;exact⟨a,ea,(let r':=r.map λv d h=>(Rep.keep h kp).aL λb z=>.inl (nu b z); ⟨fM,cN,r'.keys,r'.vals⟩),ia,nb⟩
  ·rw[W6 hj] at h;obtain⟨b,h1,h2,h3,h4⟩:=k.own j d h;have hb:b≠a:=λz=>by subst z; exact hj (k.inj i j b _ d e h ea h1)
   exact⟨b,h1,(h2.keep kp λo q=>by rw[aQ hb]; exact q).aL λb z=>.inl (nu b z),h3,h4⟩
 ·have f1:∃ d,δ[j]? = some (some (.own d)):=by
   by_cases hj:i=j
   ·subst hj; exact⟨_,e⟩
   ·rw[W6 hj] at h1; exact⟨d,h1⟩
  have f2:∃ d,δ[l]? = some (some (.own d)):=by
   by_cases hj:i=l
   ·subst hj; exact⟨_,e⟩
   ·rw[W6 hj] at h2; exact⟨d',h2⟩
  obtain⟨_,f1⟩:=f1;obtain⟨_,f2⟩:=f2;exact k.inj j l b _ _ f1 f2 h3 h4
 ·have hb:b≠a:=λz=>n (by rw[z]; exact qN)
  rw[aQ hb]; exact h
def mf(δ:Dl)(i:Nat):Bool:=match δ[i]? with
 | some (some (.own (.aw _)))=>true
 | _=>false
def kU(i:Nat)(fi fe:DE):DS:=λδ=>if mf δ i then(fe δ).bind λr δ1=>if mf δ1 i then(fi δ1).bind λk δ2=>match δ2[i]? with
  | some (some (.own (.aw ds)))=>match eU k.d with
   | some kk=>if ds.length < Wc then .ok .next (δ2.set i (some (.own (.aw (putD ds kk r.d))))) else .stuck
   | none=>.stuck
  | _=>.stuck else .stuck else .stuck
theorem D4(h:mf δ i=true):∃ ds,δ[i]? = some (some (.own (.aw ds))):=by
 unfold mf at h;split at h
 ·rename_i ds e; exact⟨ds,e⟩
 ·cases h
theorem D5{i:Nat}{o ix:Expr}{fi:DE}{sp:Pos}(hu:X.A.units + 64 < WQ)(ho:PE X o (bZ i))(hi:SE X c ix fi)(he:SE X c e fe)
  (hs:Jq e (some (.Subscript o ix sp)) pos.line X.env=pure false:=by rfl):SS X c (.Assign [.Subscript o ix sp] e pos) (kU i fi fe) :=
 PS.weak (BH (by omega) ho hi he hs) λD σ H ⟨δ,k,q⟩=>by
  unfold kU fg at q;split at q
  case isFalse=>exact q.elim
  rename_i gI;rw[ba] at q;refine⟨δ,k,aS q λr δ1 q1 v H1 a1 r1=>?_⟩;split at q1
  case isFalse=>exact q1.elim
  rename_i hown1;obtain⟨ds1,e1⟩:=D4 hown1;obtain⟨a,ea,_,_⟩:=a1.ok.own i _ e1;refine⟨.ref a,ea,δ1,a1.ok,?_⟩;rw[ba] at q1;refine aS q1 λkx δ2 q2 u H2 a2 r2=>?_
  split at q2
  ·rename_i ds e2;split at q2
   ·rename_i kk hk;split at q2
    ·rename_i hz;obtain⟨a',dD,oa,_⟩:=a2.ok.own i _ e2;rw[ea] at dD; cases dD
     obtain⟨ws,ha,hk1,hk2⟩:=id oa;have dr:DR H2 (Av c σ δ2) ws ds:=DR.of hk1 hk2;have wm:=uj hk r2.b;subst wm;have hlen:ws.length=ds.length:=by have:=congrArg Jt hk1; simpa using this
     have rv:Rep H2 (Av c σ δ2) v r.d:=Rep.dh r1.rep a2;refine⟨a,_,rfl,oq.k ha (by rw[hlen]; exact hz),?_⟩;exact q2 σ _ (a1.trans (a2.trans (Ok.NO a2.ok e2 ea (dr.put rv))))
    ·exact q2.elim
   ·exact q2.elim
  ·exact q2.elim
end
section
variable {X:Cx} {c:Fc} {o e f:Expr} {fe ff:DE} {i:Nat} {apos bA:Pos}
end
section
variable {X:Cx}
end
end DV
namespace L2
open PySem PySem.Spec PyProof.Rows
section
variable {X:Cx} {tg:Expr}
end
end L2
namespace DV
open PySem PySem.Spec PyProof.Rows L2
variable {X:Cx} {c:Fc} {tg e:Expr} {fe:DE} {pp pos:Pos}
section
variable {X:Cx}
end
theorem qu:∀ {ns:List Int} {us:List Value},Vals (ns.map V.int) us->∃ ys:List (Int×Tok),us=(ys.map λp=>Value.int p.1 p.2)/\ns=ys.map (·.1)
 | [],us,r=>by cases r; exact⟨[],rfl,rfl⟩
 | n :: ns,us,r=>by
  cases r with
  | cons r1 r2 =>
   obtain⟨ys,e1,e2⟩:=qu r2;obtain⟨t,rfl⟩:=r1;exact⟨(n,t) :: ys,by rw[e1]; rfl,by rw[e2]; rfl⟩
section
variable {X:Cx}
end
def j5:List D->Option (List Int)
 | []=>some []
 | .int i :: r=>(j5 r).map (i :: ·)
 | _ :: _=>none
theorem D6:∀ {ds:List D} {vs:List V} {ns:List Int},j5 ds=some ns->aH H O vs ds->vs=ns.map V.int
 | [],vs,bs,h,r=>by
  simp only[j5,W8] at h;subst h;have:=r.1;simpa using this
 | d :: ds,[],bs,h,r=>by have:=r.1; simp at this
 | d :: ds,v :: vs,bs,h,r=>by
  cases d with
  | int b =>
   simp only[j5] at h
   cases e:j5 ds with
   | none=>rw[e] at h; cases h
   | some bs' =>
    rw[e] at h;simp only[WB,W8] at h;subst h;have:=r.head
    cases this;rw[D6 e r.tail];rfl
  | _=>simp[j5] at h
theorem ints_map(ns:List Int):j5 (ns.map D.int)=some ns:=by
 induction ns with
 | nil=>rfl
 | cons n r ih=>simp[j5,ih]
section
variable {X:Cx} {c:Fc} {e:Expr} {fb:BE} {pos pp:Pos}
end
end DV
namespace L2
open PySem PySem.Spec PyProof.Rows
section
variable {prog:Wm} {w:Ws} {A:Wt} {E:Value->W3->Prop} {s:W3}
end
section
variable {X:Cx} {pos:Pos}
end
end L2
namespace DV
open PySem PySem.Spec PyProof.Rows L2
section
variable {X:Cx} {c:Fc} {pos:Pos}
end
open PySem PySem.Builtin PySem.Builtin.Str PySem.StrLaws
def nJ(c:Nat)(z:List Nat)(a n:Nat):List Nat:=(List.range' a n).filter λi=>decide (z[i]? = some c)
theorem NP(z:List Nat)(c i:Nat):subAt ⟨z.toArray⟩ ⟨#[c]⟩ i=decide (z[i]? = some c):=by
 unfold subAt;have e:(⟨#[c]⟩:Str).length=1:=rfl;rw[e];show(z.toArray.extract i (i + 1) == #[c])=_;rw[List.extract_toArray,List.extract_eq_take_drop,Nat.add_sub_cancel_left];have hb:((List.take 1 (List.drop i z)).toArray == #[c])=((List.take 1 (List.drop i z)) == [c]):=by simp
 rw[hb]
 cases h:z[i]? with
 | none =>
  rw[List.getElem?_eq_none_iff] at h;rw[List.drop_of_length_le h];simp
 | some a =>
  have hi:i < z.length:=(W1.mp h).1;have ha:z[i]=a:=(W1.mp h).2;rw[Qq hi,ha];by_cases hac:a=c <;> simp[hac]
theorem xB(c:Nat)(z:List Nat):∀ (n k:Nat) (st:Array Nat×Nat),st.2<=k->st.1.size<=k->k + n=z.length + 1 ->
  (forIn (List.range' k n) st (occBody ⟨z.toArray⟩ ⟨#[c]⟩ z.length (z.length + 1))).run.fst.toList=st.1.toList ++ nJ c z k n
 | 0,k,st,_,_,_=>by simp[nJ]
 | n + 1,k,st,h1,h2,h3=>by
  rw[JS,JV];unfold occBody;have e1:(⟨#[c]⟩:Str).length=1:=rfl;rw[NP,e1];by_cases hc:z[k]? = some c
  ·have hk:k < z.length:=(W1.mp hc).1;rw[if_pos ⟨⟨⟨by omega,h1⟩,by omega⟩,by simpa using hc⟩];have ih:=xB c z n (k + 1) (st.1.push k,k + 1) (Wf _) (by simp; omega) (by omega);show(forIn (List.range' (k + 1) n) (st.1.push k,k + 1) (occBody ⟨z.toArray⟩ ⟨#[c]⟩ z.length (z.length + 1))).run.fst.toList=_;rw[ih];simp[nJ,JS,hc]
  ·rw[if_neg (λh=>hc (by simpa using h.2))];have ih:=xB c z n (k + 1) (st.1,st.2) (by show st.2<=k + 1; omega) (by show st.1.size<=k + 1; omega) (by omega);show(forIn (List.range' (k + 1) n) (st.1,st.2) (occBody ⟨z.toArray⟩ ⟨#[c]⟩ z.length (z.length + 1))).run.fst.toList=_;rw[ih];simp[nJ,JS,hc]
theorem NQ(c:Nat)(z:List Nat):occurrences ⟨z.toArray⟩ ⟨#[c]⟩ 0 z.length (z.length + 1)=nJ c z 0 z.length:=by
 rw[occ_eq,xB c z (z.length + 1 - 0) 0 (#[],0) (Wf _) (Wf _) (by omega)];have:z.length + 1 - 0=z.length + 1:=rfl;rw[this];unfold nJ;rw[List.range'_concat];simp
section
variable {X:Cx}
end
section
variable {X:Cx} {c:Fc} {e:Expr} {fb:BE}
end
end DV
set_option maxHeartbeats 1000000
namespace PySem
open Sem (wp)
open AutoSeq1 (wpAny_loadPart')
section
variable {prog:Wm} {w:Ws} {A:Wt} {E:Value->W3->Prop} {s:W3}
end
end PySem
namespace PyProof.Rows
open PySem
section
variable {M:Model} {A:Wt} {E:Value->W3->Prop} {s:W3} {env:Env}
end
end PyProof.Rows
set_option maxHeartbeats 400000
namespace L2
open PySem PySem.Spec PyProof.Rows
end L2
namespace DV
open PySem PySem.Spec PyProof.Rows L2
section
variable {X:Cx} {c:Fc} {tg e:Expr} {fe:DE} {pos pp:Pos}
end
end DV
namespace L2
open PySem PySem.Spec PyProof.Rows
section
variable {M:Model} {A:Wt} {E:Value->W3->Prop} {s:W3}
end
section
variable {X:Cx} {x:Str} {C:Addr} {np bA pos:Pos}
end
section
variable {X:Cx} {pins:List (Addr×Obj)} {σ:St} {H:Hp} {s:W3} {h':Heap}
end
section
variable {X:Cx} {pins:List (Addr×Obj)} {σ:St} {H:Hp} {s:W3} {h':Heap} {a T:Addr}
end
section
variable {prog:Wm} {w:Ws} {A:Wt} {E:Value->W3->Prop} {K:W2}
end
def Cx.wt(X:Cx)(pn:List (Addr×Obj))(xe:Value->W3->Prop):Cx:={ X with pn:=pn,xe:=xe }
section
variable {X:Cx} {pins ps:List (Addr×Obj)} {σ:St} {H:Hp} {s:W3} {a:Addr} {xe:Value->W3->Prop} {pn:List (Addr×Obj)}
section
variable {M:Model} {E:Value->W3->Prop} {C L:Addr} {dx:Option Addr} {Q:Unit->W3->Prop}
end
end
section
variable {X:Cx} {pins:List (Addr×Obj)} {σ:St} {H:Hp} {s:W3} {b:Addr}
end
section
variable {X:Cx} {k:Nat} {f:Addr} {fd:Qi} {ps:List Str} {sp:Sp} {x:Str} {p pos:Pos} {e:Expr} {es:List Expr} {t:TA} {W:Addr->Option Addr->St->Hp->Prop}
end
section
variable {P:Wm} {w:Ws} {K:W2} {mg:Str->Option Value} {base:Heap} {N:List Str} {qual:Str} {scope:Scope} {f:Addr} {cd:Value} {A:Wt} {outer:List Env} {s₀:W3} {H₀:Hp} {E:XK}
end
def Cx.loop(X:Cx):Cx:={ X with xe:=notedBy (model X.prog X.w) X.A X.env (cameBackBy (model X.prog X.w) X.A X.env X.xe) }
section
variable {X:Cx} {pins ps:List (Addr×Obj)} {σ:St} {H:Hp} {s:W3}
end
end L2
namespace DV
open PySem PySem.Spec PyProof.Rows L2
section
variable {c:Fc} {σ σ':St} {δ δ':Dl} {H H':Hp} {g:Xc->Dl->Prop}
end
abbrev DX:=List S->Option ((S×List S) ⊕ (Xc×List S))
section
variable {P:Wm} {w:Ws} {K:W2} {mg:Str->Option Value} {base:Heap}
end
section
variable {X:Cx} {c:Fc} {e:Expr} {es:List Expr} {as:List Ak} {k n:Nat} {x:Str} {G:DX} {pp pos:Pos}
end
section
variable {c:Fc} {σ σ':St} {δ δ':Dl} {H H':Hp}
end
section
variable {c:Fc} {σ σ':St} {δ δ':Dl} {H H':Hp} {B':Addr->Prop} {g:Xc->Dl->Prop}
end
end DV
namespace L2
open PySem PySem.Spec PyProof.Rows PySem.W Builtin Builtin.ObjectAttr Builtin.Getset_descriptor
section
variable {prog:Wm} {w:Ws} {A:Wt} {E:Value->W3->Prop} {K:W2} {C e:Addr} {oe:Obj} {h:Heap} {g:Array GenState} {d:Drawn} {t:Nat} {os:OsState}
end
section
variable {X:Cx} {y:Str} {D:Addr} {pos:Pos}
end
section
variable {P:Wm} {w:Ws} {K:W2} {mg:Str->Option Value} {base:Heap} {k:Nat} {f:Addr}
end
section
variable {X:Cx} {k:Nat} {f:Addr} {fd:Qi} {ps:List Str} {sp:Sp} {x:Str} {p pos:Pos} {e:Expr} {es:List Expr} {t:TA}
end
end L2
namespace DV
open PySem PySem.Spec PyProof.Rows L2
section
variable {X:Cx} {c:Fc} {e:Expr} {fb:BE} {pp py pos:Pos} {y:Str} {ce:Tx->Nat} {ys:List Tx} {tab:Tx->Bool}
end
section
variable {P:Wm} {w:Ws} {K:W2} {mg:Str->Option Value} {base:Heap}
end
section
variable {X:Cx} {c:Fc} {e:Expr} {es:List Expr} {as:List Ak} {k n:Nat} {x:Str} {G:DF} {pp pos:Pos}
end
end DV
namespace L2
open PySem PySem.Spec PyProof.Rows PySem.SeqAt
section
variable {X:Cx}
end
end L2
namespace DV
open PySem PySem.Spec PyProof.Rows L2
section
variable {X:Cx} {c:Fc} {e:Expr} {fb:BE}
end
end DV
namespace L2
open PySem PySem.Spec PyProof.Rows
section
variable {X:Cx}
end
end L2
namespace DV
open PySem PySem.Spec PyProof.Rows L2
end DV
namespace PySem
open Sem (wp)
structure ZA(z TI TO i1 i2:Addr)(f1 f2:List Addr):Prop where
 m1:i1 ∈ f1
 m2:i2 ∈ f2
 z1:z ∉ f1
 z2:z ∉ f2
 t1:TO ∉ f1
 t2:TO ∉ f2
 k1:i1 ∉ f2
 k2:i2 ∉ f1
 tz:TO≠z
 iz:TI≠z
 io:TI≠TO
 n1:TI≠i1
 n2:TI≠i2
section
variable {prog:Wm} {w:Ws} {A:Wt} {E:Value->W3->Prop} {s:W3}
theorem NR{z TI TO i1 i2:Addr}{f1 f2:List Addr}{n1 n2 i:Nat}{P1 P2:Nat->Value->Prop}{S1 S2:Nat->Heap->Prop}{a b:Value}{Q:Value->W3->Prop}(D1:Draws prog w A i1 f1 n1 P1 S1)(D2:Draws prog w A i2 f2 n2 P2 S2)(C:ZA z TI TO i1 i2 f1 f2)
  (hz:IsZip s.heap z TI TO .none) (hI:IsPair s.heap TI (.ref i1) (.ref i2)) (hO:IsPair s.heap TO a b) (g1:S1 i s.heap) (g2:S2 i s.heap) (l1:i < n1) (l2:i < n2)
  (q:∀ x y h' tk,P1 i x->P2 i y->IsZip h' z TI TO (rawInt s.heap.objs.size)->IsPair h' TO x y->S1 (i + 1) h'->S2 (i + 1) h'->IsPair h' s.heap.objs.size x y ->
   (∀ c o,c≠z->c≠TO->c≠i1->c≠i2->s.heap.get? c=some o->h'.get? c=some o)->Q (.ref s.heap.objs.size) { s with heap:=h',toks:=tk }) :
  We (model prog w) A (Builtin.«zip.__next__» ⟨[.ref z],[]⟩) (λfin s'=>∃ v,fin = .done (.ret v)/\Q v s') E s:=by
 have i1z:i1≠z:=λe=>C.z1 (e ▸ C.m1)
 have i2z:i2≠z:=λe=>C.z2 (e ▸ C.m2)
 have xC:TO≠i1:=λe=>C.t1 (e ▸ C.m1)
 have NS:TO≠i2:=λe=>C.t2 (e ▸ C.m2)
 have i12:i1≠i2:=λe=>C.k1 (e ▸ C.m2)
 show We _ _ (field (.ref z) 2 >>= _) _ _ _; refine W0 (WW hz rfl (x:=.bool false) rfl ?_)
 show We _ _ (field (.ref z) 3 >>= _) _ _ _; refine W0 (WW hz rfl (x:=.ref TI) rfl (W0 (QH hI rfl ?_)))
 show We _ _ (Qx (.ref z) >>= _) _ _ _; refine W0 ?_
 unfold Qx; refine W0 (WW hz rfl (x:=.none) rfl (W7 ?_))
 simp only[if_true]; refine W0 (J3 (W0 (WW hz rfl (x:=.ref TO) rfl (W0 (Q3 hz (by simp) λh1 mh s1=>?_)))))
 replace mh:IsZip h1 z TI TO .ellipsis:=mh;refine W0 ?_; simp only[List.zipIdx_cons,List.zipIdx_nil,JV,List.forIn_nil]
 refine W0 (W0 (wpAny_onRaise ?_)); show We _ _ (Q2 (.ref i1) >>= _) _ _ _
 have e1:S1 i h1:=D1.frame _ _ _ g1 λc hc o e=>s1.extBut _ _ (λx=>C.z1 (x ▸ hc)) e
 refine W0 (D1.item i _ _ _ l1 e1 λx h2 NT p1 e2 s2=>W7 ?_);have rh:IsPair h2 TO a b:=s2.extBut _ _ xC (s1.extBut _ _ C.tz hO);refine W0 (QH rh rfl (W0 (wpAny_updateSeq_pair rh λh3 ur s3=>?_)));replace ur:IsPair h3 TO x b:=ur;refine W0 (wpAny_letGo (W7 (W0 (W0 (wpAny_onRaise ?_))))); show We _ _ (Q2 (.ref i2) >>= _) _ _ _
 have e3:S2 i h3:=D2.frame _ _ _ g2 λc hc o e=>s3.extBut _ _ (λx=>C.t2 (x ▸ hc)) (s2.extBut _ _ (λx=>C.k1 (x ▸ hc)) (s1.extBut _ _ (λx=>C.z2 (x ▸ hc)) e))
 refine W0 (D2.item i _ _ _ l2 e3 λy h4 U8 p2 e4 s4=>W7 ?_);have D7:IsPair h4 TO x b:=s4.extBut _ _ NS ur;refine W0 (QH D7 rfl (W0 (wpAny_updateSeq_pair D7 λh5 uu s5=>?_)));replace uu:IsPair h5 TO x y:=uu;refine W0 (wpAny_letGo (W7 (W7 (W0 (QH uu rfl (W0 (wpAny_newTuple ?_)))))));have hsz:h5.objs.size=s.heap.objs.size:=by rw[s5.1,s4.1,s3.1,s2.1,s1.1]
 have D8:IsZip h5 z TI TO .ellipsis:=s5.extBut _ _ C.tz.symm (s4.extBut _ _ i2z.symm (s3.extBut _ _ C.tz.symm (s2.extBut _ _ i1z.symm mh)));have k5:∀ c o,c≠z->c≠TO->c≠i1->c≠i2->s.heap.get? c=some o->h5.get? c=some o:=λc o c1 c2 c3 c4 e=>s5.extBut _ _ c2 (s4.extBut _ _ c4 (s3.extBut _ _ c2 (s2.extBut _ _ c3 (s1.extBut _ _ c1 e))))
 have r1:S1 (i + 1) h5:=D1.frame _ _ _ e2 λc hc o e=>s5.extBut _ _ (λx=>C.t1 (x ▸ hc)) (s4.extBut _ _ (λx=>C.k2 (x ▸ hc)) (s3.extBut _ _ (λx=>C.t1 (x ▸ hc)) e))
 have r2:S2 (i + 1) h5:=D2.frame _ _ _ e4 λc hc o e=>s5.extBut _ _ (λx=>C.t2 (x ▸ hc)) e
 have zl:z < h5.objs.size:=Wr D8;show We _ _ (Builtin.SmallTypes.ownedTupleHandOut (.ref z) (.ref h5.objs.size) >>= _) _ _ _; refine W0 ?_
 unfold Builtin.SmallTypes.ownedTupleHandOut;have NU:IsZip (h5.push { cls:=.type "tuple",data:=.seq #[x,y] }) z TI TO .ellipsis:=Wd _ D8;refine W0 (Q3 NU (by simp) λh7 xD s7=>?_);replace xD:IsZip h7 z TI TO (rawInt h5.objs.size):=xD;refine Q3 xD (by simp) λh8 uv s8=>?_
 replace uv:IsZip h8 z TI TO (rawInt h5.objs.size):=uv;have up:∀ c o,c≠z->h5.get? c=some o->h8.get? c=some o:=λc o c1 e=>s8.extBut _ _ c1 (s7.extBut _ _ c1 (Wd _ e))
 have hT:IsPair h8 h5.objs.size x y:=s8.extBut _ _ (Jc zl) (s7.extBut _ _ (Jc zl) (Wn _ rfl));rw[hsz] at uv hT;refine W7 ⟨_,rfl,?_⟩; show Q (.ref h5.objs.size) _; rw[hsz]
 exact q x y h8 _ p1 p2 uv (up _ _ C.tz uu) (D1.frame _ _ _ r1 λc hc o e=>up c o (λx=>C.z1 (x ▸ hc)) e) (D2.frame _ _ _ r2 λc hc o e=>up c o (λx=>C.z2 (x ▸ hc)) e) hT λc o c1 c2 c3 c4 e=>up c o c1 (k5 c o c1 c2 c3 c4 e)
theorem NV(D1:Draws prog w A i1 f1 n1 P1 S1)(D2:Draws prog w A i2 f2 n2 P2 S2)(C:ZA z TI TO i1 i2 f1 f2)
  (hz:IsZip s.heap z TI TO .none) (hI:IsPair s.heap TI (.ref i1) (.ref i2)) (hO:IsPair s.heap TO a b) (g1:S1 i s.heap) (g2:S2 i s.heap) (l:i=n1\/(i < n1/\i=n2))
  (q:∀ h' tk e,(∀ c o,c≠z->c≠TO->c≠i1->c≠i2->s.heap.get? c=some o->h'.get? c=some o)->(∃ o,h'.get? e=some o/\o.cls = .type "StopIteration")->E (.ref e) { s with heap:=h',toks:=tk }) :
  We (model prog w) A (Builtin.«zip.__next__» ⟨[.ref z],[]⟩) Q E s:=by
 have i1z:i1≠z:=λe=>C.z1 (e ▸ C.m1)
 have i2z:i2≠z:=λe=>C.z2 (e ▸ C.m2)
 have xC:TO≠i1:=λe=>C.t1 (e ▸ C.m1)
 show We _ _ (field (.ref z) 2 >>= _) _ _ _; refine W0 (WW hz rfl (x:=.bool false) rfl ?_)
 show We _ _ (field (.ref z) 3 >>= _) _ _ _; refine W0 (WW hz rfl (x:=.ref TI) rfl (W0 (QH hI rfl ?_)))
 show We _ _ (Qx (.ref z) >>= _) _ _ _; refine W0 ?_
 unfold Qx; refine W0 (WW hz rfl (x:=.none) rfl (W7 ?_))
 simp only[if_true]; refine W0 (J3 (W0 (WW hz rfl (x:=.ref TO) rfl (W0 (Q3 hz (by simp) λh1 mh s1=>?_)))))
 replace mh:IsZip h1 z TI TO .ellipsis:=mh;refine W0 ?_; simp only[List.zipIdx_cons,List.zipIdx_nil,JV,List.forIn_nil]
 refine W0 (W0 (wpAny_onRaise ?_)); show We _ _ (Q2 (.ref i1) >>= _) _ _ _
 have e1:S1 i h1:=D1.frame _ _ _ g1 λc hc o e=>s1.extBut _ _ (λx=>C.z1 (x ▸ hc)) e
 rcases l with l | ⟨l,l'⟩
 ·subst l;refine W0 (D1.done _ _ _ e1 λh2 e s2 ⟨oe,he,ce⟩=>?_);have uw:IsZip h2 z TI TO .ellipsis:=s2 _ _ i1z.symm mh;have ez:e≠z:=λx=>by subst x; rw[uw] at he; cases he; simp at ce
  exact Q3 uw (by simp) λh3 _ s3=>q h3 _ e (λc o c1 _ c3 _ x=>s3.extBut _ _ c1 (s2 _ _ c3 (s1.extBut _ _ c1 x))) ⟨oe,s3.extBut _ _ ez he,ce⟩
 ·refine W0 (D1.item i _ _ _ l e1 λx h2 NT p1 e2 s2=>W7 ?_);have rh:IsPair h2 TO a b:=s2.extBut _ _ xC (s1.extBut _ _ C.tz hO);refine W0 (QH rh rfl (W0 (wpAny_updateSeq_pair rh λh3 ur s3=>?_)));refine W0 (wpAny_letGo (W7 (W0 (W0 (wpAny_onRaise ?_))))); show We _ _ (Q2 (.ref i2) >>= _) _ _ _
  have e3:S2 i h3:=D2.frame _ _ _ g2 λc hc o e=>s3.extBut _ _ (λx=>C.t2 (x ▸ hc)) (s2.extBut _ _ (λx=>C.k1 (x ▸ hc)) (s1.extBut _ _ (λx=>C.z2 (x ▸ hc)) e))
  subst l';refine W0 (D2.done _ _ _ e3 λh4 e s4 ⟨oe,he,ce⟩=>?_);have D9:IsZip h4 z TI TO .ellipsis:=s4 _ _ i2z.symm (s3.extBut _ _ C.tz.symm (s2.extBut _ _ i1z.symm mh));have ez:e≠z:=λx=>by subst x; rw[D9] at he; cases he; simp at ce
  exact Q3 D9 (by simp) λh5 _ s5=>q h5 _ e (λc o c1 c2 c3 c4 x=>s5.extBut _ _ c1 (s4 _ _ c4 (s3.extBut _ _ c2 (s2.extBut _ _ c3 (s1.extBut _ _ c1 x))))) ⟨oe,s5.extBut _ _ ez he,ce⟩
theorem NW{z TI TO i1 i2:Addr}{f1 f2:List Addr}{n1 n2 i:Nat}{P1 P2:Nat->Value->Prop}{S1 S2:Nat->Heap->Prop}{a b:Value}{Q:Option Value->W3->Prop}(D1:Draws prog w A.in1 i1 f1 n1 P1 S1)(D2:Draws prog w A.in1 i2 f2 n2 P2 S2)(C:ZA z TI TO i1 i2 f1 f2)
  (hz:IsZip s.heap z TI TO .none) (hI:IsPair s.heap TI (.ref i1) (.ref i2)) (hO:IsPair s.heap TO a b) (g1:S1 i s.heap) (g2:S2 i s.heap) (l1:i < n1) (l2:i < n2)
  (q:∀ x y h' tk,P1 i x->P2 i y->IsZip h' z TI TO (rawInt s.heap.objs.size)->IsPair h' TO x y->S1 (i + 1) h'->S2 (i + 1) h'->IsPair h' s.heap.objs.size x y ->
   (∀ c o,c≠z->c≠TO->c≠i1->c≠i2->s.heap.get? c=some o->h'.get? c=some o)->Q (some (.ref s.heap.objs.size)) { s with heap:=h',toks:=tk }) :
  We (model prog w) A (J2 (.ref z)) Q E s:=by
 have ty:s.TypeIs (.ref z) "zip":=⟨_,hz,rfl⟩
 unfold J2;exact W0 (wpAny_attempt (WZ (name:=Str.ofString "__next__") ty F.slot_zip_next (WX F.slot_zip_next ty F.entry_zip_next
  (NR D1 D2 C hz hI hO g1 g2 l1 l2 λx y h' tk b1 b2 b3 b4 b5 b6 b7 b8=>W7 (q x y h' tk b1 b2 b3 b4 b5 b6 b7 b8)) (F.args_zip_next_1 _))))
theorem NX(D1:Draws prog w A.in1 i1 f1 n1 P1 S1)(D2:Draws prog w A.in1 i2 f2 n2 P2 S2)(C:ZA z TI TO i1 i2 f1 f2)
  (hz:IsZip s.heap z TI TO .none) (hI:IsPair s.heap TI (.ref i1) (.ref i2)) (hO:IsPair s.heap TO a b) (g1:S1 i s.heap) (g2:S2 i s.heap) (l:i=n1\/(i < n1/\i=n2))
  (q:∀ h' tk,(∀ c o,c≠z->c≠TO->c≠i1->c≠i2->s.heap.get? c=some o->h'.get? c=some o)->Q none { s with heap:=h',toks:=tk }) :
  We (model prog w) A (J2 (.ref z)) Q E s:=by
 have ty:s.TypeIs (.ref z) "zip":=⟨_,hz,rfl⟩
 unfold J2;refine W0 (wpAny_attempt (WZ (name:=Str.ofString "__next__") ty F.slot_zip_next (WX F.slot_zip_next ty F.entry_zip_next
  (NV D1 D2 C hz hI hO g1 g2 l λh' tk e k ⟨o,ho,hc⟩=>?_) (F.args_zip_next_1 _))))
 exact W0 (wpAny_isInstance (T:="StopIteration") (b:=true) ⟨o,ho,hc⟩ isSubtype_stop (W7 (q _ _ k)))
end
def gO(b:Bool)(h:Heap)(a:Addr)(ae:Array Value):Prop:=match b with
 | true=>h.IsList a ae
 | false=>h.IsTuple a ae
def mi(b:Bool)(h:Heap)(it a:Addr)(i:Nat):Prop:=match b with
 | true=>h.IsListIter it a i
 | false=>h.IsTupleIter it a i
def oQ (b:Bool) (a:Addr):Obj:={ cls:=.type (match b with | true=>"list_iterator" | false=>"tuple_iterator"),data:=.fields #[.ref a,.int 0 0] }
theorem gO.lt(q:gO b h a ae):a < h.objs.size:=by
 cases b
 ·obtain⟨o,e,_⟩:=(q:h.IsTuple a ae); exact Wr e
 ·obtain⟨o,e,_⟩:=(q:h.IsList a ae); exact Wr e
theorem gO.push(q:gO b h a ae)(o:Obj):gO b (h.push o) a ae:=by
 cases b
 ·obtain⟨o,e,r⟩:=(q:h.IsTuple a ae); exact⟨o,Wd _ e,r⟩
 ·obtain⟨o,e,r⟩:=(q:h.IsList a ae); exact⟨o,Wd _ e,r⟩
theorem D_(h:gO b s.heap a ae)(q:Q (.ref s.heap.objs.size) { s with heap:=s.heap.push (oQ b a) }):We (model prog w) A (pyIter (.ref a)) Q E s:=by
 cases b
 ·exact wpAny_pyIter_tuple h q
 ·exact JK h q
theorem ux(b:Bool)(hh:A.handled=none)(it a:Addr)(cC:a≠it)(ae:Array Value):Draws prog w A it [it,a] ae.size (λi v=>ae[i]? = some v) (λi h=>mi b h it a i/\gO b h a ae):=by
 cases b
 ·exact Draws.tuple' hh it a cC ae
 ·exact Draws.list hh it a cC ae
abbrev uy(h:Heap)(b1:Bool)(l1:Addr):Heap:=h.push (oQ b1 l1)
abbrev uz(h:Heap)(b1 b2:Bool)(l1 l2:Addr):Heap:=(uy h b1 l1).push (oQ b2 l2)
abbrev uA (h:Heap) (b1 b2:Bool) (l1 l2:Addr):Heap:=(uz h b1 b2 l1 l2).push { cls:=.type "tuple",data:=.seq #[.ref h.objs.size,.ref (uy h b1 l1).objs.size] }
abbrev uB (h:Heap) (b1 b2:Bool) (l1 l2:Addr):Heap:=(uA h b1 b2 l1 l2).push { cls:=.type "tuple",data:=.seq #[.none,.none] }
abbrev oR (h:Heap) (b1 b2:Bool) (l1 l2:Addr):Heap:=(uB h b1 b2 l1 l2).push { cls:=.type "zip",data:=.fields #[.none,.bool false,.bool false,.ref (uz h b1 b2 l1 l2).objs.size,.ref (uA h b1 b2 l1 l2).objs.size] }
theorem NY(b1 b2:Bool)(l1 l2:Addr)(xs ys:Array Value) :
  Meets (Builtin.«zip.__new__» ⟨[.type "zip",.ref l1,.ref l2],[]⟩) (λ_ R s=>gO b1 s.heap l1 xs/\gO b2 s.heap l2 ys /\
   R (.ok (.ret (.ref (uB s.heap b1 b2 l1 l2).objs.size))) { s with heap:=oR s.heap b1 b2 l1 l2 }) :=
 .of_wp λprog w A R s h=>by
  obtain⟨hp,g,d,tk,os⟩:=s; obtain⟨xE,jS,h⟩:=h
  have U9:=sub_zip;have NZ:gO b1 (Shared.heap ⟨hp,g,d,tk,os⟩) l1 xs:=xE;have N0:gO b2 (Shared.heap ⟨hp.push (oQ b1 l1),g,d,tk,os⟩) l2 ys:=jS.push _;wp_walk using D_ NZ,D_ N0
  exact⟨_,rfl,h⟩
theorem N1(xE:gO b1 s.heap l1 xs)(jS:gO b2 s.heap l2 ys)
  (h:∀ h',IsZip h' (s.heap.objs.size + 4) (s.heap.objs.size + 2) (s.heap.objs.size + 3) .none->IsPair h' (s.heap.objs.size + 2) (.ref s.heap.objs.size) (.ref (s.heap.objs.size + 1)) ->
   IsPair h' (s.heap.objs.size + 3) .none .none->mi b1 h' s.heap.objs.size l1 0->mi b2 h' (s.heap.objs.size + 1) l2 0 ->
   (∀ c o,s.heap.get? c=some o->h'.get? c=some o)->Q (.ref (s.heap.objs.size + 4)) { s with heap:=h' }) :
  We (model prog w) A (call (.type "zip") [.ref l1,.ref l2]) Q E s:=by
 refine callType_new F.called_zip (by decide) (F.typeCall_zip_2 _ _) (F.newCall_zip_2 _ _) (λobj=>F.args_object_init_3 obj _ _) F.entry_zip_new (NY b1 b2 l1 l2 xs ys) ⟨xE,jS,?_⟩;have z1:(uy s.heap b1 l1).objs.size=s.heap.objs.size + 1:=Qw ..;have z2:(uz s.heap b1 b2 l1 l2).objs.size=s.heap.objs.size + 2:=by rw[Qw,z1]
 have z3:(uA s.heap b1 b2 l1 l2).objs.size=s.heap.objs.size + 3:=by rw[Qw,z2]
 have z4:(uB s.heap b1 b2 l1 l2).objs.size=s.heap.objs.size + 4:=by rw[Qw,z3]
 have up:∀ {h:Heap} {o:Obj} {c:Addr} {o':Obj},h.get? c=some o'->(h.push o).get? c=some o':=λe=>Wd _ e
 have g5:(oR s.heap b1 b2 l1 l2).get? (uB s.heap b1 b2 l1 l2).objs.size=some _:=Wn _ rfl;have g4:(oR s.heap b1 b2 l1 l2).get? (uA s.heap b1 b2 l1 l2).objs.size=some _:=up (Wn _ rfl);have g3:(oR s.heap b1 b2 l1 l2).get? (uz s.heap b1 b2 l1 l2).objs.size=some _:=up (up (Wn _ rfl));have g2:(oR s.heap b1 b2 l1 l2).get? (uy s.heap b1 l1).objs.size=some (oQ b2 l2):=up (up (up (Wn _ (by cases b2 <;> rfl))));have g1:(oR s.heap b1 b2 l1 l2).get? s.heap.objs.size=some (oQ b1 l1):=up (up (up (up (Wn _ (by cases b1 <;> rfl)))));show _/\_;rw[z2,z3,z4] at g5;rw[z1,z2] at g3;rw[z3] at g4;rw[z1] at g2;rw[z4];exact⟨⟨_,g5,rfl⟩,h _ g5 g3 g4 (by cases b1 <;> exact⟨_,g1,rfl,rfl⟩) (by cases b2 <;> exact⟨_,g2,rfl,rfl⟩) λc o x=>up (up (up (up (up x))))⟩
end PySem
namespace L2
open PySem PySem.Spec PyProof.Rows
section
variable {X:Cx} {pins:List (Addr×Obj)} {σ:St} {H:Hp} {s:W3} {h':Heap}
theorem Inv.xF(fp:List Addr)(I:Inv X pins σ H s)(hf:∀ b ∈ fp,gf X pins H b)(a7:∀ b ∈ fp,b < s.heap.objs.size)(ru:RelV x u)(rv:RelV y v)
  (hT:h'.get? s.heap.objs.size=some { cls:=.type "tuple",data:=.seq #[u,v] }) (k:∀ b o,b ∉ fp->s.heap.get? b=some o->h'.get? b=some o) :
  Inv X pins σ (upd H s.heap.objs.size (.tup [x,y])) { s with heap:=h',toks:=t' }:=by
 have I1:Inv X pins σ (upd H s.heap.objs.size (.tup [x,y])) { s with heap:=s.heap.push { cls:=.type "tuple",data:=.seq #[u,v] },toks:=t' } :=
  I.laid (t':=t') (λb o e=>Wd _ e) (Wf _) (show bP X.prog X.w _ _ _ (.tup [x,y]) from
   ⟨by simp only[WL,JU]; rw[JO]; decide,[u,v],.cons ru (.cons rv .nil),iC.new _ _⟩)
 have:=Inv.uk (t':=t') (h':=h') fp I1 (λb o hb eb=>?_) λb hb=>?_
 ·exact this
 ·rcases Heap.get?_push_cases eb with ⟨z,z'⟩ | eb
  ·subst z z'; exact hT
  ·exact k b o hb eb
 ·obtain⟨f0,r⟩:=hf b hb;exact⟨by rw[aQ (WP (a7 b hb))]; exact f0,r⟩
def ik(b:Bool)(K:W2)(H:Hp)(a:Addr)(xs:List V):Prop:=match b with
 | true=>cq K H a xs
 | false=>cL K H a xs
theorem Inv.oS(I:Inv X pins σ H s)(h:ik b X.K H a xs):∃ ae,Vals xs ae/\gO b s.heap a ae.toArray:=by
 cases b
 ·obtain⟨ae,rv,p,_⟩:=I.tuple (h:cL X.K H a xs);exact⟨ae,rv,p⟩
 ·obtain⟨ae,rv,p,_⟩:=I.list (h:cq X.K H a xs);exact⟨ae,rv,p.isList⟩
theorem Inv.Ea(I:Inv X pins σ H s)(h:ik b X.K H a xs)(h':ik b X.K H a ys):xs=ys:=by
 cases b
 ·exact I.AB h h'
 ·exact I.AA h h'
end
def Eb(K:W2)(b1 b2:Bool)(a1 a2:Addr):It :=
 ⟨λi H=>∃ xs ys x y,ik b1 K H a1 xs/\ik b2 K H a2 ys/\xs[i]? = some x/\ys[i]? = some y,
  λi H v H'=>∃ p x y,H p=none/\(∀ xs,ik b1 K H a1 xs->xs[i]? = some x)/\(∀ ys,ik b2 K H a2 ys->ys[i]? = some y)/\H'=upd H p (.tup [x,y])/\v = .ref p,
  λi H=>∃ xs ys,ik b1 K H a1 xs/\ik b2 K H a2 ys/\(i=xs.length\/(i < xs.length/\i=ys.length))⟩
theorem N2{P:Wm}{w:Ws}{K:W2}{elts:List Expr}{ctx}{pos:Pos}(b1 b2:Bool)(a1 a2 n:Addr)(h1:a1 < n)(h2:a2 < n) :
  Turn P w K (.Tuple elts ctx pos) (Eb K b1 b2 a1 a2) [n + 4,n + 2,n + 3,n,n + 1] (n + 4) (λi h=>IsZip h (n + 4) (n + 2) (n + 3) .none/\IsPair h (n + 2) (.ref n) (.ref (n + 1))/\(∃ a b,IsPair h (n + 3) a b)/\mi b1 h n a1 i/\mi b2 h (n + 1) a2 i):=by
 have ne:∀ (i j:Nat),i≠j->n + i≠n + j:=λi j h e=>h (Nat.add_left_cancel e)
 have n1:∀ i:Nat,a1≠n + i:=λi=>WP (Ww h1 (Nat.le_add_right n i))
 have n2:∀ i:Nat,a2≠n + i:=λi=>WP (Ww h2 (Nat.le_add_right n i))
 have nm:∀ {x a b:Addr},x≠a->x≠b->x ∉ [a,b]:=λh1 h2 h=>by
  rcases Wj.mp h with e | h
  ·exact h1 e
  ·exact h2 (List.mem_singleton.mp h)
 have C:ZA (n + 4) (n + 2) (n + 3) n (n + 1) [n,a1] [n + 1,a2] :=
  ⟨Wh,Wh,nm (ne 4 0 (by decide)) (n1 4).symm,nm (ne 4 1 (by decide)) (n2 4).symm,nm (ne 3 0 (by decide)) (n1 3).symm,nm (ne 3 1 (by decide)) (n2 3).symm,nm (ne 0 1 (by decide)) (n2 0).symm,nm (ne 1 0 (by decide)) (n1 1).symm,
   ne 3 4 (by decide),ne 2 4 (by decide),ne 2 3 (by decide),ne 2 0 (by decide),ne 2 1 (by decide)⟩
 have Ec:∀ {b:Bool} {h:Heap} {it a:Addr} {i:Nat},mi b h it a i->∃ o,h.get? it=some o/\∀ v,o.data≠.cell v:=λ{b h it a i} q=>by
  cases b
  ·obtain⟨o,e,c,d⟩:=(q:h.IsTupleIter it a i)
   exact⟨o,e,λv z=>by rw[d] at z; cases z⟩
  ·obtain⟨o,e,c,d⟩:=(q:h.IsListIter it a i)
   exact⟨o,e,λv z=>by rw[d] at z; cases z⟩
 have uC:∀ {b:Bool} {h h':Heap} {it a:Addr} {i:Nat},mi b h it a i->(∀ o,h.get? it=some o->h'.get? it=some o)->mi b h' it a i:=λ{b h h' it a i} q k=>by
  cases b
  ·obtain⟨o,e,r⟩:=(q:h.IsTupleIter it a i)
   exact⟨o,k o e,r⟩
  ·obtain⟨o,e,r⟩:=(q:h.IsListIter it a i)
   exact⟨o,k o e,r⟩
 have mm:∀ {b:Addr},b ∈ [n + 4,n + 2,n + 3,n,n + 1]->b=n + 4\/b=n + 2\/b=n + 3\/b=n\/b=n + 1:=λh=>by simpa using h
 refine⟨by simp,?_,?_,?_,?_,?_⟩
 ·rintro i h ⟨hz,hI,⟨a,b,hO⟩,q1,q2⟩ c hc;rcases mm hc with e | e | e | e | e <;> subst e
  ·exact⟨_,hz,λv z=>by
    have z':Data.fields _=Data.cell v:=z
    cases z'⟩
  ·exact⟨_,hI,λv z=>by
    have z':Data.seq _ _=Data.cell v:=z
    cases z'⟩
  ·exact⟨_,hO,λv z=>by
    have z':Data.seq _ _=Data.cell v:=z
    cases z'⟩
  ·exact Ec q1
  ·exact Ec q2
 ·rintro i h h' ⟨hz,hI,⟨a,b,hO⟩,q1,q2⟩ k;exact⟨k _ (by simp) _ hz,k _ (by simp) _ hI,⟨a,b,k _ (by simp) _ hO⟩,uC q1 λo e=>k _ (by simp) o e,uC q2 λo e=>k _ (by simp) o e⟩
 ·intro X hP hw hK hc i pins s σ H E I hf st hg;subst hP hw hK;obtain⟨hz,hI,⟨a,b,hO⟩,q1,q2⟩:=st;obtain⟨xs,ys,x,y,c1,c2,hx,hy⟩:=hg;obtain⟨is,rv1,p1⟩:=I.oS c1;obtain⟨js,rv2,p2⟩:=I.oS c2;obtain⟨u,hu,ru⟩:=rv1.get hx;obtain⟨v,hv,rv⟩:=rv2.get hy;have D1:=ux (prog:=X.prog) (w:=X.w) (A:=X.A.in1) b1 (I.ok.hd hc) n a1 (n1 0) is.toArray;have D2:=ux (prog:=X.prog) (w:=X.w) (A:=X.A.in1) b2 (I.ok.hd hc) (n + 1) a2 (n2 1) js.toArray;have a7:∀ c ∈ [n + 4,n + 2,n + 3,n,n + 1],c < s.heap.objs.size:=λc hc=>by
   have z:=Wr hz;have le:∀ k:Nat,k<=4->n + k < s.heap.objs.size:=λk hk=>WH (Nat.add_le_add_left hk n) z
   rcases mm hc with e | e | e | e | e <;> subst e
   ·exact z
   ·exact le 2 (by decide)
   ·exact le 3 (by decide)
   ·exact le 0 (by decide)
   ·exact le 1 (by decide)
  have l1:i < is.toArray.size:=by simpa using (W1.mp hu).1
  have l2:i < js.toArray.size:=by simpa using (W1.mp hv).1
  refine NW D1 D2 C hz hI hO ⟨q1,p1⟩ ⟨q2,p2⟩ l1 l2 λx' y' h' tk e1 e2 N3 N4 s1 s2 hT k=>?_
  have ex:x'=u:=by
   rw[List.getElem?_toArray,hu] at e1
   cases e1; rfl
  have ey:y'=v:=by
   rw[List.getElem?_toArray,hv] at e2
   cases e2; rfl
  subst ex ey;refine⟨_,rfl,wpAny_letOwnedTupleGo_zip N3 λh2 uw sb=>?_⟩;have nz:s.heap.objs.size≠n + 4:=Jc (a7 (n + 4) (by simp));have k2:∀ c o,c ∉ [n + 4,n + 2,n + 3,n,n + 1]->s.heap.get? c=some o->h2.get? c=some o:=λc o hc e=>by
   have g1:c≠n + 4:=λz=>hc (by simp[z])
   have g2:c≠n + 3:=λz=>hc (by simp[z])
   have g3:c≠n:=λz=>hc (by simp[z])
   have g4:c≠n + 1:=λz=>hc (by simp[z])
   exact(sb.2 c g1).trans (k c o g1 g2 g3 g4 e)
  have I2:Inv X pins σ (upd H s.heap.objs.size (.tup [x,y])) { s with heap:=h2,toks:=tk }:=Inv.xF (t':=tk) _ I hf a7 ru rv ((sb.2 _ nz).trans hT) k2;refine⟨.ref s.heap.objs.size,_,I2,rfl,⟨s.heap.objs.size,x,y,I.aG.fresh (Wf _),λzs xG=>by rw[I.Ea xG c1]; exact hx,λzs xG=>by rw[I.Ea xG c2]; exact hy,rfl,rfl⟩,⟨uw,(sb.2 _ (ne 2 4 (by decide))).trans (k _ _ (ne 2 4 (by decide)) (ne 2 3 (by decide)) (ne 2 0 (by decide)) (ne 2 1 (by decide)) hI),⟨_,_,(sb.2 _ (ne 3 4 (by decide))).trans N4⟩,uC s1.1 λo e=>(sb.2 _ (ne 0 4 (by decide))).trans e,uC s2.1 λo e=>(sb.2 _ (ne 1 4 (by decide))).trans e⟩,λc hc=>?_⟩;rw[aQ (WP (a7 c hc))];exact(hf c hc).1
 ·intro X hP hw hK hc i pins s σ H E I hf st hg;subst hP hw hK;obtain⟨hz,hI,⟨a,b,hO⟩,q1,q2⟩:=st;obtain⟨xs,ys,c1,c2,hl⟩:=hg;obtain⟨is,rv1,p1⟩:=I.oS c1;obtain⟨js,rv2,p2⟩:=I.oS c2;have D1:=ux (prog:=X.prog) (w:=X.w) (A:=X.A.in1) b1 (I.ok.hd hc) n a1 (n1 0) is.toArray;have D2:=ux (prog:=X.prog) (w:=X.w) (A:=X.A.in1) b2 (I.ok.hd hc) (n + 1) a2 (n2 1) js.toArray;have r1:=rv1.length;have r2:=rv2.length;refine NX D1 D2 C hz hI hO ⟨q1,p1⟩ ⟨q2,p2⟩ (by simp; omega) λh' tk k=>⟨rfl,Inv.uk (t':=tk) [n + 4,n + 2,n + 3,n,n + 1] I (λc o hc e=>?_) hf⟩
  exact k c o (λz=>hc (by simp[z])) (λz=>hc (by simp[z])) (λz=>hc (by simp[z])) (λz=>hc (by simp[z])) e
 ·intro A i s Q E st h;exact wpAny_pyIter_zip st.1 h
end L2
namespace DV
open PySem PySem.Spec PyProof.Rows L2
section
variable {X:Cx} {c:Fc} {tg e:Expr} {fe:DE} {pos pp:Pos}
def N5(K:W2)(ta:TA):TI:=λσ H R=>ta σ H λvs H1=>∃ (b1 b2:Bool) (a1 a2:Addr),vs=[.ref a1,.ref a2]/\(∃ xs,ik b1 K H1 a1 xs)/\(∃ ys,ik b2 K H1 a2 ys)/\R (Eb K b1 b2 a1 a2) H1
theorem N6 {ctx} (hg:Gl X "zip") (hm:X.mg "zip" = none) (ha:PA X [a,b] ta) (hs:Wk [a,b] X.env=(false,eval a X.env) :: Wk [b] X.env:=by rfl) (dB:(QK pos (Wk [b] X.env)).any (·.1)=false:=by rfl):PI X (.Tuple elts ctx tp) (.Call (.Name "zip" pp) [a,b] [] pos) (N5 X.K ta):=by
 intro pins s σ H R I h;refine Call_ (pX I hg hm boot_zip (PyProof.Rows.callWith_type1 (aR (ha pos pins s σ H _ I h) λus s1 ⟨vs,H1,I1,r1,q1⟩=>?_) hs dB));obtain⟨b1,b2,a1,a2,ev,⟨xs,hx⟩,⟨ys,hy⟩,q⟩:=q1;subst ev
 cases r1 with
 | cons r rr =>
  cases rr with
  | cons r' rr =>
   cases rr
   cases r
   cases r';obtain⟨is,rv1,p1⟩:=I1.oS hx;obtain⟨js,rv2,p2⟩:=I1.oS hy;refine N1 p1 p2 λh' hz hI hO q1 q2 kp=>wpAny_pyIter_zip hz ?_
   refine⟨s1.heap.objs.size + 4,_,_,_,H1,rfl,I1.kept (t':=s1.toks) kp,N2 b1 b2 a1 a2 s1.heap.objs.size p1.lt p2.lt,⟨hz,hI,⟨_,_,hO⟩,q1,q2⟩,λb hb=>?_,q⟩;have hb:b=s1.heap.objs.size + 4\/b=s1.heap.objs.size + 2\/b=s1.heap.objs.size + 3\/b=s1.heap.objs.size\/b=s1.heap.objs.size + 1:=by simpa using hb
   have hle:s1.heap.objs.size<=b:=by rcases hb with z | z | z | z | z <;> subst z <;> first | exact Wf _ | exact Nat.le_add_right _ _
   exact I1.jM hle (I1.aG.fresh hle)
def mj(xs ys:List D):List D:=Qm (λx y=>D.tup [x,y]) xs ys
theorem N7{xs ys:List D}{i:Nat}{d:D}(h:(mj xs ys)[i]? = some d):∃ x y,xs[i]? = some x/\ys[i]? = some y/\d = .tup [x,y]:=by
 unfold mj at h;rw[List.getElem?_zipWith] at h
 cases e1:xs[i]? with
 | none=>rw[e1] at h; cases h
 | some x =>
  cases e2:ys[i]? with
  | none=>rw[e1,e2] at h; cases h
  | some y =>
   rw[e1,e2] at h
   cases h;exact⟨x,y,rfl,rfl,rfl⟩
theorem aH.two(r:Rep H O u x)(r':Rep H O v y):aH H O [u,v] [x,y]:=by
 refine⟨rfl,λj v' d' e1 e2=>?_⟩;match j with
 | 0=>simp at e1 e2; subst e1 e2; exact r
 | 1=>simp at e1 e2; subst e1 e2; exact r'
 | j + 2=>simp at e1
def j6:D->Option (List D)
 | .lst ds=>some ds
 | .tup ds=>some ds
 | _=>none
def iU(f g:DE):DI:=λδ=>(f δ).bind λx δ1=>(g δ1).bind λy δ2=>match j6 x.d,j6 y.d with
 | some xs,some ys=>.ok (mj xs ys) δ2
 | _,_=>.stuck
theorem Rep.sq{K:W2}{H:Hp}{O:Addr->Prop}{v:V}{d:D}{ds:List D}(r:Rep H O v d)(e:j6 d=some ds) :
  ∃ (b:Bool) (a:Addr) (vs:List V),v = .ref a/\ik b K H a vs/\aH H O vs ds/\∀ H2,(∀ p o,H p=some o->¬ O p->H2 p=some o)->ik b K H2 a vs:=by
 cases d <;> first | (simp[j6] at e; done) | skip
 ·cases r with
  | tup h1 h2 h3 h4 =>
   simp only[j6,W8] at e;subst e;exact⟨false,_,_,rfl,cL.of h2,⟨h3,h4⟩,λH2 k=>cL.of (k _ _ h2 h1)⟩
 ·cases r with
  | lst h1 h2 h3 h4 =>
   simp only[j6,W8] at e;subst e;exact⟨true,_,_,rfl,.inl h2,⟨h3,h4⟩,λH2 k=>.inl (Rd.keep h2 λo e=>k _ o e h1)⟩
theorem Ed {a b:Expr} {f g:DE} {elts:List Expr} {ctx} {tp:Pos} (hg:Gl X "zip") (hm:X.mg "zip" = none) (ha:SE X c a f) (hb:SE X c b g) (hs:Wk [a,b] X.env=(false,eval a X.env) :: Wk [b] X.env:=by rfl)
  (nt:Wk [b] X.env=(false,eval b X.env) :: Wk [] X.env:=by rfl) (dB:(QK pos (Wk [b] X.env)).any (·.1)=false:=by rfl):SI X c (.Tuple elts ctx tp) (.Call (.Name "zip" pp) [a,b] [] pos) (iU f g) :=
 PI.weak (N6 hg hm (fK ha (fK hb iF nt) hs) hs dB) λσ H R ⟨δ,k,q⟩=>by
  unfold iU at q;rw[ba] at q;refine⟨δ,k,aS q λx δ1 q1 v H1 a1 r1=>⟨δ1,a1.ok,?_⟩⟩;rw[ba] at q1;refine aS q1 λy δ2 q2 u H2 a2 r2=>?_
  have hx:Rep H2 (Av c σ δ2) v x.d:=Rep.dh r1.rep a2;have hy:Rep H2 (Av c σ δ2) u y.d:=r2.rep;generalize x.d=dx at q2 hx;generalize y.d=dy at q2 hy
  cases e1:j6 dx with
  | none=>rw[e1] at q2; exact q2.elim
  | some xs =>
   cases e2:j6 dy with
   | none=>rw[e1,e2] at q2; exact q2.elim
   | some ys =>
    rw[e1,e2] at q2;obtain⟨b1,p1,vs,ev,s1,w1,k1⟩:=hx.sq (K:=X.K) e1;obtain⟨b2,p2,us,eu,s2,w2,k2⟩:=hy.sq (K:=X.K) e2;subst ev eu;refine⟨b1,b2,p1,p2,rfl,⟨vs,s1⟩,⟨us,s2⟩,q2 _ H2 (a1.trans a2) λH3 kp=>?_⟩;have t1:=k1 H3 λp o e n=>kp p o e λz=>n (.inr z)
    have t2:=k2 H3 λp o e n=>kp p o e λz=>n (.inr z)
    refine⟨⟨vs,us,t1,t2,?_⟩,λi d e=>?_⟩
    ·rw[w1.1,w2.1];simp only[mj,List.length_zipWith];omega
    ·obtain⟨x,y,ex,ey,rfl⟩:=N7 e;obtain⟨v,ev,rv⟩:=w1.get ex;obtain⟨u,eu,ru⟩:=w2.get ey;refine⟨⟨vs,us,v,u,t1,t2,ev,eu⟩,λz H4 ⟨p,v',u',hp,hv,hu,e3,ez⟩=>.inr ⟨p,_,_,hp,e3,ez,rfl,?_⟩⟩;have h1:=hv vs t1;have h2:=hu us t2;rw[ev] at h1;rw[eu] at h2
     cases h1
     cases h2;exact aH.two rv ru
end
section
variable {X:Cx} {c:Fc} {e:Expr} {es:List Expr} {as:List Ak} {k n:Nat} {x:Str} {G:DX} {pp pos:Pos}
end
end DV
namespace PySem
open Sem (wp)
section
variable {prog:Wm} {w:Ws} {A:Wt} {E:Value->W3->Prop} {hp:Heap} {g:Array GenState} {d:Drawn} {t:Nat} {os:OsState}
variable {nm qn:Str} {C N:Addr} {bs bm U_:List Value} {Va:Bool} {sn:List Str} {sub:List Value} {ab:Bool} {col:Option Bool} {dd:Option Addr} {k0 k1 k2 k3 k5:Option Value} {B newId Vb:String}
end
end PySem
namespace L2
open PySem PySem.Spec PyProof.Rows PySem.W PySem.Builtin PySem.Builtin.ObjectAttr
section
variable {prog:Wm} {w:Ws} {A:Wt} {E:Value->W3->Prop} {s:W3} {K:W2} {x C:Addr} {name:Str} {v:Value} {R:Result->W3->Prop}
end
section
variable {P:Wm} {w:Ws} {H:Hp} {h:Heap} {C a:Addr}
end
section
variable {X:Cx} {o value:Expr} {f:Str} {ta tv:TE} {pos pos':Pos}
end
section
variable {X:Cx} {k:Nat} {f C:Addr} {fd:Qi} {ps:List Str} {sp:Sp} {x:Str} {p pos:Pos} {e:Expr} {es:List Expr} {t:TA}
end
section
variable {P:Wm} {w:Ws} {K:W2} {mg:Str->Option Value} {base:Heap} {x qual f1 f2:Str} {st:Stmt} {f:Addr} {fd:Qi} {N ps:List Str} {k:Nat}
end
section
variable {X:Cx} {C f:Addr} {call:Expr} {te:TE} {pos:Pos}
end
end L2
namespace DV
open PySem PySem.Spec PyProof.Rows L2 PySem.W
section
variable {X:Cx} {c:Fc} {e:Expr} {fb:BE}
end
end DV
namespace L2
open PySem PySem.Spec PyProof.Rows
section
variable {X:Cx} {tg:Expr}
end
end L2
namespace DV
open PySem PySem.Spec PyProof.Rows L2
section
variable {X:Cx} {c:Fc} {tg e:Expr} {fe:DE} {pos pp:Pos}
end
end DV
namespace PySem.SeqAt
open AutoSeq1 (wpAny_loadPart')
open MeetsSeq
section
variable {A:Wt} {s:W3}
end
end PySem.SeqAt
namespace DV
open PySem PySem.Spec PyProof.Rows L2
end DV
namespace PySem.SeqAt
open AutoSeq1 (wpAny_loadPart')
open MeetsSeq
abbrev prO (dd:Option Addr) (a1 a2:Int) (t1 t2:Tok) (n:Nat) (sl:Array (Option Value)):Obj:={ cls:=.type "tuple",dict:=dd,data:=.seq #[.int a1 t1,.int a2 t2] n,slots:=sl }
def ltP(a1 a2 b1 b2:Int):Bool:=if a1 == b1 then decide (a2 < b2) else decide (a1 < b1)
theorem z9U(l b:Addr)(a1 a2 b1 b2:Int)(t1 t2 u1 u2:Tok)(n n2:Nat)(dd mV:Option Addr)(sl lK:Array (Option Value)) :
  Meets (Builtin.«tuple.__lt__» ⟨[.ref l,.ref b],[]⟩)
   (λ_ R s=>s.heap.get? l=some (prO dd a1 a2 t1 t2 n sl)/\s.heap.get? b=some (prO mV b1 b2 u1 u2 n2 lK)/\R (.ok (.ret (.bool (ltP a1 a2 b1 b2)))) s) :=
 .of_wp λprog w A R s h=>by
  obtain⟨hp,g,d,tk,os⟩:=s; obtain⟨hl,hb,h⟩:=h
  have f2:=AutoSeq1.sub_tuple_tuple;wp_walk using QY hl,QY hb,wpAny_forIn_list _ (λrest c s'=>c.1=none/\s' = ⟨hp,g,d,tk,os⟩ /\
   (rest=[(.int a1 t1,.int b1 u1),(.int a2 t2,.int b2 u2)]\/(rest=[(.int a2 t2,.int b2 u2)]/\a1=b1)\/(rest=[]/\a1=b1/\a2=b2))) _
  case turn =>
   rintro ⟨y,x⟩ rest c s' ⟨hc,rfl,hz⟩;rcases hz with hz | ⟨hz,e1⟩ | ⟨hz,_⟩
   ·injection hz with hyx hrest
    cases hyx;refine W0 (EqAt.int_int a1 t1 b1 u1 prog w _ _ ?_);by_cases e:a1=b1
    ·rw[show(a1 == b1)=true by simp[e]];wp_walk
     exact⟨rfl,rfl,.inr (.inl ⟨hrest,e⟩)⟩
    ·rw[show(a1 == b1)=false by simp[e]];have a7:ltP a1 a2 b1 b2=decide (a1 < b1):=by simp[ltP,e]
     rw[a7] at h;simp only[Bool.not_false,if_true];refine W0 (J3 ?_);refine W0 (richCompare_gives (op:=.Lt) (Jh _ _ t1) (Jh _ _ u1) F.slot_int_lt F.entry_int_lt (F.args_int_lt_2 _ _) (gives_int_lt _ _ t1 u1) (λx=>nomatch x) ?_);refine W0 (W7 ?_);exact W7 (W7 ⟨_,rfl,h⟩)
   ·injection hz with hyx hrest
    cases hyx;refine W0 (EqAt.int_int a2 t2 b2 u2 prog w _ _ ?_);by_cases e:a2=b2
    ·rw[show(a2 == b2)=true by simp[e]];wp_walk
     exact⟨rfl,rfl,.inr (.inr ⟨hrest,e1,e⟩)⟩
    ·rw[show(a2 == b2)=false by simp[e]];have a7:ltP a1 a2 b1 b2=decide (a2 < b2):=by simp[ltP,e1]
     rw[a7] at h;simp only[Bool.not_false,if_true];refine W0 (J3 ?_);refine W0 (richCompare_gives (op:=.Lt) (Jh _ _ t2) (Jh _ _ u2) F.slot_int_lt F.entry_int_lt (F.args_int_lt_2 _ _) (gives_int_lt _ _ t2 u2) (λx=>nomatch x) ?_);refine W0 (W7 ?_);exact W7 (W7 ⟨_,rfl,h⟩)
   ·cases hz
  case fin =>
   rintro ⟨c1,c2⟩ s' ⟨hc,rfl,hz⟩;simp only at hc;subst hc;rcases hz with hz | ⟨hz,e1⟩ | ⟨_,e1,e2⟩
   ·cases hz
   ·cases hz
   ·have a7:ltP a1 a2 b1 b2=false:=by simp[ltP,e1,e2]
    rw[a7] at h;wp_walk
    exact⟨_,rfl,h⟩
  case h=>exact⟨rfl,rfl,.inl rfl⟩
end PySem.SeqAt
namespace PySem
open SeqAt (prO ltP z9U)
section
variable {prog:Wm} {w:Ws} {A:Wt} {R:Result->W3->Prop} {I:Addr} {fp wr:List Addr} {n:Nat} {P:Nat->Value->Prop} {St:Nat->Heap->Prop}
end
section
variable {prog:Wm} {w:Ws} {A:Wt} {E:Value->W3->Prop} {s:W3}
end
end PySem
namespace DV
open PySem PySem.Spec PyProof.Rows L2
open PySem.SeqAt (prO ltP)
section
variable {X:Cx} {c:Fc} {e:Expr} {fb:BE} {pos pp:Pos}
end
def uD(fk fv:DE):DE:=λδ=>(fk δ).bind λr δ1=>(fv δ1).bind λs δ2=>match r,s with
 | .pure dk,.pure d=>match eU dk with
  | some kk=>.ok (.own (.aw [(kk,d)])) δ2
  | none=>.stuck
 | _,_=>.stuck
section
variable {c:Fc} {σ:St} {δ δ':Dl} {H H':Hp} {p:Addr}
theorem Ok.N8(k:Ok (c.plus p) σ δ H)(h0:c.H₀ p=none)(o:HO):Ok (c.plus p) σ δ (upd H p o):=by
 have t4:∀ b w,H b=some w->¬ Av (c.plus p) σ δ b->upd H p o b=some w:=λb w e n=>by
  rw[aQ (λz:b=p=>n (.inl (.inr z)))]; exact e
 have ex:∀ b,(∃ w,H b=some w)->∃ w,upd H p o b=some w:=λb ⟨w,e⟩=>by
  by_cases z:b=p
  ·rw[z]; exact⟨o,cN⟩
  ·rw[aQ z]; exact⟨w,e⟩
 refine⟨λa w e n=>?_,λa z=>ex a (k.bd a z),λa z=>ex a (k.dC a z),k.len,λi d e=>?_,λi d e=>?_,k.inj,k.pinned⟩
 ·rw[aQ (λz:a=p=>by have e':c.H₀ a=some w:=e; rw[z,h0] at e'; cases e')];exact k.keep a w e n
 ·obtain⟨v,e1,r⟩:=k.slot i d e;exact⟨v,e1,r.keep t4⟩
 ·obtain⟨a,e1,oa,h1,h2⟩:=k.own i d e;exact⟨a,e1,oa.keep t4 (λw e=>by rw[aQ (λz:a=p=>h2 (.inr z))]; exact e),h1,h2⟩
theorem Ee(h:post c r k)(m:∀ a δ,k a δ->k' a δ):post (c.plus p) r k':=by
 cases r with
 | ok a δ=>exact m a δ h
 | exc x δ=>exact h
 | stuck=>exact h
end
theorem N9{X:Cx}{c:Fc}{k v:Expr}{fk fv:DE}{pos:Pos}(hk:∀ c',SE X c' k fk)(hv:∀ c',SE X c' v fv):SE X c (.Dict [some k] [v] pos) (uD fk fv):=by
 have PK:PE X k (λσ H Q=>∃ c',tD c' fk σ H Q):=λpins s σ H Q I ⟨c',h⟩=>hk c' pins s σ H Q I h
 have PV:PE X v (λσ H Q=>∃ c',tD c' fv σ H Q):=λpins s σ H Q I ⟨c',h⟩=>hv c' pins s σ H Q I h
 refine PE.weak (KW (KS PK PV KR) rfl rfl (by simp) (by simp)) λσ H Q ⟨δ,kk,q⟩=>?_
 intro p hp;show ∃ c',tD c' fk σ (upd H p (.dK [])) λx H1=>∃ c',tD c' fv σ H1 λy H2=>H2 p=some (.dK [])/\∃ kvs:List (Key×V),[(x,y)]=kvs.map (λkv=>(kV kv.1,kv.2))/\kvs.length<=15/\Q (.ref p) (upd H2 p (.dK (mX [] kvs)))
 unfold uD at q;rw[ba] at q;refine⟨c.plus p,δ,kk.plus hp _,Ee q λr δ1 q1 x H1 a1 rx=>?_⟩;rw[ba] at q1;refine⟨c.plus p,δ1,a1.ok,Ee q1 λs δ2 q2 y H2 a2 ry=>?_⟩;have A:=a1.trans a2;have h0:=kk.ox hp;have nb:¬ c.B p:=λz=>kk.jQ hp (.inl z)
 have N_:H2 p=some (.dK []):=A.keep p _ cN λz=>kk.jQ hp (.inr z)
 cases r with
 | own d=>exact q2.elim
 | pure dk =>
  cases s with
  | own d=>exact q2.elim
  | pure d =>
   cases hkd:eU dk with
   | none=>simp only[hkd] at q2; exact q2.elim
   | some kd =>
    simp only[hkd] at q2;have ex:x=kV (cD kd):=uj hkd (.inl rx);refine⟨N_,[(cD kd,y)],by rw[ex]; rfl,by simp,?_⟩;have em:mX [] [(cD kd,y)]=[(cD kd,y)]:=rfl;rw[em];have Ef:=A.ok.N8 h0 (.dK [(cD kd,y)]);have ne:∀ {a w},H a=some w->a≠p:=λe z=>by rw[z,hp] at e; cases e
    refine q2 (.ref p) _ ⟨Ef.less,λa w e n=>?_,λa z=>?_,λa w e=>?_⟩ ⟨p,rfl,⟨[(cD kd,y)],cN,rfl,λi u t e1 e2=>?_⟩,nb,h0,Ef,hp⟩
    ·rw[aQ (ne e)];exact A.keep a w (by rw[aQ (ne e)]; exact e) n
    ·by_cases zp:a=p
     ·rw[zp]; exact .inr hp
     ·rcases A.own a z with z | z
      ·exact .inl z
      ·rw[aQ zp] at z; exact .inr z
    ·obtain⟨w',e'⟩:=A.there a w (by rw[aQ (ne e)]; exact e);exact⟨w',by rw[aQ (ne e)]; exact e'⟩
    ·match i with
     | 0 =>
      cases e1
      cases e2;exact Rep.keep (show Rep H2 (Av (c.plus p) σ δ2) y d from ry) λb w e n=>by rw[aQ (λz:b=p=>n (.inl (.inr z)))]; exact e
     | i + 1=>cases e1
end DV
namespace L2
open PySem PySem.Spec PyProof.Rows
end L2
namespace DV
open PySem PySem.Spec PyProof.Rows L2
section
variable {X:Cx} {c:Fc} {tg e:Expr} {fe:DE} {pos pp:Pos}
end
section
variable {K:W2} {h:Heap} {mg:Str->Option Value} {x q:Str} {st:Stmt} {f:Addr} {fd:Qi}
abbrev dS(K:W2)(x:Str)(st:Stmt):Prop:=∃ (f:Addr) (oc:Value) (od:Option Addr) (kV dc pm:Value) (an:Option Addr) (cd ct:Value) (sl:Array (Option Value)),
 PySem.W.nsIn K WG x=some (some (.ref f))/\K.lookup f=some ⟨oc,od,.func (QN x x (lP st) (jf st) (bW st) .none kV dc pm an cd ct),sl⟩/\PySem.W.codeIn K cd x=true/\JH K (.ref f)=true
theorem eh(X:K.In h)(G:h.Ns WG mg)(d:dS K x st):∃ f fd,cx K x x st f fd/\mg x=some (.ref f):=by
 obtain⟨f,oc,od,kV,dc,pm,an,cd,ct,sl,a,l,c,k⟩:=d;exact⟨f,_,BO l c k,PySem.W.mg_of X G a⟩
abbrev Bd(x q:Str)(st:Stmt)(ps:List Str)(us:List Value):Prop:=∀ (kV doc pm:Value) (an:Option Addr) (bu ct:Value),bindArgs (QN x q (lP st) (jf st) (bW st) .none kV doc pm an bu ct) ⟨us,[]⟩=pure (ps.zip us)
variable {p1 p2 p3 p4 p5 p6:Str}
theorem iV(F:cx K x q st f fd)(h:∀ a,Bd x q st [p1] [a]):Binds K fd [p1] []:=F.binds λ_ _ _ _ _ _ us hl=>match us,hl with
 | [a],_=>h a _ _ _ _ _ _
theorem mn(F:cx K x q st f fd)(h:∀ a b,Bd x q st [p1,p2] [a,b]):Binds K fd [p1,p2] []:=F.binds λ_ _ _ _ _ _ us hl=>match us,hl with
 | [a,b],_=>h a b _ _ _ _ _ _
theorem Oa(F:cx K x q st f fd)(h:∀ a b c,Bd x q st [p1,p2,p3] [a,b,c]):Binds K fd [p1,p2,p3] []:=F.binds λ_ _ _ _ _ _ us hl=>match us,hl with
 | [a,b,c],_=>h a b c _ _ _ _ _ _
theorem Ob(F:cx K x q st f fd)(h:∀ a b c d,Bd x q st [p1,p2,p3,p4] [a,b,c,d]):Binds K fd [p1,p2,p3,p4] []:=F.binds λ_ _ _ _ _ _ us hl=>match us,hl with
 | [a,b,c,d],_=>h a b c d _ _ _ _ _ _
end
end DV
namespace L2
open PySem PySem.Spec PyProof.Rows
section
variable {X:Cx} {tg:Expr}
end
section
variable {X:Cx} {e:Expr} {ta:TE} {f:Str} {pos:Pos}
end
end L2
namespace DV
open PySem PySem.Spec PyProof.Rows L2
section
variable {X:Cx} {c:Fc} {tg e:Expr} {fe:DE} {pos pp:Pos}
end
end DV
namespace L2
open PySem PySem.Spec PyProof.Rows
section
variable {X:Cx}
end
end L2
namespace DV
open PySem PySem.Spec PyProof.Rows L2
end DV
namespace L2
open PySem PySem.Spec PyProof.Rows PySem.SeqAt DV
def xH(z:Str):Value->Bool
 | .str x _=>x == z
 | _=>false
theorem Oc(h:Vals xs us):∀ (j:Nat) (u:Value),us[j]? = some u->∃ v,xs[j]? = some v/\RelV v u:=by
 induction h with
 | nil=>intro j u e; simp at e
 | cons r rs ih =>
  intro j u e
  cases j with
  | zero=>simp at e; subst e; exact⟨_,rfl,r⟩
  | succ j=>simpa using ih j u (by simpa using e)
def Eg(K:W2):V->List V->Hp->VK->Prop:=λx xs H Q=>∃ (a:Addr) (ts:List Tx) (z:Tx),x = .ref a/\xs=[.str (toS z)]/\cq K H a (ts.map λt=>V.str (toS t))/\z ∈ ts/\ts.length<=1000/\Q (.int (ts.idxOf z:Nat)) H
section
variable {X:Cx}
theorem Od:qg X "list.index" (Eg X.K):=by
 intro pins s σ H x xs v us Q I rx rs h;obtain⟨a,ts,z,rfl,rfl,hq,hm,hl,q⟩:=h;obtain⟨u,rfl,ru⟩:=gY rs;obtain⟨tk,rfl⟩:=ru
 cases rx;obtain⟨ae,r',p,_⟩:=I.list hq;obtain⟨⟨cls,dd,data,sl⟩,ho,hc,n,hd⟩:=p.isList;simp only at hc hd;subst hc; subst hd
 have at':∀ j (hj:j < ae.length),∃ t tk,ts[j]? = some t/\ae[j] = .str (toS t) tk:=λj hj=>by
  obtain⟨v,e1,r1⟩:=Oc r' j _ (W5 hj);rw[Wl] at e1;obtain⟨t,e2,e3⟩:=WC.mp e1;subst e3;obtain⟨tk,e4⟩:=r1;exact⟨t,tk,e2,e4⟩
 have hlen:ae.length=ts.length:=by have:=r'.length; simpa using this.symm
 have hj:ts.idxOf z < ts.length:=List.idxOf_lt_length_iff.mpr hm;have oT:ts.idxOf z < ae.length:=by omega
 refine Jj PySem.F.slot_list_index ⟨_,ho,rfl⟩ PySem.F.entry_list_index (PySem.F.args_list_index_2 _ _) (list_indexAt a _ n dd sl (.str (toS z) tk) (xH (toS z)) (ts.idxOf z) (by simpa using oT) (by omega) ?_ ?_) ⟨ho,λy hy=>?_,⟨.int (ts.idxOf z:Nat),H,I.tok _,⟨_,rfl⟩,q⟩⟩
 ·obtain⟨t,l9,e1,e2⟩:=at' _ oT;have e3:ts[ts.idxOf z]=z:=List.getElem_idxOf hj;rw[W5 hj,e3] at e1
  cases e1;simp only[List.getElem_toArray,e2,xH];exact beq_self_eq_true _
 ·intro m mq a7;have Eh:m < ae.length:=by simpa using mq
  obtain⟨t,l9,e1,e2⟩:=at' m Eh;have cC:t≠z:=λe=>by
   subst e;have Oe:m < ts.length:=by omega
   have z2:=List.not_of_lt_findIdx (p:=(· == t)) (xs:=ts) (i:=m) a7;rw[W5 Oe] at e1
   cases e1;simp at z2
  simp only[List.getElem_toArray,e2,xH];rw[oA];exact beq_false_of_ne cC
 ·have je:y ∈ ae:=by simpa using hy
  obtain⟨j,hjj,rfl⟩:=Qe je;obtain⟨t,l9,e1,e2⟩:=at' j hjj;rw[e2];exact EqAt.str_str _ _ _ _
end
end L2
namespace DV
open PySem PySem.Spec PyProof.Rows L2
def Ei:D->Bool
 | .lst _=>true
 | _=>false
def nK(x y:D):Option S:=match x,y with
 | .lst ds,.str z=>match fB ds with
  | some ts=>if z ∈ ts/\ts.length<=1000 then some (.pure (.int (ts.idxOf z:Nat))) else none
  | none=>none
 | _,_=>none
def j7(i:Nat)(fb:DE):DE:=λδ=>match δ[i]? with
 | some (some s)=>if Ei s.d then(fb δ).bind λy δ1=>match δ1[i]? with
  | some (some s)=>p2 nK s.d y.d δ1
  | _=>.stuck else .stuck
 | _=>.stuck
section
variable {X:Cx} {c:Fc} {o e:Expr} {fa fb:DE}
theorem Of{K:W2}:b9 (λx y H Q=>Eg K x [y] H Q) nK:=by
 intro c σ δ H x y d e s Q k rx ry hp q
 cases d with
 | lst ds =>
  cases e with
  | str z =>
   simp only[nK] at hp;split at hp
   ·rename_i ts ht;split at hp
    ·rename_i hz
     cases hp;obtain⟨a,vs,ea,ha,r⟩:=rx.lst;have ev:=oH ht r;subst ev;exact⟨a,ts,z,ea,by rw[ry.str],.inl ha,hz.1,hz.2,q _ H (.refl k) (.int _)⟩
    ·cases hp
   ·cases hp
  | _=>simp[nK] at hp
 | _=>simp[nK] at hp
theorem Og(he:PE X o (bZ i))(hx:SE X c e fb)
  (g7:Qv o "index" X.env (eval o X.env)=eval o X.env:=by rfl)
  (kB:((QK bA (Wk [e] X.env)).all (λx=>!x.1) && (backToKw bA (JP [] X.env)).all (λx=>x.1.isSome)
   && decide ([e].length + ([]:List Keyword).length + (if ([]:List Keyword).isEmpty then 0 else 1) < 30))=true:=by rfl)
  (dX:(apos.endLine == bA.line)=true:=by rfl) (hs:Wk [e] X.env=(false,eval e X.env) :: Wk [] X.env:=by rfl) :
  SE X c (.Call (.Attribute o "index" apos) [e] [] bA) (j7 i fb):=by
 refine PE.weak (sI PySem.F.plainAttrs_list PySem.F.slot_list_index PySem.F.type_list_index Od he (fK hx iF hs) g7 kB dX hs rfl) λσ H Q h=>?_
 obtain⟨δ,k,q⟩:=h;unfold j7 at q
 cases e0:δ[i]? with
 | none=>rw[e0] at q; exact q.elim
 | some o =>
  cases o with
  | none=>rw[e0] at q; exact q.elim
  | some w =>
   rw[e0] at q;simp only at q;split at q
   case isFalse=>exact q.elim
   rename_i hL;obtain⟨v,ev⟩:=tJ k e0;have rb:=wU k e0 ev;have ty:sH X.K "list" v H:=by
    cases hd:w.d <;> rw[hd] at hL <;> try cases hL
    rw[hd] at rb;obtain⟨a,vs,ea,ha,_⟩:=rb.lst;subst ea;exact .inl ⟨rfl,_,.inl ha⟩
   rw[ba] at q;refine⟨v,ev,ty,δ,k,aS q λy δ1 q1 u H1 a1 r1=>?_⟩
   cases e:δ1[i]? with
   | none=>rw[e] at q1; exact q1.elim
   | some o =>
    cases o with
    | none=>rw[e] at q1; exact q1.elim
    | some w1 =>
     rw[e] at q1;have Oh:=wU a1.ok e ev;exact wC Of a1.ok Oh (.inl r1.rep) (aS q1 λs δ3 q3 v' H3 a3 r3=>q3 v' H3 (a1.trans a3) (bf.back r3 a1))
end
end DV
namespace L2
open PySem PySem.Spec PyProof.Rows PySem.W DV
section
variable {α β:Type} {n:Nat}
end
section
variable {n:Nat} {p:Array Nat}
end
section
variable {prog:Wm} {w:Ws} {A:Wt} {E:Value->W3->Prop} {s:W3} {vs:List Value} {ks:List Tx}
end
section
variable {X:Cx}
end
end L2
namespace DV
open PySem PySem.Spec PyProof.Rows L2
section
variable {X:Cx} {c:Fc} {e:Expr} {fb:BE} {pp pos:Pos}
end
section
variable {X:Cx} {c:Fc} {e:Expr} {fe:DE} {fb:BE} {pos:Pos}
end
section
variable {X:Cx}
end
section
variable {X:Cx} {c:Fc} {e:Expr} {fb:BE}
end
section
variable {X:Cx} {c:Fc} {e:Expr} {fe:DE}
end
section
variable {H H':Hp} {O:Addr->Prop} {v:V} {a:Addr} {us:List V}
end
section
variable {c:Fc} {σ:St} {δ δ1:Dl} {H H1:Hp} {i:Nat} {ds:List D} {g:Xc->Dl->Prop}
end
section
variable {X:Cx} {c:Fc} {e:Expr} {es:List Expr} {as:List Ak} {k n i:Nat} {x:Str} {G:DX} {pp pos:Pos}
end
section
variable {c:Fc} {σ σ':St} {δ δ':Dl} {H H':Hp} {B':Addr->Prop} {g:Xc->Dl->Prop} {i0:Nat} {a:Addr} {ds:List D}
end
end DV
namespace L2
open PySem PySem.Spec PyProof.Rows PySem.W DV
section
variable {prog:Wm} {w:Ws} {A:Wt} {E:Value->W3->Prop} {s:W3} {vs:List Value}
end
section
variable {lt:Nat->Nat->Bool} {r:Nat->Nat} {n:Nat} {α β:Type}
structure Lt(lt:Nat->Nat->Bool)(r:Nat->Nat)(n:Nat):Prop where
 lt:∀ i j,i < n->j < n->lt i j=decide (r i < r j)
 inj:∀ i j,i < n->j < n->i≠j->r i≠r j
end
end L2
namespace DV
open PySem PySem.Spec PyProof.Rows L2
section
variable {X:Cx} {c:Fc} {e:Expr} {fb:BE} {pp pos:Pos}
end
end DV
set_option maxHeartbeats 1000000
namespace SU
open PySem PyProof.Rows
section
variable {prog:Wm} {w:Ws} {A:Wt} {E:Value->W3->Prop} {s:W3}
section
variable {h:Heap} {a:Addr} {ks:List Str} {o:Obj} {es:Array (Int×Value)} {ep:Nat} {t:SetTable} {xs:List (Str×Tok)}
end
end
section
variable {prog:Wm} {w:Ws} {A:Wt} {R:Result->W3->Prop} {I:Addr} {fp wr:List Addr} {G:Array GenState->Array GenState->Prop} {n:Nat} {P:Nat->Value->Prop} {St:Nat->W3->Prop}
end
section
variable {prog:Wm} {w:Ws} {A:Wt} {E:Value->W3->Prop} {s:W3}
end
section
variable {mask:Nat} {owner:Array (Option Nat)}
end
section
variable {prog:Wm} {w:Ws} {A:Wt} {E:Value->W3->Prop} {s:W3}
end
section
variable {prog:Wm} {w:Ws} {A:Wt} {E:Value->W3->Prop} {s:W3}
end
section
variable {prog:Wm} {w:Ws} {A:Wt} {E:Value->W3->Prop} {s:W3}
section
variable {a it:Addr} {ks:List Str} {o:Obj} {es:Array (Int×Value)} {ep:Nat} {t:SetTable} {xs:List (Str×Tok)} {i:Nat}
end
end
section
variable {prog:Wm} {w:Ws} {A:Wt} {E:Value->W3->Prop} {s:W3}
variable {a it:Addr} {ks:List Str} {o:Obj} {es:Array (Int×Value)} {ep:Nat} {t:SetTable} {xs:List (Str×Tok)} {i:Nat}
end
section
variable {prog:Wm} {w:Ws} {A:Wt} {E:Value->W3->Prop} {s:W3}
variable {a it:Addr} {ks:List Str} {o:Obj} {es:Array (Int×Value)} {ep:Nat} {t:SetTable} {xs:List (Str×Tok)} {i:Nat}
end
section
variable {prog:Wm} {w:Ws} {A:Wt} {E:Value->W3->Prop} {s:W3}
end
end SU
set_option maxHeartbeats 400000
namespace L2
open PySem PySem.Spec PyProof.Rows PySem.W DV SU
section
variable {X:Cx}
end
end L2
namespace DV
open PySem PySem.Spec PyProof.Rows L2 SU
section
variable {X:Cx} {c:Fc} {a b:Expr} {f g:DE} {pp pos p1 Vc p3 p4 p5:Pos}
end
end DV
namespace L2
open PySem PySem.Spec PyProof.Rows PySem.W DV
section
variable {X:Cx}
end
end L2
namespace DV
open PySem PySem.Spec PyProof.Rows L2
section
variable {X:Cx} {c:Fc} {e:Expr} {fb:BE} {pp pos:Pos}
end
theorem Oi(c:Nat)(z:List Nat):(nJ c z 0 z.length).length=z.count c:=by
 have key:∀ (z pre:List Nat),((List.range' pre.length z.length).filter λi=>decide ((pre ++ z)[i]? = some c)).length=z.count c:=λz=>by
  induction z with
  | nil=>intro pre; rfl
  | cons x z ih =>
   intro pre;have h:=ih (pre ++ [x]);rw[Qb,List.length_singleton] at h;rw[WL,JS,List.filter_cons];have e:(pre ++ x :: z)[pre.length]? = some x:=by simp
   have e2:pre ++ [x] ++ z=pre ++ x :: z:=by simp
   rw[e2] at h;rw[e,List.count_cons];by_cases hc:x=c
   ·subst hc;simp[h]
   ·have:¬ (some x=some c):=by simpa using hc
    simp[hc,h]
 exact key z []
section
variable {X:Cx}
theorem Oj:qg X "str.count" (λx vs H Q=>∃ (z:Tx) (c:Nat),x = .str (toS z)/\vs=[.str (toS [c])]/\Q (.int (z.count c:Nat)) H):=by
 intro pins s σ H x vs v us Q I rx rv h;obtain⟨z,c,rfl,rfl,q⟩:=h;obtain⟨t,rfl⟩:=rx;obtain⟨u,rfl,ru⟩:=rv.one;obtain⟨tu,rfl⟩:=ru;refine call_gives PySem.F.slot_str_count (typeIs_str _ _ _) PySem.F.entry_str_count (PySem.F.args_str_count_2 _ _) (gives_str_count (toS z) (toS [c]) t tu) ?_;have e:(PySem.Builtin.Str.occurrences (toS z) (toS [c]) 0 (toS z).length ((toS z).length + 1)).length=z.count c:=by
  have:=NQ c z;have e1:toS z = ⟨z.toArray⟩:=rfl;have e2:toS [c] = ⟨#[c]⟩:=rfl;rw[ji,e1,e2,this,Oi]
 rw[e];exact⟨.int (z.count c:Nat),H,I.tok _,⟨_,rfl⟩,q⟩
end
def Ej:D->D->Option S
 | .str z,.str [c]=>some (.pure (.int (z.count c:Nat)))
 | _,_=>none
def Ek:D->Bool
 | .str _=>true
 | _=>false
def nL(fa fb:DE):DE:=λδ=>(fa δ).bind λx δ1=>if Ek x.d=true then(fb δ1).bind λy δ2=>p2 Ej x.d y.d δ2 else .stuck
section
variable {X:Cx} {c:Fc} {o e:Expr} {fa fb:DE}
theorem Ol(he:SE X c o fa)(hx:SE X c e fb)
  (g7:Qv o "count" X.env (eval o X.env)=eval o X.env:=by rfl)
  (kB:((QK bA (Wk [e] X.env)).all (λx=>!x.1) && (backToKw bA (JP [] X.env)).all (λx=>x.1.isSome)
   && decide ([e].length + ([]:List Keyword).length + (if ([]:List Keyword).isEmpty then 0 else 1) < 30))=true:=by rfl)
  (dX:(apos.endLine == bA.line)=true:=by rfl) (hs:Wk [e] X.env=(false,eval e X.env) :: Wk [] X.env:=by rfl) :
  SE X c (.Call (.Attribute o "count" apos) [e] [] bA) (nL fa fb):=by
 refine PE.weak (sI PySem.F.plainAttrs_str PySem.F.slot_str_count PySem.F.type_str_count Oj he (fK hx iF hs) g7 kB dX hs rfl) λσ H Q h=>?_
 obtain⟨δ,k,q⟩:=h;unfold nL at q;rw[ba] at q;refine⟨δ,k,aS q λr δ1 q1 v H1 a1 r1=>?_⟩;split at q1
 case isFalse=>exact q1.elim
 rename_i hL;obtain⟨z,ez⟩:∃ z,r.d = .str z:=by
  cases hd:r.d <;> first | exact⟨_,rfl⟩ | (rw[hd] at hL; cases hL)
 have xI:cJ c σ δ1 H1 v (.str z):=by rw[<- ez]; exact .inl r1.rep
 have ev:=xI.str;subst ev;rw[ba] at q1;refine⟨rfl,δ1,a1.ok,aS q1 λy δ2 q2 u H2 a2 r2=>?_⟩;rw[ez] at q2;unfold p2 at q2;have hy:=r2.b;generalize y.d=dy at q2 hy
 cases dy with
 | str w =>
  match w,q2,hy with
  | [n],q2,hy =>
   have eu:=hy.str;subst eu;exact⟨z,n,rfl,rfl,q2 _ H2 (a1.trans a2) (.int _)⟩
  | [],q2,_=>exact q2.elim
  | _ :: _ :: _,q2,_=>exact q2.elim
 | _=>exact q2.elim
end
end DV
set_option maxHeartbeats 3200000
namespace SU
open PySem PyProof.Rows
section
variable {prog:Wm} {w:Ws} {A:Wt} {E:Value->W3->Prop} {s:W3}
end
end SU
set_option maxHeartbeats 1000000
namespace DV
open PySem (sizeLine)
open L2
section
variable {α β:Type}
@[simp] theorem eV (a:α) (δ:Dl) (f:α->Dl->Rs β):(Rs.ok a δ).bind f=f a δ:=id rfl
@[simp] theorem Vd (f:α->Dl->Rs β):(Rs.stuck:Rs α).bind f = .stuck:=id rfl
@[simp] theorem Om (d:D):(S.pure d).d=d:=id rfl
@[simp] theorem uE (d:D):(S.own d).d=d:=id rfl
end
section
variable (δ:Dl) (i:Nat) (d e:D) (f g:DE) (fb:BE) (t u:DT) (p:D->D->Option S)
@[simp] theorem Oo:eD d δ = .ok (.pure d) δ:=id rfl
@[simp] theorem oU:ao f δ=(f δ).bind λr δ'=>.ok r.d δ':=id rfl
@[simp] theorem El:aD p f fb δ=(f δ).bind λx δ1=>(fb δ1).bind λy δ2=>p2 p x.d y δ2:=id rfl
@[simp] theorem Ve:kH t u δ=(t δ).bind λb δ1=>if b then u δ1 else .ok false δ1:=id rfl
@[simp] theorem Vf:gz t u δ=(t δ).bind λb δ1=>if b then .ok true δ1 else u δ1:=id rfl
@[simp] theorem Vg:gG t δ=(t δ).bind λb δ1=>.ok (!b) δ1:=id rfl
@[simp] theorem Oq:qB t f g δ=(t δ).bind λb δ1=>if b then f δ1 else g δ1:=id rfl
@[simp] theorem Vh:cA δ = .ok .next δ:=id rfl
@[simp] theorem Vi:a_ δ = .ok true δ:=id rfl
@[simp] theorem Vj:MA f δ=(f δ).bind λ_ δ1=>.ok .next δ1:=id rfl
@[simp] theorem Em:bN f δ=(f δ).bind λr δ1=>.ok (.ret r) δ1:=id rfl
@[simp] theorem Ot (a b:DS):b_ t a b δ=(t δ).bind λx δ1=>if x then a δ1 else b δ1:=id rfl
@[simp] theorem Vk (it:DI) (gg:DG) (b:DS):dZ it gg b δ=(it δ).bind λds δ1=>forL gg b ds δ1:=id rfl
@[simp] theorem Vl (a:DA):h9 a δ=(a δ).bind λds δ'=>.ok (.pure (.tup ds)) δ':=id rfl
@[simp] theorem Vm (a:DA):fU a δ=(a δ).bind λds δ'=>.ok (.own (.lst ds)) δ':=id rfl
@[simp] theorem Vn (ds:List D):l6 ds δ = .ok (.own (.lst ds)) δ:=id rfl
@[simp] theorem Vo:cP δ = .ok [] δ:=id rfl
@[simp] theorem Vp (a:DA):bS f a δ=(f δ).bind λx δ1=>(a δ1).bind λxs δ2=>.ok (x.d :: xs) δ2:=id rfl
@[simp] theorem uF (q:D->Option S):aO q fb δ=(fb δ).bind λx δ1=>p1 q x δ1:=id rfl
@[simp] theorem Vq:tO f g δ=(f δ).bind λx δ1=>(g δ1).bind λy δ2=>p2 wQ x.d y.d δ2:=id rfl
@[simp] theorem Vr (fl fh:lY):Mw f fl fh δ=(f δ).bind λx δ1=>(fl δ1).bind λl δ2=>(fh δ2).bind λh δ3=>p1 (iK l h) x.d δ3:=id rfl
@[simp] theorem Vs:qI δ = .ok none δ:=id rfl
@[simp] theorem xJ (cs:List Nat) (it:DI) (gg:DG) (el:DE):bJ cs it gg t el δ=(it δ).bind λds δ1=>if cs.any (cj δ1) then .stuck else
 (cy cs gg t el ds (bD cs δ1) []).bind λacc δ2=>.ok (.own (.lst acc)) (c9 cs δ1 δ2):=id rfl
@[simp] theorem Vt (np:List Nat) (r:S):ag np i r δ=if np.contains i then none else some (δ.set i (some r)):=id rfl
@[simp] theorem Vu (gg:DG) (b:DS):forL gg b [] δ = .ok .next δ:=id rfl
end
section
variable (δ:Dl) (i:Nat) (d e:D) (f g:DE) (fb:BE) (p:D->D->Option S) (s:S)
@[simp] theorem En (x y:D):p2 p x y δ=match p x y with | some s=>.ok s δ | none=>.stuck:=id rfl
@[simp] theorem xK (q:D->Option S) (x:D):p1 q x δ=match q x with | some s=>.ok s δ | none=>.stuck:=id rfl
@[simp] theorem Vv (a b:DS):aC a b δ=(a δ).bind λfl δ1=>match fl with | .next=>b δ1 | .ret r=>.ok (.ret r) δ1 | .brk=>.ok .brk δ1 | .cont=>.ok .cont δ1:=id rfl
@[simp] theorem Vw {α β:Type} (c:Prop) [Decidable c] (x y:Rs α) (k:α->Dl->Rs β):(if c then x else y).bind k=if c then x.bind k else y.bind k:=by split <;> rfl
end
theorem cU:Wc=16777216:=rfl
theorem il(xs:List α)(i:Nat):c8 xs (i:Int)=xs[i]?:=by
 unfold c8 dW;by_cases h:i < xs.length
 ·rw[if_pos (by omega),if_pos (by omega)];simp
 ·rw[if_pos (by omega),if_neg (by omega)];simp[WN (Nat.le_of_not_lt h)]
theorem xM(xs:List α):c8 xs 2=xs[2]?:=il xs 2
theorem rj(xs:List α):c8 xs 0=xs[0]?:=il xs 0
theorem xN(xs:List α):c8 xs 1=xs[1]?:=il xs 1
theorem xO(I:Dl->Prop)(R:D->D->Prop) :
  ∀ (ds:List D) (δ:Dl) (acc:List D),I δ->acc.length + ds.length<=Wc ->
   (∀ d ∈ ds,∀ δ,I δ->∃ δ1 δ2 x δ3,g (.pure d) δ=some δ1/\t δ1 = .ok true δ2/\el δ2 = .ok x δ3/\I (bD cs δ3)/\R d x.d) ->
   ∃ xs δ',cy cs g t el ds δ acc = .ok (acc ++ xs) δ'/\I δ'/\xs.length=ds.length/\∀ (i:Nat) d x,ds[i]? = some d->xs[i]? = some x->R d x
 | [],δ,acc,h,_,_=>⟨[],δ,by simp[cy],h,rfl,λi d x e=>by simp at e⟩
 | d :: r,δ,acc,h,hl,hs=>by
  obtain⟨δ1,δ2,x,δ3,e1,e2,e3,h3,hr⟩:=hs d Wh δ h;have gc:acc.length < Wc:=by simp at hl; omega
  obtain⟨xs,δ',e4,h4,hn,hf⟩:=xO (g:=g) (t:=t) (el:=el) I R r (bD cs δ3) (acc ++ [x.d]) h3 (by simp at hl ⊢; omega) (λd hd=>hs d (W9 _ hd));refine⟨x.d :: xs,δ',?_,h4,by simp[hn],λi d' x' f1 f2=>?_⟩
  ·unfold cy;rw[e1];simp only[e2,eV,if_true,e3,if_pos gc,e4];simp
  ·cases i with
   | zero=>simp at f1 f2; subst f1 f2; exact hr
   | succ i=>exact hf i d' x' (by simpa using f1) (by simpa using f2)
theorem Ou(F:D->D)(δ:Dl) :
  ∀ (ds:List D) (acc:List D),acc.length + ds.length<=Wc ->
   (∀ d ∈ ds,∃ δ1 δ2 x δ3,g (.pure d) δ=some δ1/\t δ1 = .ok true δ2/\el δ2 = .ok x δ3/\bD cs δ3=δ/\x.d=F d) ->
   cy cs g t el ds δ acc = .ok (acc ++ ds.map F) δ:=by
 intro ds acc hl hs;obtain⟨xs,δ',e,h,hn,hf⟩:=xO (cs:=cs) (g:=g) (t:=t) (el:=el) (λδ'=>δ'=δ) (λd x=>x=F d) ds δ acc rfl hl (λd hd δ' h=>by
  subst h;obtain⟨δ1,δ2,x,δ3,a,b,c,d,e⟩:=hs d hd;exact⟨δ1,δ2,x,δ3,a,b,c,d,e⟩)
 subst h;rw[e];congr 2
 apply Qz;intro i;by_cases hi:i < ds.length
 ·have:=hf i ds[i] (xs[i]'(by omega)) (by simp[hi]) (by simp[hn,hi]);simp[hn,hi,this]
 ·rw[WN (by omega),WN (by simp; omega)]
theorem jy(I:Nat->Dl->Prop) :
  ∀ (ds:List D) (n:Nat) (δ:Dl),I n δ ->
   (∀ (i:Nat) d δ,ds[i]? = some d->I (n + i) δ->∃ δ1 δ2,g (.pure d) δ=some δ1/\b δ1 = .ok .next δ2/\I (n + i + 1) δ2) ->
   ∃ δ',forL g b ds δ = .ok .next δ'/\I (n + ds.length) δ'
 | [],n,δ,h,_=>⟨δ,rfl,h⟩
 | d :: r,n,δ,h,hs=>by
  obtain⟨δ1,δ2,e1,e2,h2⟩:=hs 0 d δ rfl h;obtain⟨δ',e3,h3⟩:=jy (g:=g) (b:=b) I r (n + 1) δ2 h2 (λi d' δ' e hi=>by
   have:=hs (i + 1) d' δ' (by simpa using e) (by rw[show n + (i + 1)=n + 1 + i by omega]; exact hi);rw[show n + (i + 1) + 1=n + 1 + i + 1 by omega] at this;exact this)
  refine⟨δ',?_,by rw[WL,show n + (r.length + 1)=n + 1 + r.length by omega]; exact h3⟩;unfold forL;rw[e1];simp only[e2,eV,e3]
theorem uG(xs:List Tx):fB (xs.map .str)=some xs:=by
 induction xs with
 | nil=>rfl
 | cons x r ih=>simp[fB,ih]
theorem xP:∀ ts:List Tx,ju [] ts=ts.flatten
 | []=>rfl
 | [x]=>by simp[ju]
 | x :: y :: r=>by rw[ju,xP (y :: r)]; simp
theorem Ov(xs:List Nat):iM (xs.map λn=>[n])=xs.length:=by
 unfold iM;induction xs with
 | nil=>rfl
 | cons x r ih=>simp at ih ⊢; omega
theorem Ow(xs:List Nat):(xs.map λn=>[n]).flatten=xs:=by
 induction xs with
 | nil=>rfl
 | cons x r ih=>simp[ih]
theorem Ox(xs:List Nat)(h:xs.length<=16777216):dF [] (.lst (xs.map λn=>.str [n]))=some (.pure (.str xs)):=by
 have e:(xs.map λn=>D.str [n])=(xs.map λn=>[n]).map D.str:=by simp
 unfold dF;simp only[e,uG,Ov,xP,Ow];rw[if_pos (by simpa using h)]
theorem Oy(bs:List Bool):jV (bs.map .bl)=some bs:=by
 induction bs with
 | nil=>rfl
 | cons x r ih=>simp[jV,ih]
theorem Oz(r:Tx)(c:Nat)(h:c < r.length)(hl:r.length<=64):ax (.str r) (.int c)=some (.pure (.str [r.getD c 0])):=by
 unfold ax;have:Wc=16777216:=rfl;simp only;rw[if_pos (by omega),il];simp[h]
abbrev du(fl:List Tx):D:=.tup (fl.map .str)
def ki(r:S)(δ1:Dl):Rs (List D):=match r with
 | .pure (.int j)=>if oJ j then .ok (cg 0 j.toNat) δ1 else .stuck
 | _=>.stuck
@[simp] theorem Vx (f:DE) (δ:Dl):dY f δ=(f δ).bind λr δ1=>ki r δ1:=id rfl
theorem OA(w:Nat)(hw:w<=1000000):oJ (w:Int)=true:=by
 have h1 : -(4611686018427387904:Int)<=(w:Int):=by omega
 have h2:(w:Int) < 4611686018427387904:=by omega
 unfold oJ;rw[Wv];exact⟨decide_eq_true h1,decide_eq_true h2⟩
theorem OB(j:Int)(hs:oJ j=true)(δ:Dl):ki (.pure (.int j)) δ = .ok (cg 0 j.toNat) δ:=by unfold ki; simp only[hs,if_true]
theorem mr(w:Nat)(hw:w<=1000000)(δ:Dl):ki (.pure (.int w)) δ = .ok (cg 0 w) δ:=by
 have:=OB (w:Int) (OA w hw) δ;rwa [QA] at this
theorem xQ(h:(cg 0 n)[i]? = some d):i < n/\d = .int (i:Int):=by
 unfold cg at h;rw[Wl] at h;by_cases hi:i < n
 ·rw[Qd hi] at h;simp at h;exact⟨hi,h.symm⟩
 ·rw[WN (by simpa using hi)] at h
  cases h
theorem Eo(h:d ∈ cg 0 n):∃ i:Nat,i < n/\d = .int (i:Int):=by
 obtain⟨i,hi⟩:=J7 h;exact⟨i,xQ hi⟩
@[simp] theorem Vy (lo:Int) (n:Nat):(cg lo n).length=n:=by simp[cg]
def iW(x:Nat):List Nat->List Nat
 | []=>[x]
 | y :: r=>if y < x then y :: iW x r else x :: y :: r
def fR:List Nat->List Nat
 | []=>[]
 | x :: r=>iW x (fR r)
theorem Ep(a b:Nat):(([a]:Tx) < [b]) ↔ a < b:=by
 constructor
 ·intro h
  cases h with
  | cons h=>cases h
  | rel h=>exact h
 ·intro h; exact List.Lex.rel h
theorem Er(x:Nat):∀ xs:List Nat,kF [x] (xs.map λn=>[n])=(iW x xs).map λn=>[n]
 | []=>rfl
 | y :: r=>by
  simp only[Wo,kF,iW];by_cases h:y < x
  ·rw[if_pos ((Ep y x).mpr h),if_pos h,Er x r]; rfl
  ·rw[if_neg λz=>h ((Ep y x).mp z),if_neg h]; rfl
theorem Es:∀ xs:List Nat,hJ (xs.map λn=>[n])=(fR xs).map λn=>[n]
 | []=>rfl
 | x :: r=>by rw[Wo,hJ,Es r,Er]; rfl
theorem xR:∀ {xs:List Nat},y ∈ iW x xs ↔ y=x\/y ∈ xs
 | []=>by simp[iW]
 | z :: r=>by
  unfold iW;split
  ·simp[xR (xs:=r)]; constructor <;> (rintro (h | h | h) <;> simp[h])
  ·simp
theorem rm:∀ {xs:List Nat},y ∈ fR xs ↔ y ∈ xs
 | []=>by simp[fR]
 | x :: r=>by rw[fR,xR,rm (xs:=r)]; simp
theorem Et(x:Nat):∀ xs:List Nat,(iW x xs).length=xs.length + 1
 | []=>rfl
 | y :: r=>by unfold iW; split <;> simp[Et x r]
theorem Eu:∀ xs:List Nat,(fR xs).length=xs.length
 | []=>rfl
 | x :: r=>by rw[fR,Et,Eu r]; rfl
theorem Ew:∀ {xs:List Nat},xs.Pairwise (· < ·)->x ∉ xs->(iW x xs).Pairwise (· < ·)
 | [],_,_=>by simp[iW]
 | y :: r,h,hx=>by
  rw[List.pairwise_cons] at h;simp at hx;unfold iW;split
  ·rename_i hl;rw[List.pairwise_cons];refine⟨λz hz=>?_,Ew h.2 hx.2⟩;rcases xR.mp hz with rfl | hz
   ·exact hl
   ·exact h.1 z hz
  ·rename_i hl;rw[List.pairwise_cons];refine⟨λz hz=>?_,Qr.mpr h⟩;rcases Wj.mp hz with rfl | hz
   ·omega
   ·have:=h.1 z hz; omega
theorem xS:∀ {xs:List Nat},xs.Nodup->(fR xs).Pairwise (· < ·)
 | [],_=>by simp[fR]
 | x :: r,h=>by
  rw[List.nodup_cons] at h;exact Ew (xS h.2) λz=>h.1 (rm.mp z)
theorem Ex{P:Nat->Prop}:∀ {xs:List D},(∀ x ∈ xs,∃ n,P n/\x = .str [n])->∃ row:List Nat,xs=row.map (λn=>.str [n])/\∀ n ∈ row,P n
 | [],_=>⟨[],rfl,by simp⟩
 | x :: r,h=>by
  obtain⟨n,hn,rfl⟩:=h x Wh;obtain⟨row,rfl,hr⟩:=Ex (xs:=r) λy hy=>h y (W9 _ hy)
  exact⟨n :: row,rfl,by simpa using ⟨hn,hr⟩⟩
theorem OC{R:D->D->Prop}{ds xs:List D}{Q:D->Prop}(hn:xs.length=ds.length)(hf:∀ (i:Nat) d x,ds[i]? = some d->xs[i]? = some x->R d x)(hq:∀ d x,d ∈ ds->R d x->Q x):∀ x ∈ xs,Q x:=λx hx=>by
 obtain⟨i,hi⟩:=J7 hx;have h1:=(W1.mp hi).1;have h2:ds[i]? = some (ds[i]'(by omega)):=by simp[show i < ds.length by omega]
 exact hq _ x (Qk _) (hf i _ x h2 hi)
theorem Ey(w:Nat)(hw:w<=100000)(δ:Dl):ki (.pure (.int (1 + (w:Int)))) δ = .ok (cg 0 (1 + w)) δ:=by
 have:=mr (1 + w) (by omega) δ;rwa [show(((1 + w:Nat):Int))=1 + (w:Int) by omega] at this
abbrev bT(b:Nat×List Tx):D:=.tup [.str [b.1],du b.2]
abbrev ay(h w:Nat)(bs:List (Nat×List Tx)):D:=.tup [.int h,.int w,.tup (bs.map bT)]
structure c_(h w:Nat)(bs:List (Nat×List Tx)):Prop where
 h0:0 < h
 h1:h<=4
 w0:0 < w
 w1:w<=4
 hw:2 < h + w
 n0:0 < bs.length
 n1:bs.length<=26
 up:(bs.map (·.1)).Pairwise (· < ·)
 Vz:∀ b ∈ bs,97<=b.1/\b.1<=122
 ip:∀ b ∈ bs,b.2.length=h/\∀ r ∈ b.2,r.length=w/\∀ n ∈ r,n ∈ bs.map (·.1)
theorem ir(f F:A->D)(δ:Dl):∀ (as:List A) (acc:List D),acc.length + as.length<=Wc ->
  (∀ a ∈ as,∃ δ1 δ2 x δ3,g (.pure (f a)) δ=some δ1/\t δ1 = .ok true δ2/\el δ2 = .ok x δ3/\bD cs δ3=δ/\x.d=F a)->cy cs g t el (as.map f) δ acc = .ok (acc ++ as.map F) δ
 | [],acc,_,_=>by simp[cy]
 | a :: r,acc,hl,hs=>by
  obtain⟨δ1,δ2,x,δ3,e1,e2,e3,e4,e5⟩:=hs a Wh;have gc:acc.length < Wc:=by simp at hl; omega
  have ih:=ir (cs:=cs) (g:=g) (t:=t) (el:=el) f F δ r (acc ++ [x.d]) (by simp at hl ⊢; omega) (λa ha=>hs a (W9 _ ha));rw[Wo];unfold cy;rw[e1];rw[e5] at ih;simp only[e2,eV,if_true,e3,if_pos gc,e4,e5,ih];simp
end DV
set_option maxHeartbeats 400000
namespace L2
open PySem PySem.Spec PyProof.Rows PySem.W DV SU
section
variable {X:Cx}
end
end L2
namespace DV
open PySem PySem.Spec PyProof.Rows L2 SU
section
variable {X:Cx} {c:Fc} {e:Expr} {fb:BE} {pp pos VA VB:Pos}
end
end DV
namespace PySem
theorem OD:entryFor table "dict_itemiterator.__iter__" = some Builtin.«dict_keyiterator.__iter__» :=
 entryFor_alias (id':="dict_keyiterator.__iter__") (by kernel_rfl) rfl (by decide +kernel) (by kernel_rfl)
theorem Ez(hit:IsItemIter s.heap it d i n ep ok ov)(h:Q (.ref it) s):We (model prog w) A (pyIter (.ref it)) Q E s:=by
 have hT:s.TypeIs (.ref it) "dict_itemiterator":=⟨_,hit,rfl⟩
 refine wpAny_pyIter_slot hT F.slot_dict_itemiterator_iter (WX F.slot_dict_itemiterator_iter hT OD ?_ (F.args_dict_itemiterator_iter_1 _));show We _ _ (ret (.ref it)) _ _ s;exact W7 ⟨_,rfl,"dict_itemiterator",_,hT,F.slot_dict_itemiterator_next.lookup,h⟩
end PySem
namespace L2
open PySem PySem.Spec PyProof.Rows
theorem EA(h:(cH P w).is k u=true):RelV (kV k) u:=by
 rw[vj] at h;rcases gU h with ⟨i,t,rfl,rfl⟩ | ⟨x,t,rfl,rfl⟩
 ·exact⟨t,rfl⟩
 ·exact⟨t,rfl⟩
def EB(a:Addr)(ob:Obj)(kvs:List (Key×V)):It :=
 ⟨λi H=>H a=some (.frz ob (.dK kvs))/\i < kvs.length,
  λi H v H'=>∃ p k x,H p=none/\kvs[i]? = some (k,x)/\H'=upd H p (.tup [kV k,x])/\v = .ref p,
  λi H=>H a=some (.frz ob (.dK kvs))/\i=kvs.length⟩
theorem KV.get{κ:Type}{kvs:List (κ×V)}{vs:List (κ×Value)}(r:KV kvs vs):∀ {i:Nat} {k:κ} {x:V},kvs[i]? = some (k,x)->∃ u,vs[i]? = some (k,u)/\RelV x u:=by
 unfold KV at r;induction r with
 | nil=>intro i k x e; simp at e
 | cons h t ih =>
  intro i k x e
  cases i with
  | zero =>
   simp at e;subst e;rename_i q _ _;obtain⟨q1,q2⟩:=q;obtain⟨h1,h2⟩:=h;simp at h1 h2;subst h1;exact⟨q2,by simp,h2⟩
  | succ i=>exact ih (by simpa using e)
theorem OE{P:Wm}{w:Ws}{K:W2}{elts:List Expr}{ctx}{pos:Pos}(a it:Addr)(ob:Obj)(kvs:List (Key×V))(es:Array DictEntry)(ep:Nat)(he:ob.data = .dict es ep) :
  Turn P w K (.Tuple elts ctx pos) (EB a ob kvs) [it] it (λi h=>∃ ok ov,IsItemIter h it a i kvs.length ep ok ov):=by
 have at_:∀ {X:Cx} {pins s σ H},X.prog=P->X.w=w->Inv X pins σ H s->H a=some (.frz ob (.dK kvs))->∃ vs,KV kvs vs/\s.heap.DictAt (cH P w) a vs ep:=by
  intro X pins s σ H hP hw I e;subst hP hw;obtain⟨h1,h2⟩:s.heap.get? a=some ob/\bP X.prog X.w H s.heap a (.dK kvs):=I.aG a _ e;obtain⟨_,_,vs,r,o,es',ep',q1,q2,q3,q4⟩:=h2;rw[h1] at q1
  cases q1;rw[he] at q3
  cases q3;exact⟨vs,r,ob,es,h1,q2,he,q4⟩
 refine⟨by simp,?_,?_,?_,?_,?_⟩
 ·rintro i h ⟨ok,ov,q⟩ b hb;have e:b=it:=by simpa using hb
  subst e;exact⟨_,q,λv z=>by
   have z':Data.fields _=Data.cell v:=z
   cases z'⟩
 ·rintro i h h' ⟨ok,ov,q⟩ k;exact⟨ok,ov,k it (by simp) _ q⟩
 ·intro X hP hw hK hc i pins s σ H E I hf ⟨ok,ov,st⟩ ⟨hg,hi⟩;obtain⟨vs,r,hd⟩:=at_ hP hw I hg;subst hP hw hK;have hl:=r.length;have hx:kvs[i]? = some (kvs[i].1,kvs[i].2):=by simp[hi]
  obtain⟨u,hu,ru⟩:=KV.get r hx;have jv:it < s.heap.objs.size:=Wr st;rw[hl] at st;refine wpAny_pyNext_items_item st hd hu λkey h' hk hit hT hsz kp=>⟨_,rfl,wpAny_letOwnedTupleGo_items hit λh2 xT sb=>?_⟩
  have nz:s.heap.objs.size≠it:=Jc jv;have a7:∀ b ∈ [it],b < s.heap.objs.size:=λb hb=>by
   have e:b=it:=by simpa using hb
   subst e;exact jv
  have I2:Inv X pins σ (upd H s.heap.objs.size (.tup [kV kvs[i].1,kvs[i].2])) { s with heap:=h2,toks:=s.toks } :=
   Inv.xF (t':=s.toks) [it] I hf a7 (EA hk) ru ((sb.2 _ nz).trans hT) λb o hb e=>by
    have g:b≠it:=λz=>hb (by simp[z])
    exact(sb.2 b g).trans (kp b o g e)
  refine⟨.ref s.heap.objs.size,_,I2,rfl,⟨s.heap.objs.size,_,_,I.aG.fresh (Wf _),hx,rfl,rfl⟩,⟨_,_,by rw[hl]; exact xT⟩,λb hb=>?_⟩;have e:b=it:=by simpa using hb
  subst e;rw[aQ (Ne.symm nz)];exact(hf _ hb).1
 ·intro X hP hw hK hc i pins s σ H E I hf ⟨ok,ov,st⟩ ⟨hg,hi⟩;obtain⟨vs,r,hd⟩:=at_ hP hw I hg;subst hP hw hK;have hl:=r.length;rw[hl] at st;refine wpAny_pyNext_items_end (I.ok.hd hc) st hd (by simp; omega) λh' eb=>⟨rfl,Inv.uk (t':=s.toks) [it] I (λb o hb e=>eb b o (λz=>hb (by simp[z])) e) hf⟩
 ·intro A i s Q E ⟨ok,ov,st⟩ h;exact Ez st h
section
variable {X:Cx} {o:Expr} {apos bA:Pos} {elts:List Expr} {ctx:Nat} {tp:Pos} {td:TE}
def OF(td:TE):TI:=λσ H R=>td σ H λv H1=>∃ a kvs,v = .ref a/\H1 a=some (.dK kvs)/\∀ ob,R (EB a ob kvs) (upd H1 a (.frz ob (.dK kvs)))
theorem OG (ho:PE X o td) (hb:Qv o "items" X.env (eval o X.env)=eval o X.env:=by rfl) (hl:(apos.endLine == bA.line)=true:=by rfl) :
  PI X (.Tuple elts ctx tp) (.Call (.Attribute o "items" apos) [] [] bA) (OF td):=by
 intro pins s σ H R I h;refine wpAny_Call_method (T:="dict") (id:="dict.items") hb rfl hl F.plainAttrs_dict JL F.type_dict_items (aR (ho pins s σ H _ I h) λu s1 ⟨x,H1,I1,rx,a,kvs,ex,ea,q⟩=>?_);subst ex;obtain rfl:u=Value.ref a:=rx;obtain⟨z,hS,vs,r,hm⟩:=qo I1.aG ea;refine⟨hm.typeIs,hm.mapOf.noDict,?_⟩;refine method_meetsIn JL F.entry_dict_items rfl (PySem.evalArgs_none ⟨rfl,hm.typeIs,F.args_dict_items_1 _,_,meets_dict_items (cH X.prog X.w) a hS,⟨vs,hm⟩,?_⟩);obtain⟨ob,es,ep,g1,g2,g3,g4⟩:=id hm;have OH:s1.heap.DictAt (cH X.prog X.w) a vs ep:=⟨ob,es,g1,g2,g3,g4⟩
 refine wpAny_pyIter_items (knd:=cH X.prog X.w) (d:=a) (kvs:=vs) (ep:=ep) ⟨_,Wn _ rfl,rfl,rfl⟩ (OH.push _) ?_;generalize hh1:s1.heap.push { cls:=.type "dict_items",data:=.fields #[.ref a] } = h1;have up1:∀ b u,s1.heap.get? b=some u->h1.get? b=some u:=λb u e=>by rw[<- hh1]; exact Wd _ e
 have oV:s1.heap.objs.size<=h1.objs.size:=by rw[<- hh1,Qw]; exact Nat.le_succ _
 generalize hh2:h1.push { cls:=.type "dict_itemiterator",data:=.fields #[.none,.bool false,.ref a,.int 0 0,.int vs.length 0,.int ep 0,.none,.none] } = h2;have oW:∀ b u,s1.heap.get? b=some u->h2.get? b=some u:=λb u e=>by rw[<- hh2]; exact Wd _ (up1 b u e)
 have hit:IsItemIter h2 h1.objs.size a 0 kvs.length ep .none .none:=by rw[r.length,<- hh2]; exact Wn _ rfl
 have I2:Inv X pins σ (upd H1 a (.frz ob (.dK kvs))) { s1 with heap:=h2,toks:=s1.toks } :=
  I1.write (x:=a) (e:=a) (o:=.frz ob (.dK kvs)) (t':=s1.toks) (by rw[ea]; trivial) (.inl rfl) (λb u _ e=>oW b u e) ⟨ob,oW a ob g1⟩
   ⟨oW a ob g1,z,hS,vs,r,ob,es,ep,oW a ob g1,g2,g3,g4⟩
 refine⟨h1.objs.size,[h1.objs.size],_,_,_,rfl,I2,OE a h1.objs.size ob kvs es ep g3,⟨_,_,hit⟩,λb hb=>?_,q ob⟩;have e:b=h1.objs.size:=by simpa using hb
 subst e;refine I1.jM oV ?_;rw[aQ (Jc (Ww (Wr g1) oV))];exact I1.aG.fresh oV
end
end L2
namespace DV
open PySem PySem.Spec PyProof.Rows L2
def uH:bc->D
 | .inl i=>.int i
 | .inr x=>.str x
theorem EC(k:bc):Rep H O (kV (cD k)) (uH k):=by
 cases k with
 | inl i=>exact .int i
 | inr x=>exact .str x
def oX(ds:List (bc×D)):List D:=ds.map λp=>D.tup [uH p.1,p.2]
section
variable {X:Cx} {c:Fc} {o:Expr} {i:Nat} {apos bA:Pos} {elts:List Expr} {ctx:Nat} {tp:Pos}
def rq(i:Nat):DI:=λδ=>match δ[i]? with
 | some (some (.own (.aw ds)))=>.ok (oX ds) (δ.set i none)
 | _=>.stuck
theorem Ok.freeze(k:Ok c σ δ H)(e:δ[i]? = some (some (.own (.aw ds))))(ea:σ[i]? = some (some (.ref a))) :
  aV c σ δ H σ (δ.set i none) (upd H a u):=by
 obtain⟨a',dD,oa,hI,nB⟩:=k.own i _ e;rw[ea] at dD
 cases dD;have hO:Own σ δ a:=⟨i,_,e,ea⟩
 have hi:i < δ.length:=(W1.mp e).1;have sub:∀ b,Own σ (δ.set i none) b->Own σ δ b:=λb ⟨j,d,f1,f2⟩=>by
  by_cases hj:i=j
  ·subst hj;rw[Wa hi] at f1
   cases f1
  ·rw[W6 hj] at f1;exact⟨j,d,f1,f2⟩
 have iQ:∀ b,Av c σ (δ.set i none) b->Av c σ δ b:=λb z=>z.elim .inl λz=>.inr (sub b z)
 have kp:∀ b o,H b=some o->¬ Av c σ δ b->upd H a u b=some o:=λb o h n=>by
  rw[aQ λz=>n (.inr (by rw[z]; exact hO))];exact h
 have th:∀ b o,H b=some o->∃ o',upd H a u b=some o':=λb o h=>by
  by_cases hb:b=a
  ·subst hb; exact⟨u,cN⟩
  ·exact⟨o,by rw[aQ hb]; exact h⟩
 have up:∀ {v d},Rep H (Av c σ δ) v d->Rep (upd H a u) (Av c σ (δ.set i none)) v d:=λr=>(r.keep kp).aL λb z=>.inl (iQ b z)
 refine⟨⟨λb o h n=>?_,λb h=>?_,λb h=>?_,by rw[Q7]; exact k.len,λj d f=>?_,λj d f=>?_,λj l b d1 d2 f1 f2 g1 g2=>?_,k.pinned⟩,λb o h n=>?_,λb z=>.inl (sub b z),th⟩
 ·have hb:b≠a:=λz=>by
   subst z;rcases hI with q | q
   ·exact n q
   ·rw[q] at h; cases h
  rw[aQ hb];exact k.keep b o h n
 ·obtain⟨o,h'⟩:=k.bd b h;exact th b o h'
 ·obtain⟨o,h'⟩:=k.dC b h;exact th b o h'
 ·have hj:i≠j:=λz=>by subst z; rw[Wa hi] at f; cases f
  rw[W6 hj] at f;obtain⟨v,g1,g2⟩:=k.slot j d f;exact⟨v,g1,up g2⟩
 ·have hj:i≠j:=λz=>by subst z; rw[Wa hi] at f; cases f
  rw[W6 hj] at f;obtain⟨b,g1,g2,g3⟩:=k.own j d f;have hb:b≠a:=λz=>by subst z; exact hj (k.inj i j b _ _ e f ea g1)
  exact⟨b,g1,(g2.keep kp λo h=>by rw[aQ hb]; exact h).aL λb z=>.inl (iQ b z),g3⟩
 ·have h1:i≠j:=λz=>by subst z; rw[Wa hi] at f1; cases f1
  have h2:i≠l:=λz=>by subst z; rw[Wa hi] at f2; cases f2
  rw[W6 h1] at f1;rw[W6 h2] at f2;exact k.inj j l b d1 d2 f1 f2 g1 g2
 ·rw[aQ λz=>n (by rw[z]; exact hO)];exact h
theorem OI (ho:PE X o (bZ i)) (hb:Qv o "items" X.env (eval o X.env)=eval o X.env:=by rfl) (hl:(apos.endLine == bA.line)=true:=by rfl) :
  SI X c (.Tuple elts ctx tp) (.Call (.Attribute o "items" apos) [] [] bA) (rq i) :=
 PI.weak (OG ho hb hl) λσ H R ⟨δ,k,q⟩=>by
  unfold rq at q;split at q
  case h_2=>exact q.elim
  rename_i ds e;obtain⟨a,ea,⟨ws,hw,hk,hr⟩,hI,nB⟩:=k.own i _ e;refine⟨.ref a,ea,a,ws,rfl,hw,λob=>?_⟩;have af:=k.freeze (u:=.frz ob (.dK ws)) e ea;refine q _ _ af λH2 kp=>?_
  have hi:i < δ.length:=(W1.mp e).1;have na:¬ Own σ (δ.set i none) a:=λ⟨j,d,f1,f2⟩=>by
   by_cases hj:i=j
   ·subst hj;rw[Wa hi] at f1
    cases f1
   ·rw[W6 hj] at f1;exact hj (k.inj i j a _ _ e f1 ea f2)
  have h2:H2 a=some (.frz ob (.dK ws)):=kp a _ cN na;have hlen:ws.length=ds.length:=by simpa using congrArg Jt hk
  refine⟨⟨h2,by simp[oX,hlen]⟩,λj d f=>?_⟩;unfold oX at f;rw[Wl] at f
  cases ej:ds[j]? with
  | none=>rw[ej] at f; cases f
  | some qd =>
   rw[ej] at f
   cases f;have hj:j < ws.length:=by rw[hlen]; exact(W1.mp ej).1
   refine⟨⟨h2,hj⟩,λx H3 ⟨p,kk,xv,hp,hkv,e3,ex⟩=>.inr ⟨p,_,_,hp,e3,ex,rfl,?_⟩⟩;have vE:kk=cD qd.1:=by
    have:=congrArg (λl=>l[j]?) hk;simp only[Wl,hkv,ej,WB] at this;exact Wx this
   subst vE;have rv:Rep H (Av c σ δ) xv qd.2:=hr j _ _ hkv ej;have hO:Own σ δ a:=⟨i,_,e,ea⟩
   have OJ:Rep (upd H a (.frz ob (.dK ws))) (Av c σ (δ.set i none)) xv qd.2:=(rv.keep λb o h n=>by
    rw[aQ λz=>n (.inr (by rw[z]; exact hO))];exact h).aL λb z=>.inl (z.elim .inl λ⟨j,d,f1,f2⟩=>.inr (by
     by_cases hj:i=j
     ·subst hj;rw[Wa hi] at f1
      cases f1
     ·rw[W6 hj] at f1;exact⟨j,d,f1,f2⟩))
   exact aH.two (EC _) OJ
end
end DV
namespace L2
open PySem PySem.Spec PyProof.Rows
section
variable {X:Cx}
def ED(K:W2):R2:=λx y H Q=>∃ l k xs,x = .ref l/\y = .int k/\cq K H l xs/\xs≠[]/\0<=k/\k<=1000/\xs.length<=1000/\∀ p,H p=none->Q (.ref p) (upd H p (.lst (Wg k.toNat xs).flatten))
theorem OK:bx X (Qc .Mult) (ED X.K):=by
 intro pins s σ H x y v u Q I rx ry h;obtain⟨l,k,xs,rfl,rfl,hH,cC,h1,h2,hz,q⟩:=h
 cases rx;obtain⟨t,rfl⟩:=ry;obtain⟨ae,r,pl,hl⟩:=I.list hH;obtain⟨⟨cls,dd,data,sl⟩,ho,hc,n,hd⟩:=pl.isList;simp only at hc hd;subst hc hd;have hlen:ae.toArray.size=xs.length:=by rw[Wq]; exact r.length.symm
 have l7:ae.toArray.isEmpty=false:=by
  cases ae with
  | nil=>exact absurd (r.qf.mp rfl) cC
  | cons a b=>rfl
 have dX:Wc=16777216:=rfl;have VC:xs.length * k.toNat<=1000000:=by
  have:xs.length * k.toNat<=1000 * 1000:=Qo hz (by omega);omega
 have ue:List.foldl (λx1 x2=>x1 ++ x2) #[] (Wg k.toNat ae.toArray)=(Wg k.toNat ae).flatten.toArray:=by
  have:=vR ae k.toNat [];rw[QO] at this;exact this
 refine wpAny_binaryOp_repeat_ref (T:="list") (U:="int") (by decide) ⟨_,ho,rfl⟩ (λs'=>Jh s' k t) noFill_list_mul F.fills_int_mul F.slot_int_rmul repeat_list F.slot_int_index.lookup
  (Jj F.slot_int_rmul (Jh s k t) F.entry_int_rmul (F.args_int_rmul_2 _ _) (lm_int_rmul_list_any k t l ae.toArray n dd sl)
   ⟨ho,rfl,⟨_,ho,rfl⟩,Jj F.slot_list_mul ⟨_,ho,rfl⟩ F.entry_list_mul (F.args_list_mul_2 _ _) (lm_list_mul_any l ae.toArray n dd sl k t ?_ ?_ ?_) ⟨ho,?_⟩⟩)
 ·unfold Builtin.List.listFitsIndex;simp;omega
 ·rw[hlen]; omega
 ·rw[hlen];unfold Builtin.List.listTooLong;simp only[dX,decide_eq_true_eq];omega
 ·rw[if_neg (by rw[l7]; exact WJ),ue];have I1:Inv X pins σ (upd H s.heap.objs.size (.lst (Wg k.toNat xs).flatten)) { s with heap:=s.heap.push { cls:=.type "list",data:=.seq (Wg k.toNat ae).flatten.toArray } } :=
   I.laid (t':=s.toks) (λb o e=>Wd _ e) (Wf _) (show bP X.prog X.w _ _ _ (.lst (Wg k.toNat xs).flatten) from⟨by rw[sJ,JD]; omega,(Wg k.toNat ae).flatten,0,r.rep k.toNat,Wn _ rfl⟩)
  exact⟨.ref _,_,I1,rfl,q _ (I.aG.fresh (Wf _))⟩
end
end L2
namespace DV
open PySem PySem.Spec PyProof.Rows L2
def kW:D->D->Option S
 | .lst xs,.int k=>if 0<=k/\k<=1000/\0 < xs.length/\xs.length<=1000 then some (.own (.lst (Wg k.toNat xs).flatten)) else none
 | _,_=>none
theorem OL{K:W2}:b9 (ED K) kW:=by
 intro c σ δ H x y d e s Q k rx ry hp q
 cases d <;> cases e <;> first | (simp[kW] at hp; done) | skip
 rename_i ds n;simp only[kW] at hp;split at hp
 ·rename_i h
  cases hp;obtain⟨a,vs,ex,ha,r⟩:=rx.lst;refine⟨a,n,vs,ex,ry.int,.inl ha,?_,h.1,h.2.1,by rw[r.1]; exact h.2.2.2,λp qZ=>?_⟩
  ·intro z;rw[z] at r;have:=r.1;simp at this;omega
  ·exact q _ _ (.alloc k qZ _) (bf.oy k (aH.rep r _) qZ)
 ·cases hp
end DV
namespace L2
open PySem PySem.Spec PyProof.Rows
section
variable {X:Cx} {a b:Expr} {ta:TA} {pp pos xU xV:Pos}
end
end L2
namespace DV
open PySem PySem.Spec PyProof.Rows L2
section
variable {X:Cx} {c:Fc} {a b:Expr} {f g:DE} {pp pos xU xV:Pos}
end
section
variable {c:Fc} {σ σ':St} {δ δ':Dl} {H H':Hp} {i:Nat} {a p d:Addr} {dd:D}
theorem EE(e:δ[i]? = some (some (.own dd)))(ea:σ[i]? = some (some (.ref a)))(b:Addr)(z:Av (c.cS i a) σ (δ.set i none) b):Av c σ δ b:=by
 rcases z with (z | z) | z
 ·exact .inl z
 ·subst z; exact .inr ⟨i,_,e,ea⟩
 ·exact .inr z.unset
theorem Ok.OM(k:Ok c σ δ H)(e:δ[i]? = some (some (.own dd)))(ea:σ[i]? = some (some (.ref a))):Ok (c.cS i a) σ (δ.set i none) H:=by
 have sub:=EE (c:=c) e ea;have ne:∀ j d,(δ.set i none)[j]? = some (some d)->i≠j/\δ[j]? = some (some d):=λj d q=>by
  by_cases hj:i=j
  ·subst hj;rw[Wa (W1.mp e).1] at q; cases q
  ·rw[W6 hj] at q; exact⟨hj,q⟩
 refine⟨λb o h n=>k.keep b o h λ⟨j,z⟩=>n ⟨j,W9 _ z⟩,λb z=>?_,λb ⟨j,z⟩=>?_,by rw[Q7]; exact k.len,λj d q=>?_,λj d q=>?_,λj l b d d' q1 q2=>?_,λp hp=>?_⟩
 ·rcases z with z | z
  ·exact k.bd b z
  ·subst z; exact k.lR ⟨i,_,e,ea⟩
 ·rcases Wj.mp z with z | z
  ·cases z; exact k.lR ⟨i,_,e,ea⟩
  ·exact k.dC b ⟨j,z⟩
 ·obtain⟨_,q⟩:=ne j _ q;obtain⟨v,g1,g2⟩:=k.slot j d q;exact⟨v,g1,g2.aL λb z=>.inl (sub b z)⟩
 ·obtain⟨hj,q⟩:=ne j _ q;obtain⟨b,g1,g2,g3,g4⟩:=k.own j d q;refine⟨b,g1,g2.aL λb z=>.inl (sub b z),g3.imp (λ⟨l,z⟩=>⟨l,W9 _ z⟩) id,λz=>?_⟩;rcases z with z | z
  ·exact g4 z
  ·subst z; exact hj (k.inj i j b _ _ e q ea g1)
 ·exact k.inj j l b d d' (ne j _ q1).2 (ne l _ q2).2
 ·rcases Wj.mp hp with z | z
  ·subst z; exact ea
  ·exact k.pinned p z
theorem xW{O:Addr->Prop}{u:HO}(hO:O a):∀ b o,H b=some o->¬ O b->upd H a u b=some o:=λb o h n=>by
 rw[aQ λz=>n (by rw[z]; exact hO)];exact h
theorem Ok.uI(k:Ok c σ δ H)(hB:c.B a)(h0:c.I a\/c.H₀ a=none):Ok c σ δ (upd H a u):=by
 have kp:∀ b o,H b=some o->¬ Av c σ δ b->upd H a u b=some o:=xW (.inl hB);have th:∀ b o,H b=some o->∃ o',upd H a u b=some o':=λb o h=>by
  by_cases hb:b=a
  ·subst hb; exact⟨u,cN⟩
  ·exact⟨o,by rw[aQ hb]; exact h⟩
 refine⟨λb o h n=>?_,λb z=>(k.bd b z).elim λo h=>th b o h,λb z=>(k.dC b z).elim λo h=>th b o h,k.len,λj d q=>?_,λj d q=>?_,k.inj,k.pinned⟩
 ·have hb:b≠a:=λz=>by
   subst z;rcases h0 with z | z
   ·exact n z
   ·rw[z] at h; cases h
  rw[aQ hb];exact k.keep b o h n
 ·obtain⟨v,g1,g2⟩:=k.slot j d q;exact⟨v,g1,g2.keep kp⟩
 ·obtain⟨b,g1,g2,g3,g4⟩:=k.own j d q;have hb:b≠a:=λz=>g4 (by rw[z]; exact hB)
  exact⟨b,g1,g2.keep kp λo h=>by rw[aQ hb]; exact h,g3,g4⟩
end
structure Gh(c:Fc)(i:Nat)(p d:Addr)(σ0:St)(δ0:Dl)(H0:Hp)(ws:List (Key×V))(ds:List (bc×D))(t:Tx)(σ:St)(δ:Dl)(H:Hp)(vs:List V)(xs:List D):Prop where
 ok:Ok ((c.plus p).cS i d) σ δ H
 hd:H d=some (.dK (putK ws (.inr (toS t)) (.ref p)))
 hp:H p=some (.lst vs)
 rv:aH H (Av ((c.plus p).cS i d) σ δ) vs xs
 dr:DR H (Av ((c.plus p).cS i d) σ δ) ws ds
 keep:∀ a o,H0 a=some o->¬ Own σ0 δ0 a->H a=some o
 own:∀ a,Own σ δ a->Own σ0 δ0 a\/H0 a=none
 there:∀ a o,H0 a=some o->∃ o',H a=some o'
section
variable {c:Fc} {i:Nat} {p d:Addr} {σ0 σ σ':St} {δ0 δ δ':Dl} {H0 H H':Hp} {ws:List (Key×V)} {ds:List (bc×D)} {t:Tx} {vs fM:List V} {xs jz:List D}
theorem xX(k:Ok c σ δ H)(h:c.B a):¬ Own σ δ a:=λ⟨j,e,f1,f2⟩=>by
 obtain⟨b,g1,_,_,g4⟩:=k.own j e f1;rw[f2] at g1
 cases g1;exact g4 h
theorem Gh.dh(g:Gh c i p d σ0 δ0 H0 ws ds t σ δ H vs xs)(x:aV ((c.plus p).cS i d) σ δ H σ' δ' H'):Gh c i p d σ0 δ0 H0 ws ds t σ' δ' H' vs xs:=by
 have nd:¬ Own σ δ d:=xX g.ok (.inr rfl);have np:¬ Own σ δ p:=xX g.ok (.inl (.inr rfl));refine⟨x.ok,x.keep _ _ g.hd nd,x.keep _ _ g.hp np,aH.dh g.rv x,g.dr.map λv d h=>Rep.dh h x,λa o e n=>x.keep a o (g.keep a o e n) λz=>?_,λa z=>?_,λa o e=>?_⟩
 ·rcases g.own a z with q | q
  ·exact n q
  ·rw[q] at e; cases e
 ·rcases x.own a z with q | q
  ·exact g.own a q
  ·refine .inr ?_
   cases h:H0 a with
   | none=>rfl
   | some o =>
    obtain⟨o',e⟩:=g.there a o h;rw[q] at e; cases e
 ·obtain⟨o',e'⟩:=g.there a o e;exact x.there a o' e'
theorem Gh.uI(g:Gh c i p d σ0 δ0 H0 ws ds t σ δ H vs xs)(h0:H0 p=none)(h1:c.H₀ p=none)(nM:d≠p)(r:aH H (Av ((c.plus p).cS i d) σ δ) fM jz):Gh c i p d σ0 δ0 H0 ws ds t σ δ (upd H p (.lst fM)) fM jz:=by
 have hB:((c.plus p).cS i d).B p:=.inl (.inr rfl);have kp:∀ b o,H b=some o->¬ Av ((c.plus p).cS i d) σ δ b->upd H p (.lst fM) b=some o:=xW (.inl hB);refine⟨g.ok.uI hB (.inr h1),by rw[aQ nM]; exact g.hd,cN,aH.keep r kp,g.dr.map λv d h=>h.keep kp,λa o e n=>?_,g.own,λa o e=>?_⟩
 ·rw[aQ λz=>by rw[z,h0] at e; cases e];exact g.keep a o e n
 ·by_cases ha:a=p
  ·subst ha; exact⟨_,cN⟩
  ·rw[aQ ha]; exact g.there a o e
theorem Gh.done(g:Gh c i p d σ0 δ0 H0 ws ds t σ δ H vs xs)(hI:c.I d\/c.H₀ d=none)(nB:¬ c.B d)(hO:Own σ0 δ0 d)(xY:¬ c.B p)(nM:d≠p) :
  aV c σ0 δ0 H0 σ (δ.set i (some (.own (.aw (putD ds (.inr t) (.lst xs)))))) H:=by
 have k':=g.ok;have dD:σ[i]? = some (some (.ref d)):=k'.pinned (i,d) Wh;have kE:i < δ.length:=by rw[k'.len]; exact(W1.mp dD).1
 generalize hD:putD ds (.inr t) (.lst xs)=dz;have ne:∀ j e,(δ.set i (some (.own (.aw dz))))[j]? = some (some e)->(j=i/\e = .own (.aw dz))\/(i≠j/\δ[j]? = some (some e)):=λj e q=>by
  by_cases hj:i=j
  ·subst hj;rw[Wa kE] at q
   cases q; exact .inl ⟨rfl,rfl⟩
  ·rw[W6 hj] at q; exact .inr ⟨hj,q⟩
 have own:∀ b,Own σ (δ.set i (some (.own (.aw dz)))) b->b=d\/Own σ δ b:=λb ⟨j,e,q1,q2⟩=>by
  rcases ne j _ q1 with ⟨z,_⟩ | ⟨_,z⟩
  ·subst z; rw[dD] at q2; cases q2; exact .inl rfl
  ·exact .inr ⟨j,e,z,q2⟩
 have sub:∀ b,Av c σ (δ.set i (some (.own (.aw dz)))) b->Av ((c.plus p).cS i d) σ δ b:=λb z=>by
  rcases z with z | z
  ·exact .inl (.inl (.inl z))
  ·rcases own b z with z | z
   ·exact .inl (.inr z)
   ·exact .inr z
 have EF:∀ (j:Nat) (e:D) (b:Addr),δ[j]? = some (some (.own e))->σ[j]? = some (some (.ref b))->b≠d:=λj e b q1 q2 z=>by
  obtain⟨b',g1,_,_,g4⟩:=k'.own j e q1;rw[q2] at g1; cases g1
  exact g4 (.inr z)
 have np:¬ Av c σ (δ.set i (some (.own (.aw dz)))) p:=λz=>by
  rcases z with z | z
  ·exact xY z
  ·rcases own p z with z | z
   ·exact nM z.symm
   ·exact xX k' (.inl (.inr rfl)) z
 have an:∀ {v e},Rep H (Av ((c.plus p).cS i d) σ δ) v e->Rep H (Av c σ (δ.set i (some (.own (.aw dz))))) v e:=λr=>r.aL λb z=>.inl (sub b z)
 refine⟨⟨λb o h n=>?_,λb z=>k'.bd b (.inl (.inl z)),λb ⟨j,z⟩=>k'.dC b ⟨j,W9 _ z⟩,by rw[Q7]; exact k'.len,λj e q=>?_,λj e q=>?_,λj l b e e' q1 q2 s1 s2=>?_,λp hp=>k'.pinned p (W9 _ hp)⟩,g.keep,λb z=>?_,g.there⟩
 ·refine k'.keep b o h λ⟨j,z⟩=>?_
  rcases Wj.mp z with z | z
  ·cases z;rcases hI with f3 | f3
   ·exact n f3
   ·rw[show c.H₀ d=some o from h] at f3; cases f3
  ·exact n ⟨j,z⟩
 ·rcases ne j _ q with ⟨_,z⟩ | ⟨_,q⟩
  ·cases z
  ·obtain⟨v,g1,g2⟩:=k'.slot j e q;exact⟨v,g1,an g2⟩
 ·rcases ne j _ q with ⟨z,z'⟩ | ⟨hj,q⟩
  ·subst z; cases z'
   have rl:Rep H (Av c σ (δ.set j (some (.own (.aw dz))))) (.ref p) (.lst xs):=.lst np (.inl g.hp) g.rv.1 λn v e e1 e2=>an (g.rv.2 n v e e1 e2)
   have dr:=(g.dr.map λv e h=>an h).put (k:=.inr t) rl;rw[hD] at dr;exact⟨d,dD,⟨_,g.hd,dr.keys,dr.vals⟩,hI,nB⟩
  ·obtain⟨b,g1,g2,g3,g4⟩:=k'.own j e q;refine⟨b,g1,g2.aL λb z=>.inl (sub b z),g3.imp (λ⟨l,z⟩=>?_) id,λz=>g4 (.inl (.inl z))⟩;rcases Wj.mp z with z | z
   ·cases z; exact absurd (.inr rfl) g4
   ·exact⟨l,z⟩
 ·rcases ne j _ q1 with ⟨z,_⟩ | ⟨hj,z1⟩ <;> rcases ne l _ q2 with ⟨z',_⟩ | ⟨hl,z2⟩
  ·rw[z,z']
  ·subst z; rw[dD] at s1; cases s1; exact absurd rfl (EF l _ _ z2 s2)
  ·subst z'; rw[dD] at s2; cases s2; exact absurd rfl (EF j _ _ z1 s1)
  ·exact k'.inj j l b e e' z1 z2 s1 s2
 ·rcases own b z with z | z
  ·subst z; exact .inl hO
  ·exact g.own b z
end
def kX(j m:Nat)(t:Tx)(g:DG)(b:DS):Tx->List D->Dl->Rs (List D)
 | [],xs,δ=>.ok xs δ
 | ch :: r,xs,δ=>match g (.pure (.str [ch])) δ with
  | none=>.stuck
  | some δ1=>(b δ1).bind λfl δ2=>match fl,δ2[j]?,δ2[m]? with
   | .next,some (some (.pure (.str t'))),some (some (.pure (.int n)))=>if t'=t/\0<=n then match xs[n.toNat]? with
    | some (.int q)=>kX j m t g b r (xs.set n.toNat (.int (q + 1))) δ2
    | _=>.stuck else .stuck
   | _,_,_=>.stuck
def nN(i j m:Nat)(f1 fi:DE)(g:DG)(b:DS):DS:=λδ=>if mf δ i then(f1 δ).bind λr δ1=>match r,δ1[i]?,δ1[j]? with
 | .own (.lst xs),some (some (.own (.aw ds))),some (some (.pure (.str t)))=>if ds.length < Wc then
   (fi (δ1.set i none)).bind λz δ2=>match z with
    | .pure (.str tx)=>(kX j m t g b tx xs δ2).bind λjz δ3=>.ok .next (δ3.set i (some (.own (.aw (putD ds (.inr t) (.lst jz))))))
    | _=>.stuck
   else .stuck
 | _,_,_=>.stuck else .stuck
section
variable {X:Cx} {c:Fc}
def ON(K:W2)(i j m:Nat):TS :=
 pY (jb (iD λi j=>.int (i + j)) (jb (qj K) (jb rf (bZ i) (bZ j)) (bZ m)) (tC (.int 1))) (AM (jb rf (bZ i) (bZ j)) (bZ m) Bo)
theorem OO{i j m:Nat}{o1 o2 o3 x1 x2 x3 y2 y3 e1 iter tg:Expr}{st:Stmt}{rest:List Stmt}{f1 fi:DE}{g:DG}{b fr:DS}{p1 p2 p3 p4 p5 p6 p7 p8 p9 OP:Pos}{jj}
  (hu:X.A.units + 64 < WQ) (hp:PassesOwn (model X.prog X.w) X.A X.env X.xe) (hc:X.calm=true)
  (OQ:PE X o1 (bZ i)) (OR:PE X x1 (bZ j)) (he:SE X c e1 f1)
  (ko:PE X o2 (bZ i)) (OS:PE X x2 (bZ j)) (OT:PE X y2 (bZ m)) (xZ:PE X o3 (bZ i)) (OU:PE X x3 (bZ j)) (OV:PE X y3 (bZ m))
  (hi:∀ p d,SE X ((c.plus p).cS i d) iter fi) (hg:∀ p d,SG X ((c.plus p).cS i d) tg g) (hb:∀ p d,SS X ((c.plus p).cS i d) st b) (hr:iN X c rest fr)
  (n2:om x2) (n3:om x3) (m2:om y2)
  (OW:Jq e1 (some (.Subscript o1 x1 p1)) p2.line X.env=pure false:=by rfl)
  (nt:∀ x,QQ iter X.env x=pure x:=by intro _; rfl)
  (ha:∀ v,assign (.Subscript (.Subscript o3 x3 p7) y3 p8) X.env v=(do
   let ov <- holding [v] (eval (.Subscript o3 x3 p7) X.env)
   let iv <- holding [v,ov] (eval y3 X.env)
   standAt p8
   holding [v,ov,iv] (setItem ov iv v)
   release [v,ov,iv] []):=by intro _; rfl)
  (wb:Jr [.Subscript (.Subscript o3 x3 p7) y3 p8] (.BinOp (.Subscript (.Subscript o2 x2 p3) y2 p4) .Add (.Constant (.int 1) jj p5) p6) p9.line X.env=pure false:=by rfl)
  (OX:Js [.Subscript (.Subscript o3 x3 p7) y3 p8] (.BinOp (.Subscript (.Subscript o2 x2 p3) y2 p4) .Add (.Constant (.int 1) jj p5) p6) X.env=pure none:=by rfl)
  (h1:(Qf [.Subscript (.Subscript o3 x3 p7) y3 p8] X.env).map (·.2)=[assign (.Subscript (.Subscript o3 x3 p7) y3 p8) X.env]:=by rfl) :
  iN X c (.Assign [.Subscript o1 x1 p1] e1 p2 :: .For tg iter [st,.Assign [.Subscript (.Subscript o3 x3 p7) y3 p8] (.BinOp (.Subscript (.Subscript o2 x2 p3) y2 p4) .Add (.Constant (.int 1) jj p5) p6) p9] [] OP :: rest) (aC (nN i j m f1 fi g b) fr):=by
 have OY:PS X (.Assign [.Subscript (.Subscript o3 x3 p7) y3 p8] (.BinOp (.Subscript (.Subscript o2 x2 p3) y2 p4) .Add (.Constant (.int 1) jj p5) p6) p9) (ON X.K i j m) :=
  vo (vz AY (qh bw (qh (xw hu) ko OS n2) OT m2) Ay) (AN (qh (xw hu) xZ OU n3) OV Bp ha) wb OX h1
 refine dU.weak (so (BH (by omega) OQ OR he OW) (so (AS hp hc (Dt (tl:=λσ H Q=>∃ p d,tD ((c.plus p).cS i d) fi σ H Q) λpins s σ H Q I ⟨p,d,q⟩=>hi p d pins s σ H Q I q)
  (g:=λv σ H Q=>∃ p d,tR ((c.plus p).cS i d) g v σ H Q) (λpins s σ H v u Q I r ⟨p,d,q⟩=>hg p d pins s σ H v u Q I r q)
  (so (t:=λD σ H=>∃ p d,qJ ((c.plus p).cS i d) b D σ H) (λpins s σ H D I ⟨p,d,q⟩=>hb p d pins s σ H D I q) (AD OY)) nt) hr)) λD σ H ⟨δ,k,q⟩=>?_
 unfold aC nN fg at q;rw[ba] at q;split at q
 case isFalse=>exact q.elim
 rename_i gI;obtain⟨ds0,e0⟩:=D4 gI;obtain⟨d,ed,_,hI,nB⟩:=k.own i _ e0;have hO:Own σ δ d:=⟨i,_,e0,ed⟩
 rw[ba] at q;refine⟨δ,k,aS q λr δ1 q1 v H1 a1 r1=>?_⟩;split at q1
 case h_2=>exact q1.elim
 rename_i xs ds t eI eJ;split at q1
 case isFalse=>exact q1.elim
 rename_i hlen;obtain⟨p,ev,⟨vs,ny,rvs⟩,xY,hp0,kp1,hHp⟩:=r1;subst ev;obtain⟨d',ed',⟨ws,hws,hkeys,hvals⟩,hI',nB'⟩:=kp1.own i _ eI;rw[ed] at ed'
 cases ed';obtain⟨vt,et,rt⟩:=a1.ok.slot j _ eJ
 cases rt;have nM:d≠p:=λz=>by
  obtain⟨o,e⟩:=k.lR hO;rw[z,hHp] at e
  cases e
 have OZ:DR H1 (Av (c.plus p) σ δ1) ws ds:=DR.of hkeys hvals;have qq:ws.length < Wc:=by
  have:ws.length=ds.length:=by simpa using congrArg Jt hkeys
  omega
 refine⟨.ref d,ed,.str (toS t),et,d,_,rfl,oq.k (k:=.inr (toS t)) hws qq,?_⟩;have av:=EE (c:=c.plus p) eI ed;have EG:((c.plus p).cS i d).B d:=.inr rfl;have O0:∀ b o,H1 b=some o->¬ Av ((c.plus p).cS i d) σ (δ1.set i none) b->upd H1 d (.dK (putK ws (.inr (toS t)) (.ref p))) b=some o:=xW (.inl EG);have up:∀ {v e},Rep H1 (Av (c.plus p) σ δ1) v e->Rep (upd H1 d (.dK (putK ws (.inr (toS t)) (.ref p)))) (Av ((c.plus p).cS i d) σ (δ1.set i none)) v e:=λr=>(r.aL λb z=>.inl (av b z)).keep O0
 have G0:Gh c i p d σ δ H ws ds t σ (δ1.set i none) (upd H1 d (.dK (putK ws (.inr (toS t)) (.ref p)))) vs xs:=by
  refine⟨(kp1.OM eI ed).uI EG (.inl ⟨i,Wh⟩),cN,by rw[aQ nM.symm]; exact ny,⟨rvs.1,λn v e e1 e2=>up (rvs.2 n v e e1 e2)⟩,OZ.map λv e h=>up h,λa o e n=>?_,λa z=>?_,λa o e=>?_⟩
  ·rw[aQ λz=>n (by rw[z]; exact hO)];exact a1.keep a o e n
  ·exact a1.own a z.unset
  ·obtain⟨o',e'⟩:=a1.there a o e;by_cases ha:a=d
   ·subst ha; exact⟨_,cN⟩
   ·exact⟨o',by rw[aQ ha]; exact e'⟩
 rw[ba] at q1;refine⟨p,d,δ1.set i none,G0.ok,?_⟩;have qA:post ((c.plus p).cS i d) (fi (δ1.set i none)) _:=q1;refine aS qA λz δ2 q2 u H2 a2 r2=>?_
 split at q2
 case h_2=>exact q2.elim
 rename_i tx
 cases r2;have G2:=G0.dh a2;rw[ba] at q2;refine .inr (.inr ⟨toS tx,rfl,?_⟩);have hsz:(toS tx).cps.size=tx.length:=by simp[toS]
 refine⟨λn mm σ2 H2=>∃ δ2 vs2 xs2,mm=tx.length - n/\n<=tx.length/\Gh c i p d σ δ H ws ds t σ2 δ2 H2 vs2 xs2/\post c (kX j m t g b (tx.drop n) xs2 δ2) (λjz δ3=>post c (Rs.ok (α:=Fl) .next (δ3.set i (some (.own (.aw (putD ds (.inr t) (.lst jz))))))) λfl δ4=>post c (match fl with | .next=>fr δ4 | fl=>.ok fl δ4) λfl δ'=>∀ σ' H',aV c σ δ H σ' δ' H'->fin c D σ' δ' H' fl),⟨tx.length,δ2,vs,xs,by simp,Qn _,G2,by rw[List.drop_zero]; exact q2⟩,?_⟩;rintro n mm σ2 H2 ⟨δ2,vs2,xs2,rfl,hn,G,q3⟩;by_cases a7:n < tx.length
 ·right
  refine⟨by show n < (toS tx).cps.size; rw[hsz]; exact a7,λσ4 H4=>∃ δ4 vs4 xs4,Gh c i p d σ δ H ws ds t σ4 δ4 H4 vs4 xs4/\post c (kX j m t g b (tx.drop (n + 1)) xs4 δ4) (λjz δ3=>post c (Rs.ok (α:=Fl) .next (δ3.set i (some (.own (.aw (putD ds (.inr t) (.lst jz))))))) λfl δ4=>post c (match fl with | .next=>fr δ4 | fl=>.ok fl δ4) λfl δ'=>∀ σ' H',aV c σ δ H σ' δ' H'->fin c D σ' δ' H' fl),
   λσ4 H4 ⟨δ4,vs4,xs4,G4,q4⟩=>⟨tx.length - (n + 1),by omega,δ4,vs4,xs4,rfl,a7,G4,q4⟩,λx H3 ⟨eH,ch,ec,ex⟩=>?_⟩
  subst eH ex;have O1:tx[n]=ch:=by
   have:(toS tx).cps[n]? = some tx[n]:=by simp[toS,a7]
   rw[this] at ec;exact Wx ec
  rw[Qq a7,O1] at q3;unfold kX at q3
  cases eg:g (.pure (.str [ch])) δ2 with
  | none=>rw[eg] at q3; exact q3.elim
  | some δ3 =>
   rw[eg] at q3;refine⟨p,d,σ2,δ2,H3,δ2,.pure (.str [ch]),δ3,.refl G.ok,.str [ch],eg,λσ3 a3=>?_⟩;have G3:=G.dh a3;dsimp only at q3;rw[ba] at q3;refine⟨p,d,δ3,G3.ok,?_⟩;have O2:post ((c.plus p).cS i d) (b δ3) _:=q3;refine aS O2 λfl δ4 q4 σ4 H4 a4=>?_
   have G4:=G3.dh a4;split at q4
   case h_2=>exact q4.elim
   rename_i t' nn eJ4 eM4;split at q4
   case isFalse=>exact q4.elim
   rename_i hcond;obtain⟨rfl,h0⟩:=hcond;split at q4
   case h_2=>exact q4.elim
   rename_i qv eq;have EH:σ4[i]? = some (some (.ref d)):=G4.ok.pinned (i,d) Wh;obtain⟨v1,f1',xI⟩:=G4.ok.slot j _ eJ4
   cases xI;obtain⟨v2,f2',r2'⟩:=G4.ok.slot m _ eM4
   cases r2';obtain⟨v3,ev3,r3'⟩:=G4.rv.get eq
   cases r3';have VD:nn.toNat < vs2.length:=(W1.mp ev3).1;have EI:dW vs2.length nn=some nn.toNat:=by
    unfold dW;rw[if_pos h0,if_pos (by omega)]
   have l0:c8 vs2 nn=some (.int qv):=by
    unfold c8;rw[EI];exact ev3
   have EJ:de (putK ws (Sum.inr (toS t')) (.ref p)) (Sum.inr (toS t'))=some (.ref p):=by rw[KC,if_pos rfl]
   refine⟨.ref d,EH,.str (toS t'),f1',d,_,.inr (toS t'),.ref p,rfl,G4.hd,rfl,EJ,.int nn,f2',.inl ⟨p,vs2,nn,.int qv,rfl,rfl,.inl (.inl G4.hp),l0,qv,1,rfl,rfl,?_⟩⟩;refine⟨.ref d,EH,.str (toS t'),f1',d,_,.inr (toS t'),.ref p,rfl,G4.hd,rfl,EJ,.int nn,f2',p,vs2,nn,nn.toNat,rfl,rfl,G4.hp,EI,?_⟩;exact⟨δ4,_,_,G4.uI hHp hp0 nM (G4.rv.set (.int (qv + 1)) nn.toNat),q4⟩
 ·left
  have pV:n=tx.length:=by omega
  subst pV;rw[List.drop_length] at q3;refine⟨hsz.symm,?_⟩;have aF:=G.done hI nB hO xY nM;exact⟨_,aF.ok,aS q3 λfl δ' q5 σ' H' a5=>q5 σ' H' (aF.trans a5)⟩
end
section
variable {X:Cx} {c:Fc} {σ:St} {δ:Dl} {H:Hp} {x y:Nat} {a:Addr} {d:D}
end
end DV
namespace PySem.ZW
open Sem (wp)
section
variable {prog:Wm} {w:Ws} {A:Wt} {E:Value->W3->Prop} {s:W3} {z TI TO i1 i2 l1 l2 a:Addr} {f:Bool} {oa:Obj} {k:Nat} {xs ys:Array Value} {x y:Value}
end
end PySem.ZW
namespace PySem.ZW
open Sem (wp)
section
variable {prog:Wm} {w:Ws} {A:Wt} {E:Value->W3->Prop} {s:W3} {z TI TO i1 i2 l1 l2 S:Addr} {xs ys:Array Value} {R:Result->W3->Prop} {res:Value}
end
end PySem.ZW
namespace PySem.ZW
open Sem (wp)
section
variable {prog:Wm} {w:Ws} {A:Wt} {E:Value->W3->Prop} {s:W3} {z TI TO i1 i2 l1 l2:Addr} {xs ys:Array Value}
end
end PySem.ZW
namespace L2
open PySem PySem.Spec PyProof.Rows
section
variable {X:Cx} {a b:Expr} {ta:TA} {pp pos xU xV:Pos} {elts:List Expr} {ctx:Nat} {tp:Pos}
end
end L2
namespace DV
open PySem PySem.Spec PyProof.Rows L2
section
variable {X:Cx} {c:Fc} {a b:Expr} {f g:DE} {pp pos xU xV:Pos} {elts:List Expr} {ctx:Nat} {tp:Pos}
end
section
variable {X:Cx}
theorem O3 (hc:X.calm=true):er X (.builtin "sum") (λxs H Q=>∃ (a:Addr) (ns:List Int),xs=[.ref a]/\cq X.K H a (ns.map V.int)/\Q (.int ns.sum) H):=by
 intro pins s σ H xs us Q I r h;obtain⟨a,ns,rfl,hq,q⟩:=h;obtain⟨u,rfl,ru⟩:=gY r
 cases ru;obtain⟨ae,r',p,_⟩:=I.list hq;obtain⟨ys,rfl,rfl⟩:=qu r';have hl:=p.isList;have el:(ys.map λp=>Value.int p.1 p.2).toArray=intItems ys.toArray:=by simp[intItems]
 rw[el] at hl;refine sum_intListG (I.ok.hd hc) hl λh' tk t' hk=>?_
 refine⟨.int (ys.map (·.1)).sum,H,I.kept hk,⟨t',by rw[preSum_eq,Jm (by simp)]⟩,q⟩
end
def jA:D->Option S
 | .lst ds=>match j5 ds with
  | some ns=>some (.pure (.int ns.sum))
  | _=>none
 | _=>none
section
variable {X:Cx} {c:Fc} {e:Expr} {fb:BE} {pos pp:Pos}
theorem x5 (hc:X.calm=true) (hg:Gl X "sum") (hm:X.mg "sum" = none) (he:SB X c e fb) (hs:Wk [e] X.env=(false,eval e X.env) :: Wk [] X.env:=by rfl):SE X c (.Call (.Name "sum" pp) [e] [] pos) (aO jA fb) :=
 qG (r:=λv H Q=>∃ (a:Addr) (ns:List Int),v = .ref a/\cq X.K H a (ns.map V.int)/\Q (.int ns.sum) H) (O3 hc) (λv H Q ⟨a,bs,e,h⟩=>⟨a,bs,by rw[e],h⟩) (λc σ δ H x d s Q k rx hp q=>by
  cases d with
  | lst ds =>
   simp only[jA] at hp
   cases e:j5 ds with
   | none=>rw[e] at hp; cases hp
   | some bs =>
    rw[e] at hp;simp only[W8] at hp;subst hp;obtain⟨a,vs,ea,ha,ra⟩:=rx.lst;have:=D6 e ra;subst this;exact⟨a,bs,ea,.inl ha,q _ H (.refl k) (.int _)⟩
  | _=>simp[jA] at hp) hg hm PyProof.Rows.boot_sum he (by decide) (by decide) hs
end
def mv(i j:Int):Bool:=decide (Jw i<=67108864) && decide (Jw j<=67108864)
theorem kY:bx X (Qc .Mult) (rI (λi j=>mv i j=true) λi j=>.int (i * j)):=mT λi j _ _ _ _ _ hc q=>by
 have hc:mv i j=true:=hc;unfold mv at hc;simp only[Wv,decide_eq_true_eq] at hc;exact PyProof.Rows.mul_int q (IntMulOk.of_le hc.1 hc.2 (by decide))
def dE:=eC mv λi j=>.int (i * j)
theorem kZ:b9 (rI (λi j=>mv i j=true) λi j=>V.int (i * j)) dE:=nq (λi j h=>h) λ_ _ _ _=>.int _
theorem O4{n k:Nat}(h:n < 2 ^ k):Jw (n:Int)<=k:=by
 unfold Jw;split
 ·exact Qn _
 ·rename_i h0;have hn:n≠0:=by simpa using h0
  have:=(Nat.log2_lt hn).mpr h;have e:(n:Int).natAbs=n:=rfl;rw[e];omega
end DV
namespace L2
open PySem PySem.Spec PyProof.Rows
section
variable {P:Wm} {w:Ws} {K:W2} {mg:Str->Option Value} {base:Heap}
end
section
variable {X:Cx} {pins:List (Addr×Obj)} {σ:St} {H:Hp} {s:W3} {fa:Addr} {qual:Str} {params:Arguments} {body:Expr} {scope:Scope} {cl:List (Str×Addr)} {fr:List Str} {fv:List V} {p:Str} {u:Value} {v:V} {k:Nat} {t:TE} {Q:VK}
end
end L2
namespace DV
open PySem PySem.Spec PyProof.Rows L2
section
variable {c:Fc} {σ:St} {δ:Dl} {H H':Hp}
end
end DV
namespace L2
open PySem PySem.Spec PyProof.Rows
theorem EK:∀ {kvs:List (Key×V)} {vs:List (Key×Value)} {us:List Value},KV kvs vs->us.length=vs.length->(∀ (j:Nat) v,us[j]? = some v->∃ k x,vs[j]? = some (k,x)/\(cH P w).is k v=true)->Vals (kvs.map λp=>kV p.1) us
 | [],_,[],.nil,_,_=>.nil
 | [],_,_ :: _,.nil,h,_=>by simp at h
 | p :: r,_,[],.cons _ _,h,_=>by simp at h
 | p :: r,q :: vs,u :: us,.cons h1 h2,hl,hk=>by
  refine .cons ?_ (EK h2 (by simpa using hl) λj v e=>by simpa using hk (j + 1) v (by simpa using e));obtain⟨k,x,e,z⟩:=hk 0 u rfl;simp at e;rw[vj] at z;rcases gU z with ⟨i,t,e1,e2⟩ | ⟨y,t,e1,e2⟩
  ·show RelV (kV p.1) u;rw[h1.1,e];subst e1;exact⟨t,e2⟩
  ·show RelV (kV p.1) u;rw[h1.1,e];subst e1;exact⟨t,e2⟩
theorem O5 (hc:X.calm=true):er X (.type "list") (λxs H Q=>∃ a kvs,xs=[V.ref a]/\H a=some (.dK kvs)/\∀ l,H l=none->Q (.ref l) (upd H l (.lst (kvs.map λp=>kV p.1)))):=by
 intro pins s σ H xs us Q I r h;obtain⟨a,kvs,rfl,ha,q⟩:=h;obtain⟨u,rfl,ru⟩:=gY r
 cases ru;obtain⟨z,lo,vs,kv,hD⟩:=I.aG a _ ha;obtain⟨ep,l0⟩:=hD.dictAt;have hl:kvs.length=vs.length:=Paired.length kv;refine PySem.W.kdl_call (PySem.W.kdl_dict (knd:=cH X.prog X.w) (kvs:=vs) (ep:=ep) lo) (I.ok.hd hc) l0 (by omega) λh' tk acc c' kp e EL=>?_
 have hv:Vals (kvs.map λp=>kV p.1) acc.toList:=EK (P:=X.prog) (w:=X.w) kv (by simp[EL.1]) λj v e=>EL.2 j v (by simpa using e)
 exact⟨.ref s.heap.objs.size,_,I.laid (t':=tk) kp (Wf _) (show bP X.prog X.w _ h' _ (.lst _) from⟨by simpa using z,acc.toList,c',hv,by simpa using e⟩),rfl,q _ (I.aG.fresh (Wf _))⟩
end L2
namespace DV
open PySem PySem.Spec PyProof.Rows L2
def uJ:bc->D
 | .inl i=>.int i
 | .inr x=>.str x
def uK:D->Option S
 | .aw ds=>some (.own (.lst (ds.map λp=>uJ p.1)))
 | _=>none
theorem EM:∀ {ws:List (Key×V)} {ds:List (bc×D)},ws.map (·.1)=ds.map (λp=>cD p.1)->aH H O (ws.map λp=>kV p.1) (ds.map λp=>uJ p.1)
 | [],[],_=>.nil
 | [],_ :: _,h=>by simp at h
 | _ :: _,[],h=>by simp at h
 | p :: ws,q :: ds,h=>by
  simp only[Wo,List.cons.injEq] at h;refine .cons ?_ (EM h.2);show Rep H O (kV p.1) (uJ q.1);rw[h.1]
  cases q.1 with
  | inl i=>exact .int i
  | inr x=>exact .str x
section
variable {X:Cx} {c:Fc} {e:Expr} {fb:BE} {pos pp p:Pos}
theorem O6 (hc:X.calm=true) (hg:Gl X "list") (hm:X.mg "list" = none) (he:SB X c e fb) (hs:nC e=true:=by rfl):SE X c (.Call (.Name "list" pp) [e] [] pos) (aO uK fb) :=
 tN (r:=λv H Q=>∃ a kvs,v=V.ref a/\H a=some (.dK kvs)/\∀ l,H l=none->Q (.ref l) (upd H l (.lst (kvs.map λp=>kV p.1)))) (O5 hc) (λv H Q ⟨a,kvs,e,h⟩=>⟨a,kvs,by rw[e],h⟩)
  (λc σ δ H x d s Q k rx hp q=>by
   cases d with
   | aw ds =>
    cases hp;obtain⟨a,ws,ex,ha,r1,_⟩:=rx.aw;exact⟨a,ws,ex,ha,λl hl=>q _ _ (.alloc k hl _) (bf.oy k (EM r1) hl)⟩
   | _=>simp[uK] at hp) hg hm PyProof.Rows.boot_list he (by decide) (by decide) (oN hs)
end
end DV
namespace L2
open PySem PySem.Spec PyProof.Rows
section
variable {X:Cx} {pins:List (Addr×Obj)} {σ:St} {H:Hp} {s:W3} {params:Arguments} {body:Expr} {scope:Scope} {pos:Pos} {cl:List (Str×Addr)} {c P:Addr} {fr:List Str} {fv:List V} {js:List Nat} {Q:Value->W3->Prop} {E:Value->W3->Prop}
end
end L2
namespace DV
open PySem PySem.Spec PyProof.Rows L2
abbrev x8:=List (Addr×Pos×Str)
section
variable {P:Wm} {w:Ws} {K:W2} {mg:Str->Option Value} {base:Heap}
end
section
variable {P:Wm} {w:Ws} {K:W2} {mg:Str->Option Value} {base:Heap}
end
section
variable {X:Cx} {c:Fc} {e:Expr} {es:List Expr} {as:List Ak} {k n:Nat} {x:Str} {G:DF} {pp pos:Pos} {ts:x8}
end
section
variable {X:Cx} {c:Fc} {e:Expr} {fe fb:DE} {params:Arguments} {body:Expr} {scope:Scope} {VE pos pp:Pos} {P code:Addr} {cl:List (Str×Addr)} {fr:List Str} {js:List Nat} {p x:Str} {kl kw m:Nat} {VF:Addr->(D->Option D)->DS} {W:(D->Option D)->D->Option D} {ts:x8}
end
open PySem (sizeLine)
section
variable {P:Wm} {w:Ws} {K:W2} {mg:Str->Option Value} {base:Heap}
end
section
variable {X:Cx} {c:Fc} {e:Expr} {es:List Expr} {as:List Ak} {k n:Nat} {x:Str} {G:DX} {pp pos:Pos} {ts:x8}
end
def j8(np:List Nat)(i j:Nat)(f:Dl->Rs (List D)):DS:=λδ=>if np.contains i || np.contains j then .stuck else(f δ).bind λds δ1=>match ds with
 | [d,e]=>.ok .next ((δ1.set i (some (.pure d))).set j (some (.pure e)))
 | _=>.stuck
theorem x9{kt k2 pt2}(hp:Np c np)(hc:X.calm=true)(hN:X.N.Nodup)(hi:X.N[i]? = some x)(hj:X.N[j]? = some y)(pZ:i≠j)
  (hx:X.env.scope.names.lookup x=some .local) (hy:X.env.scope.names.lookup y=some .local) (ha:SA X c [a,b] f)
  (hw:Js [.Tuple [.Name x px,.Name y py] kt pt] (.Tuple [a,b] k2 pt2) X.env=pure (some [x,y]):=by rfl)
  (hs:Jr [.Tuple [.Name x px,.Name y py] kt pt] (.Tuple [a,b] k2 pt2) pos.line X.env=pure false:=by rfl) :
  SS X c (.Assign [.Tuple [.Name x px,.Name y py] kt pt] (.Tuple [a,b] k2 pt2) pos) (j8 np i j f):=PS.weak (HZ hc hN hi hj pZ hx hy ha.pa hw hs) λD σ H ⟨δ,k,q⟩=>by
 unfold j8 at q;split at q
 ·exact q.elim
 ·rename_i au;simp only[Bool.or_eq_true,not_or,Bool.not_eq_true] at au;have ne:∀ (l:Nat),np.contains l=false->∀ p ∈ c.pin,p.1≠l:=λl hl p wA z=>by
   have:=hp p wA;rw[z,hl] at this
   cases this
  unfold fg at q;rw[ba] at q;refine⟨δ,k,aS q λds δ1 q1 vs H1 a1 r1=>?_⟩;match ds,q1,r1 with
  | [],q1,_=>exact q1.elim
  | [_],q1,_=>exact q1.elim
  | _ :: _ :: _ :: _,q1,_=>exact q1.elim
  | [d,e],q1,r1 =>
   match vs,r1 with
   | [],r1=>exact absurd r1.1 (by simp)
   | [_],r1=>exact absurd r1.1 (by simp)
   | _ :: _ :: _ :: _,r1=>exact absurd r1.1 (by simp)
   | [v,w],r1 =>
    have x0:=Ok.set (i:=i) (v:=v) (r:=.pure d) (aV.refl a1.ok) r1.head (ne i au.1);have x1:=Ok.set (i:=j) (v:=w) (r:=.pure e) (a1.trans x0) (Rep.dh r1.tail.head x0) (ne j au.2);exact⟨v,w,rfl,q1 _ H1 x1⟩
end DV
namespace L2
open PySem PySem.Spec PyProof.Rows
section
variable {X:Cx} {pins:List (Addr×Obj)} {σ:St} {H:Hp} {s:W3} {a:Addr} {kvs:List (Key×V)} {k:Key} {u:Value} {A:Wt} {E:Value->W3->Prop}
end
section
variable {X:Cx} {o e f:Expr} {apos bA:Pos} {td ty tx:TE}
end
end L2
namespace DV
open PySem PySem.Spec PyProof.Rows L2
section
variable {X:Cx} {c:Fc} {e:Expr} {fe:DE} {pos:Pos}
end
section
variable {X:Cx}
def EN(K:W2)(neg:Bool):R2:=λx y H Q=>∃ p vs ds d,y = .ref p/\cq K H p vs/\aH H cO vs ds/\Rep H cO x d/\flat 49 d=true/\(∀ e ∈ ds,flat 49 e=true)/\Q (.bl (if neg then !ds.any (λe=>aA e d) else ds.any (λe=>aA e d))) H
theorem O7(hu:X.A.units + 64 < WQ)(I:L2.Inv X pins σ H s)(rx:RelV x v)(r1:Rep H cO x d)(f1:flat 49 d=true)(rv:Vals vs ae)(rs:aH H cO vs ds)(fs:∀ e ∈ ds,flat 49 e=true) :
  ∃ e:Value->Bool,(∀ y ∈ ae.toArray,SeqAt.EqAt X.A.in1 s y v (e y))/\ae.toArray.any e=ds.any (λe=>aA e d):=by
 have pre:=wq I (A:=X.A) 50 (by omega);obtain⟨_,it⟩:=pre;have lv:=rv.length;have at_:∀ (i:Nat) (y:Value) (e:D),ae[i]? = some y->ds[i]? = some e->SeqAt.EqAt X.A.in1 s y v (aA e d):=λi y e h1 h2=>by
  have hi:i < vs.length:=by rw[rs.1]; exact(W1.mp h2).1
  have hv:vs[i]? = some vs[i]:=W5 hi;obtain⟨y',e1,ry⟩:=rv.get hv;rw[h1] at e1
  cases e1;exact it _ _ _ _ _ _ _ (show X.A.units + 1 + 49 + 1 < WQ by omega) (fs e (WE h2)) f1 (rs.2 i _ _ hv h2) r1 ry rx
 have dec:∀ p:Prop,Decidable p:=Classical.propDecidable;refine⟨λy=>decide (∃ (i:Nat) (e:D),ae[i]? = some y/\ds[i]? = some e/\aA e d=true),λy hy=>?_,?_⟩
 ·have je:y ∈ ae:=by simpa using hy
  obtain⟨i,h1⟩:=J7 je;have hi:i < ds.length:=by
   have:=(W1.mp h1).1;rw[<- rs.1,lv]; exact this
  have h2:ds[i]? = some ds[i]:=W5 hi;by_cases q:∃ (i:Nat) (e:D),ae[i]? = some y/\ds[i]? = some e/\aA e d=true
  ·obtain⟨j,e,q1,q2,q3⟩:=id q;have:=at_ j y e q1 q2;rw[q3] at this;show SeqAt.EqAt X.A.in1 s y v (decide _);rw[decide_eq_true q];exact this
  ·have:=at_ i y _ h1 h2;have hf:aA ds[i] d=false:=by
    cases z:aA ds[i] d with
    | false=>rfl
    | true=>exact absurd ⟨i,_,h1,h2,z⟩ q
   rw[hf] at this;show SeqAt.EqAt X.A.in1 s y v (decide _);rw[decide_eq_false q];exact this
 ·rw[Jk,List.any_eq_true];simp only[List.any_toArray,List.any_eq_true,decide_eq_true_eq];constructor
  ·rintro ⟨y,_,i,e,h1,h2,h3⟩;exact⟨e,WE h2,h3⟩
  ·rintro ⟨e,he,h3⟩;obtain⟨i,h2⟩:=J7 he;have hi:i < ae.length:=by
    rw[<- lv,rs.1]; exact(W1.mp h2).1
   have h1:ae[i]? = some ae[i]:=W5 hi;exact⟨ae[i],Qk hi,i,e,h1,h2,h3⟩
theorem O8(hu:X.A.units + 64 < WQ):bx X (WM .NotIn) (EN X.K true):=by
 intro pins s σ H x y v u Q I rx ry h;obtain⟨p,vs,ds,d,rfl,hq,rs,r1,f1,fs,q⟩:=h
 cases ry;obtain⟨ae,r,pl,hz⟩:=I.list hq;obtain⟨e,h1,h2⟩:=O7 hu I rx r1 f1 r rs fs;refine SeqAt.notIn_listAt e pl.isList h1 ⟨.bl _,H,I,rfl,?_⟩;rw[h2];exact q
def mw(neg:Bool)(x y:D):Option S:=match y with
 | .lst ds=>if flat 49 x && ds.all (flat 49) then some (.pure (.bl (if neg then !ds.any (λe=>aA e x) else ds.any (λe=>aA e x)))) else none
 | _=>none
theorem O9{K:W2}(neg:Bool):b9 (EN K neg) (mw neg):=by
 intro c σ δ H x y d e s Q k rx ry hp q
 cases e <;> first | (simp[mw] at hp; done) | skip
 rename_i ds;simp only[mw] at hp;split at hp
 ·rename_i hf
  cases hp;simp only[Wv,WY] at hf;obtain⟨a,vs,ea,ha,r⟩:=ry.lst;exact⟨a,vs,ds,d,ea,.inl ha,aH.aL r (λ_ z=>z.elim),rx.un,hf.1,hf.2,q _ H (.refl k) (.bl _)⟩
 ·cases hp
end
end DV
namespace L2
open PySem PySem.Spec PyProof.Rows PySem.SeqAt DV
open Classical in
noncomputable def fnI (ae:List Value) (ds:List D) (d:D) (y:Value):Bool:=decide (∃ (i:Nat) (e:D),ae[i]? = some y/\ds[i]? = some e/\aA e d=true)
section
variable {X:Cx}
end
end L2
namespace DV
open PySem PySem.Spec PyProof.Rows L2
def mx:D->Option S
 | .int i=>some (.pure (.int (if i < 0 then -i else i)))
 | _=>none
section
variable {X:Cx} {c:Fc} {o e:Expr} {fa fb:DE}
theorem EO {fb:BE} {pp pos:Pos} (hg:Gl X "abs") (hm:X.mg "abs" = none) (he:SB X c e fb) (hs:Wk [e] X.env=(false,eval e X.env) :: Wk [] X.env:=by rfl):SE X c (.Call (.Name "abs" pp) [e] [] pos) (aO mx fb) :=
 qG (r:=λv H Q=>∃ i,v = .int i/\Q (.int (if i < 0 then -i else i)) H) ID (λv H Q ⟨i,e,h⟩=>⟨i,by rw[e],h⟩) (λc σ δ H x d s Q k rx hp q=>by
  cases d with
  | int i =>
   simp only[mx,W8] at hp;subst hp;exact⟨i,rx.int,q _ H (.refl k) (.int _)⟩
  | _=>simp[mx] at hp) hg hm PyProof.Rows.boot_abs he (by decide) (by decide) hs
end
def uL:=eC (λ_ j=>decide (j≠0)) λi j=>.int (i.fmod j)
theorem O_:b9 (rI (λ_ j=>j≠0) λi j=>V.int (i.fmod j)) uL:=nq (λi j h=>by simpa using h) λ_ _ _ _=>.int _
def k6:Nat:=2 ^ 8000
def ER(_ j:Int):Prop:=j≠0/\j.natAbs < k6
theorem oY:bx X (Qc .FloorDiv) (rI ER λi j=>.int (i.fdiv j)):=mT λi j _ _ _ _ _ hc q=>by
 have h1:j≠0:=hc.1;have h2:j.natAbs < 2 ^ 8000:=hc.2;have h3:=(Nat.log2_lt (by omega:j.natAbs≠0)).mpr h2;exact floordiv_int h1 q (.inl (PyProof.noPylong_of_log2 (by omega)))
def rz(_ j:Int):Bool:=decide (j≠0) && decide (j.natAbs < k6)
def gk:=eC rz λi j=>.int (i.fdiv j)
theorem oZ:b9 (rI ER λi j=>V.int (i.fdiv j)) gk:=nq (λi j h=>by
 unfold rz at h;simp only[Wv,decide_eq_true_eq] at h;exact h) λ_ _ _ _=>.int _
theorem Pa(i j:Int)(h:j≠0):uL (.int i) (.int j)=some (.pure (.int (i.fmod j))):=by
 show(if decide (j≠0) then some (S.pure (.int (i.fmod j))) else none)=_;rw[decide_eq_true h]; rfl
theorem o9(i j:Int)(h:j≠0)(h1:j.natAbs < k6):gk (.int i) (.int j)=some (.pure (.int (i.fdiv j))):=by
 show(if rz i j then some (S.pure (.int (i.fdiv j))) else none)=_;have:rz i j=true:=by unfold rz; rw[decide_eq_true h,decide_eq_true h1]; rfl
 rw[this]; rfl
def o_(i:Nat):DE:=λδ=>match δ[i]? with
 | some (some (.own (.lst ds)))=>(match ds[ds.length - 1]? with
  | some d=>.ok (.pure d) (δ.set i (some (.own (.lst ds.dropLast))))
  | none=>.stuck)
 | _=>.stuck
theorem aH.dropLast(h:aH H O vs ds):aH H O vs.dropLast ds.dropLast:=by
 rw[List.dropLast_eq_take,List.dropLast_eq_take,h.1];exact h.take _
theorem Pb(ho:PE X o (bZ i))
  (g7:Qv o "pop" X.env (eval o X.env)=eval o X.env:=by rfl) (dX:(apos.endLine == bA.line)=true:=by rfl):SE X c (.Call (.Attribute o "pop" apos) [] [] bA) (o_ i) :=
 PE.weak (Ku PySem.F.plainAttrs_list PySem.F.slot_list_pop PySem.F.type_list_pop Kz ho g7 dX) λσ H Q ⟨δ,k,q⟩=>by
  unfold o_ at q;split at q
  ·rename_i ds e0;split at q
   ·rename_i d e1;obtain⟨a,ea,oa,_⟩:=k.own i _ e0;obtain⟨vs,ha,ra⟩:=id oa;have hl:vs.length=ds.length:=ra.1;obtain⟨y,hy,ry⟩:=ra.get e1;have A2:=Ok.wX k e0 ea ra.dropLast;refine⟨.ref a,ea,.inl ⟨rfl,vs,.of ha⟩,a,vs,y,rfl,rfl,ha,by rw[hl]; exact hy,q y _ A2 (Rep.dh ry A2)⟩
   ·exact q.elim
  ·exact q.elim
end DV
namespace L2
open PySem PySem.Spec PyProof.Rows PySem.SeqAt
mutual
def k7:NK->Nat
 | .i _=>1
 | .s _=>1
 | .t ks=>iX ks + 1
def iX:List NK->Nat
 | []=>0
 | k :: ks=>k7 k + iX ks
end
inductive dw (h:Heap):Nat->NK->Value->Prop
 | int {n:Nat} (z:Int) (t:Tok):dw h n (.i z) (.int z t)
 | bl {n:Nat} (b:Bool):dw h n (.i (if b then 1 else 0)) (.bool b)
 | str {n:Nat} (x:Str) (t:Tok):dw h n (.s x) (.str x t)
 | tup {n:Nat} {a:Addr} {ae:Array Value} {ks:List NK}:h.IsTuple a ae->ks.length=ae.toList.length->(∀ (i:Nat) k v,ks[i]? = some k->ae.toList[i]? = some v->dw h n k v)->dw h (n + 1) (.t ks) (.ref a)
section
variable {h h':Heap} {n:Nat}
theorem Pc{α β:Type}{xs ys:List α}{vs:List β}(h1:xs.length=vs.length)(h2:ys.length=vs.length)(q:∀ (i:Nat) x y v,xs[i]? = some x->ys[i]? = some y->vs[i]? = some v->x=y):xs=ys:=by
 apply List.ext_getElem (by omega);intro i a b;exact q i _ _ vs[i] (W5 a) (W5 b) (W5 (by omega))
theorem dw.inj{x:NK}{v:Value}(r:dw h n x v):∀ {m:Nat} {y:NK},dw h m y v->x=y:=by
 induction r with
 | int z t=>intro m y k; cases k; rfl
 | bl b=>intro m y k; cases k; rfl
 | str x t=>intro m y k; cases k; rfl
 | @tup n a ae ks h1 h2 h3 ih =>
  intro m y k
  cases k with
  | @tup m _ its' ks' k1 k2 k3 =>
   obtain⟨o,e,c,q,d⟩:=h1;obtain⟨o',e',c',q',d'⟩:=k1;rw[e] at e'; cases e'
   rw[d] at d'; cases d'
   rw[Pc h2 k2 λi x y v e1 e2 e3=>ih i x v e1 e3 (k3 i y v e2 e3)]
theorem dw.kept(r:dw h n x v)(k:∀ b ae,h.IsTuple b ae->h'.IsTuple b ae):dw h' n x v:=by
 induction r with
 | int z t=>exact .int z t
 | bl b=>exact .bl b
 | str x t=>exact .str x t
 | tup h1 h2 h3 ih=>exact .tup (k _ _ h1) h2 ih
theorem dw.up(r:dw h n x v):∀ {m:Nat},n<=m->dw h m x v:=by
 induction r with
 | int z t=>intro m _; exact .int z t
 | bl b=>intro m _; exact .bl b
 | str x t=>intro m _; exact .str x t
 | tup h1 h2 h3 ih =>
  intro m l;obtain⟨m,rfl⟩:∃ m',m=m' + 1:=⟨m - 1,by omega⟩
  exact .tup h1 h2 λi k v e1 e2=>ih i k v e1 e2 (by omega)
end
section
variable {prog:Wm} {w:Ws} {E:Value->W3->Prop}
theorem Pd(h:Q (hashInt (if b then 1 else 0)) { s with toks:=s.toks + 1 }):We (model prog w) A (PySem.pyHash (.bool b)) Q E s:=by
 have z:reduceHash (if b then 1 else 0)=hashInt (if b then 1 else 0):=by cases b <;> decide +kernel
 refine PySem.W.pyHash_slot (id:="int.__hash__") (T:="bool") (hT:=rfl) (slot:=F.slot_bool_hash) (entry:=entry_int_hash) (args:=args_int_hash _) (hid:=beq_builtin_none _) (hu:=.inl rfl) (body:=?_)
 cases b
 ·exact(show We _ _ (mkInt 0 >>= λv=>ret v) _ _ _ from W0 (wpAny_mkInt (W7 ⟨_,_,rfl,z ▸ h⟩)))
 ·exact(show We _ _ (mkInt 1 >>= λv=>ret v) _ _ _ from W0 (wpAny_mkInt (W7 ⟨_,_,rfl,z ▸ h⟩)))
theorem ES(w:Ws):∀ ks:List NK,r8 w ks=ks.map (fu w)
 | []=>rfl
 | k :: ks=>by simp only[r8,Wo,ES w ks]
theorem ET:∀ xs ys:List NK,iX (xs ++ ys)=iX xs + iX ys
 | [],ys=>by simp[iX]
 | x :: xs,ys=>by simp only[List.cons_append,iX,ET xs ys]; omega
theorem dw.pyHash(r:dw h n k v):∀ {A:Wt} {s:W3} {Q:Int->W3->Prop},s.heap=h->A.units + n < WQ->Q (fu w k) { s with toks:=s.toks + k7 k }->We (model prog w) A (PySem.pyHash v) Q E s:=by
 induction r with
 | int z t=>intro A s Q _ _ q; exact wpAny_pyHash_int q
 | bl b=>intro A s Q _ _ q; exact Pd q
 | str x t=>intro A s Q _ _ q; exact wpAny_pyHash_str q
 | @tup n a ae ks h1 h2 h3 ih =>
  intro A s Q hs hu q;subst hs;obtain⟨o,ho,hc,m,hd⟩:=id h1;have hT:s.TypeIs (.ref a) "tuple":=⟨o,ho,hc⟩
  refine PySem.W.pyHash_slot (T:="tuple") hT F.slot_tuple_hash F.entry_tuple_hash (F.args_tuple_hash_1 _) (beq_builtin_none _) (.inr (by omega)) ?_;show We _ _ (Builtin.Tuple.tupleItemsOf (.ref a) >>= _) _ _ s;refine W0 (wpAny_tupleItemsOf ho hd ?_);refine W0 ?_;rw[<- Array.forIn_toList];refine wpAny_forIn_list _ (λrest (b:Array Int) s'=>∃ i,i<=ks.length/\rest=ae.toList.drop i/\b.toList=(ks.take i).map (fu w)/\s' = { s with toks:=s.toks + iX (ks.take i) })
   _ ?_ ?_ _ _ ⟨0,Qn _,rfl,rfl,by simp[iX]⟩
  ·rintro x rest b s' ⟨i,hi,hr,hb,rfl⟩;have a7:i < ae.toList.length:=by
    rcases Nat.lt_or_ge i ae.toList.length with z | z
    ·exact z
    ·rw[List.drop_eq_nil_of_le z] at hr; cases hr
   rw[Qq a7] at hr;injection hr with hx hr
   have l_:i < ks.length:=by omega
   refine W0 (ih i ks[i] x (W5 l_) (by rw[hx]; exact W5 a7) rfl (show A.units + 1 + n < WQ by omega) ?_);have ht:ks.take (i + 1)=ks.take i ++ [ks[i]]:=by rw[List.take_succ,W5 l_]; rfl
   have fin:∃ j,j<=ks.length/\rest=ae.toList.drop j/\(b.push (fu w ks[i])).toList=(ks.take j).map (fu w)/\({ s with toks:=s.toks + iX (ks.take i) + k7 ks[i] }:W3) = { s with toks:=s.toks + iX (ks.take j) }:=by
    refine⟨i + 1,l_,hr,by rw[ht,WV,Array.toList_push,hb]; rfl,?_⟩;rw[ht,ET];simp only[iX];rw[Nat.add_zero,Nat.add_assoc]
   first
    | exact W7 fin
    | exact W0 (W7 (W7 fin))
  ·rintro b s' ⟨i,hi,hr,hb,rfl⟩;have hz:i=ks.length:=by
    have:=congrArg Jt hr;simp at this;simp at h2;omega
   subst hz;rw[List.take_length] at hb ⊢;show We _ _ (retInt (Builtin.Tuple.tupleHashOf b.toList)) _ _ _;rw[hb];refine W0 (wpAny_mkInt (W7 ⟨_,_,rfl,?_⟩));simp only[fu,k7,ES] at q;simpa[Nat.add_assoc] using q
theorem dw.quiet(r:dw s.heap n k v):∀ {A:Wt} {m:Nat} {Q:Bool->W3->Prop},n<=m->Q true s->We (model prog w) A (eqIsQuiet m v) Q E s:=by
 induction r with
 | int z t=>intro A m Q _ q; rw[eqIsQuiet_byValue _ rfl]; exact W7 q
 | bl b=>intro A m Q _ q; rw[eqIsQuiet_byValue _ rfl]; exact W7 q
 | str x t=>intro A m Q _ q; rw[eqIsQuiet_byValue _ rfl]; exact W7 q
 | @tup n a ae ks h1 h2 h3 ih =>
  intro A m Q hm q;obtain⟨o,ho,hc,mm,hd⟩:=id h1;have hT:s.TypeIs (.ref a) "tuple":=⟨o,ho,hc⟩
  obtain⟨m,rfl⟩:∃ m',m=m' + 1:=⟨m - 1,by omega⟩
  unfold eqIsQuiet;refine W0 (wpAny_specialOf hT F.slot_tuple_eq.lookup ?_);show We _ _ (isInstance (.ref a) (.type "tuple") >>= _) _ _ s;refine W0 (wpAny_isInstance hT isSubtype_tuple_tuple ?_);simp only[Bool.not_true,Bool.false_eq_true,if_false];refine W0 (QH ho hd ?_);refine W0 ?_;show We _ _ (forIn ae _ _) _ _ s;rw[<- Array.forIn_toList];refine wpAny_forIn_list _ (λrest r s'=>r.1=none/\s'=s/\∃ i,rest=ae.toList.drop i) _ ?_ ?_ _ _ ⟨rfl,rfl,0,rfl⟩
  ·rintro x rest r s' ⟨hr,rfl,i,hi⟩;have a7:i < ae.toList.length:=by
    rcases Nat.lt_or_ge i ae.toList.length with z | z
    ·exact z
    ·rw[List.drop_eq_nil_of_le z] at hi; cases hi
   rw[Qq a7] at hi;injection hi with hx hi
   have l_:i < ks.length:=by omega
   refine W0 (ih i ks[i] x (W5 l_) (by rw[hx]; exact W5 a7) (by omega) ?_);simp only[Bool.not_true,Bool.false_eq_true,if_false];exact W7 ⟨rfl,rfl,i + 1,hi⟩
  ·rintro ⟨r1,r2⟩ s' ⟨hr,rfl,_⟩;simp only at hr;subst hr;exact W7 q
theorem my(a b:Int):decide (NK.i a=NK.i b)=(a == b):=by
 by_cases e:a=b
 ·subst e; simp
 ·rw[decide_eq_false λq=>e (NK.i.inj q)]; exact(beq_eq_false_iff_ne.mpr e).symm
theorem x_(a b:Str):decide (NK.s a=NK.s b)=(a == b):=by
 by_cases e:a=b
 ·subst e; simp
 ·rw[decide_eq_false λq=>e (NK.s.inj q)]; exact(beq_eq_false_iff_ne.mpr e).symm
theorem ya(a b:Bool):(a == b)=(((if a then 1 else 0:Int)) == (if b then 1 else 0:Int)):=by cases a <;> cases b <;> rfl
theorem Pe(he:∀ (j:Nat) x y,xs[j]? = some x->ys[j]? = some y->e j=decide (x=y)):((W4 (min xs.length ys.length)).all e && xs.length == ys.length)=decide (NK.t xs=NK.t ys):=by
 by_cases hl:xs.length=ys.length
 ·rw[<- hl,Nat.min_self];simp only[beq_self_eq_true,Bool.and_true];by_cases hx:xs=ys
  ·subst hx;rw[decide_eq_true rfl,WY];intro j hj;have:=WR.mp hj;rw[he j xs[j] xs[j] (W5 this) (W5 this)];simp
  ·rw[decide_eq_false λq=>hx (NK.t.inj q)];rw[List.all_eq_false];apply Classical.byContradiction;intro hn;apply hx;apply List.ext_getElem hl;intro j a b;apply Classical.byContradiction;intro cC;refine hn ⟨j,WR.mpr a,?_⟩;rw[he j _ _ (W5 a) (W5 b)];simpa using cC
 ·rw[decide_eq_false λq=>hl (by rw[NK.t.inj q])];simp[hl]
theorem dw.Pf(r:dw s.heap n x u):∀ {A:Wt} {m:Nat} {y:NK} {v:Value},dw s.heap m y v->A.units + n < WQ->EqAt A s u v (decide (x=y)):=by
 induction r with
 | int z t =>
  intro A m y v k hu
  cases k with
  | int z' t'=>rw[my]; exact EqAt.int_int _ _ _ _
  | bl b=>rw[my]; exact EqAt.int_bool _ _ _
  | str x t'=>rw[decide_eq_false (λq=>nomatch q)]; exact EqAt.int_str _ _ _ _
  | tup k1 k2 k3=>rw[decide_eq_false (λq=>nomatch q)]; exact EqAt.int_tuple _ _ k1 (by omega)
 | bl b =>
  intro A m y v k hu
  cases k with
  | int z' t'=>rw[my]; exact EqAt.bool_int _ _ _
  | bl b=>rw[my,<- ya]; exact EqAt.bool_bool _ _
  | str x t'=>rw[decide_eq_false (λq=>nomatch q)]; exact EqAt.bool_str _ _ _
  | tup k1 k2 k3=>rw[decide_eq_false (λq=>nomatch q)]; exact EqAt.bool_tuple _ k1 (by omega)
 | str x t =>
  intro A m y v k hu
  cases k with
  | int z' t'=>rw[decide_eq_false (λq=>nomatch q)]; exact EqAt.str_int _ _ _ _
  | bl b=>rw[decide_eq_false (λq=>nomatch q)]; exact EqAt.str_bool _ _ _
  | str x t'=>rw[x_]; exact EqAt.str_str _ _ _ _
  | tup k1 k2 k3=>rw[decide_eq_false (λq=>nomatch q)]; exact EqAt.str_tuple _ _ k1 (by omega)
 | @tup n a ae ks h1 h2 h3 ih =>
  intro A m y v k hu
  cases k with
  | int z' t'=>rw[decide_eq_false (λq=>nomatch q)]; exact EqAt.tuple_int _ _ h1 (by omega)
  | bl b=>rw[decide_eq_false (λq=>nomatch q)]; exact EqAt.tuple_bool _ h1 (by omega)
  | str x t'=>rw[decide_eq_false (λq=>nomatch q)]; exact EqAt.tuple_str _ _ h1 (by omega)
  | @tup m' b its' ks' k1 k2 k3 =>
   by_cases g_:a=b
   ·subst g_;have e:NK.t ks=NK.t ks':=dw.inj (dw.tup h1 h2 h3) (dw.tup k1 k2 k3);rw[decide_eq_true e];exact EqAt.same _
   ·refine EqAt.of_refs g_ ?_;let e:Nat->Bool:=λj=>match ks[j]?,ks'[j]? with
     | some x,some y=>decide (x=y)
     | _,_=>false
    have z1:ae.size=ks.length:=by simpa using h2.symm
    have z2:its'.size=ks'.length:=by simpa using k2.symm
    have q:=RcAt.tuples (A:=A) (s:=s) (e:=e) h1 k1 (by omega) λj j1 j2=>by
     have l1:j < ks.length:=by omega
     have l2:j < ks'.length:=by omega
     have ee:e j=decide (ks[j]=ks'[j]):=by simp only[e,W5 l1,W5 l2]
     rw[ee];exact ih j ks[j] ae[j] (W5 l1) (by simp[j1]) (k3 j ks'[j] its'[j] (W5 l2) (by simp[j2])) (show A.units + 1 + n < WQ by omega)
    rw[z1,z2,Pe λj x y e1 e2=>by simp only[e,e1,e2]] at q;exact q
end
theorem Pg{es ep}(ho:h.get? d=some o)(hd:o.data = .dict es ep)(hs:QJ d h h'):∀ b ae,h.IsTuple b ae->h'.IsTuple b ae:=λb ae ⟨o',e,c,n,q⟩=>by
 have cC:b≠d:=by
  rintro rfl;rw[e] at ho; cases ho
  rw[hd] at q; exact nomatch q
 exact⟨o',(hs.2 b cC).trans e,c,n,q⟩
noncomputable def nkKind (prog:Wm) (w:Ws):HeapKind prog w NK where
 is:=λh k a=>dw h 6 k (.ref a)
 hash:=fu w
 draws:=k7
 room:=λA=>A.units + 6 < WQ
 inj:=λhx hy=>hx.inj hy
 keeps:=λx ho hd hs=>x.kept (Pg ho hd hs)
 pyHash:=λhu hk h=>hk.pyHash rfl hu h
 eqBool:=λhu hx hy h=>hx.Pf hy hu _ _ _ _ h
 quiet:=λhk h=>hk.quiet (by omega) h
def kN:Key->NK
 | .inl z=>.i z
 | .inr x=>.s x
theorem Ph(h:kN p=kN q):p=q:=by
 cases p <;> cases q <;> first | (cases h; rfl) | cases h
def mz(h:Heap)(m:Bool)(k:NK)(u:Value):Prop:=match m with
 | true=>∃ a,u = .ref a/\dw h 6 k u
 | false=>∃ q:Key,gS q u=true/\k=kN q
theorem Pj(h1:gS p u=true)(h2:gS q u=true):p=q:=by
 rcases gU h1 with ⟨i,t,rfl,rfl⟩ | ⟨x,t,rfl,rfl⟩ <;> rcases gU h2 with ⟨j,t',rfl,e⟩ | ⟨y,t',rfl,e⟩ <;> cases e <;> rfl
def ent(w:Ws)(x:NK×Value×Value):DictEntry:=⟨fu w x.1,x.2.1,x.2.2⟩
section
variable {prog:Wm} {w:Ws} {A:Wt} {E:Value->W3->Prop} {s:W3}
theorem Pk(hu:A.units + 6 < WQ)(hk:mz s.heap m k u)(h:Q (fu w k) { s with toks:=s.toks + k7 k }):We (model prog w) A (PySem.pyHash u) Q E s:=by
 cases m with
 | true=>obtain⟨a,rfl,r⟩:=hk; exact r.pyHash rfl hu h
 | false =>
  obtain⟨q,h1,rfl⟩:=hk;refine(cH prog w).pyHash (k:=q) h1 ?_
  cases q <;> exact h
theorem EU:∀ {xs:List (NK×Value×Value)},(∀ x ∈ xs,mz h true x.1 x.2.1)->∃ ys:List (NK×Addr×Value),xs=ys.map λy=>(y.1,Value.ref y.2.1,y.2.2)
 | [],_=>⟨[],rfl⟩
 | x :: xs,q=>by
  obtain⟨ys,e⟩:=EU (xs:=xs) λy hy=>q y (W9 _ hy)
  obtain⟨a,e1,_⟩:=q x Wh;exact⟨(x.1,a,x.2.2) :: ys,by rw[Wo,<- e]; simp only[<- e1]⟩
theorem Pl{m:Bool}{k:NK}{u:Value}{d:Addr}{o:Obj}{es ep}{xs:List (NK×Value×Value)}{Q:Option Nat->W3->Prop}(hu:A.units + 6 < WQ)(hk:mz s.heap m k u)
  (ho:s.heap.get? d=some o) (hd:o.data = .dict es ep) (he:es.toList=xs.map (ent w)) (hx:∀ x ∈ xs,mz s.heap m x.1 x.2.1) (hn:(xs.map (·.1)).Nodup)
  (EV:(∀ (j:Nat) p,xs[j]?≠some (k,p))->Q none s) (EW:∀ (j:Nat) p,xs[j]? = some (k,p)->Q (some j) s):We (model prog w) A (dictFind d u (fu w k)) Q E s:=by
 cases m with
 | true =>
  obtain⟨a,rfl,r⟩:=hk;obtain⟨ys,rfl⟩:=EU hx;refine wpAny_dictFind_heap (knd:=nkKind prog w) (xs:=ys) hu r ho hd (by rw[he,Wz]; rfl) (λy hy=>?_) (by rw[Wz] at hn; exact hn) (λku=>EV λj p e=>?_) λj p e=>?_
  ·obtain⟨b,e1,e2⟩:=hx _ (Jf hy)
   cases e1;exact e2
  ·rw[Wl] at e
   cases q:ys[j]? with
   | none=>rw[q] at e; cases e
   | some y =>
    rw[q] at e;simp only[WB,W8] at e;exact ku j y.2 (by rw[q,<- show y.1=k from congrArg Prod.fst e])
  ·exact EW j (.ref p.1,p.2) (by rw[Wl,e]; rfl)
 | false =>
  obtain⟨q,h1,rfl⟩:=hk;have l7:∀ (j:Nat) e,es[j]? = some e->∃ x,xs[j]? = some x/\e=ent w x:=λj e z=>by
   rw[<- QZ,he,Wl] at z
   cases y:xs[j]? with
   | none=>rw[y] at z; cases z
   | some x=>rw[y] at z; simp only[WB,W8] at z; exact⟨x,rfl,z.symm⟩
  have ks:KeysOf (cH prog w) es:=λe qY=>by
   obtain⟨j,hj⟩:=List.mem_iff_getElem?.mp (Array.mem_toList_iff.mpr qY);obtain⟨x,e1,rfl⟩:=l7 j e (by rw[<- QZ]; exact hj);obtain⟨q',e2,e3⟩:=hx x (WE e1);refine⟨q',e2,?_⟩;show fu w x.1=_;rw[e3]
   cases q' <;> rfl
  have hh:fu w (kN q)=(cH prog w).hash q:=by cases q <;> rfl
  rw[hh];refine wpAny_dictFind_of (knd:=cH prog w) (k:=q) h1 ho hd ks ?_
  cases hf:es.findIdx? λe=>(cH prog w).is q e.key with
  | none =>
   refine EV λj p e=>?_
   have hj:j < xs.length:=(W1.mp e).1;have hz:es.size=xs.length:=by rw[<- QS,he,Q5]
   obtain⟨x,e1,e2⟩:=l7 j es[j] (by simp[hz,hj]);rw[e] at e1; cases e1
   have:=Array.findIdx?_eq_none_iff.mp hf es[j] (Array.getElem_mem _);obtain⟨q',e3,e4⟩:=hx _ (WE e);rw[Ph e4] at this;rw[e2] at this;have z:gS q' p.1=false:=this;rw[show gS q' p.1=true from e3] at z
   cases z
  | some j =>
   obtain⟨a7,hp,_⟩:=Array.findIdx?_eq_some_iff_getElem.mp hf;obtain⟨x,e1,e2⟩:=l7 j es[j] (by simp[a7]);obtain⟨q',e3,e4⟩:=hx x (WE e1);rw[e2] at hp;have:q=q':=Pj (show gS q x.2.1=true from hp) e3;subst this;exact EW j x.2 (by rw[e1,<- e4])
noncomputable def atN (xs:List (NK×Value×Value)) (k:NK):Option (Value×Value):=(xs.find? λx=>decide (x.1=k)).map (·.2)
noncomputable def stN (xs:List (NK×Value×Value)) (k:NK) (u v:Value):List (NK×Value×Value):=if (xs.any λx=>decide (x.1=k))=true then xs.map λx=>if x.1=k then(x.1,x.2.1,v) else x else xs ++ [(k,u,v)]
theorem Pm(h:∀ (j:Nat) p,xs[j]?≠some (k,p)):atN xs k=none/\(xs.any λx=>decide (x.1=k))=false:=by
 have z:∀ x ∈ xs,decide (x.1=k)=false:=λx hx=>by
  obtain⟨j,hj⟩:=List.mem_iff_getElem?.mp hx;exact decide_eq_false λe=>h j x.2 (by rw[hj,<- e])
 refine⟨?_,by rw[JJ]; exactλx hx=>by rw[z x hx]; simp⟩;unfold atN;rw[List.find?_eq_none.mpr λx hx=>by rw[z x hx]; simp];rfl
theorem EX:∀ {xs:List (NK×Value×Value)} {k:NK} {j:Nat} {p:Value×Value},(xs.map (·.1)).Nodup->xs[j]? = some (k,p)->atN xs k=some p/\(xs.any λx=>decide (x.1=k))=true
 | [],k,j,p,_,e=>by simp at e
 | x :: xs,k,j,p,hn,e=>by
  rw[Wo,List.nodup_cons] at hn
  cases j with
  | zero=>simp at e; subst e; simp[atN]
  | succ j =>
   have e':xs[j]? = some (k,p):=by simpa using e
   have cC:¬ x.1=k:=λz=>hn.1 (by rw[z]; exact Wp.mpr ⟨_,WE e',rfl⟩)
   obtain⟨h1,h2⟩:=EX hn.2 e';refine⟨?_,by rw[Qg,h2]; simp⟩;unfold atN at h1 ⊢;rw[WU,decide_eq_false cC];exact h1
theorem Pn{m:Bool}{k:NK}{u:Value}{d:Addr}{o:Obj}{es ep}{xs:List (NK×Value×Value)}{Q:Option Value->W3->Prop}(hu:A.units + 6 < WQ)(hk:mz s.heap m k u)
  (ho:s.heap.get? d=some o) (hd:o.data = .dict es ep) (he:es.toList=xs.map (ent w)) (hx:∀ x ∈ xs,mz s.heap m x.1 x.2.1) (hn:(xs.map (·.1)).Nodup)
  (h:Q ((atN xs k).map (·.2)) { s with toks:=s.toks + k7 k }):We (model prog w) A (dictGet d u) Q E s:=by
 unfold dictGet;try with_reducible refine Ql ?_
 refine W0 (Pk hu hk (W0 (Pl (s:={ s with toks:=s.toks + k7 k }) hu hk ho hd he hx hn ?_ ?_)))
 ·intro ku;rw[(Pm ku).1] at h;exact W7 h
 ·intro j p hj;rw[(EX hn hj).1] at h;refine W0 (JM (s:={ s with toks:=s.toks + k7 k }) ho hd ?_);rw[<- QZ,he,Wl,hj];exact W7 h
end
inductive k8 (H:Hp):Nat->NK->V->Prop
 | int {n:Nat} (z:Int):k8 H n (.i z) (.int z)
 | bl {n:Nat} (b:Bool):k8 H n (.i (if b then 1 else 0)) (.bl b)
 | str {n:Nat} (x:Str):k8 H n (.s x) (.str x)
 | tup {n:Nat} {a:Addr} {vs:List V} {ks:List NK}:H a=some (.tup vs)->ks.length=vs.length->(∀ (i:Nat) k v,ks[i]? = some k->vs[i]? = some v->k8 H n k v)->k8 H (n + 1) (.t ks) (.ref a)
def nP(H:Hp)(m:Bool)(k:NK)(v:V):Prop:=match m with
 | true=>(∃ a,v = .ref a)/\k8 H 6 k v
 | false=>∃ q:Key,k=kN q/\v=kV q
theorem Vals.Po{xs:List V}{us:List Value}(r:Vals xs us){i:Nat}{u:Value}(e:us[i]? = some u):∃ x,xs[i]? = some x/\RelV x u:=by
 have h1:=r.length;have h2:i < xs.length:=by have:=(W1.mp e).1; omega
 obtain⟨u',e',rr⟩:=r.get (W5 h2);rw[e] at e'; cases e'
 exact⟨_,W5 h2,rr⟩
theorem k8.nk{P:Wm}{w:Ws}{H:Hp}{h:Heap}{n:Nat}{k:NK}{v:V}(ok:cw P w H h)(r:k8 H n k v):∀ {u:Value},RelV v u->dw h n k u:=by
 induction r with
 | int z=>intro u q; obtain⟨t,rfl⟩:=q; exact .int z t
 | bl b=>intro u q; cases q; exact .bl b
 | str x=>intro u q; obtain⟨t,rfl⟩:=q; exact .str x t
 | @tup n a vs ks h1 h2 h3 ih =>
  intro u q
  cases q;obtain⟨_,ae,r,p⟩:=(show bP P w H h a (.tup vs) from ok a _ h1)
  have ht:h.IsTuple a ae.toArray:=p.tup;refine .tup ht (by rw[h2]; simpa using r.length) λi k u e1 e2=>?_
  obtain⟨x,e3,rx⟩:=r.Po (u:=u) (i:=i) (by simpa using e2);exact ih i k x e1 e3 rx
theorem nP.key(ok:cw P w H h)(r:nP H m k v)(q:RelV v u):mz h m k u:=by
 cases m with
 | true=>obtain⟨⟨a,rfl⟩,r⟩:=r; cases q; exact⟨a,rfl,r.nk ok rfl⟩
 | false=>obtain⟨q',rfl,rfl⟩:=r; exact⟨q',by rw[<- vj P w]; exact lN q,rfl⟩
abbrev NE:=NK×V×V
def iu:List NE->List (NK×Value×Value)->Prop:=Paired λ(p:NE) (x:NK×Value×Value)=>p.1=x.1/\RelV p.2.1 x.2.1/\RelV p.2.2 x.2.2
theorem EY:∀ {kvs:List NE} {es:List DictEntry},Paired (λ(p:NE) (e:DictEntry)=>e.hash=fu w p.1/\RelV p.2.1 e.key/\RelV p.2.2 e.val) kvs es->∃ xs,iu kvs xs/\es=xs.map (ent w)
 | _,_,.nil=>⟨[],.nil,rfl⟩
 | p :: _,e :: _,.cons r t=>by
  obtain⟨xs,h1,h2⟩:=EY t;refine⟨(p.1,e.key,e.val) :: xs,.cons ⟨rfl,r.2.1,r.2.2⟩ h1,?_⟩;rw[Wo,<- h2];unfold ent;rw[<- r.1]
theorem iu.keys:∀ {kvs:List NE} {xs:List (NK×Value×Value)},iu kvs xs->kvs.map (·.1)=xs.map (·.1)
 | _,_,.nil=>rfl
 | p :: _,x :: _,.cons r t=>by rw[Wo,Wo,r.1,iu.keys t]
noncomputable def valN (kvs:List NE) (k:NK):Option V:=(kvs.find? λp=>decide (p.1=k)).map (·.2.2)
noncomputable def putN (kvs:List NE) (k:NK) (y v:V):List NE:=if (kvs.any λp=>decide (p.1=k))=true then kvs.map λp=>if p.1=k then(p.1,p.2.1,v) else p else kvs ++ [(k,y,v)]
theorem iu.val(k:NK):∀ {kvs:List NE} {xs:List (NK×Value×Value)},iu kvs xs->eZ (valN kvs k) ((atN xs k).map (·.2))/\(kvs.any λp=>decide (p.1=k))=xs.any λx=>decide (x.1=k)
 | _,_,.nil=>⟨trivial,rfl⟩
 | p :: kvs,x :: xs,.cons r t=>by
  obtain⟨i1,i2⟩:=iu.val k t;rw[Qg,Qg,i2,r.1];refine⟨?_,rfl⟩;unfold valN atN at i1 ⊢;rw[WU,WU,r.1];by_cases e:x.1=k
  ·rw[decide_eq_true e]; exact r.2.2
  ·rw[decide_eq_false e]; exact i1
section
variable {P:Wm} {w:Ws} {H:Hp} {h:Heap} {a:Addr} {ep:Nat} {kvs:List NE}
structure pf(w:Ws)(h:Heap)(a:Addr)(ep:Nat)(xs:List (NK×Value×Value))(o:Obj)(es:Array DictEntry):Prop where
 get:h.get? a=some o
 ex:o.ExactDict
 data:o.data = .dict es ep
 ents:es.toList=xs.map (ent w)
 Pp:(xs.map (·.1)).Nodup
theorem uM(ok:cw P w H h)(e:H a=some (.dN ep kvs)):kvs.length<=Wc/\(a == QE)=false/\∃ xs o es,iu kvs xs/\pf w h a ep xs o es:=by
 obtain⟨z,hS,o,es,h1,h2,h3,h4,h5⟩:=(show bP P w H h a (.dN ep kvs) from ok a _ e)
 obtain⟨xs,q1,q2⟩:=EY h4;exact⟨z,hS,xs,o,es,q1,h1,h2,h3,q2,by rw[<- q1.keys]; exact h5⟩
theorem pf.typeIs {s:W3} {xs:List (NK×Value×Value)} {o:Obj} {es:Array DictEntry} (d:pf w s.heap a ep xs o es):s.TypeIs (.ref a) "dict":=⟨o,d.get,d.ex.1⟩
theorem pf.noDict(d:pf w h a ep xs o es):∀ b,Value.ref a = .ref b->∃ ob,h.get? b=some ob/\ob.dict=none:=λb e=>by cases e; exact⟨o,d.get,d.ex.2.1⟩
theorem Pq(ok:cw P w H h)(r:iu kvs xs)(hk:∀ p ∈ kvs,nP H m p.1 p.2.1):∀ x ∈ xs,mz h m x.1 x.2.1:=by
 induction r with
 | nil=>intro x hx; simp at hx
 | cons q t ih =>
  intro x hx;rcases Wj.mp hx with rfl | hx
  ·rw[<- q.1]; exact(hk _ Wh).key ok q.2.1
  ·exact ih (λp hp=>hk p (W9 _ hp)) x hx
end
def mC(H:Hp)(a:Addr)(y:V)(r:Option V):Prop:=∃ m ep kvs k,H a=some (.dN ep kvs)/\(∀ p ∈ kvs,nP H m p.1 p.2.1)/\nP H m k y/\r=valN kvs k
section
variable {X:Cx} {pins:List (Addr×Obj)} {σ:St} {H:Hp} {s:W3} {a:Addr} {y v:V} {u r:Value} {o:Option V} {A:Wt} {E:Value->W3->Prop}
theorem EZ(hu:A.units + 6 < WQ)(I:Inv X pins σ H s)(g:mC H a y o)(ry:RelV y u)(h:∀ w' s',Inv X pins σ H s'->eZ o w'->Q w' s') :
  We (model X.prog X.w) A (dictGet a u) Q E s:=by
 obtain⟨m,ep,kvs,k,e,hk,ky,rfl⟩:=g;obtain⟨z,hS,xs,ob,es,rx,d⟩:=uM I.aG e;exact Pn hu (ky.key I.aG ry) d.get d.data d.ents (Pq I.aG rx hk) d.Pp (h _ _ (I.tok _) (rx.val k).1)
theorem yb (I:Inv X pins σ H s) (g:mC H a y o):s.TypeIs (.ref a) "dict"/\(∀ b,Value.ref a = .ref b->∃ ob,s.heap.get? b=some ob/\ob.dict=none)/\(a == QE)=false:=by
 obtain⟨m,ep,kvs,k,e,hk,ky,rfl⟩:=g;obtain⟨z,hS,xs,ob,es,rx,d⟩:=uM I.aG e;exact⟨d.typeIs,d.noDict,hS⟩
theorem Pr(hu:A.units + 8 < WQ)(I:Inv X pins σ H s)(g:mC H a y (some v))(ry:RelV y u)(h:∀ w' s',Inv X pins σ H s'->RelV v w'->Q w' s') :
  We (model X.prog X.w) A (JI (.ref a) u) Q E s:=by
 obtain⟨hT,_,_⟩:=yb I g;unfold JI;try with_reducible refine Ql ?_
 refine W0 (wpAny_sequenceKey hT (by decide) ?_);refine W0 (WZ (name:=Str.ofString "__getitem__") hT slot_dict_getitem (WX slot_dict_getitem hT entry_dict_getitem ?_ (args_dict_getitem _ _)));show We _ _ (dictGet a u >>= _) _ _ s;refine W0 (EZ (show A.units + 1 + 6 < WQ by omega) I g ry λw' s' I' rr=>?_);obtain⟨w2,rfl,r2⟩:=eZ.some_of rr;exact W7 ⟨w2,rfl,W7 (h w2 s' I' r2)⟩
theorem Pt(hu:A.units + 8 < WQ)(I:Inv X pins σ H s)(g:mC H a y o)(ry:RelV y u)(h:∀ s',Inv X pins σ H s'->Q o.isSome s') :
  We (model X.prog X.w) A (contains (.ref a) u) Q E s:=by
 obtain⟨hT,_,hS⟩:=yb I g;unfold contains;try with_reducible refine Ql ?_
 refine W0 (wpAny_specialOf hT slot_dict_contains.lookup ?_);show We _ _ (if (some (Value.builtin "dict.__contains__") == some Value.none)=true then _ else _) _ E s;rw[if_neg (by rw[beq_builtin_none]; exact WJ)];refine W0 (wpAny_callSpecialUnlessNone?_slot (name:=Str.ofString "__contains__") hT slot_dict_contains (WX slot_dict_contains hT entry_dict_contains ?_ (args_dict_contains _ _)));show We _ _ (dictGet a u >>= _) _ _ s;refine W0 (EZ (show A.units + 1 + 6 < WQ by omega) I g ry λw' s' I' rr=>?_)
 cases o with
 | some x =>
  obtain⟨w2,rfl,r2⟩:=eZ.some_of rr;show We _ _ (ret (.bool true)) _ _ _;exact W7 ⟨_,rfl,Qp (h s' I')⟩
 | none =>
  obtain rfl:=eZ.none_of rr;show We _ _ (Builtin.Dict.pendingKey? a u >>= _) _ _ _;exact W0 (wpAny_pendingKey_other hS (W7 ⟨_,rfl,Qp (h s' I')⟩))
theorem Pu(hu:A.units + 8 < WQ)(I:Inv X pins σ H s)(g:mC H a y o)(ry:RelV y u)(h:∀ s',Inv X pins σ H s'->Q (.bool o.isSome) s') :
  We (model X.prog X.w) A (WM .In u (.ref a)) Q E s:=by
 show We _ _ (do return .bool (<- contains (.ref a) u)) Q E s;exact W0 (Pt hu I g ry λs' I'=>W7 (h s' I'))
end
end L2
namespace DV
open PySem PySem.Spec PyProof.Rows L2
theorem Pw(n:Nat)(i:Int):df n (.int i)=some (.i i):=by cases n <;> rfl
theorem Px(n:Nat)(b:Bool):df n (.bl b)=some (.i (if b then 1 else 0)):=by cases n <;> rfl
theorem Py(n:Nat)(x:Tx):df n (.str x)=some (.s (toS x)):=by cases n <;> rfl
theorem Pz(n:Nat)(xs:List D):df (n + 1) (.tup xs)=(g9 n xs).map .t:=rfl
theorem uN(h:df n d=some x):(∃ i,d = .int i/\x = .i i)\/(∃ b,d = .bl b/\x = .i (if b then 1 else 0))\/(∃ s,d = .str s/\x = .s (toS s))\/∃ m xs ks,n=m + 1/\d = .tup xs/\g9 m xs=some ks/\x = .t ks:=by
 cases d with
 | int i=>rw[Pw] at h; exact .inl ⟨i,rfl,(Wx h).symm⟩
 | bl b=>rw[Px] at h; exact .inr (.inl ⟨b,rfl,(Wx h).symm⟩)
 | str s=>rw[Py] at h; exact .inr (.inr (.inl ⟨s,rfl,(Wx h).symm⟩))
 | tup xs =>
  cases n with
  | zero=>cases h
  | succ m =>
   rw[Pz,WC] at h;obtain⟨ks,hk,e⟩:=h;exact .inr (.inr (.inr ⟨m,xs,ks,rfl,rfl,hk,e.symm⟩))
 | _=>cases n <;> cases h
theorem E1(ih:∀ (d e:D) (x y:NK),df n d=some x->df n e=some y->aA d e=decide (x=y)):∀ (xs ys:List D) (ks ls:List NK),g9 n xs=some ks->g9 n ys=some ls->dM xs ys=decide (ks=ls)
 | [],[],ks,ls,h1,h2=>by
  simp[g9] at h1 h2;subst h1; subst h2
  simp[dM]
 | [],y :: ys,ks,ls,h1,h2=>by
  simp only[g9,W8,Jg,WC] at h1 h2;subst h1;obtain⟨k,_,l,_,rfl⟩:=h2;simp[dM]
 | x :: xs,[],ks,ls,h1,h2=>by
  simp only[g9,W8,Jg,WC] at h1 h2;subst h2;obtain⟨k,_,l,_,rfl⟩:=h1;simp[dM]
 | x :: xs,y :: ys,ks,ls,h1,h2=>by
  simp only[g9,Jg,WC] at h1 h2;obtain⟨k,hk,k',kC,rfl⟩:=h1;obtain⟨l,hl,l',gc,rfl⟩:=h2;simp only[dM];rw[ih x y k l hk hl,E1 ih xs ys k' l' kC gc];by_cases e1:k=l
  ·by_cases e2:k'=l'
   ·rw[decide_eq_true e1,decide_eq_true e2,decide_eq_true (by rw[e1,e2])]; rfl
   ·rw[decide_eq_true e1,decide_eq_false e2,decide_eq_false λq=>e2 (List.cons.inj q).2]; rfl
  ·rw[decide_eq_false e1,decide_eq_false λq=>e1 (List.cons.inj q).1]; rfl
theorem PB:∀ (n:Nat) (d e:D) (x y:NK),df n d=some x->df n e=some y->aA d e=decide (x=y):=by
 intro n;induction n with
 | zero =>
  intro d e x y h1 h2;rcases uN h1 with ⟨i,rfl,rfl⟩ | ⟨b,rfl,rfl⟩ | ⟨s,rfl,rfl⟩ | ⟨m,xs,ks,e,_⟩ <;> rcases uN h2 with ⟨i,rfl,rfl⟩ | ⟨b,rfl,rfl⟩ | ⟨s,rfl,rfl⟩ | ⟨m,xs,ks,e,_⟩ <;>
   first | (cases e; done) | (simp only[aA]; first | (rw[decide_eq_false (λq=>nomatch q)]; done) | (rw[my,<- ya]; done) | (rw[my]; done) | (rw[x_,oA]; done))
 | succ n ih =>
  intro d e x y h1 h2;rcases uN h1 with ⟨i,rfl,rfl⟩ | ⟨b,rfl,rfl⟩ | ⟨s,rfl,rfl⟩ | ⟨m,xs,ks,e1,rfl,hk,rfl⟩ <;> rcases uN h2 with ⟨i,rfl,rfl⟩ | ⟨b,rfl,rfl⟩ | ⟨s,rfl,rfl⟩ | ⟨m,ys,ls,e2,rfl,hl,rfl⟩ <;>
   first | (simp only[aA]; first | (rw[decide_eq_false (λq=>nomatch q)]; done) | (rw[my,<- ya]; done) | (rw[my]; done) | (rw[x_,oA]; done)) | skip
  cases e1
  cases e2;simp only[aA];rw[E1 ih xs ys ks ls hk hl];by_cases e:ks=ls
  ·rw[decide_eq_true e,decide_eq_true (congrArg NK.t e)]
  ·rw[decide_eq_false e,decide_eq_false λq=>e (NK.t.inj q)]
theorem E2:∀ {xs:List D} {ks:List NK},g9 n xs=some ks->ks.length=xs.length/\∀ (i:Nat) d k,xs[i]? = some d->ks[i]? = some k->df n d=some k
 | [],ks,h=>by simp[g9] at h; subst h; exact⟨rfl,λi d k e=>by simp at e⟩
 | x :: xs,ks,h=>by
  simp only[g9,Jg,WC] at h;obtain⟨k,hk,k',kC,rfl⟩:=h;obtain⟨h1,h2⟩:=E2 kC;refine⟨by simp[h1],λi d kk e1 e2=>?_⟩
  cases i with
  | zero=>simp at e1 e2; subst e1; subst e2; exact hk
  | succ i=>exact h2 i d kk (by simpa using e1) (by simpa using e2)
theorem PD(r:Rep H O v d):∀ {n:Nat} {k:NK},df n d=some k->k8 H n k v:=by
 induction r with
 | int i=>intro n k h; cases n <;> (simp[df] at h; subst h; exact .int i)
 | bl b=>intro n k h; cases n <;> (simp only[df,W8] at h; subst h; exact .bl b)
 | str x=>intro n k h; cases n <;> (simp[df] at h; subst h; exact .str _)
 | @tup a vs ds h1 h2 h3 h4 ih =>
  intro n k h
  cases n with
  | zero=>simp[df] at h
  | succ n =>
   simp only[df,WC] at h;obtain⟨ks,hk,rfl⟩:=h;obtain⟨l,g⟩:=E2 hk;refine .tup h2 (by omega) λi k v e1 e2=>?_
   have hi:i < ds.length:=by have:=(W1.mp e1).1; omega
   exact ih i v ds[i] e2 (W5 hi) (g i ds[i] k (W5 hi) e1)
 | _=>intro n k h; cases n <;> simp[df] at h
def iY(m:Bool)(d:D):Bool:=match d with
 | .tup _=>m
 | .int _=>!m
 | .str _=>!m
 | _=>false
theorem E3(hm:iY m d=true)(hk:df 6 d=some k)(r:Rep H O v d):nP H m k v:=by
 cases m with
 | true =>
  have r':=PD r hk
  cases r <;> simp[iY] at hm
  exact⟨⟨_,rfl⟩,r'⟩
 | false =>
  cases r <;> simp[iY] at hm
  ·simp[df] at hk; subst hk; exact⟨.inl _,rfl,rfl⟩
  ·simp[df] at hk; subst hk; exact⟨.inr _,rfl,rfl⟩
def nQ(m:Bool)(ds:List (D×D))(k:D):Bool:=iY m k && (df 6 k).isSome && ds.all λq=>iY m q.1
def uO(k:D):Bool:=iY true k
def jB(ds:List (D×D))(k:D):Option D:=(ds.find? λq=>aA q.1 k).map (·.2)
section
variable {H H':Hp} {O:Addr->Prop} {ws:List NE} {ds:List (D×D)} {p:NE} {q:D×D}
theorem DN.un(r:DN H O (p :: ws) (q :: ds)):Rep H O p.2.1 q.1/\Rep H O p.2.2 q.2/\df 6 q.1=some p.1/\DN H O ws ds :=
 ⟨r.key 0 p q rfl rfl,r.val 0 p q rfl rfl,r.ou 0 p q rfl rfl,by simpa using r.len,λi a b e1 e2=>r.key (i + 1) a b (by simpa using e1) (by simpa using e2),λi a b e1 e2=>r.val (i + 1) a b (by simpa using e1) (by simpa using e2),λi a b e1 e2=>r.ou (i + 1) a b (by simpa using e1) (by simpa using e2)⟩
theorem DN.get(hk:df 6 k=some kk):∀ {ws:List NE} {ds:List (D×D)},DN H O ws ds->((jB ds k=none/\valN ws kk=none)\/∃ v d,jB ds k=some d/\valN ws kk=some v/\Rep H O v d)/\(ds.any λq=>aA q.1 k)=ws.any λp=>decide (p.1=kk)
 | [],[],_=>⟨.inl ⟨rfl,rfl⟩,rfl⟩
 | [],_ :: _,r=>by have:=r.len; simp at this
 | _ :: _,[],r=>by have:=r.len; simp at this
 | p :: ws,q :: ds,r=>by
  obtain⟨r1,r2,r3,r4⟩:=r.un;obtain⟨i1,i2⟩:=DN.get hk r4;have e:=PB 6 q.1 k p.1 kk r3 hk;refine⟨?_,by rw[Qg,Qg,i2,e]⟩;unfold jB valN at i1 ⊢;rw[WU,WU,e];by_cases z:p.1=kk
  ·rw[decide_eq_true z]; exact .inr ⟨_,_,rfl,rfl,r2⟩
  ·rw[decide_eq_false z]; exact i1
theorem DN.PF(hm:(ds.all λq=>iY m q.1)=true)(r:DN H O ws ds):∀ p ∈ ws,nP H m p.1 p.2.1:=λp hp=>by
 obtain⟨i,e⟩:=List.mem_iff_getElem?.mp hp;have hi:i < ds.length:=by have:=(W1.mp e).1; have:=r.len; omega
 exact E3 (WY.mp hm ds[i] (Qk hi)) (r.ou i p ds[i] e (W5 hi)) (r.key i p ds[i] e (W5 hi))
end
theorem PH(r:cJ c σ δ H v (.dic ds)):∃ a ep ws,v = .ref a/\H a=some (.dN ep ws)/\DN H (Av c σ δ) ws ds:=by
 rcases r with r | ⟨a,rfl,ep,ws,h1,h2⟩
 ·cases r with
  | dic h1 h2 h3 h4 h5 h6=>exact⟨_,_,_,rfl,h2,h3,h4,h5,h6⟩
 ·exact⟨a,ep,ws,rfl,h1,h2⟩
theorem PJ(h:iY m d=true)(r:cJ c σ δ H v d):Rep H (Av c σ δ) v d:=by
 rcases r with r | ⟨a,rfl,r⟩
 ·exact r
 ·cases d <;> first | exact r.elim | simp[iY] at h
theorem PL(h:nQ m ds k=true):iY m k=true/\(∃ kk,df 6 k=some kk)/\(ds.all λq=>iY m q.1)=true:=by
 unfold nQ at h;simp only[Wv] at h;exact⟨h.1.1,Jd.mp h.1.2,h.2⟩
theorem E4(rx:cJ c σ δ H x (.dic ds))(ry:cJ c σ δ H y k)(h:nQ m ds k=true) :
  ∃ a o,x = .ref a/\mC H a y o/\((jB ds k=none/\o=none)\/∃ v d,jB ds k=some d/\o=some v/\Rep H (Av c σ δ) v d):=by
 obtain⟨a,ep,ws,e,ha,dn⟩:=PH rx;obtain⟨h1,⟨kk,hk⟩,h2⟩:=PL h;exact⟨a,valN ws kk,e,⟨m,ep,ws,kk,ha,dn.PF h2,E3 h1 hk (PJ h1 ry),rfl⟩,(dn.get hk).1⟩
def E5(neg:Bool):R2:=λx y H Q=>∃ a o,y = .ref a/\mC H a x o/\Q (.bl (if neg then !o.isSome else o.isSome)) H
theorem PM(hu:X.A.units + 64 < WQ):bx X (WM .In) (E5 false):=by
 intro pins s σ H x y v u Q I rx ry h;obtain⟨a,o,rfl,g,q⟩:=h
 cases ry;exact Pu (by omega) I g rx λs' I'=>⟨.bl _,H,I',rfl,q⟩
def nR(neg:Bool)(x y:D):Option S:=match y with
 | .dic ds=>if nQ (uO x) ds x then some (.pure (.bl (if neg then !(jB ds x).isSome else(jB ds x).isSome))) else none
 | _=>none
theorem PN(neg:Bool):b9 (E5 neg) (nR neg):=by
 intro c σ δ H x y d e s Q k rx ry hp q
 cases e <;> first | (simp[nR] at hp; done) | skip
 rename_i ds;simp only[nR] at hp;split at hp
 ·rename_i hg
  cases hp;obtain⟨a,o,ea,g,r⟩:=E4 ry rx hg;refine⟨a,o,ea,g,?_⟩;have:o.isSome=(jB ds d).isSome:=by
   rcases r with ⟨r1,rfl⟩ | ⟨_,_,r1,rfl,_⟩ <;> rw[r1] <;> rfl
  rw[this];exact q _ H (.refl k) (.bl _)
 ·cases hp
def E6:R2:=λx y H Q=>∃ a v,x = .ref a/\mC H a y (some v)/\Q v H
def nS(x y:D):Option S:=match x with
 | .dic ds=>if nQ (uO y) ds y then(jB ds y).map .pure else none
 | _=>none
theorem PR(hu:X.A.units + 64 < WQ):gv X E6:=by
 intro value slice pins s σ H x y v u Q I rx ry h hs;obtain⟨a,w,rfl,g,q⟩:=h
 cases rx;exact tail_any (yb I g).1 F.slot_dict_getitem.lookup (Pr (v:=w) (by omega) I g ry λw' s' I' aK=>⟨w,H,I',aK,q⟩) hs
theorem PU:b9 E6 nS:=by
 intro c σ δ H x y d e s Q k rx ry hp q
 cases d <;> first | (simp[nS] at hp; done) | skip
 rename_i ds;simp only[nS] at hp;split at hp
 ·rename_i hg;obtain⟨a,o,ea,g,r⟩:=E4 rx ry hg;rcases r with ⟨r1,rfl⟩ | ⟨v,d,r1,rfl,r2⟩
  ·rw[r1] at hp; cases hp
  ·rw[r1] at hp; cases hp
   exact⟨a,v,ea,g,q v H (.refl k) r2⟩
 ·cases hp
section
variable {X:Cx} {c:Fc} {e:Expr} {fe:DE} {pos:Pos}
end
end DV
namespace L2
open PySem PySem.Spec PyProof.Rows
end L2
namespace DV
open PySem PySem.Spec PyProof.Rows L2
section
variable {X:Cx} {c:Fc} {e:Expr} {fe:DE} {pos:Pos}
end
end DV
namespace L2
open PySem PySem.Spec PyProof.Rows
section
variable {prog:Wm} {w:Ws} {A:Wt} {E:Value->W3->Prop} {s:W3}
theorem PX (hd:(d == QE)=false) (hT:s.TypeIs (.ref d) "dict")
  (h:Q (.ref s.heap.objs.size) { s with heap:=s.heap.push { cls:=.type "dict_items",data:=.fields #[.ref d] } }):We (model prog w) A (call (.builtin "dict.items") [.ref d]) Q E s:=by
 refine WX JL hT F.entry_dict_items ?_ (F.args_dict_items_1 _);unfold Builtin.«dict.items» Builtin.Dict.noArgs;refine W0 (W0 (wpAny_notOrdered_dict hT (show We _ _ (pure d) _ _ s from W7 ?_)));show We _ _ (Builtin.Dict.showsAll d >>= _) _ _ s;unfold Builtin.Dict.showsAll;rw[if_neg (by rw[hd]; exact WJ)];exact W0 (W7 (W0 (Q0 (W7 ⟨_,rfl,h⟩))))
theorem PY(hv:s.heap.IsItemsView v d)(ho:s.heap.get? d=some o)(l8:o.data = .dict es ep)
  (hQ:Q (.ref s.heap.objs.size) { s with heap:=s.heap.push { cls:=.type "dict_itemiterator",data:=.fields #[.none,.bool false,.ref d,.int 0 0,.int es.size 0,.int ep 0,.none,.none] } }):We (model prog w) A (pyIter (.ref v)) Q E s:=by
 obtain⟨ov,hov,hcv,hdv⟩:=id hv;refine wpAny_pyIter_slot hv.typeIs F.slot_dict_items_iter (WX F.slot_dict_items_iter hv.typeIs F.entry_dict_items_iter ?_ (F.args_dict_items_iter_1 _));unfold Builtin.«dict_items.__iter__»;refine W0 (W7 (W0 ?_));unfold Builtin.Dict_items.dictOf;refine W0 (WW hov hdv (x:=.ref d) rfl (W7 (W0 ?_)));unfold Builtin.Dict_items.newIterator;refine W0 (JM ho l8 (W0 (wpAny_dictEpoch ho l8 ?_)));have gI:Builtin.Dict_items.ownsTuple "dict_itemiterator" = true:=by decide
 simp only[gI,if_true];refine Q0 (W7 ⟨_,rfl,"dict_itemiterator",_,⟨_,Wn _ rfl,rfl⟩,F.slot_dict_itemiterator_next.lookup,?_⟩)
  (by simp only[sizeOk,Builtin.Dict_items.ownedTupleFields,Wq,Qb,WL,JU,JO]; omega)
 simpa[rawInt,Builtin.Dict_items.ownedTupleFields] using hQ
theorem PZ(hit:IsItemIter s.heap it d i es.size ep ok ov)
  (rA:s.heap.get? d=some od) (jR:od.data = .dict es ep) (hx:es[i]? = some e)
  (hQ:∀ h',IsItemIterOut h' it d (i + 1) es.size ep e.key e.val s.heap.objs.size->h'.get? s.heap.objs.size=some { cls:=.type "tuple",data:=.seq #[e.key,e.val] }->h'.objs.size=s.heap.objs.size + 1 ->
   (∀ b o,b≠it->s.heap.get? b=some o->h'.get? b=some o)->Q (some (.ref s.heap.objs.size)) { s with heap:=h' }):We (model prog w) A (J2 (.ref it)) Q E s:=by
 obtain⟨hp,g,dr,tk,os⟩:=s;have hT:Shared.TypeIs ⟨hp,g,dr,tk,os⟩ (.ref it) "dict_itemiterator":=⟨_,hit,rfl⟩
 have VG:i < es.size:=by
  rcases Nat.lt_or_ge i es.size with h | h
  ·exact h
  ·simp[Array.getElem?_eq_none h] at hx
 unfold J2;refine W0 (wpAny_attempt (WZ (name:=Str.ofString "__next__") hT QR (WX QR hT F.entry_dict_itemiterator_next ?_ (F.args_dict_itemiterator_next_1 _))));refine W0 (W7 (W0 (W0 ?_)));first | refine W0 (QP hT (W7 ?_)) | refine W0 (J8 hT (W7 ?_))
 refine W0 (wpAny_fieldsOf hit rfl ?_);have gI:Builtin.Dict_items.ownsTuple "dict_itemiterator" = true:=by decide
 simp only[gI,if_true];show We _ _ (if (Value.ref d == Value.none)=true then _ else _) _ _ _;rw[if_neg (show ¬ ((Value.ref d == Value.none)=true) from WJ)];refine W0 (W7 (W0 (JM rA jR ?_)));rw[if_neg (by simp)];refine W0 (W7 (W0 (wpAny_dictEpoch rA jR ?_)));rw[if_neg (by simp)];refine W7 ?_;simp only[show ¬ ((i:Int) < 0) from by omega,if_false,QA,hx];refine W0 ?_;first | refine W0 (QP hT (W7 ?_)) | refine W0 (J8 hT (W7 ?_))
 refine W0 (wpAny_isOneOf_itemiter hT ?_);show We _ _ (setField (.ref it) 3 (rawInt ((i:Int) + 1)) >>= _) _ _ ⟨hp,g,dr,tk,os⟩;refine W0 (Q3 hit (by simp) λh1 e1 s1=>?_);replace s1:QJ it hp h1:=s1;replace e1:IsItemIter h1 it d (i + 1) es.size ep ok ov:=by
  have z:((i + 1:Nat):Int)=(i:Int) + 1:=by omega
  unfold IsItemIter; rw[z]; simpa[rawInt] using e1
 have yc:Shared.TypeIs ⟨h1,g,dr,tk,os⟩ (.ref it) "dict_itemiterator":=⟨_,e1,rfl⟩
 refine W0 (Ql (W0 (wpAny_isOneOf_itemiter yc (W0 (wpAny_isOneOf_itemiter yc ?_)))));show We _ _ (Builtin.Dict_items.pairFromOwner (.ref it) 6 e.key e.val) _ _ ⟨h1,g,dr,tk,os⟩;unfold Builtin.Dict_items.pairFromOwner;refine W0 (wpAny_newTuple ?_);have e2:IsItemIter (h1.push { cls:=.type "tuple",data:=.seq #[e.key,e.val] }) it d (i + 1) es.size ep ok ov:=Wd _ e1;generalize hh2:h1.push { cls:=.type "tuple",data:=.seq #[e.key,e.val] } = h2 at e2;have z1:h1.objs.size=hp.objs.size:=s1.1;have jv:it < hp.objs.size:=Wr hit;have t2:h2.get? hp.objs.size=some { cls:=.type "tuple",data:=.seq #[e.key,e.val] }:=by rw[<- hh2,<- z1]; exact Wn _ rfl
 have z2:h2.objs.size=hp.objs.size + 1:=by rw[<- hh2,Qw,z1]
 have k2:∀ b o,b≠it->hp.get? b=some o->h2.get? b=some o:=λb o hb q=>by rw[<- hh2]; exact Wd _ (s1.extBut b o hb q)
 show We _ _ (Builtin.Dict_items.ownedTupleIsFree (.ref it) >>= _) _ _ ⟨h2,g,dr,tk,os⟩;rw[z1];clear hh2 e1 s1 yc z1 h1;refine W0 ?_;unfold Builtin.Dict_items.ownedTupleIsFree;refine W0 (WW e2 rfl (x:=.none) rfl (W7 ?_));simp only[if_true];refine W0 (WW e2 rfl (x:=ok) rfl (W0 (WW e2 rfl (x:=ov) rfl ?_)));refine W0 (Q3 e2 (by simp) λh3 e3 s3=>?_);replace s3:QJ it h2 h3:=s3;replace e3:IsItemIter h3 it d (i + 1) es.size ep e.key ov:=e3;refine W0 (Q3 e3 (by simp) λh4 e4 s4=>?_);replace s4:QJ it h3 h4:=s4;replace e4:IsItemIter h4 it d (i + 1) es.size ep e.key e.val:=e4;refine W0 (Q3 e4 (by simp) λh5 e5 s5=>?_);replace s5:QJ it h4 h5:=s5;replace e5:IsItemIterOut h5 it d (i + 1) es.size ep e.key e.val hp.objs.size:=e5;refine W0 (Q3 e5 (by simp) λh6 e6 s6=>?_);replace s6:QJ it h5 h6:=s6;replace e6:IsItemIterOut h6 it d (i + 1) es.size ep e.key e.val hp.objs.size:=e6;have up:∀ b o,b≠it->h2.get? b=some o->h6.get? b=some o:=λb o hb q=>s6.extBut b o hb (s5.extBut b o hb (s4.extBut b o hb (s3.extBut b o hb q)))
 refine W0 (wpAny_letGo (W7 (W7 ⟨_,rfl,W7 (hQ h6 e6 (up _ _ (Jc jv) t2) ?_ λb o hb q=>up b o hb (k2 b o hb q))⟩)));show h6.objs.size=hp.objs.size + 1;rw[s6.1,s5.1,s4.1,s3.1,z2]
theorem P0(hh:A.handled=none)(hit:IsItemIter s.heap it d i es.size ep ok ov)
  (rA:s.heap.get? d=some od) (jR:od.data = .dict es ep) (hx:es.size<=i) (hQ:∀ h',Heap.ExtBut it s.heap h'->Q none { s with heap:=h' }):We (model prog w) A (J2 (.ref it)) Q E s:=by
 have hT:s.TypeIs (.ref it) "dict_itemiterator":=⟨_,hit,rfl⟩
 unfold J2;refine W0 (wpAny_attempt (WZ (name:=Str.ofString "__next__") hT QR (WX QR hT F.entry_dict_itemiterator_next ?_ (F.args_dict_itemiterator_next_1 _))));refine W0 (W7 (W0 (W0 ?_)));first | refine W0 (QP hT (W7 ?_)) | refine W0 (J8 hT (W7 ?_))
 refine W0 (wpAny_fieldsOf hit rfl ?_);have gI:Builtin.Dict_items.ownsTuple "dict_itemiterator" = true:=by decide
 simp only[gI,if_true];show We _ _ (if (Value.ref d == Value.none)=true then _ else _) _ _ s;rw[if_neg (show ¬ ((Value.ref d == Value.none)=true) from WJ)];refine W0 (W7 (W0 (JM rA jR ?_)));rw[if_neg (by simp)];refine W0 (W7 (W0 (wpAny_dictEpoch rA jR ?_)));rw[if_neg (by simp)];refine W7 ?_;simp only[show ¬ ((i:Int) < 0) from by omega,if_false,QA,Array.getElem?_eq_none hx];refine W0 ?_;first | refine W0 (QP hT (W7 ?_)) | refine W0 (J8 hT (W7 ?_))
 show We _ _ (setField (.ref it) 2 .none >>= _) _ _ s;refine W0 (wpAny_setField hit rfl (by simp) ?_);show We _ _ (newExc (.type "StopIteration") [] >>= _) _ _ _;refine W0 ?_;simp only[newExc,newTuple];refine W0 (Q0 ?_ (by size_fits));refine W0 (m:=firstArgMember _ _) (wpAny_of_eq (a:=Value.none) (by first | rfl | (simp only[firstArgMember]; rfl)) ?_);refine Q0 ?_ (by size_fits);simp only[raiseNew];refine W0 (wpAny_handled ?_);rw[show A.in1.handled=none from hh];refine W0 (W7 (wpAny_throw ?_));refine W0 (wpAny_isInstance (T:="StopIteration") (b:=true) ⟨_,Wn _ rfl,rfl⟩ isSubtype_stop ?_);exact W7 (hQ _ (((Heap.SameBut.update ..).extBut.push _).push _))
end
def yd(a:Addr)(ep:Nat)(kvs:List NE):It :=
 ⟨λi H=>H a=some (.dN ep kvs)/\i < kvs.length,
  λi H v H'=>∃ p k y x,H p=none/\kvs[i]? = some (k,y,x)/\H'=upd H p (.tup [y,x])/\v = .ref p,
  λi H=>H a=some (.dN ep kvs)/\i=kvs.length⟩
theorem iu.get(r:iu kvs xs):∀ {i:Nat} {p:NE},kvs[i]? = some p->∃ x,xs[i]? = some x/\RelV p.2.1 x.2.1/\RelV p.2.2 x.2.2:=by
 unfold iu at r;induction r with
 | nil=>intro i p e; simp at e
 | cons h t ih =>
  intro i p e
  cases i with
  | zero=>simp at e; subst e; exact⟨_,rfl,h.2⟩
  | succ i=>obtain⟨x,e1,e2⟩:=ih (i:=i) (by simpa using e); exact⟨x,by simpa using e1,e2⟩
theorem P4{P:Wm}{w:Ws}{K:W2}{elts:List Expr}{ctx}{pos:Pos}(a it:Addr)(kvs:List NE)(ep:Nat) :
  Turn P w K (.Tuple elts ctx pos) (yd a ep kvs) [it] it (λi h=>∃ ok ov,IsItemIter h it a i kvs.length ep ok ov):=by
 have at_:∀ {X:Cx} {pins s σ H},X.prog=P->X.w=w->Inv X pins σ H s->H a=some (.dN ep kvs)->∃ xs o es,iu kvs xs/\pf w s.heap a ep xs o es/\es.size=kvs.length:=by
  intro X pins s σ H hP hw I e;subst hP hw;obtain⟨_,_,xs,o,es,r,d⟩:=uM I.aG e;exact⟨xs,o,es,r,d,by rw[<- QS,d.ents,Q5]; exact(Paired.length r).symm⟩
 refine⟨by simp,?_,?_,?_,?_,?_⟩
 ·rintro i h ⟨ok,ov,q⟩ b hb;have e:b=it:=by simpa using hb
  subst e;exact⟨_,q,λv z=>by
   have z':Data.fields _=Data.cell v:=z
   cases z'⟩
 ·rintro i h h' ⟨ok,ov,q⟩ k;exact⟨ok,ov,k it (by simp) _ q⟩
 ·intro X hP hw hK hc i pins s σ H E I hf ⟨ok,ov,st⟩ ⟨hg,hi⟩;obtain⟨xs,o,es,r,d,hz⟩:=at_ hP hw I hg;subst hP hw hK;have hx:kvs[i]? = some (kvs[i].1,kvs[i].2.1,kvs[i].2.2):=by simp[hi]
  obtain⟨x,hu,ry,rv⟩:=r.get hx;have P5:es[i]? = some (ent X.w x):=by rw[<- QZ,d.ents,Wl,hu]; rfl
  have jv:it < s.heap.objs.size:=Wr st;rw[<- hz] at st;refine PZ st d.get d.data P5 λh' hit hT hsz kp=>⟨_,rfl,wpAny_letOwnedTupleGo_items hit λh2 xT sb=>?_⟩
  have nz:s.heap.objs.size≠it:=Jc jv;have a7:∀ b ∈ [it],b < s.heap.objs.size:=λb hb=>by
   have e:b=it:=by simpa using hb
   subst e;exact jv
  have I2:Inv X pins σ (upd H s.heap.objs.size (.tup [kvs[i].2.1,kvs[i].2.2])) { s with heap:=h2,toks:=s.toks } :=
   Inv.xF (t':=s.toks) [it] I hf a7 ry rv ((sb.2 _ nz).trans hT) λb o hb e=>by
    have g:b≠it:=λz=>hb (by simp[z])
    exact(sb.2 b g).trans (kp b o g e)
  refine⟨.ref s.heap.objs.size,_,I2,rfl,⟨s.heap.objs.size,_,_,_,I.aG.fresh (Wf _),hx,rfl,rfl⟩,⟨_,_,by rw[<- hz]; exact xT⟩,λb hb=>?_⟩;have e:b=it:=by simpa using hb
  subst e;rw[aQ (Ne.symm nz)];exact(hf _ hb).1
 ·intro X hP hw hK hc i pins s σ H E I hf ⟨ok,ov,st⟩ ⟨hg,hi⟩;obtain⟨xs,o,es,r,d,hz⟩:=at_ hP hw I hg;subst hP hw hK;rw[<- hz] at st;refine P0 (I.ok.hd hc) st d.get d.data (by omega) λh' eb=>⟨rfl,Inv.uk (t':=s.toks) [it] I (λb o hb e=>eb b o (λz=>hb (by simp[z])) e) hf⟩
 ·intro A i s Q E ⟨ok,ov,st⟩ h;exact Ez st h
section
variable {X:Cx} {o:Expr} {apos bA:Pos} {elts:List Expr} {ctx:Nat} {tp:Pos} {td:TE}
def P6(td:TE):TI:=λσ H R=>td σ H λv H1=>∃ a ep kvs,v = .ref a/\H1 a=some (.dN ep kvs)/\R (yd a ep kvs) H1
theorem P7 (ho:PE X o td) (hb:Qv o "items" X.env (eval o X.env)=eval o X.env:=by rfl) (hl:(apos.endLine == bA.line)=true:=by rfl) :
  PI X (.Tuple elts ctx tp) (.Call (.Attribute o "items" apos) [] [] bA) (P6 td):=by
 intro pins s σ H R I h;refine wpAny_Call_method (T:="dict") (id:="dict.items") hb rfl hl F.plainAttrs_dict JL F.type_dict_items (aR (ho pins s σ H _ I h) λu s1 ⟨x,H1,I1,rx,a,ep,kvs,ex,ea,q⟩=>?_);subst ex;obtain rfl:u=Value.ref a:=rx;obtain⟨z,hS,xs,ob,es,r,d⟩:=uM I1.aG ea;have hz:es.size=kvs.length:=by rw[<- QS,d.ents,Q5]; exact(Paired.length r).symm
 refine⟨d.typeIs,d.noDict,?_⟩;refine Calls.callWith_builtin rfl (PySem.evalArgs_none (PX hS d.typeIs ?_));have P8:∀ b u,s1.heap.get? b=some u->(s1.heap.push { cls:=.type "dict_items",data:=.fields #[.ref a] }).get? b=some u:=λb u e=>Wd _ e
 refine PY (d:=a) ⟨_,Wn _ rfl,rfl,rfl⟩ (P8 _ _ d.get) d.data ?_;generalize hh1:s1.heap.push { cls:=.type "dict_items",data:=.fields #[.ref a] } = h1;have up1:∀ b u,s1.heap.get? b=some u->h1.get? b=some u:=λb u e=>by rw[<- hh1]; exact Wd _ e
 have oV:s1.heap.objs.size<=h1.objs.size:=by rw[<- hh1,Qw]; exact Nat.le_succ _
 generalize hh2:h1.push { cls:=.type "dict_itemiterator",data:=.fields #[.none,.bool false,.ref a,.int 0 0,.int es.size 0,.int ep 0,.none,.none] } = h2;have oW:∀ b u,s1.heap.get? b=some u->h2.get? b=some u:=λb u e=>by rw[<- hh2]; exact Wd _ (up1 b u e)
 have hit:IsItemIter h2 h1.objs.size a 0 kvs.length ep .none .none:=by rw[<- hz,<- hh2]; exact Wn _ rfl
 have I2:Inv X pins σ H1 { s1 with heap:=h2,toks:=s1.toks }:=I1.kept (t':=s1.toks) oW;refine⟨h1.objs.size,[h1.objs.size],_,_,_,rfl,I2,P4 a h1.objs.size kvs ep,⟨_,_,hit⟩,λb hb=>?_,q⟩;have e:b=h1.objs.size:=by simpa using hb
 subst e;exact I1.jM oV (I1.aG.fresh oV)
end
section
variable {X:Cx} {pos:Pos}
end
end L2
namespace DV
open PySem PySem.Spec PyProof.Rows L2
def ph(ds:List (D×D)):List D:=ds.map λp=>D.tup [p.1,p.2]
def rB(fe:DE):DI:=λδ=>(fe δ).bind λr δ1=>match r.d with
 | .dic ds=>.ok (ph ds) δ1
 | _=>.stuck
section
variable {X:Cx} {c:Fc} {o:Expr} {fe:DE} {apos bA:Pos} {elts:List Expr} {ctx:Nat} {tp:Pos}
theorem P9(h:H a=some (.dN ep ws))(n:¬ Own σ δ a)(r:DN H (Av c σ δ) ws ds):nv c σ δ H (yd a ep ws) (ph ds):=by
 intro H2 kp;have h2:=kp a _ h n;refine⟨⟨h2,by simp[ph,r.len]⟩,λi d e=>?_⟩;unfold ph at e;rw[Wl] at e
 cases ej:ds[i]? with
 | none=>rw[ej] at e; cases e
 | some q =>
  rw[ej] at e
  cases e;have hi:i < ws.length:=by rw[r.len]; exact(W1.mp ej).1
  refine⟨⟨h2,hi⟩,λx H3 ⟨p,kk,y,xv,hp,hkv,e3,ex⟩=>.inr ⟨p,_,_,hp,e3,ex,rfl,?_⟩⟩;exact aH.two (r.key i _ q hkv ej) (r.val i _ q hkv ej)
theorem P_ (ho:SE X c o fe) (hb:Qv o "items" X.env (eval o X.env)=eval o X.env:=by rfl) (hl:(apos.endLine == bA.line)=true:=by rfl) :
  SI X c (.Tuple elts ctx tp) (.Call (.Attribute o "items" apos) [] [] bA) (rB fe) :=
 PI.weak (P7 ho hb hl) λσ H R ⟨δ,k,q⟩=>by
  unfold rB at q;rw[ba] at q;refine⟨δ,k,aS q λr δ1 q1 v H1 a1 r1=>?_⟩;have rp:=r1.rep;generalize r.d=d at q1 rp
  cases d <;> first | exact q1.elim | skip
  rename_i ds
  cases rp with
  | dic h1 h2 h3 h4 h5 h6 =>
   exact⟨_,_,_,rfl,h2,q1 _ _ a1 (P9 h2 (λz=>h1 (.inr z)) ⟨h3,h4,h5,h6⟩)⟩
end
end DV
namespace L2
open PySem PySem.Spec PyProof.Rows
section
variable {X:Cx} {k v o e f:Expr} {pos apos bA:Pos} {tk tv td ty tx:TE}
end
end L2
namespace DV
open PySem PySem.Spec PyProof.Rows L2
section
variable {X:Cx} {c:Fc} {o e f:Expr} {fe ff:DE} {i:Nat} {apos bA:Pos}
end
end DV
namespace L2
open PySem PySem.Spec PyProof.Rows
section
variable {X:Cx} {pins:List (Addr×Obj)} {σ:St} {H:Hp} {s:W3} {a:Addr} {ep:Nat} {kvs:List NE} {A:Wt} {E:Value->W3->Prop}
end
section
variable {X:Cx} {pins:List (Addr×Obj)} {σ:St} {H:Hp} {s:W3} {a:Addr} {y v:V} {u r:Value} {A:Wt} {E:Value->W3->Prop}
end
section
variable {X:Cx} {o e f:Expr} {apos bA:Pos} {td ty tx:TE}
end
end L2
namespace DV
open PySem PySem.Spec PyProof.Rows L2
section
variable {X:Cx} {c:Fc} {o e f:Expr} {fe ff:DE} {fb:BE} {i:Nat} {apos bA pos pp:Pos}
end
end DV
namespace L2
open PySem PySem.Spec PyProof.Rows
section
variable {prog:Wm} {w:Ws} {A:Wt} {E:Value->W3->Prop} {s:W3}
end
end L2
namespace DV
open PySem PySem.Spec PyProof.Rows L2
section
variable {X:Cx} {c:Fc} {e:Expr} {fb:BE} {pos pp p:Pos}
end
end DV
namespace L2
open PySem PySem.Spec PyProof.Rows
def fV:Key->NK
 | .inl i=>.i i
 | .inr x=>.s x
theorem Q_(h:fV a=fV b):a=b:=by
 cases a <;> cases b <;> simp[fV] at h <;> rw[h]
theorem Ra(w:Ws)(k:Key):fu w (fV k)=rZ w k:=by cases k <;> simp[fV,fu]
theorem E7:∀ {kvs:List (Key×V)} {vs:List (Key×Value)},KV kvs vs->kvs.map (·.1)=vs.map (·.1)
 | _,_,.nil=>rfl
 | _,_,.cons r1 r2=>by rw[Wo,Wo,E7 r2,r1.1]
theorem Rb(x:bP P w H h a (.dK kvs)):∃ ep,bP P w H' h a (.dN ep (kvs.map λp=>(fV p.1,kV p.1,p.2))):=by
 obtain⟨z,hS,vs,r,o,es,ep,g1,g2,g3,g4,g5,g6⟩:=x;refine⟨ep,by simpa using z,hS,o,es,g1,g2,g3,?_,?_⟩
 ·have key:∀ (l:List DictEntry) (vs:List (Key×Value)) (kvs:List (Key×V)),(∀ e ∈ l,∃ k,(cH P w).is k e.key=true/\e.hash=(cH P w).hash k)->Pairs (cH P w) l vs->KV kvs vs->Paired (λ(p:NK×V×V) (e:DictEntry)=>e.hash=fu w p.1/\RelV p.2.1 e.key/\RelV p.2.2 e.val) (kvs.map λp=>(fV p.1,kV p.1,p.2)) l:=by
   intro l vs kvs hk hp;induction hp generalizing kvs with
   | nil=>intro r; cases r; exact .nil
   | @cons e kv es vs h1 h2 h3 ih =>
    intro r
    cases r with
    | @cons p _ ps _ r1 r2 =>
     refine .cons ?_ (ih ps (λe he=>hk e (W9 _ he)) r2);obtain⟨k,k1,k2⟩:=hk e Wh;have:k=kv.1:=(cH P w).inj _ _ _ k1 h1;subst this;refine⟨?_,?_,?_⟩
     ·rw[k2,Ra,r1.1]; rfl
     ·show RelV (kV p.1) e.key;rw[r1.1];exact EA h1
     ·rw[h2]; exact r1.2
  exact key es.toList vs kvs (λe he=>g4 e (by simpa using he)) g5 r
 ·have e:(kvs.map λp=>(fV p.1,kV p.1,p.2)).map (·.1)=(kvs.map (·.1)).map fV:=by simp[Wz]
  rw[e];rw[E7 r];exact List.Pairwise.map fV (λa b h z=>h (Q_ z)) g6
def Rf(i:Nat):TE:=λσ H Q=>∃ a kvs,σ[i]? = some (some (.ref a))/\H a=some (.dK kvs)/\∀ ep,Q (.ref a) (upd H a (.dN ep (kvs.map λp=>(fV p.1,kV p.1,p.2))))
theorem Rg(ho:PE X o (bZ i)):PE X o (Rf i):=by
 intro pins s σ H Q I h;obtain⟨a,kvs,ea,hH,q⟩:=h;refine aR (ho pins s σ H (λv H1=>v = .ref a/\H1=H) I ⟨.ref a,ea,rfl,rfl⟩) λu s1 ⟨x,H1,I1,rx,ex,eH⟩=>?_
 subst ex; subst eH
 obtain⟨ep,hN⟩:=Rb (H':=H1) (I1.aG a _ hH);have hN:bP X.prog X.w (upd H1 a (.dN ep (kvs.map λp=>(fV p.1,kV p.1,p.2)))) s1.heap a (.dN ep (kvs.map λp=>(fV p.1,kV p.1,p.2))):=hN;obtain⟨_,_,o,_,ho,_⟩:=id hN;have I2:=I1.write (x:=a) (e:=a) (h':=s1.heap) (t':=s1.toks) (by rw[hH]; trivial) (.inl rfl) (λb u _ e=>e) ⟨o,ho⟩ hN;exact⟨.ref a,_,I2,rx,q ep⟩
end L2
namespace DV
open PySem PySem.Spec PyProof.Rows L2
def cp(ds:List (bc×D)):List (D×D):=ds.map λp=>(uH p.1,p.2)
def rC(i:Nat):DE:=λδ=>match δ[i]? with
 | some (some (.own (.aw ds)))=>.ok (.pure (.dic (cp ds))) (δ.set i (some (.pure (.dic (cp ds)))))
 | _=>.stuck
section
variable {X:Cx} {c:Fc} {o:Expr} {i:Nat}
theorem Ok.turn(k:Ok c σ δ H)(e:δ[i]? = some (some (.own (.aw ds))))(ea:σ[i]? = some (some (.ref a)))(r:Rep (upd H a u) (Av c σ (δ.set i none)) (.ref a) d) :
  aV c σ δ H σ (δ.set i (some (.pure d))) (upd H a u)/\Rep (upd H a u) (Av c σ (δ.set i (some (.pure d)))) (.ref a) d:=by
 have hi:i < δ.length:=(W1.mp e).1;have af:=k.freeze (u:=u) e ea;have eO:∀ b,Own σ (δ.set i (some (.pure d))) b ↔ Own σ (δ.set i none) b:=λb=>by
  constructor <;> rintro ⟨j,d',f1,f2⟩ <;> by_cases hj:i=j
  ·subst hj; rw[Wa hi] at f1; cases f1
  ·rw[W6 hj] at f1; exact⟨j,d',by rw[W6 hj]; exact f1,f2⟩
  ·subst hj; rw[Wa hi] at f1; cases f1
  ·rw[W6 hj] at f1; exact⟨j,d',by rw[W6 hj]; exact f1,f2⟩
 have eP:Own σ (δ.set i (some (.pure d)))=Own σ (δ.set i none):=funext λb=>propext (eO b)
 have eA:Av c σ (δ.set i (some (.pure d)))=Av c σ (δ.set i none):=by unfold Av; rw[eP]
 rw[eA];refine⟨⟨⟨af.ok.keep,af.ok.bd,af.ok.dC,by rw[Q7]; exact k.len,λj d' f=>?_,λj d' f=>?_,λj l b d1 d2 f1 f2 g1 g2=>?_,k.pinned⟩,af.keep,?_,af.there⟩,r⟩
 ·rw[eA];by_cases hj:i=j
  ·subst hj;rw[Wa hi] at f
   cases f;exact⟨_,ea,r⟩
  ·rw[W6 hj] at f;exact af.ok.slot j d' (by rw[W6 hj]; exact f)
 ·rw[eA];have hj:i≠j:=λz=>by subst z; rw[Wa hi] at f; cases f
  rw[W6 hj] at f;exact af.ok.own j d' (by rw[W6 hj]; exact f)
 ·have h1:i≠j:=λz=>by subst z; rw[Wa hi] at f1; cases f1
  have h2:i≠l:=λz=>by subst z; rw[Wa hi] at f2; cases f2
  rw[W6 h1] at f1;rw[W6 h2] at f2;exact k.inj j l b d1 d2 f1 f2 g1 g2
 ·intro b z;exact af.own b (by rw[<- eP]; exact z)
theorem Rh(ho:PE X o (bZ i)):SE X c o (rC i) :=
 PE.weak (Rg ho) λσ H Q ⟨δ,k,q⟩=>by
  unfold rC at q;split at q
  case h_2=>exact q.elim
  rename_i ds e;obtain⟨a,ea,⟨ws,hw,hk,hr⟩,hI,nB⟩:=k.own i _ e;refine⟨a,ws,ea,hw,λep=>?_⟩;have hi:i < δ.length:=(W1.mp e).1;have af:=k.freeze (u:=.dN ep (ws.map λp=>(fV p.1,kV p.1,p.2))) e ea;have nO:¬ Own σ (δ.set i none) a:=λ⟨j,d,f1,f2⟩=>by
   by_cases hj:i=j
   ·subst hj;rw[Wa hi] at f1
    cases f1
   ·rw[W6 hj] at f1;exact hj (k.inj i j a _ _ e f1 ea f2)
  have nA:¬ Av c σ (δ.set i none) a:=λz=>z.elim nB nO
  have hlen:ws.length=ds.length:=by simpa using congrArg Jt hk
  have kk:∀ (j:Nat) p q',ws[j]? = some p->ds[j]? = some q'->p.1=cD q'.1:=λj p q' e1 e2=>by
   have:=congrArg (λl=>l[j]?) hk;simp only[Wl,e1,e2,WB] at this;exact Wx this
  have hO:Own σ δ a:=⟨i,_,e,ea⟩
  have kp:∀ b o,H b=some o->¬ Av c σ δ b->upd H a (.dN ep (ws.map λp=>(fV p.1,kV p.1,p.2))) b=some o:=λb o h n=>by
   rw[aQ λz=>n (.inr (by rw[z]; exact hO))];exact h
  have iQ:∀ b,Av c σ (δ.set i none) b->Av c σ δ b:=λb z=>z.elim .inl λ⟨j,d,f1,f2⟩=>by
   by_cases hj:i=j
   ·subst hj;rw[Wa hi] at f1
    cases f1
   ·rw[W6 hj] at f1;exact .inr ⟨j,d,f1,f2⟩
  have r:Rep (upd H a (.dN ep (ws.map λp=>(fV p.1,kV p.1,p.2)))) (Av c σ (δ.set i none)) (.ref a) (.dic (cp ds)):=by
   refine .dic nA cN (by simp[cp,hlen]) (λj p q' e1 e2=>?_) (λj p q' e1 e2=>?_) λj p q' e1 e2=>?_
   all_goals
    unfold cp at e2;rw[Wl] at e1 e2;obtain⟨p0,f1,rfl⟩:=WC.mp e1;obtain⟨q0,f2,rfl⟩:=WC.mp e2;have ek:=kk j p0 q0 f1 f2;simp only
   ·rw[ek]; exact EC _
   ·exact((hr j p0 q0 f1 f2).keep kp).aL λb z=>.inl (iQ b z)
   ·rw[ek]
    cases q0.1 <;> rfl
  obtain⟨a2,r2⟩:=k.turn e ea r;exact q _ _ a2 r2
end
end DV
namespace K21
open PySem.W (nsIn keepIn codeIn findIn mroIn kitOne mg_of)
open PySem PySem.Spec PyProof.Rows L2 DV
theorem aq{a b:Prop}(h:a\/b:=by first|exact Or.inl rfl|exact Or.inr rfl):a\/b:=h
def top(i:Nat):Stmt:=PySem.Challenge.pw_tilegrow_k21_still_shares.main.body.getD i (.Pass ⟨0,0,0,0⟩)
abbrev ye:Stmt:=top 14
abbrev yf:Stmt:=top 15
abbrev yg:Stmt:=top 17
abbrev yh:Stmt:=top 20
abbrev yi:Stmt:=top 19
abbrev yj:Stmt:=top 21
abbrev yk:Stmt:=top 16
abbrev yl:Stmt:=top 1
abbrev ym:Stmt:=top 7
abbrev yn:Stmt:=top 8
abbrev yo:Stmt:=top 10
abbrev yp:Stmt:=top 3
abbrev yq:Stmt:=top 5
abbrev yr:Stmt:=top 9
abbrev yt:Stmt:=top 12
abbrev yu:Stmt:=top 11
abbrev yv:Stmt:=top 27
abbrev yw:Stmt:=top 28
abbrev yx:Stmt:=top 18
abbrev yy:Stmt:=top 25
abbrev yz:Stmt:=top 22
abbrev yA:Stmt:=top 26
abbrev k9:Stmt:=top 29
structure Txt(K:W2)(mg:Str->Option Value):Prop where
 pq:mg "abs" = none
 rD:mg "all" = none
 rE:mg "bool" = none
 pw:mg "dict" = none
 pA:mg "int" = none
 mD:mg "isinstance" = none
 fH:mg "len" = none
 rF:mg "list" = none
 rG:mg "max" = none
 iw:mg "range" = none
 pC:mg "sorted" = none
 nT:mg "sum" = none
 jC:mg "tuple" = none
 pD:mg "zip" = none
 ty_bool:kK K "bool"
 ty_int:kK K "int"
 ty_tuple:kK K "tuple"
def yB:DS:=(aC (b_ (aB (ak kI 1 (ao (aO bh (aj 0))))) (bN (ak ax 0 (aj 1))) cA) (bN (eD (.int 0))))
def mE:DF:=cn [] 2 yB
theorem Ri:c7 mE:=dP
theorem Rj:cW ["script","k"] ["script","k"] (bW ye):=scc
theorem Rk {K:W2} (F:cx K "_law_cell_at" "_law_cell_at" ye f fd) (hm:mg "_law_cell_at" = some (.ref f)) (hb:Binds K fd ["script","k"] []) (T:Txt K mg):aX P w K mg base 1 "_law_cell_at" 2 mE :=
 d_ (np:=[]) (fb:=yB) F hm hb Rj (λc bu A outer s H E hr au=>by
  have hq:=dQ hr;refine(aP ?_ ?_)
  ·refine(eQ ?_ ?_ ?_)
   ·exact(kG wN wO (pv 1) (aE (gH rfl T.fH (bb (pv 0)) (by rfl))) (cV _))
   ·refine(bj ?_);refine(cE ?_);exact(bB bw bC (pv 0) (bb (pv 1)) (λ_ _=>rfl))
   ·exact eN
  refine(bj ?_);refine(cE ?_);exact aM) λss y h=>dH h
def yC:DS:=(aC (az (aD e9 (ak bX 0 (ao (eD (.int 7919)))) (ao (eD (.int 2147483647)))) (ag [] 0)) (bN (aD e9 (aD bX (aD bX (ak gK 0 (aj 0)) (ao (aD gK (eD (.int 48271)) (aj 0)))) (ao (eD (.int 12345)))) (ao (eD (.int 2147483629))))))
def mF:DF:=cn [] 1 yC
theorem E8:c7 mF:=dP
theorem E9:cW ["seed"] ["seed"] (bW yf):=scc
theorem Rl {K:W2} (F:cx K "_law_next" "_law_next" yf f fd) (hm:mg "_law_next" = some (.ref f)) (hb:Binds K fd ["seed"] []) (T:Txt K mg):aX P w K mg base 1 "_law_next" 1 mF :=
 d_ (np:=[]) (fb:=yC) F hm hb E9 (λc bu A outer s H E hr au=>by
  have hq:=dQ hr;refine(aP ?_ ?_)
  ·exact(@bO _ _ _ _ _ _ ([]) (0) _ au E9.nd rfl aq (cM lE lU (fO hU hZ (pv 0) (aE aM)) (aE aM)) rfl aq)
  refine(bj ?_);refine(cE ?_);exact(cM lE lU (cM hU hZ (cM hU hZ (fO uf ug (pv 0) (bb (pv 0))) (aE (cM uf ug aM (bb (pv 0))))) (aE aM)) (aE aM))) λss y h=>dH h
def yD:DS:=(aC (b_ (aB (aD bU (ak ax 0 (ao (eD (.int 1)))) (ao (eD (.int 1))))) (aC (az (aD e9 (ak ax 0 (ao (eD (.int 0)))) (aj 1)) (ag [0] 2)) (aC (kO 0 (eD (.int 0)) (aD qE (ak ax 0 (ao (eD (.int 0)))) (aj 1))) (bN (aa 2)))) cA) (aC (kO 0 (eD (.int 2)) (aI mF [.val (aD bX (aI mF [.val (ak ax 0 (ao (eD (.int 2))))]) (ao (eD (.int 7))))])) (bN (aD e9 (aD qE (ak ax 0 (ao (eD (.int 2)))) (ao (eD (.int 64)))) (aj 1)))))
def fj:DF:=cn [0] 3 yD
theorem j9:c7 fj:=dP
theorem E_:cW ["pen","many","found"] ["pen","many"] (bW yg):=scc
theorem Rm {K:W2} (F:cx K "_law_draw" "_law_draw" yg f fd) (hm:mg "_law_draw" = some (.ref f)) (hb:Binds K fd ["pen","many"] []) (T:Txt K mg) (uP:aX P w K mg base 1 "_law_next" 1 mF):aX P w K mg base 2 "_law_draw" 2 fj :=
 d_ (np:=[0]) (fb:=yD) F hm hb E_ (λc bu A outer s H E hr au=>by
  have hq:=dQ hr;refine(aP ?_ ?_)
  ·refine(eQ ?_ ?_ ?_)
   ·exact(eK (jn hq) jq (bB bw bC (pv 0) (aE aM) (λ_ _=>rfl)) (aE aM) (cV _))
   ·refine(aP ?_ ?_)
    ·exact(@bO _ _ _ _ _ _ ([0]) (2) _ au E_.nd rfl aq (cM lE lU (bB bw bC (pv 0) (aE aM) (λ_ _=>rfl)) (bb (pv 1))) rfl aq)
    refine(aP ?_ ?_)
    ·exact(wZ (pv 0) aM (cM AZ CA (bB bw bC (pv 0) (aE aM) (λ_ _=>rfl)) (bb (pv 1))) (by intro _; rfl) (by rfl) (by rfl) (by rfl))
    refine(bj ?_);refine(cE ?_);exact(aN (pv 2))
   ·exact eN
  refine(aP ?_ ?_)
  ·exact(wZ (pv 0) aM (@ck _ _ _ _ _ (1) _ _ _ _ _ uP E8 (hr.mono (by decide)) rfl (bG (cM hU hZ (@ck _ _ _ _ _ (1) _ _ _ _ _ uP E8 (hr.mono (by decide)) rfl (bG (bB bw bC (pv 0) (aE aM) (λ_ _=>rfl)) cf (by rfl)) rfl (by decide) (by rfl) (by rfl)) (aE aM)) cf (by rfl)) rfl (by decide) (by rfl) (by rfl)) (by intro _; rfl) (by rfl) (by rfl) (by rfl))
  refine(bj ?_);refine(cE ?_);exact(cM lE lU (cM AZ CA (bB bw bC (pv 0) (aE aM) (λ_ _=>rfl)) (aE aM)) (bb (pv 1)))) λss y h=>dH h
def yF:DS:=(aC (az (aD bX (eD (.int 1)) (ao (aI fj [.io 0,.val (eD (.int 3))]))) (ag [0] 1)) (aC (az (aD bX (eD (.int 1)) (ao (aI fj [.io 0,.val (eD (.int 3))]))) (ag [0] 2)) (aC (b_ (aB (aD bU (aI fj [.io 0,.val (eD (.int 8))]) (ao (eD (.int 0))))) (az (aD ax (l6 [.tup [.int 4,.int 1],.tup [.int 1,.int 4],.tup [.int 4,.int 4],.tup [.int 4,.int 3],.tup [.int 1,.int 2],.tup [.int 2,.int 1]]) (ao (aI fj [.io 0,.val (eD (.int 6))]))) (bV 2 (aY (ag [0] 1) (aY (ag [0] 2) bY)))) cA) (aC (b_ (aB (aD bU (ak bX 1 (aj 2)) (ao (eD (.int 2))))) (az (eD (.int 2)) (ag [0] 2)) cA) (bN (h9 (bS (aa 1) (bS (aa 2) cP))))))))
def nU:DF:=cn [0] 3 yF
theorem Rn:c7 nU:=dP
theorem pE:cW ["pen","high","wide"] ["pen"] (bW yh):=scc
theorem Ro {K:W2} (F:cx K "_law_sizes_by" "_law_sizes_by" yh f fd) (hm:mg "_law_sizes_by" = some (.ref f)) (hb:Binds K fd ["pen"] []) (T:Txt K mg) (fW:aX P w K mg base 2 "_law_draw" 2 fj):aX P w K mg base 3 "_law_sizes_by" 1 nU :=
 d_ (np:=[0]) (fb:=yF) F hm hb pE (λc bu A outer s H E hr au=>by
  have hq:=dQ hr;refine(@aP _ _ _ _ _ _ ?_ ?_)
  ·exact(@bO _ _ _ _ _ _ ([0]) (1) _ au pE.nd rfl aq (@cM _ _ _ _ _ _ _ _ _ _ hU hZ (@aM _ _ _ _ _) (@aE _ _ _ _ (@ck _ _ _ _ _ (2) _ _ _ _ _ fW j9 (hr.mono (by decide)) rfl (@iS _ _ _ _ _ _ (pv 0) (@bG _ _ _ _ _ _ (@aM _ _ _ _ _) (@cf _ _) (by rfl)) (by rfl)) rfl (by decide) (by rfl) (by rfl)))) rfl aq)
  refine(@aP _ _ _ _ _ _ ?_ ?_)
  ·exact(@bO _ _ _ _ _ _ ([0]) (2) _ au pE.nd rfl aq (@cM _ _ _ _ _ _ _ _ _ _ hU hZ (@aM _ _ _ _ _) (@aE _ _ _ _ (@ck _ _ _ _ _ (2) _ _ _ _ _ fW j9 (hr.mono (by decide)) rfl (@iS _ _ _ _ _ _ (pv 0) (@bG _ _ _ _ _ _ (@aM _ _ _ _ _) (@cf _ _) (by rfl)) (by rfl)) rfl (by decide) (by rfl) (by rfl)))) rfl aq)
  refine(@aP _ _ _ _ _ _ ?_ ?_)
  ·refine(@eQ _ _ _ _ _ _ _ _ _ ?_ ?_ ?_)
   ·exact(@eK _ _ _ _ _ _ _ _ _ _ (jn hq) jq (@ck _ _ _ _ _ (2) _ _ _ _ _ fW j9 (hr.mono (by decide)) rfl (@iS _ _ _ _ _ _ (pv 0) (@bG _ _ _ _ _ _ (@aM _ _ _ _ _) (@cf _ _) (by rfl)) (by rfl)) rfl (by decide) (by rfl) (by rfl)) (@aE _ _ _ _ (@aM _ _ _ _ _)) (cV _))
   ·refine(@bj _ _ _ _ ?_);refine(@CS _ _ _ _ _ _ _ ?_ ?_ (by rfl) (by rfl) (by rfl))
    ·exact(@Cw _ _ _ _ _ _ _ _ _ bw bC (@Dr _ _ _ _ _ (by rfl) (by decide)) (@aE _ _ _ _ (@ck _ _ _ _ _ (2) _ _ _ _ _ fW j9 (hr.mono (by decide)) rfl (@iS _ _ _ _ _ _ (pv 0) (@bG _ _ _ _ _ _ (@aM _ _ _ _ _) (@cf _ _) (by rfl)) (by rfl)) rfl (by decide) (by rfl) (by rfl))) (λ_ _=>rfl))
    ·exact(@qM _ _ _ _ _ _ _ rfl (@jW _ _ _ _ _ _ (@eE _ _ _ ([0]) (1) _ au pE.nd rfl aq aq) (@jW _ _ _ _ _ _ (@eE _ _ _ ([0]) (2) _ au pE.nd rfl aq aq) (@qL _ _) (by rfl)) (by rfl)) (by rfl) (by rfl))
   ·exact eN
  refine(@aP _ _ _ _ _ _ ?_ ?_)
  ·refine(@eQ _ _ _ _ _ _ _ _ _ ?_ ?_ ?_)
   ·exact(@eK _ _ _ _ _ _ _ _ _ _ (jn hq) jq (@fO _ _ _ _ _ _ _ _ _ _ hU hZ (pv 1) (@bb _ _ _ _ (pv 2))) (@aE _ _ _ _ (@aM _ _ _ _ _)) (cV _))
   ·refine(@bj _ _ _ _ ?_);exact(@bO _ _ _ _ _ _ ([0]) (2) _ au pE.nd rfl aq (@aM _ _ _ _ _) rfl aq)
   ·exact eN
  refine(@bj _ _ _ _ ?_);refine(@cE _ _ _ _ _ ?_);exact(@oF _ _ _ _ _ _ (@ef _ _ _ _ _ _ (@aN _ _ _ _ (pv 1)) (@ef _ _ _ _ _ _ (@aN _ _ _ _ (pv 2)) (@fA _ _) (by rfl)) (by rfl)) (by decide))) λss y h=>dH h
def yG:DS:=(aC (b_ (aB (ak bU 3 (ao (eD (.int 1))))) (bN (ak ax 1 (ao (aI fj [.io 0,.val (ak bX 2 (ao (eD (.int 1))))])))) cA) (aC (b_ (aB (ak bU 3 (ao (eD (.int 2))))) (bN (ak ax 1 (ao (aD e9 (ak bX 2 (ao (eD (.int 1)))) (ao (aO bh (aj 1))))))) cA) (aC (b_ (kH (aB (ak bU 3 (ao (eD (.int 3))))) (aB (aD fT (aI fj [.io 0,.val (eD (.int 4))]) (ao (eD (.int 0)))))) (bN (ak ax 1 (aj 2))) cA) (bN (ak ax 1 (ao (aI fj [.io 0,.val (aO bh (aj 1))])))))))
def iy:DF:=cn [0] 4 yG
theorem Rp:c7 iy:=dP
theorem Rq:cW ["pen","tiles","place","way"] ["pen","tiles","place","way"] (bW yi):=scc
theorem Rr {K:W2} (F:cx K "_law_pick" "_law_pick" yi f fd) (hm:mg "_law_pick" = some (.ref f)) (hb:Binds K fd ["pen","tiles","place","way"] []) (T:Txt K mg) (fW:aX P w K mg base 2 "_law_draw" 2 fj):aX P w K mg base 3 "_law_pick" 4 iy :=
 d_ (np:=[0]) (fb:=yG) F hm hb Rq (λc bu A outer s H E hr au=>by
  have hq:=dQ hr;refine(aP ?_ ?_)
  ·refine(eQ ?_ ?_ ?_)
   ·exact(kG (jn hq) jq (pv 3) (aE aM) (cV _))
   ·refine(bj ?_);refine(cE ?_);exact(bB bw bC (pv 1) (aE (@ck _ _ _ _ _ (2) _ _ _ _ _ fW j9 (hr.mono (by decide)) rfl (iS (pv 0) (bG (fO hU hZ (pv 2) (aE aM)) cf (by rfl)) (by rfl)) rfl (by decide) (by rfl) (by rfl))) (λ_ _=>rfl))
   ·exact eN
  refine(aP ?_ ?_)
  ·refine(eQ ?_ ?_ ?_)
   ·exact(kG (jn hq) jq (pv 3) (aE aM) (cV _))
   ·refine(bj ?_);refine(cE ?_);exact(bB bw bC (pv 1) (aE (cM lE lU (fO hU hZ (pv 2) (aE aM)) (aE (gH rfl T.fH (bb (pv 1)) (by rfl))))) (λ_ _=>rfl))
   ·exact eN
  refine(aP ?_ ?_)
  ·refine(eQ ?_ ?_ ?_)
   ·exact(oC (wH (kG (jn hq) jq (pv 3) (aE aM) (cV _)) (wF (eK oE lW (@ck _ _ _ _ _ (2) _ _ _ _ _ fW j9 (hr.mono (by decide)) rfl (iS (pv 0) (bG aM cf (by rfl)) (by rfl)) rfl (by decide) (by rfl) (by rfl)) (aE aM) (cV _)))))
   ·refine(bj ?_);refine(cE ?_);exact(bB bw bC (pv 1) (bb (pv 2)) (λ_ _=>rfl))
   ·exact eN
  refine(bj ?_);refine(cE ?_);exact(bB bw bC (pv 1) (aE (@ck _ _ _ _ _ (2) _ _ _ _ _ fW j9 (hr.mono (by decide)) rfl (iS (pv 0) (bG (gH rfl T.fH (bb (pv 1)) (by rfl)) cf (by rfl)) (by rfl)) rfl (by decide) (by rfl) (by rfl))) (λ_ _=>rfl))) λss y h=>dH h
def yH:DS:=(aC (az (aI nU [.io 0]) (bV 2 (aY (ag [0] 2) (aY (ag [0] 3) bY)))) (aC (az (aD bX (eD (.int 1)) (ao (aI fj [.io 0,.val (aa 1)]))) (ag [0] 4)) (aC (az (aI fj [.io 0,.val (eD (.int 26))]) (ag [0] 5)) (aC (az (eD (.str [97,98,99,100,101,102,103,104,105,106,107,108,109,110,111,112,113,114,115,116,117,118,119,120,121,122])) (ag [0] 6)) (aC (az (aO nr (ao (bJ [13] (dY (aa 4)) (ag [0] 13) a_ (ak ax 6 (ao (aD e9 (ak bX 5 (ao (aD gK (eD (.int 5)) (aj 13)))) (ao (eD (.int 26))))))))) (ag [0] 7)) (aC (az (aI fj [.io 0,.val (eD (.int 5))]) (ag [0] 8)) (aC (az (fU cP) (ag [0] 9)) (aC (dZ (dY (aa 4)) (ag [0] 10) (aC (az (fU cP) (ag [0] 11)) (aC (dZ (dY (aa 2)) (ag [0] 12) (dm 11 (aO (dF []) (ao (bJ [14] (dY (aa 3)) (ag [0] 14) a_ (aI iy [.io 0,.val (aa 7),.val (aa 10),.val (aa 8)])))))) (dm 9 (h9 (bS (ak ax 7 (aj 10)) (bS (aO e_ (aj 11)) cP))))))) (bN (h9 (bS (aa 2) (bS (aa 3) (bS (aO e_ (aj 9)) cP)))))))))))))
def k_:DF:=cn [0] 15 yH
theorem Rt:c7 k_:=dP
theorem gP:cW ["pen","most","high","wide","size","first","letters","tiles","way","blocks","place","block","row","k","column"] ["pen","most"] (bW yj):=scc
theorem Ru {K:W2} (F:cx K "_law_rule_by" "_law_rule_by" yj f fd) (hm:mg "_law_rule_by" = some (.ref f)) (hb:Binds K fd ["pen","most"] []) (T:Txt K mg) (fW:aX P w K mg base 2 "_law_draw" 2 fj) (yI:aX P w K mg base 3 "_law_sizes_by" 1 nU) (yJ:aX P w K mg base 3 "_law_pick" 4 iy):aX P w K mg base 4 "_law_rule_by" 2 k_ :=
 d_ (np:=[0]) (fb:=yH) F hm hb gP (λc bu A outer s H E hr au=>by
  have hq:=dQ hr;refine(@aP _ _ _ _ _ _ ?_ ?_)
  ·refine(@CS _ _ _ _ _ _ _ ?_ ?_ (by rfl) (by rfl) (by rfl))
   ·exact(@ck _ _ _ _ _ (3) _ _ _ _ _ yI Rn (hr.mono (by decide)) rfl (@iS _ _ _ _ _ _ (pv 0) (@cf _ _) (by rfl)) rfl (by decide) (by rfl) (by rfl))
   ·exact(@qM _ _ _ _ _ _ _ rfl (@jW _ _ _ _ _ _ (@eE _ _ _ ([0]) (2) _ au gP.nd rfl aq aq) (@jW _ _ _ _ _ _ (@eE _ _ _ ([0]) (3) _ au gP.nd rfl aq aq) (@qL _ _) (by rfl)) (by rfl)) (by rfl) (by rfl))
  refine(@aP _ _ _ _ _ _ ?_ ?_)
  ·exact(@bO _ _ _ _ _ _ ([0]) (4) _ au gP.nd rfl aq (@cM _ _ _ _ _ _ _ _ _ _ hU hZ (@aM _ _ _ _ _) (@aE _ _ _ _ (@ck _ _ _ _ _ (2) _ _ _ _ _ fW j9 (hr.mono (by decide)) rfl (@iS _ _ _ _ _ _ (pv 0) (@bG _ _ _ _ _ _ (@aN _ _ _ _ (pv 1)) (@cf _ _) (by rfl)) (by rfl)) rfl (by decide) (by rfl) (by rfl)))) rfl aq)
  refine(@aP _ _ _ _ _ _ ?_ ?_)
  ·exact(@bO _ _ _ _ _ _ ([0]) (5) _ au gP.nd rfl aq (@ck _ _ _ _ _ (2) _ _ _ _ _ fW j9 (hr.mono (by decide)) rfl (@iS _ _ _ _ _ _ (pv 0) (@bG _ _ _ _ _ _ (@aM _ _ _ _ _) (@cf _ _) (by rfl)) (by rfl)) rfl (by decide) (by rfl) (by rfl)) rfl aq)
  refine(@aP _ _ _ _ _ _ ?_ ?_)
  ·exact(@bO _ _ _ _ _ _ ([0]) (6) _ au gP.nd rfl aq (@B_ _ _ _ _ _ [97,98,99,100,101,102,103,104,105,106,107,108,109,110,111,112,113,114,115,116,117,118,119,120,121,122] (by decide +kernel)) rfl aq)
  refine(@aP _ _ _ _ _ _ ?_ ?_)
  ·exact(@bO _ _ _ _ _ _ ([0]) (7) _ au gP.nd rfl aq (@CM _ _ _ _ _ _ rfl T.pC (@aE _ _ _ _ (@ic _ _ ([13]) _ _ _ _ _ _ _ _ _ _ rfl (@fF _ _ _ rfl rfl) (@kP _ _ _ _ _ _ _ rfl T.iw (@aN _ _ _ _ (pv 4)) (by rfl)) (λl s0 H0 ex=>(@dO _ _ _ _ ([0]) (13) _ au gP.nd rfl aq aq (by decide))) (λl s0 H0 ex=>(@gj _ _)) (λl s0 H0 ex=>(@bB _ _ _ _ _ _ _ _ _ bw bC (pv 6) (@aE _ _ _ _ (@cM _ _ _ _ _ _ _ _ _ _ lE lU (@fO _ _ _ _ _ _ _ _ _ _ hU hZ (pv 5) (@aE _ _ _ _ (@cM _ _ _ _ _ _ _ _ _ _ uf ug (@aM _ _ _ _ _) (@bb _ _ _ _ (pv 13))))) (@aE _ _ _ _ (@aM _ _ _ _ _)))) (λ_ _=>rfl))) (fE au rfl) (by intro _; rfl))) (by rfl)) rfl aq)
  refine(@aP _ _ _ _ _ _ ?_ ?_)
  ·exact(@bO _ _ _ _ _ _ ([0]) (8) _ au gP.nd rfl aq (@ck _ _ _ _ _ (2) _ _ _ _ _ fW j9 (hr.mono (by decide)) rfl (@iS _ _ _ _ _ _ (pv 0) (@bG _ _ _ _ _ _ (@aM _ _ _ _ _) (@cf _ _) (by rfl)) (by rfl)) rfl (by decide) (by rfl) (by rfl)) rfl aq)
  refine(@aP _ _ _ _ _ _ ?_ ?_)
  ·exact(@bO _ _ _ _ _ _ ([0]) (9) _ au gP.nd rfl aq (@jU _ _ _ _ _ (@fA _ _) (by decide)) rfl aq)
  refine(@aP _ _ _ _ _ _ ?_ ?_)
  ·refine(@h_ _ _ _ _ _ _ _ _ _ PassesOwn.never rfl ?_ ?_ ?_ (by intro _; rfl))
   ·exact(@kP _ _ _ _ _ _ _ rfl T.iw (@aN _ _ _ _ (pv 4)) (by rfl))
   ·exact(@eE _ _ _ ([0]) (10) _ au gP.nd rfl aq aq)
   ·refine(@aP _ _ _ _ _ _ ?_ ?_)
    ·exact(@bO _ _ _ _ _ _ ([0]) (11) _ au gP.nd rfl aq (@jU _ _ _ _ _ (@fA _ _) (by decide)) rfl aq)
    refine(@aP _ _ _ _ _ _ ?_ ?_)
    ·refine(@h_ _ _ _ _ _ _ _ _ _ PassesOwn.never rfl ?_ ?_ ?_ (by intro _; rfl))
     ·exact(@kP _ _ _ _ _ _ _ rfl T.iw (@aN _ _ _ _ (pv 2)) (by rfl))
     ·exact(@eE _ _ _ ([0]) (12) _ au gP.nd rfl aq aq)
     ·refine(@bj _ _ _ _ ?_);exact(@nE _ _ _ _ _ _ _ _ _ (pv 11) (@tQ _ _ _ _ _ _ _ _ _ [] (@aE _ _ _ _ (@ic _ _ ([14]) _ _ _ _ _ _ _ _ _ _ rfl (@fF _ _ _ rfl rfl) (@kP _ _ _ _ _ _ _ rfl T.iw (@aN _ _ _ _ (pv 3)) (by rfl)) (λl s0 H0 ex=>(@dO _ _ _ _ ([0]) (14) _ au gP.nd rfl aq aq (by decide))) (λl s0 H0 ex=>(@gj _ _)) (λl s0 H0 ex=>(@ck _ _ _ _ _ (3) _ _ _ _ _ yJ Rp (hr.mono (by decide)) rfl (@iS _ _ _ _ _ _ (pv 0) (@bG _ _ _ _ _ _ (@aN _ _ _ _ (pv 7)) (@bG _ _ _ _ _ _ (@aN _ _ _ _ (pv 10)) (@bG _ _ _ _ _ _ (@aN _ _ _ _ (pv 8)) (@cf _ _) (by rfl)) (by rfl)) (by rfl)) (by rfl)) rfl (by decide) (by rfl) (by rfl))) (fE au rfl) (by intro _; rfl))) (by decide +kernel) (by rfl) (by rfl) (by rfl) (by rfl)) (by rfl) (by rfl) (by rfl) (by rfl) (by rfl))
    refine(@bj _ _ _ _ ?_);exact(@nE _ _ _ _ _ _ _ _ _ (pv 9) (@oF _ _ _ _ _ _ (@ef _ _ _ _ _ _ (@bB _ _ _ _ _ _ _ _ _ bw bC (pv 7) (@bb _ _ _ _ (pv 10)) (λ_ _=>rfl)) (@ef _ _ _ _ _ _ (@qH _ _ _ _ _ _ rfl T.jC (@bb _ _ _ _ (pv 11)) (by rfl)) (@fA _ _) (by rfl)) (by rfl)) (by decide)) (by rfl) (by rfl) (by rfl) (by rfl) (by rfl))
  refine(@bj _ _ _ _ ?_);refine(@cE _ _ _ _ _ ?_);exact(@oF _ _ _ _ _ _ (@ef _ _ _ _ _ _ (@aN _ _ _ _ (pv 2)) (@ef _ _ _ _ _ _ (@aN _ _ _ _ (pv 3)) (@ef _ _ _ _ _ _ (@qH _ _ _ _ _ _ rfl T.jC (@bb _ _ _ _ (pv 9)) (by rfl)) (@fA _ _) (by rfl)) (by rfl)) (by rfl)) (by decide))) λss y h=>dH h
def yK:DS:=(aC (az (tO (aa 0) (aD jo (eD (.int 0)) (aj 0))) (ag [] 1)) (bN (fU (bS (aa 1) (bS (aO oG (ao (ak CF 1 (ao (aD wM (eD (.int 10)) (ao (eD (.int 18)))))))) (bS (ak e9 1 (ao (eD (.int 1000003)))) cP))))))
def mG:DF:=cn [] 2 yK
theorem Rv:c7 mG:=dP
theorem Fb:cW ["cell","left"] ["cell"] (bW yk):=scc
theorem Rw {K:W2} (F:cx K "_law_pen_of" "_law_pen_of" yk f fd) (hm:mg "_law_pen_of" = some (.ref f)) (hb:Binds K fd ["cell"] []) (T:Txt K mg):aX P w K mg base 1 "_law_pen_of" 1 mG :=
 d_ (np:=[]) (fb:=yK) F hm hb Fb (λc bu A outer s H E hr au=>by
  have hq:=dQ hr;refine(aP ?_ ?_)
  ·exact(@bO _ _ _ _ _ _ ([]) (1) _ au Fb.nd rfl aq (Mk rfl rfl T.rG (aN (pv 0)) (cM vC wK aM (bb (pv 0))) (by rfl) (by rfl) (by rfl)) rfl aq)
  refine(bj ?_);refine(cE ?_);exact(jU (ef (aN (pv 1)) (ef (Mh rfl T.pA (aE (Cv Mb lW (pv 1) (aE (cM Io Ma aM (aE aM))) (cV _))) (by rfl)) (ef (fO lE lU (pv 1) (aE aM)) fA (by rfl)) (by rfl)) (by rfl)) (by decide))) λss y h=>dH h
def yL:DS:=(aC (dq (aB (ak cZ 1 (ao (eD (.int 0))))) (j8 [] 0 1 (bS (aa 1) (bS (ak uL 0 (aj 1)) cP))) 1000000) (bN (aO mx (aj 0))))
def iA:DF:=cn [] 2 yL
theorem yM:c7 iA:=dP
theorem Fd:cW ["one","other"] ["one","other"] (bW yl):=scc
theorem Rx {K:W2} (F:cx K "common_divisor" "common_divisor" yl f fd) (hm:mg "common_divisor" = some (.ref f)) (hb:Binds K fd ["one","other"] []) (T:Txt K mg):aX P w K mg base 1 "common_divisor" 2 iA :=
 d_ (np:=[]) (fb:=yL) F hm hb Fd (λc bu A outer s H E hr au=>by
  have hq:=dQ hr;refine(aP ?_ ?_)
  ·refine(w_ 1000000 (λh1 h2=>vp PassesOwn.never h1 h2) ?_ ?_)
   ·exact(kG (lS hq) lV (pv 1) (aE aM) (cV _))
   ·refine(bj ?_);exact(x9 (np:=[]) (i:=0) (j:=1) au rfl Fd.nd rfl rfl (by decide) rfl rfl (ef (aN (pv 1)) (ef (fO Im O_ (pv 0) (bb (pv 1))) fA (by rfl)) (by rfl)))
  refine(bj ?_);refine(cE ?_);exact(EO rfl T.pq (bb (pv 0)))) λss y h=>dH h
def yN:DS:=(aC (az (eD (.int 0)) (ag [] 1)) (aC (dZ (bL (aa 0)) (ag [] 2) (az (aI iA [.val (aa 1),.val (aa 2)]) (ag [] 1))) (bN (qB (aB (ak fT 1 (ao (eD (.int 1))))) (bJ [2] (bL (aa 0)) (ag [] 2) a_ (ak gk 2 (aj 1))) (aa 0)))))
def mH:DF:=cn [] 3 yN
theorem Ry:c7 mH:=dP
theorem rH:cW ["row","divisor","number"] ["row"] (bW ym):=scc
theorem Rz {K:W2} (F:cx K "row_lowered" "row_lowered" ym f fd) (hm:mg "row_lowered" = some (.ref f)) (hb:Binds K fd ["row"] []) (T:Txt K mg) (la:aX P w K mg base 1 "common_divisor" 2 iA):aX P w K mg base 2 "row_lowered" 1 mH :=
 d_ (np:=[]) (fb:=yN) F hm hb rH (λc bu A outer s H E hr au=>by
  have hq:=dQ hr;refine(aP ?_ ?_)
  ·exact(@bO _ _ _ _ _ _ ([]) (1) _ au rH.nd rfl aq aM rfl aq)
  refine(aP ?_ ?_)
  ·refine(h_ PassesOwn.never rfl ?_ ?_ ?_ (by intro _; rfl))
   ·exact(fG (aN (pv 0)))
   ·exact(@eE _ _ _ ([]) (2) _ au rH.nd rfl aq aq)
   ·refine(bj ?_);exact(@bO _ _ _ _ _ _ ([]) (1) _ au rH.nd rfl aq (@ck _ _ _ _ _ (1) _ _ _ _ _ la yM (hr.mono (by decide)) rfl (bG (aN (pv 1)) (bG (aN (pv 2)) cf (by rfl)) (by rfl)) rfl (by decide) (by rfl) (by rfl)) rfl aq)
  refine(bj ?_);refine(cE ?_);exact(L7 (kG oE lW (pv 1) (aE aM) (cV _)) (@ic _ _ ([2]) _ _ _ _ _ _ _ _ _ _ rfl (fF rfl rfl) (fG (aN (pv 0))) (λl s0 H0 ex=>(@dO _ _ _ _ ([]) (2) _ au rH.nd rfl aq aq (by decide))) (λl s0 H0 ex=>gj) (λl s0 H0 ex=>(fO oY oZ (pv 2) (bb (pv 1)))) (fE au rfl) (by intro _; rfl)) (aN (pv 0)))) λss y h=>dH h
def uQ:DS:=(aC (b_ (aB (aD bU (ak ax 0 (aj 2)) (ao (eD (.int 0))))) (bN (aa 0)) cA) (bN (aI mH [.val (bJ [3,4] (iU (aa 0) (aa 1)) (bV 2 (aY (ag [] 3) (aY (ag [] 4) bY))) a_ (aD jo (ak dE 3 (ao (ak ax 1 (aj 2)))) (ao (ak dE 4 (ao (ak ax 0 (aj 2)))))))])))
def j_:DF:=cn [] 5 uQ
theorem Fe:c7 j_:=dP
theorem yO:cW ["row","pivot","column","one","two"] ["row","pivot","column"] (bW yn):=scc
theorem RA {K:W2} (F:cx K "row_cleared" "row_cleared" yn f fd) (hm:mg "row_cleared" = some (.ref f)) (hb:Binds K fd ["row","pivot","column"] []) (T:Txt K mg) (yP:aX P w K mg base 2 "row_lowered" 1 mH):aX P w K mg base 3 "row_cleared" 3 j_ :=
 d_ (np:=[]) (fb:=uQ) F hm hb yO (λc bu A outer s H E hr au=>by
  have hq:=dQ hr;refine(aP ?_ ?_)
  ·refine(eQ ?_ ?_ ?_)
   ·exact(eK (jn hq) jq (bB bw bC (pv 0) (bb (pv 2)) (λ_ _=>rfl)) (aE aM) (cV _))
   ·refine(bj ?_);refine(cE ?_);exact(aN (pv 0))
   ·exact eN
  refine(bj ?_);refine(cE ?_);exact(@ck _ _ _ _ _ (2) _ _ _ _ _ yP Ry (hr.mono (by decide)) rfl (bG (@ic _ _ ([3,4]) _ _ _ _ _ _ _ _ _ _ rfl (fF rfl rfl) (Ed rfl T.pD (aN (pv 0)) (aN (pv 1)) (by rfl) (by rfl) (by rfl)) (λl s0 H0 ex=>(qR rfl (jY (@dO _ _ _ _ ([]) (3) _ au yO.nd rfl aq aq (by decide)) (jY (@dO _ _ _ _ ([]) (4) _ au yO.nd rfl aq aq (by decide)) qQ (by rfl)) (by rfl)) (by rfl) (by rfl))) (λl s0 H0 ex=>gj) (λl s0 H0 ex=>(cM vC wK (fO kY kZ (pv 3) (aE (bB bw bC (pv 1) (bb (pv 2)) (λ_ _=>rfl)))) (aE (fO kY kZ (pv 4) (aE (bB bw bC (pv 0) (bb (pv 2)) (λ_ _=>rfl))))))) (fE au rfl) (by intro _; rfl)) cf (by rfl)) rfl (by decide) (by rfl) (by rfl))) λss y h=>dH h
def yQ:DS:=(aC (az q_ (ag [] 1)) (aC (az (aa 0) (ag [] 2)) (aC (dZ (dY (aO bh (aj 0))) (ag [] 3) (aC (az (bJ [6] (bL (aa 2)) (ag [] 6) (aB (aD cZ (ak ax 6 (aj 3)) (ao (eD (.int 0))))) (aa 6)) (ag [] 4)) (b_ (aB (aD fT (aO bh (aj 4)) (ao (eD (.int 0))))) (aC (az (ak ax 4 (ao (eD (.int 0)))) (ag [] 5)) (aC (az (aD bX (bJ [6] (bL (kM 4 (jr (eD (.int 1))) qI)) (ag [] 6) a_ (aI j_ [.val (aa 6),.val (aa 5),.val (aa 3)])) (ao (bJ [6] (bL (aa 2)) (ag [] 6) (aB (aD bU (ak ax 6 (aj 3)) (ao (eD (.int 0))))) (aa 6)))) (ag [] 2)) (aC (az (aO jx (ao (bJ [7,6] (rq 1) (bV 2 (aY (ag [] 7) (aY (ag [] 6) bY))) a_ (h9 (bS (aa 7) (bS (aI j_ [.val (aa 6),.val (aa 5),.val (aa 3)]) cP)))))) (ag [] 1)) (kU 1 (aa 3) (aa 5))))) cA))) (j4 [] 1))))
def lb:DF:=cn [] 8 yQ
theorem RB:c7 lb:=dP
theorem iB:cW ["rows","solved","left","column","picked","pivot","row","own"] ["rows"] (bW yo):=scc
theorem RC {K:W2} (F:cx K "solved_rows" "solved_rows" yo f fd) (hm:mg "solved_rows" = some (.ref f)) (hb:Binds K fd ["rows"] []) (T:Txt K mg) (uR:aX P w K mg base 3 "row_cleared" 3 j_):aX P w K mg base 4 "solved_rows" 1 lb :=
 d_ (np:=[]) (fb:=yQ) F hm hb iB (λc bu A outer s H E hr au=>by
  have hq:=dQ hr;refine(aP ?_ ?_)
  ·exact(@bO _ _ _ _ _ _ ([]) (1) _ au iB.nd rfl aq Dx rfl aq)
  refine(aP ?_ ?_)
  ·exact(@bO _ _ _ _ _ _ ([]) (2) _ au iB.nd rfl aq (aN (pv 0)) rfl aq)
  refine(aP ?_ ?_)
  ·refine(h_ PassesOwn.never rfl ?_ ?_ ?_ (by intro _; rfl))
   ·exact(kP rfl T.iw (gH rfl T.fH (bb (pv 0)) (by rfl)) (by rfl))
   ·exact(@eE _ _ _ ([]) (3) _ au iB.nd rfl aq aq)
   ·refine(aP ?_ ?_)
    ·exact(@qS _ _ ([6]) _ _ _ _ _ _ _ _ _ _ ([]) (4) _ _ _ au rfl (fF rfl rfl) iB.nd rfl rfl (fG (aN (pv 2))) (λl s0 H0 ex=>(@dO _ _ _ _ ([]) (6) _ au iB.nd rfl aq aq (by decide))) (λl s0 H0 ex=>(xb (eK (lS hq) lV (bB bw bC (pv 6) (bb (pv 3)) (λ_ _=>rfl)) (aE aM) (cV _)))) (λl s0 H0 ex=>(aN (pv 6))) (fE au rfl) (by rfl) (by intro _; rfl))
    refine(bj ?_);refine(eQ ?_ ?_ ?_)
    ·exact(eK oE lW (gH rfl T.fH (bb (pv 4)) (by rfl)) (aE aM) (cV _))
    ·refine(aP ?_ ?_)
     ·exact(@bO _ _ _ _ _ _ ([]) (5) _ au iB.nd rfl aq (bB bw bC (pv 4) (aE aM) (λ_ _=>rfl)) rfl aq)
     refine(aP ?_ ?_)
     ·exact(@bO _ _ _ _ _ _ ([]) (2) _ au iB.nd rfl aq (cM hU hZ (@ic _ _ ([6]) _ _ _ _ _ _ _ _ _ _ rfl (fF rfl rfl) (fG (CO (pv 4) (wR aM) Mt)) (λl s0 H0 ex=>(@dO _ _ _ _ ([]) (6) _ au iB.nd rfl aq aq (by decide))) (λl s0 H0 ex=>gj) (λl s0 H0 ex=>(@ck _ _ _ _ _ (3) _ _ _ _ _ uR Fe (hr.mono (by decide)) rfl (bG (aN (pv 6)) (bG (aN (pv 5)) (bG (aN (pv 3)) cf (by rfl)) (by rfl)) (by rfl)) rfl (by decide) (by rfl) (by rfl))) (fE au rfl) (by intro _; rfl)) (aE (@ic _ _ ([6]) _ _ _ _ _ _ _ _ _ _ rfl (fF rfl rfl) (fG (aN (pv 2))) (λl s0 H0 ex=>(@dO _ _ _ _ ([]) (6) _ au iB.nd rfl aq aq (by decide))) (λl s0 H0 ex=>(xb (eK (jn hq) jq (bB bw bC (pv 6) (bb (pv 3)) (λ_ _=>rfl)) (aE aM) (cV _)))) (λl s0 H0 ex=>(aN (pv 6))) (fE au rfl) (by intro _; rfl)))) rfl aq)
     refine(aP ?_ ?_)
     ·exact(@bO _ _ _ _ _ _ ([]) (1) _ au iB.nd rfl aq (DK rfl rfl T.pw (aE (@ic _ _ ([7,6]) _ _ _ _ _ _ _ _ _ _ rfl (fF rfl rfl) (OI (pv 1)) (λl s0 H0 ex=>(qR rfl (jY (@dO _ _ _ _ ([]) (7) _ au iB.nd rfl aq aq (by decide)) (jY (@dO _ _ _ _ ([]) (6) _ au iB.nd rfl aq aq (by decide)) qQ (by rfl)) (by rfl)) (by rfl) (by rfl))) (λl s0 H0 ex=>gj) (λl s0 H0 ex=>(oF (ef (aN (pv 7)) (ef (@ck _ _ _ _ _ (3) _ _ _ _ _ uR Fe (hr.mono (by decide)) rfl (bG (aN (pv 6)) (bG (aN (pv 5)) (bG (aN (pv 3)) cf (by rfl)) (by rfl)) (by rfl)) rfl (by decide) (by rfl) (by rfl)) fA (by rfl)) (by rfl)) (by decide))) (fE au rfl) (by intro _; rfl))) (by rfl)) rfl aq)
     refine(bj ?_);exact(D5 hq (pv 1) (aN (pv 3)) (aN (pv 5)) (by rfl))
    ·exact eN
  refine(bj ?_);exact(um au (pv 1))) λss y h=>dH h
def yR:DS:=(bN (bJ [1,2] (bL (ak ax 0 (ao (eD (.int 2))))) (bV 2 (aY (ag [] 1) (aY (ag [] 2) bY))) a_ (aa 1)))
def nV:DF:=cn [] 3 yR
theorem RD:c7 nV:=dP
theorem yS:cW ["rule","tile","block"] ["rule"] (bW yp):=scc
theorem RE {K:W2} (F:cx K "rule_tiles" "rule_tiles" yp f fd) (hm:mg "rule_tiles" = some (.ref f)) (hb:Binds K fd ["rule"] []) (T:Txt K mg):aX P w K mg base 1 "rule_tiles" 1 nV :=
 d_ (np:=[]) (fb:=yR) F hm hb yS (λc bu A outer s H E hr au=>by
  have hq:=dQ hr;refine(bj ?_);refine(cE ?_);exact(@ic _ _ ([1,2]) _ _ _ _ _ _ _ _ _ _ rfl (fF rfl rfl) (fG (bB bw bC (pv 0) (aE aM) (λ_ _=>rfl))) (λl s0 H0 ex=>(qR rfl (jY (@dO _ _ _ _ ([]) (1) _ au yS.nd rfl aq aq (by decide)) (jY (@dO _ _ _ _ ([]) (2) _ au yS.nd rfl aq aq (by decide)) qQ (by rfl)) (by rfl)) (by rfl) (by rfl))) (λl s0 H0 ex=>gj) (λl s0 H0 ex=>(aN (pv 1))) (fE au rfl) (by intro _; rfl))) λss y h=>dH h
def yT:DS:=(aC (az (aI nV [.val (aa 0)]) (ag [] 1)) (bN (aO e_ (ao (bJ [2,3] (bL (ak ax 0 (ao (eD (.int 2))))) (bV 2 (aY (ag [] 2) (aY (ag [] 3) bY))) a_ (aO e_ (ao (bJ [4] (bL (aa 1)) (ag [] 4) a_ (nL (aO (dF []) (aj 3)) (aa 4))))))))))
def nW:DF:=cn [] 5 yT
theorem RF:c7 nW:=dP
theorem rJ:cW ["rule","tiles","own","block","tile"] ["rule"] (bW yq):=scc
theorem RG {K:W2} (F:cx K "table_of" "table_of" yq f fd) (hm:mg "table_of" = some (.ref f)) (hb:Binds K fd ["rule"] []) (T:Txt K mg) (yU:aX P w K mg base 1 "rule_tiles" 1 nV):aX P w K mg base 2 "table_of" 1 nW :=
 d_ (np:=[]) (fb:=yT) F hm hb rJ (λc bu A outer s H E hr au=>by
  have hq:=dQ hr;refine(aP ?_ ?_)
  ·exact(@bO _ _ _ _ _ _ ([]) (1) _ au rJ.nd rfl aq (@ck _ _ _ _ _ (1) _ _ _ _ _ yU RD (hr.mono (by decide)) rfl (bG (aN (pv 0)) cf (by rfl)) rfl (by decide) (by rfl) (by rfl)) rfl aq)
  refine(bj ?_);refine(cE ?_);exact(qH rfl T.jC (aE (@ic _ _ ([2,3]) _ _ _ _ _ _ _ _ _ _ rfl (fF rfl rfl) (fG (bB bw bC (pv 0) (aE aM) (λ_ _=>rfl))) (λl s0 H0 ex=>(qR rfl (jY (@dO _ _ _ _ ([]) (2) _ au rJ.nd rfl aq aq (by decide)) (jY (@dO _ _ _ _ ([]) (3) _ au rJ.nd rfl aq aq (by decide)) qQ (by rfl)) (by rfl)) (by rfl) (by rfl))) (λl s0 H0 ex=>gj) (λl s0 H0 ex=>(qH rfl T.jC (aE (@ic _ _ ([4]) _ _ _ _ _ _ _ _ _ _ rfl (fF rfl rfl) (fG (aN (pv 1))) (λl s0 H0 ex=>(@dO _ _ _ _ ([]) (4) _ au rJ.nd rfl aq aq (by decide))) (λl s0 H0 ex=>gj) (λl s0 H0 ex=>(Ol (tQ [] (bb (pv 3)) (by decide +kernel) (by rfl) (by rfl) (by rfl) (by rfl)) (aN (pv 4)))) (fE au rfl) (by intro _; rfl))) (by rfl))) (fE au rfl) (by intro _; rfl))) (by rfl))) λss y h=>dH h
def yV:DS:=(aC (az (aI nW [.val (aa 0)]) (ag [] 1)) (aC (az (aD gK (ak ax 0 (ao (eD (.int 0)))) (ao (ak ax 0 (ao (eD (.int 1)))))) (ag [] 2)) (aC (az (fU cP) (ag [] 3)) (aC (dZ (dY (aO bh (aj 1))) (ag [] 4) (aC (az (bJ [6] (bL (aa 1)) (ag [] 6) a_ (ak ax 6 (aj 4))) (ag [] 5)) (aC (kO 5 (aa 4) (aD jo (ak ax 5 (aj 4)) (aj 2))) (dm 3 (aa 5))))) (j4 [] 3)))))
def lg:DF:=cn [] 7 yV
theorem RH:c7 lg:=dP
theorem nX:cW ["rule","table","area","rows","number","row","line"] ["rule"] (bW yr):=scc
theorem RI {K:W2} (F:cx K "still_rows" "still_rows" yr f fd) (hm:mg "still_rows" = some (.ref f)) (hb:Binds K fd ["rule"] []) (T:Txt K mg) (yW:aX P w K mg base 2 "table_of" 1 nW):aX P w K mg base 3 "still_rows" 1 lg :=
 d_ (np:=[]) (fb:=yV) F hm hb nX (λc bu A outer s H E hr au=>by
  have hq:=dQ hr;refine(aP ?_ ?_)
  ·exact(@bO _ _ _ _ _ _ ([]) (1) _ au nX.nd rfl aq (@ck _ _ _ _ _ (2) _ _ _ _ _ yW RF (hr.mono (by decide)) rfl (bG (aN (pv 0)) cf (by rfl)) rfl (by decide) (by rfl) (by rfl)) rfl aq)
  refine(aP ?_ ?_)
  ·exact(@bO _ _ _ _ _ _ ([]) (2) _ au nX.nd rfl aq (cM uf ug (bB bw bC (pv 0) (aE aM) (λ_ _=>rfl)) (aE (bB bw bC (pv 0) (aE aM) (λ_ _=>rfl)))) rfl aq)
  refine(aP ?_ ?_)
  ·exact(@bO _ _ _ _ _ _ ([]) (3) _ au nX.nd rfl aq (jU fA (by decide)) rfl aq)
  refine(aP ?_ ?_)
  ·refine(h_ PassesOwn.never rfl ?_ ?_ ?_ (by intro _; rfl))
   ·exact(kP rfl T.iw (gH rfl T.fH (bb (pv 1)) (by rfl)) (by rfl))
   ·exact(@eE _ _ _ ([]) (4) _ au nX.nd rfl aq aq)
   ·refine(aP ?_ ?_)
    ·exact(@qS _ _ ([6]) _ _ _ _ _ _ _ _ _ _ ([]) (5) _ _ _ au rfl (fF rfl rfl) nX.nd rfl rfl (fG (aN (pv 1))) (λl s0 H0 ex=>(@dO _ _ _ _ ([]) (6) _ au nX.nd rfl aq aq (by decide))) (λl s0 H0 ex=>gj) (λl s0 H0 ex=>(bB bw bC (pv 6) (bb (pv 4)) (λ_ _=>rfl))) (fE au rfl) (by rfl) (by intro _; rfl))
    refine(aP ?_ ?_)
    ·exact(wZ (pv 5) (aN (pv 4)) (cM vC wK (bB bw bC (pv 5) (bb (pv 4)) (λ_ _=>rfl)) (bb (pv 2))) (by intro _; rfl) (by rfl) (by rfl) (by rfl))
    refine(bj ?_);exact(nE (pv 3) (aN (pv 5)) (by rfl) (by rfl) (by rfl) (by rfl) (by rfl))
  refine(bj ?_);exact(um au (pv 3))) λss y h=>dH h
def yX:DS:=(aC (az (aI iA [.val (aa 0),.val (aa 1)]) (ag [] 2)) (bN (h9 (bS (ak gk 0 (aj 2)) (bS (ak gk 1 (aj 2)) cP)))))
def ka:DF:=cn [] 3 yX
theorem RJ:c7 ka:=dP
theorem Ff:cW ["top","bottom","divisor"] ["top","bottom"] (bW yt):=scc
theorem RK {K:W2} (F:cx K "lowest_fraction" "lowest_fraction" yt f fd) (hm:mg "lowest_fraction" = some (.ref f)) (hb:Binds K fd ["top","bottom"] []) (T:Txt K mg) (la:aX P w K mg base 1 "common_divisor" 2 iA):aX P w K mg base 2 "lowest_fraction" 2 ka :=
 d_ (np:=[]) (fb:=yX) F hm hb Ff (λc bu A outer s H E hr au=>by
  have hq:=dQ hr;refine(aP ?_ ?_)
  ·exact(@bO _ _ _ _ _ _ ([]) (2) _ au Ff.nd rfl aq (@ck _ _ _ _ _ (1) _ _ _ _ _ la yM (hr.mono (by decide)) rfl (bG (aN (pv 0)) (bG (aN (pv 1)) cf (by rfl)) (by rfl)) rfl (by decide) (by rfl) (by rfl)) rfl aq)
  refine(bj ?_);refine(cE ?_);exact(oF (ef (fO oY oZ (pv 0) (bb (pv 2))) (ef (fO oY oZ (pv 1) (bb (pv 2))) fA (by rfl)) (by rfl)) (by decide))) λss y h=>dH h
def yY:DS:=(aC (az (aO bh (ao (ak ax 0 (ao (eD (.int 2)))))) (ag [] 1)) (aC (az (aI lb [.val (aI lg [.val (aa 0)])]) (ag [] 2)) (aC (az (bJ [5] (dY (aa 1)) (ag [] 5) (aB (aD (gL true) (aa 5) (aj 2))) (aa 5)) (ag [] 3)) (aC (b_ (aB (aD fT (aO bh (aj 3)) (ao (eD (.int 1))))) (bN (eD .aJ)) cA) (aC (az (eD (.int 1)) (ag [] 4)) (aC (dZ (rB (rC 2)) (bV 2 (aY (ag [] 5) (aY (ag [] 6) bY))) (az (aD gk (ak dE 4 (ao (aO mx (ao (ak ax 6 (aj 5)))))) (ao (aI iA [.val (aa 4),.val (ak ax 6 (aj 5))]))) (ag [] 4))) (aC (az (fU cP) (ag [] 7)) (aC (dZ (dY (aa 1)) (ag [] 5) (b_ (aB (aD (nR false) (aa 5) (aj 2))) (aC (az (ak nS 2 (aj 5)) (ag [] 6)) (dm 7 (aD gk (aD dE (aO oO (ao (ak ax 6 (ao (ak ax 3 (ao (eD (.int 0)))))))) (aj 4)) (ao (ak ax 6 (aj 5)))))) (dm 7 (aa 4)))) (aC (az (aO jA (aj 7)) (ag [] 8)) (bN (aO e_ (ao (bJ [9] (bL (aa 7)) (ag [] 9) a_ (aI ka [.val (aa 9),.val (aa 8)]))))))))))))))
def gQ:DF:=cn [] 10 yY
theorem Fg:c7 gQ:=dP
theorem gR:cW ["rule","many","solved","free","weight","column","row","weights","whole","top"] ["rule"] (bW yu):=scc
theorem RL {K:W2} (F:cx K "still_shares" "still_shares" yu f fd) (hm:mg "still_shares" = some (.ref f)) (hb:Binds K fd ["rule"] []) (T:Txt K mg) (la:aX P w K mg base 1 "common_divisor" 2 iA) (yZ:aX P w K mg base 4 "solved_rows" 1 lb) (y6:aX P w K mg base 3 "still_rows" 1 lg) (y8:aX P w K mg base 2 "lowest_fraction" 2 ka):aX P w K mg base 5 "still_shares" 1 gQ :=
 d_ (np:=[]) (fb:=yY) F hm hb gR (λc bu A outer s H E hr au=>by
  have hq:=dQ hr;refine(aP ?_ ?_)
  ·exact(@bO _ _ _ _ _ _ ([]) (1) _ au gR.nd rfl aq (gH rfl T.fH (aE (bB bw bC (pv 0) (aE aM) (λ_ _=>rfl))) (by rfl)) rfl aq)
  refine(aP ?_ ?_)
  ·exact(@bO _ _ _ _ _ _ ([]) (2) _ au gR.nd rfl aq (@ck _ _ _ _ _ (4) _ _ _ _ _ yZ RB (hr.mono (by decide)) rfl (bG (@ck _ _ _ _ _ (3) _ _ _ _ _ y6 RH (hr.mono (by decide)) rfl (bG (aN (pv 0)) cf (by rfl)) rfl (by decide) (by rfl) (by rfl)) cf (by rfl)) rfl (by decide) (by rfl) (by rfl)) rfl aq)
  refine(aP ?_ ?_)
  ·exact(@qS _ _ ([5]) _ _ _ _ _ _ _ _ _ _ ([]) (3) _ _ _ au rfl (fF rfl rfl) gR.nd rfl rfl (kP rfl T.iw (aN (pv 1)) (by rfl)) (λl s0 H0 ex=>(@dO _ _ _ _ ([]) (5) _ au gR.nd rfl aq aq (by decide))) (λl s0 H0 ex=>(xb (eK (DO hq) (DU true) (aN (pv 5)) (bb (pv 2)) rfl))) (λl s0 H0 ex=>(aN (pv 5))) (fE au rfl) (by rfl) (by intro _; rfl))
  refine(aP ?_ ?_)
  ·refine(eQ ?_ ?_ ?_)
   ·exact(eK oE lW (gH rfl T.fH (bb (pv 3)) (by rfl)) (aE aM) (cV _))
   ·refine(bj ?_);refine(cE ?_);exact sZ
   ·exact eN
  refine(aP ?_ ?_)
  ·exact(@bO _ _ _ _ _ _ ([]) (4) _ au gR.nd rfl aq aM rfl aq)
  refine(aP ?_ ?_)
  ·refine(h_ PassesOwn.never rfl ?_ ?_ ?_ (by intro _; rfl))
   ·exact(P_ (Rh (pv 2)))
   ·exact(qM rfl (jW (@eE _ _ _ ([]) (5) _ au gR.nd rfl aq aq) (jW (@eE _ _ _ ([]) (6) _ au gR.nd rfl aq aq) qL (by rfl)) (by rfl)) (by rfl) (by rfl))
   ·refine(bj ?_);exact(@bO _ _ _ _ _ _ ([]) (4) _ au gR.nd rfl aq (cM oY oZ (fO kY kZ (pv 4) (aE (EO rfl T.pq (aE (bB bw bC (pv 6) (bb (pv 5)) (λ_ _=>rfl)))))) (aE (@ck _ _ _ _ _ (1) _ _ _ _ _ la yM (hr.mono (by decide)) rfl (bG (aN (pv 4)) (bG (bB bw bC (pv 6) (bb (pv 5)) (λ_ _=>rfl)) cf (by rfl)) (by rfl)) rfl (by decide) (by rfl) (by rfl)))) rfl aq)
  refine(aP ?_ ?_)
  ·exact(@bO _ _ _ _ _ _ ([]) (7) _ au gR.nd rfl aq (jU fA (by decide)) rfl aq)
  refine(aP ?_ ?_)
  ·refine(h_ PassesOwn.never rfl ?_ ?_ ?_ (by intro _; rfl))
   ·exact(kP rfl T.iw (aN (pv 1)) (by rfl))
   ·exact(@eE _ _ _ ([]) (5) _ au gR.nd rfl aq aq)
   ·refine(bj ?_);refine(eQ ?_ ?_ ?_)
    ·exact(eK (PM hq) (PN false) (aN (pv 5)) (bb (pv 2)) rfl)
    ·refine(aP ?_ ?_)
     ·exact(@bO _ _ _ _ _ _ ([]) (6) _ au gR.nd rfl aq (bB (PR hq) PU (pv 2) (bb (pv 5)) (λ_ _=>rfl)) rfl aq)
     refine(bj ?_);exact(nE (pv 7) (cM oY oZ (cM kY kZ (NA (aE (bB bw bC (pv 6) (aE (bB bw bC (pv 3) (aE aM) (λ_ _=>rfl))) (λ_ _=>rfl)))) (bb (pv 4))) (aE (bB bw bC (pv 6) (bb (pv 5)) (λ_ _=>rfl)))) (by rfl) (by rfl) (by rfl) (by rfl) (by rfl))
    ·refine(bj ?_);exact(nE (pv 7) (aN (pv 4)) (by rfl) (by rfl) (by rfl) (by rfl) (by rfl))
  refine(aP ?_ ?_)
  ·exact(@bO _ _ _ _ _ _ ([]) (8) _ au gR.nd rfl aq (x5 rfl rfl T.nT (bb (pv 7))) rfl aq)
  refine(bj ?_);refine(cE ?_);exact(qH rfl T.jC (aE (@ic _ _ ([9]) _ _ _ _ _ _ _ _ _ _ rfl (fF rfl rfl) (fG (aN (pv 7))) (λl s0 H0 ex=>(@dO _ _ _ _ ([]) (9) _ au gR.nd rfl aq aq (by decide))) (λl s0 H0 ex=>gj) (λl s0 H0 ex=>(@ck _ _ _ _ _ (2) _ _ _ _ _ y8 RJ (hr.mono (by decide)) rfl (bG (aN (pv 9)) (bG (aN (pv 8)) cf (by rfl)) (by rfl)) rfl (by decide) (by rfl) (by rfl))) (fE au rfl) (by intro _; rfl))) (by rfl))) λss y h=>dH h
def y9:DS:=(aC (az (aO jx (ao (ak ax 0 (ao (eD (.int 2)))))) (ag [] 2)) (aC (az (uD (aa 1) (eD (.bl true))) (ag [] 3)) (aC (az (fU (bS (aa 1) cP)) (ag [] 4)) (aC (dq (aB (ak cZ 4 (ao (fU cP)))) (dZ (bL (aO (dF []) (ao (ak j3 2 (ao (o_ 4)))))) (ag [] 5) (b_ (aB (aD (gL true) (aa 5) (aj 3))) (aC (kU 3 (aa 5) (eD (.bl true))) (dm 4 (aa 5))) cA)) 1000000) (bN (aO nr (ao (aO uK (aj 3)))))))))
def fX:DF:=cn [] 6 y9
theorem Fh:c7 fX:=dP
theorem rK:cW ["rule","tile","blocks","found","fresh","sign"] ["rule","tile"] (bW yv):=scc
theorem RM {K:W2} (F:cx K "_law_come" "_law_come" yv f fd) (hm:mg "_law_come" = some (.ref f)) (hb:Binds K fd ["rule","tile"] []) (T:Txt K mg):aX P w K mg base 1 "_law_come" 2 fX :=
 d_ (np:=[]) (fb:=y9) F hm hb rK (λc bu A outer s H E hr au=>by
  have hq:=dQ hr;refine(aP ?_ ?_)
  ·exact(@bO _ _ _ _ _ _ ([]) (2) _ au rK.nd rfl aq (DK rfl rfl T.pw (aE (bB bw bC (pv 0) (aE aM) (λ_ _=>rfl))) (by rfl)) rfl aq)
  refine(aP ?_ ?_)
  ·exact(@bO _ _ _ _ _ _ ([]) (3) _ au rK.nd rfl aq (N9 (λc=>(aN (pv 1))) (λc=>jk)) rfl aq)
  refine(aP ?_ ?_)
  ·exact(@bO _ _ _ _ _ _ ([]) (4) _ au rK.nd rfl aq (jU (ef (aN (pv 1)) fA (by rfl)) (by decide)) rfl aq)
  refine(aP ?_ ?_)
  ·refine(w_ 1000000 (λh1 h2=>vp PassesOwn.never h1 h2) ?_ ?_)
   ·exact(kG (lS hq) lV (pv 4) (aE (jU fA (by decide))) (cV _))
   ·refine(bj ?_);refine(h_ PassesOwn.never rfl ?_ ?_ ?_ (by intro _; rfl))
    ·exact(fG (tQ [] (aE (bB (DY hq) DW (pv 2) (aE (Pb (pv 4))) (λ_ _=>rfl))) (by decide +kernel) (by rfl) (by rfl) (by rfl) (by rfl)))
    ·exact(@eE _ _ _ ([]) (5) _ au rK.nd rfl aq aq)
    ·refine(bj ?_);refine(eQ ?_ ?_ ?_)
     ·exact(eK (DO hq) (DU true) (aN (pv 5)) (bb (pv 3)) rfl)
     ·refine(aP ?_ ?_)
      ·exact(D5 hq (pv 3) (aN (pv 5)) jk (by rfl))
      refine(bj ?_);exact(nE (pv 4) (aN (pv 5)) (by rfl) (by rfl) (by rfl) (by rfl) (by rfl))
     ·exact eN
  refine(bj ?_);refine(cE ?_);exact(CM rfl T.pC (aE (O6 rfl rfl T.rF (bb (pv 3)))) (by rfl))) λss y h=>dH h
def y_:DS:=(aC (az (fU cP) (ag [] 1)) (aC (dZ (bL (ak ax 0 (ao (eD (.int 2))))) (bV 2 (aY (ag [] 2) (aY (ag [] 3) bY))) (aC (az (aI fX [.val (aa 0),.val (aa 2)]) (ag [] 4)) (b_ (kH (aB (aO kJ (ao (bJ [5] (bL (aa 4)) (ag [] 5) a_ (aD bU (aI fX [.val (aa 0),.val (aa 5)]) (aj 4)))))) (aB (aD (mw true) (aa 4) (aj 1)))) (dm 1 (aa 4)) cA))) (j4 [] 1)))
def mI:DF:=cn [] 6 y_
theorem RN:c7 mI:=dP
theorem pF:cW ["rule","found","tile","block","come","other"] ["rule"] (bW yw):=scc
theorem RO {K:W2} (F:cx K "_law_shut" "_law_shut" yw f fd) (hm:mg "_law_shut" = some (.ref f)) (hb:Binds K fd ["rule"] []) (T:Txt K mg) (uS:aX P w K mg base 1 "_law_come" 2 fX):aX P w K mg base 2 "_law_shut" 1 mI :=
 d_ (np:=[]) (fb:=y_) F hm hb pF (λc bu A outer s H E hr au=>by
  have hq:=dQ hr;refine(aP ?_ ?_)
  ·exact(@bO _ _ _ _ _ _ ([]) (1) _ au pF.nd rfl aq (jU fA (by decide)) rfl aq)
  refine(aP ?_ ?_)
  ·refine(h_ PassesOwn.never rfl ?_ ?_ ?_ (by intro _; rfl))
   ·exact(fG (bB bw bC (pv 0) (aE aM) (λ_ _=>rfl)))
   ·exact(qM rfl (jW (@eE _ _ _ ([]) (2) _ au pF.nd rfl aq aq) (jW (@eE _ _ _ ([]) (3) _ au pF.nd rfl aq aq) qL (by rfl)) (by rfl)) (by rfl) (by rfl))
   ·refine(aP ?_ ?_)
    ·exact(@bO _ _ _ _ _ _ ([]) (4) _ au pF.nd rfl aq (@ck _ _ _ _ _ (1) _ _ _ _ _ uS Fh (hr.mono (by decide)) rfl (bG (aN (pv 0)) (bG (aN (pv 2)) cf (by rfl)) (by rfl)) rfl (by decide) (by rfl) (by rfl)) rfl aq)
    refine(bj ?_);refine(eQ ?_ ?_ ?_)
    ·exact(oC (wH (nj (Mj rfl rfl T.rD (aE (@ic _ _ ([5]) _ _ _ _ _ _ _ _ _ _ rfl (fF rfl rfl) (fG (aN (pv 4))) (λl s0 H0 ex=>(@dO _ _ _ _ ([]) (5) _ au pF.nd rfl aq aq (by decide))) (λl s0 H0 ex=>gj) (λl s0 H0 ex=>(tL (jn hq) jq (@ck _ _ _ _ _ (1) _ _ _ _ _ uS Fh (hr.mono (by decide)) rfl (bG (aN (pv 0)) (bG (aN (pv 5)) cf (by rfl)) (by rfl)) rfl (by decide) (by rfl) (by rfl)) (bb (pv 4)) (cV _))) (fE au rfl) (by intro _; rfl))) (by rfl)) (by intro _; rfl)) (wF (eK (O8 hq) (O9 true) (aN (pv 4)) (bb (pv 1)) rfl))))
    ·refine(bj ?_);exact(nE (pv 1) (aN (pv 4)) (by rfl) (by rfl) (by rfl) (by rfl) (by rfl))
    ·exact eN
  refine(bj ?_);exact(um au (pv 1))) λss y h=>dH h
def Fi:DS:=(bN (wI (kL "int" (aj 0)) (wJ (kL "bool" (aj 0)))))
def kb:DF:=cn [] 1 Fi
theorem Fj:c7 kb:=dP
theorem RP:cW ["found"] ["found"] (bW yx):=scc
theorem RQ {K:W2} (F:cx K "_law_whole" "_law_whole" yx f fd) (hm:mg "_law_whole" = some (.ref f)) (hb:Binds K fd ["found"] []) (T:Txt K mg):aX P w K mg base 1 "_law_whole" 1 kb :=
 d_ (np:=[]) (fb:=Fi) F hm hb RP (λc bu A outer s H E hr au=>by
  have hq:=dQ hr;refine(bj ?_);refine(cE ?_);exact(L5 (tP T.ty_int rfl T.mD rfl T.pA boot_int (bb (pv 0)) (by decide) (by decide) (by rfl) (by rfl)) (L4 (L6 (tP T.ty_bool rfl T.mD rfl T.rE boot_bool (bb (pv 0)) (by decide) (by decide) (by rfl) (by rfl)))))) λss y h=>dH h
def za:DS:=(aC (j8 [] 2 3 (bS (aa 0) (bS (aa 1) cP))) (aC (dq (aB (ak fT 3 (ao (eD (.int 0))))) (j8 [] 2 3 (bS (aa 3) (bS (ak e9 2 (aj 3)) cP))) 1000000) (bN (ak bU 2 (ao (eD (.int 1)))))))
def mJ:DF:=cn [] 4 za
theorem RS:c7 mJ:=dP
theorem zb:cW ["top","bottom","one","other"] ["top","bottom"] (bW yy):=scc
theorem RT {K:W2} (F:cx K "_law_lowest" "_law_lowest" yy f fd) (hm:mg "_law_lowest" = some (.ref f)) (hb:Binds K fd ["top","bottom"] []) (T:Txt K mg):aX P w K mg base 1 "_law_lowest" 2 mJ :=
 d_ (np:=[]) (fb:=za) F hm hb zb (λc bu A outer s H E hr au=>by
  have hq:=dQ hr;refine(aP ?_ ?_)
  ·exact(x9 (np:=[]) (i:=2) (j:=3) au rfl zb.nd rfl rfl (by decide) rfl rfl (ef (aN (pv 0)) (ef (aN (pv 1)) fA (by rfl)) (by rfl)))
  refine(aP ?_ ?_)
  ·refine(w_ 1000000 (λh1 h2=>vp PassesOwn.never h1 h2) ?_ ?_)
   ·exact(kG oE lW (pv 3) (aE aM) (cV _))
   ·refine(bj ?_);exact(x9 (np:=[]) (i:=2) (j:=3) au rfl zb.nd rfl rfl (by decide) rfl rfl (ef (aN (pv 3)) (ef (fO lE lU (pv 2) (bb (pv 3))) fA (by rfl)) (by rfl)))
  refine(bj ?_);refine(cE ?_);exact(Cv (jn hq) jq (pv 2) (aE aM) (cV _))) λss y h=>dH h
def zc:DS:=(aC (az (bJ [7] (bL (ak ax 0 (ao (eD (.int 2))))) (ag [] 7) a_ (ak ax 7 (ao (eD (.int 0))))) (ag [] 1)) (aC (az q_ (ag [] 2)) (aC (dZ (bL (ak ax 0 (ao (eD (.int 2))))) (bV 2 (aY (ag [] 3) (aY (ag [] 4) bY))) (aC (nN 2 3 6 (aD kW (l6 [.int 0]) (ao (aO bh (aj 1)))) (aO (dF []) (aj 4)) (ag [2] 5) (az (j7 1 (aa 5)) (ag [2] 6))) cA)) (j4 [] 2))))
def nY:DF:=cn [] 8 zc
theorem RU:c7 nY:=dP
theorem mK:cW ["rule","tiles","found","tile","block","sign","place","pair"] ["rule"] (bW yz):=scc
theorem RV {K:W2} (F:cx K "_law_table" "_law_table" yz f fd) (hm:mg "_law_table" = some (.ref f)) (hb:Binds K fd ["rule"] []) (T:Txt K mg):aX P w K mg base 1 "_law_table" 1 nY :=
 d_ (np:=[]) (fb:=zc) F hm hb mK (λc bu A outer s H E hr au=>by
  have hq:=dQ hr;refine(aP ?_ ?_)
  ·exact(@qS _ _ ([7]) _ _ _ _ _ _ _ _ _ _ ([]) (1) _ _ _ au rfl (fF rfl rfl) mK.nd rfl rfl (fG (bB bw bC (pv 0) (aE aM) (λ_ _=>rfl))) (λl s0 H0 ex=>(@dO _ _ _ _ ([]) (7) _ au mK.nd rfl aq aq (by decide))) (λl s0 H0 ex=>gj) (λl s0 H0 ex=>(bB bw bC (pv 7) (aE aM) (λ_ _=>rfl))) (fE au rfl) (by rfl) (by intro _; rfl))
  refine(aP ?_ ?_)
  ·exact(@bO _ _ _ _ _ _ ([]) (2) _ au mK.nd rfl aq Dx rfl aq)
  refine(aP ?_ ?_)
  ·refine(h_ PassesOwn.never rfl ?_ ?_ ?_ (by intro _; rfl))
   ·exact(fG (bB bw bC (pv 0) (aE aM) (λ_ _=>rfl)))
   ·exact(qM rfl (jW (@eE _ _ _ ([]) (3) _ au mK.nd rfl aq aq) (jW (@eE _ _ _ ([]) (4) _ au mK.nd rfl aq aq) qL (by rfl)) (by rfl)) (by rfl) (by rfl))
   ·refine(OO (i:=2) (j:=3) (m:=6) hq PassesOwn.never rfl (pv 2) (pv 3) ?_ (pv 2) (pv 3) (pv 6) (pv 2) (pv 3) (pv 6) ?_ ?_ ?_ ?_ (λ_ _=>rfl) (λ_ _=>rfl) (λ_ _=>rfl))
    ·exact(cM OK OL (Dr (by rfl) (by decide)) (aE (gH rfl T.fH (bb (pv 1)) (by rfl))))
    ·intro pp pa; have au:=Np.cS (c:=c.plus pp) (i:=2) (a:=pa) au; exact(tQ [] (bb (pv 4)) (by decide +kernel) (by rfl) (by rfl) (by rfl) (by rfl))
    ·intro pp pa; have au:=Np.cS (c:=c.plus pp) (i:=2) (a:=pa) au; exact(@eE _ _ _ ([2]) (5) _ au mK.nd rfl aq aq)
    ·intro pp pa; have au:=Np.cS (c:=c.plus pp) (i:=2) (a:=pa) au; exact(@bO _ _ _ _ _ _ ([2]) (6) _ au mK.nd rfl aq (Og (pv 1) (aN (pv 5)) (by rfl) (by rfl) (by rfl) (by rfl)) rfl aq)
    exact eN
  refine(bj ?_);exact(um au (pv 2))) λss y h=>dH h
def zd:DS:=(aC (b_ (gz (gG (aB (kL "tuple" (aj 1)))) (aB (aD cZ (aO bh (aj 1)) (ao (aO bh (ao (ak ax 0 (ao (eD (.int 2)))))))))) (bN (eD (.bl false))) cA) (aC (az (eD (.int 1)) (ag [] 2)) (aC (dZ (bL (aa 1)) (ag [] 3) (aC (b_ (gz (gG (aB (kL "tuple" (aj 3)))) (gz (aB (aD cZ (aO bh (aj 3)) (ao (eD (.int 2))))) (gz (gG (aB (aI kb [.val (ak ax 3 (ao (eD (.int 0))))]))) (gG (aB (aI kb [.val (ak ax 3 (ao (eD (.int 1))))])))))) (bN (eD (.bl false))) cA) (aC (b_ (gz (aB (aD kI (ak ax 3 (ao (eD (.int 0)))) (ao (eD (.int 0))))) (gz (aB (aD kI (ak ax 3 (ao (eD (.int 1)))) (ao (eD (.int 1))))) (gG (aB (aI mJ [.val (ak ax 3 (ao (eD (.int 0)))),.val (ak ax 3 (ao (eD (.int 1))))]))))) (bN (eD (.bl false))) cA) (az (ak dE 2 (ao (ak ax 3 (ao (eD (.int 1)))))) (ag [] 2))))) (aC (az (bJ [3] (bL (aa 1)) (ag [] 3) a_ (aD gk (aD dE (ak ax 3 (ao (eD (.int 0)))) (aj 2)) (ao (ak ax 3 (ao (eD (.int 1))))))) (ag [] 4)) (aC (az (aI nY [.val (aa 0)]) (ag [] 5)) (aC (dZ (dY (aO bh (aj 4))) (ag [] 6) (aC (az (aO jA (ao (bJ [8,9] (iU (aa 4) (ak ax 0 (ao (eD (.int 2))))) (bV 2 (aY (ag [] 8) (aY (ag [] 9) bY))) a_ (ak dE 8 (ao (aD ax (ak j3 5 (ao (ak ax 9 (ao (eD (.int 0)))))) (aj 6))))))) (ag [] 7)) (b_ (aB (ak cZ 7 (ao (aD dE (aD dE (ak ax 0 (ao (eD (.int 0)))) (ao (ak ax 0 (ao (eD (.int 1)))))) (ao (ak ax 4 (aj 6))))))) (bN (eD (.bl false))) cA))) (bN (aD bU (aO jA (aj 4)) (aj 2)))))))))
def lh:DF:=cn [] 10 zd
theorem RX:c7 lh:=dP
theorem jD:cW ["rule","shares","bottom","one","tops","table","place","total","top","pair"] ["rule","shares"] (bW yA):=scc
theorem RY {K:W2} (F:cx K "_law_shares_good" "_law_shares_good" yA f fd) (hm:mg "_law_shares_good" = some (.ref f)) (hb:Binds K fd ["rule","shares"] []) (T:Txt K mg) (uT:aX P w K mg base 1 "_law_whole" 1 kb) (ze:aX P w K mg base 1 "_law_lowest" 2 mJ) (zf:aX P w K mg base 1 "_law_table" 1 nY):aX P w K mg base 2 "_law_shares_good" 2 lh :=
 d_ (np:=[]) (fb:=zd) F hm hb jD (λc bu A outer s H E hr au=>by
  have hq:=dQ hr;refine(aP ?_ ?_)
  ·refine(eQ ?_ ?_ ?_)
   ·exact(oC (oB (oD (nj (tP T.ty_tuple rfl T.mD rfl T.jC boot_tuple (bb (pv 1)) (by decide) (by decide) (by rfl) (by rfl)) (by intro _; rfl))) (wG (eK (lS hq) lV (gH rfl T.fH (bb (pv 1)) (by rfl)) (aE (gH rfl T.fH (aE (bB bw bC (pv 0) (aE aM) (λ_ _=>rfl))) (by rfl))) (cV _)))))
   ·refine(bj ?_);refine(cE ?_);exact jk
   ·exact eN
  refine(aP ?_ ?_)
  ·exact(@bO _ _ _ _ _ _ ([]) (2) _ au jD.nd rfl aq aM rfl aq)
  refine(aP ?_ ?_)
  ·refine(h_ PassesOwn.never rfl ?_ ?_ ?_ (by intro _; rfl))
   ·exact(fG (aN (pv 1)))
   ·exact(@eE _ _ _ ([]) (3) _ au jD.nd rfl aq aq)
   ·refine(aP ?_ ?_)
    ·refine(eQ ?_ ?_ ?_)
     ·exact(oC (oB (oD (nj (tP T.ty_tuple rfl T.mD rfl T.jC boot_tuple (bb (pv 3)) (by decide) (by decide) (by rfl) (by rfl)) (by intro _; rfl))) (oB (eK (lS hq) lV (gH rfl T.fH (bb (pv 3)) (by rfl)) (aE aM) (cV _)) (oB (oD (nj (@ck _ _ _ _ _ (1) _ _ _ _ _ uT Fj (hr.mono (by decide)) rfl (bG (bB bw bC (pv 3) (aE aM) (λ_ _=>rfl)) cf (by rfl)) rfl (by decide) (by rfl) (by rfl)) (by intro _; rfl))) (wG (oD (nj (@ck _ _ _ _ _ (1) _ _ _ _ _ uT Fj (hr.mono (by decide)) rfl (bG (bB bw bC (pv 3) (aE aM) (λ_ _=>rfl)) cf (by rfl)) rfl (by decide) (by rfl) (by rfl)) (by intro _; rfl))))))))
     ·refine(bj ?_);refine(cE ?_);exact jk
     ·exact eN
    refine(aP ?_ ?_)
    ·refine(eQ ?_ ?_ ?_)
     ·exact(oC (oB (eK wN wO (bB bw bC (pv 3) (aE aM) (λ_ _=>rfl)) (aE aM) (cV _)) (oB (eK wN wO (bB bw bC (pv 3) (aE aM) (λ_ _=>rfl)) (aE aM) (cV _)) (wG (oD (nj (@ck _ _ _ _ _ (1) _ _ _ _ _ ze RS (hr.mono (by decide)) rfl (bG (bB bw bC (pv 3) (aE aM) (λ_ _=>rfl)) (bG (bB bw bC (pv 3) (aE aM) (λ_ _=>rfl)) cf (by rfl)) (by rfl)) rfl (by decide) (by rfl) (by rfl)) (by intro _; rfl)))))))
     ·refine(bj ?_);refine(cE ?_);exact jk
     ·exact eN
    refine(bj ?_);exact(@bO _ _ _ _ _ _ ([]) (2) _ au jD.nd rfl aq (fO kY kZ (pv 2) (aE (bB bw bC (pv 3) (aE aM) (λ_ _=>rfl)))) rfl aq)
  refine(aP ?_ ?_)
  ·exact(@qS _ _ ([3]) _ _ _ _ _ _ _ _ _ _ ([]) (4) _ _ _ au rfl (fF rfl rfl) jD.nd rfl rfl (fG (aN (pv 1))) (λl s0 H0 ex=>(@dO _ _ _ _ ([]) (3) _ au jD.nd rfl aq aq (by decide))) (λl s0 H0 ex=>gj) (λl s0 H0 ex=>(cM oY oZ (cM kY kZ (bB bw bC (pv 3) (aE aM) (λ_ _=>rfl)) (bb (pv 2))) (aE (bB bw bC (pv 3) (aE aM) (λ_ _=>rfl))))) (fE au rfl) (by rfl) (by intro _; rfl))
  refine(aP ?_ ?_)
  ·exact(@bO _ _ _ _ _ _ ([]) (5) _ au jD.nd rfl aq (@ck _ _ _ _ _ (1) _ _ _ _ _ zf RU (hr.mono (by decide)) rfl (bG (aN (pv 0)) cf (by rfl)) rfl (by decide) (by rfl) (by rfl)) rfl aq)
  refine(aP ?_ ?_)
  ·refine(h_ PassesOwn.never rfl ?_ ?_ ?_ (by intro _; rfl))
   ·exact(kP rfl T.iw (gH rfl T.fH (bb (pv 4)) (by rfl)) (by rfl))
   ·exact(@eE _ _ _ ([]) (6) _ au jD.nd rfl aq aq)
   ·refine(aP ?_ ?_)
    ·exact(@bO _ _ _ _ _ _ ([]) (7) _ au jD.nd rfl aq (x5 rfl rfl T.nT (aE (@ic _ _ ([8,9]) _ _ _ _ _ _ _ _ _ _ rfl (fF rfl rfl) (Ed rfl T.pD (aN (pv 4)) (bB bw bC (pv 0) (aE aM) (λ_ _=>rfl)) (by rfl) (by rfl) (by rfl)) (λl s0 H0 ex=>(qR rfl (jY (@dO _ _ _ _ ([]) (8) _ au jD.nd rfl aq aq (by decide)) (jY (@dO _ _ _ _ ([]) (9) _ au jD.nd rfl aq aq (by decide)) qQ (by rfl)) (by rfl)) (by rfl) (by rfl))) (λl s0 H0 ex=>gj) (λl s0 H0 ex=>(fO kY kZ (pv 8) (aE (Cw bw bC (bB (DY hq) DW (pv 5) (aE (bB bw bC (pv 9) (aE aM) (λ_ _=>rfl))) (λ_ _=>rfl)) (bb (pv 6)) (λ_ _=>rfl))))) (fE au rfl) (by intro _; rfl)))) rfl aq)
    refine(bj ?_);refine(eQ ?_ ?_ ?_)
    ·exact(kG (lS hq) lV (pv 7) (aE (cM kY kZ (cM kY kZ (bB bw bC (pv 0) (aE aM) (λ_ _=>rfl)) (aE (bB bw bC (pv 0) (aE aM) (λ_ _=>rfl)))) (aE (bB bw bC (pv 4) (bb (pv 6)) (λ_ _=>rfl))))) (cV _))
    ·refine(bj ?_);refine(cE ?_);exact jk
    ·exact eN
  refine(bj ?_);refine(cE ?_);exact(tL (jn hq) jq (x5 rfl rfl T.nT (bb (pv 4))) (bb (pv 2)) (cV _))) λss y h=>dH h
def zg:DS:=(aC (dZ (bL (aD bX (fU (bS (aI mE [.val (aa 0),.val (eD (.int 0))]) cP)) (ao (kM 0 (jr (eD (.int 1))) (jr (eD (.int 5))))))) (ag [] 1) (aC (az (oP k_ (aI mG [.val (aa 1)]) [.val (eD (.int 6))]) (ag [] 2)) (aC (az (aI gQ [.val (aa 2)]) (ag [] 3)) (aC (b_ (aB (aD cZ (aD (gM false) (aa 3) (ao (eD .aJ))) (ao (aD fT (aO bh (ao (aI mI [.val (aa 2)]))) (ao (eD (.int 1))))))) (bN (eD (.bl false))) cA) (aC (b_ (kH (aB (aD (gM true) (aa 3) (ao (eD .aJ)))) (gG (aB (aI lh [.val (aa 2),.val (aa 3)])))) (bN (eD (.bl false))) cA) (b_ (aB (aD cZ (aI gQ [.val (aa 2)]) (aj 3))) (bN (eD (.bl false))) cA)))))) (bN (eD (.bl true))))
def nZ:DF:=cn [] 4 zg
theorem VH:c7 nZ:=dP
theorem uU:cW ["script","cell","rule","found"] ["script"] (bW k9):=scc
theorem RZ {K:W2} (F:cx K "law" "law" k9 f fd) (T:Txt K mg) (zh:aX P w K mg base 1 "_law_cell_at" 2 mE) (zi:aX P w K mg base 4 "_law_rule_by" 2 k_) (zj:aX P w K mg base 1 "_law_pen_of" 1 mG) (uV:aX P w K mg base 5 "still_shares" 1 gQ) (zk:aX P w K mg base 2 "_law_shut" 1 mI) (zm:aX P w K mg base 2 "_law_shares_good" 2 lh):jd P w K mg base jg 6 f fd ["script"] (kR 1 nZ) :=
 Dd (np:=[]) (fb:=zg) F uU (λc bu A outer s H E hr au=>by
  have hq:=dQ hr;refine(@aP _ _ _ _ _ _ ?_ ?_)
  ·refine(@h_ _ _ _ _ _ _ _ _ _ PassesOwn.never rfl ?_ ?_ ?_ (by intro _; rfl))
   ·exact(@fG _ _ _ _ _ (@cM _ _ _ _ _ _ _ _ _ _ hU hZ (@jU _ _ _ _ _ (@ef _ _ _ _ _ _ (@ck _ _ _ _ _ (1) _ _ _ _ _ zh Ri (hr.mono (by decide)) rfl (@bG _ _ _ _ _ _ (@aN _ _ _ _ (pv 0)) (@bG _ _ _ _ _ _ (@aM _ _ _ _ _) (@cf _ _) (by rfl)) (by rfl)) rfl (by decide) (by rfl) (by rfl)) (@fA _ _) (by rfl)) (by decide)) (@aE _ _ _ _ (@CO _ _ _ _ _ _ _ _ _ _ (pv 0) (@wR _ _ _ _ (@aM _ _ _ _ _)) (@wR _ _ _ _ (@aM _ _ _ _ _))))))
   ·exact(@eE _ _ _ ([]) (1) _ au uU.nd rfl aq aq)
   ·refine(@aP _ _ _ _ _ _ ?_ ?_)
    ·exact(@bO _ _ _ _ _ _ ([]) (2) _ au uU.nd rfl aq (@NN _ _ _ _ _ _ (4) _ _ _ _ _ zi Rt (hr.mono (by decide)) rfl (@ck _ _ _ _ _ (1) _ _ _ _ _ zj Rv (hr.mono (by decide)) rfl (@bG _ _ _ _ _ _ (@aN _ _ _ _ (pv 1)) (@cf _ _) (by rfl)) rfl (by decide) (by rfl) (by rfl)) (λ_=>(@bG _ _ _ _ _ _ (@aM _ _ _ _ _) (@cf _ _) (by rfl))) rfl (by decide) (by rfl) (by rfl)) rfl aq)
    refine(@aP _ _ _ _ _ _ ?_ ?_)
    ·exact(@bO _ _ _ _ _ _ ([]) (3) _ au uU.nd rfl aq (@ck _ _ _ _ _ (5) _ _ _ _ _ uV Fg (hr.mono (by decide)) rfl (@bG _ _ _ _ _ _ (@aN _ _ _ _ (pv 2)) (@cf _ _) (by rfl)) rfl (by decide) (by rfl) (by rfl)) rfl aq)
    refine(@aP _ _ _ _ _ _ ?_ ?_)
    ·refine(@eQ _ _ _ _ _ _ _ _ _ ?_ ?_ ?_)
     ·exact(@eK _ _ _ _ _ _ _ _ _ _ (lS hq) lV (@tL _ _ _ _ _ _ _ _ _ _ Iy NB (@aN _ _ _ _ (pv 3)) (@aE _ _ _ _ (@sZ _ _ _ _)) rfl) (@aE _ _ _ _ (@tL _ _ _ _ _ _ _ _ _ _ oE lW (@gH _ _ _ _ _ _ rfl T.fH (@aE _ _ _ _ (@ck _ _ _ _ _ (2) _ _ _ _ _ zk RN (hr.mono (by decide)) rfl (@bG _ _ _ _ _ _ (@aN _ _ _ _ (pv 2)) (@cf _ _) (by rfl)) rfl (by decide) (by rfl) (by rfl))) (by rfl)) (@aE _ _ _ _ (@aM _ _ _ _ _)) (cV _))) (cV _))
     ·refine(@bj _ _ _ _ ?_);refine(@cE _ _ _ _ _ ?_);exact(@jk _ _ _ _ _)
     ·exact eN
    refine(@aP _ _ _ _ _ _ ?_ ?_)
    ·refine(@eQ _ _ _ _ _ _ _ _ _ ?_ ?_ ?_)
     ·exact(@oC _ _ _ _ (@wH _ _ _ _ _ _ _ _ (@eK _ _ _ _ _ _ _ _ _ _ Iz NC (@aN _ _ _ _ (pv 3)) (@aE _ _ _ _ (@sZ _ _ _ _)) rfl) (@wF _ _ _ _ _ (@oD _ _ _ _ _ (@nj _ _ _ _ (@ck _ _ _ _ _ (2) _ _ _ _ _ zm RX (hr.mono (by decide)) rfl (@bG _ _ _ _ _ _ (@aN _ _ _ _ (pv 2)) (@bG _ _ _ _ _ _ (@aN _ _ _ _ (pv 3)) (@cf _ _) (by rfl)) (by rfl)) rfl (by decide) (by rfl) (by rfl)) (by intro _; rfl))))))
     ·refine(@bj _ _ _ _ ?_);refine(@cE _ _ _ _ _ ?_);exact(@jk _ _ _ _ _)
     ·exact eN
    refine(@bj _ _ _ _ ?_);refine(@eQ _ _ _ _ _ _ _ _ _ ?_ ?_ ?_)
    ·exact(@eK _ _ _ _ _ _ _ _ _ _ (lS hq) lV (@ck _ _ _ _ _ (5) _ _ _ _ _ uV Fg (hr.mono (by decide)) rfl (@bG _ _ _ _ _ _ (@aN _ _ _ _ (pv 2)) (@cf _ _) (by rfl)) rfl (by decide) (by rfl) (by rfl)) (@bb _ _ _ _ (pv 3)) (cV _))
    ·refine(@bj _ _ _ _ ?_);refine(@cE _ _ _ _ _ ?_);exact(@jk _ _ _ _ _)
    ·exact eN
  refine(@bj _ _ _ _ ?_);refine(@cE _ _ _ _ _ ?_);exact(@jk _ _ _ _ _)) λss y h=>dH h
theorem all_mk {l:PySem.W.OpenLaw} {w:Ws} {K:W2} {h:Heap} {mg:Str->Option Value} {fa:Addr} (X:K.In h) (G:h.Ns WG mg) (R0:mg "law" = some (.ref fa))
  (d0:dS K "_law_cell_at" ye)
  (d1:dS K "_law_next" yf)
  (d2:dS K "_law_draw" yg)
  (d3:dS K "_law_sizes_by" yh)
  (d4:dS K "_law_pick" yi)
  (d5:dS K "_law_rule_by" yj)
  (d6:dS K "_law_pen_of" yk)
  (d7:dS K "common_divisor" yl)
  (d8:dS K "row_lowered" ym)
  (d9:dS K "row_cleared" yn)
  (zo:dS K "solved_rows" yo)
  (zq:dS K "rule_tiles" yp)
  (zt:dS K "table_of" yq)
  (zu:dS K "still_rows" yr)
  (zv:dS K "lowest_fraction" yt)
  (zw:dS K "still_shares" yu)
  (zx:dS K "_law_come" yv)
  (zy:dS K "_law_shut" yw)
  (zz:dS K "_law_whole" yx)
  (zA:dS K "_law_lowest" yy)
  (zC:dS K "_law_table" yz)
  (zD:dS K "_law_shares_good" yA)
  (zE:nsIn K WG "law" = some (some (.ref f22)))
  (zF:K.lookup f22=some ⟨oc22,od22,.func (QN "law" "law" (lP k9) (jf k9) (bW k9) .none kV22 dc22 pm22 an22 cd22 ct22),sl22⟩)
  (zG:codeIn K cd22 "law" = true)
  (zH:keepIn K (.ref f22)=true)
  (pq:nsIn K WG "abs" = some none)
  (rD:nsIn K WG "all" = some none)
  (rE:nsIn K WG "bool" = some none)
  (pw:nsIn K WG "dict" = some none)
  (pA:nsIn K WG "int" = some none)
  (mD:nsIn K WG "isinstance" = some none)
  (fH:nsIn K WG "len" = some none)
  (rF:nsIn K WG "list" = some none)
  (rG:nsIn K WG "max" = some none)
  (iw:nsIn K WG "range" = some none)
  (pC:nsIn K WG "sorted" = some none)
  (nT:nsIn K WG "sum" = some none)
  (jC:nsIn K WG "tuple" = some none)
  (pD:nsIn K WG "zip" = some none)
  : ∃ fd:Qi,(∀ (s:W3) (v:Value),BindsTo s fd ⟨[v],[]⟩ [("script",v)])/\∀ base:Heap,K.In base->base.Ns WG mg->jd l.prog w K mg base jg 6 fa fd ["script"] (kR 1 nZ):=by
 have e:=R0.symm.trans (mg_of X G zE)
 cases e;have T:Txt K mg:=⟨WO X G pq,WO X G rD,WO X G rE,WO X G pw,WO X G pA,WO X G mD,WO X G fH,WO X G rF,WO X G rG,WO X G iw,WO X G pC,WO X G nT,WO X G jC,WO X G pD,M1,M0,M3⟩
 obtain⟨f0,fd0,F0,m0⟩:=eh X G d0;obtain⟨f1,fd1,F1,m1⟩:=eh X G d1;obtain⟨f2,fd2,F2,m2⟩:=eh X G d2;obtain⟨f3,fd3,F3,m3⟩:=eh X G d3;obtain⟨f4,fd4,F4,m4⟩:=eh X G d4;obtain⟨f5,fd5,F5,m5⟩:=eh X G d5;obtain⟨f6,fd6,F6,m6⟩:=eh X G d6;obtain⟨f7,fd7,F7,m7⟩:=eh X G d7;obtain⟨f8,fd8,F8,m8⟩:=eh X G d8;obtain⟨f9,fd9,F9,m9⟩:=eh X G d9;obtain⟨f10,fd10,F10,m10⟩:=eh X G zo;obtain⟨f11,fd11,F11,m11⟩:=eh X G zq;obtain⟨f12,fd12,F12,m12⟩:=eh X G zt;obtain⟨f13,fd13,F13,m13⟩:=eh X G zu;obtain⟨f14,fd14,F14,m14⟩:=eh X G zv;obtain⟨f15,fd15,F15,m15⟩:=eh X G zw;obtain⟨f16,fd16,F16,m16⟩:=eh X G zx;obtain⟨f17,fd17,F17,m17⟩:=eh X G zy;obtain⟨f18,fd18,F18,m18⟩:=eh X G zz;obtain⟨f19,fd19,F19,m19⟩:=eh X G zA;obtain⟨f20,fd20,F20,m20⟩:=eh X G zC;obtain⟨f21,fd21,F21,m21⟩:=eh X G zD;have R1:=BO (st:=k9) zF zG zH;refine⟨QN "law" "law" (lP k9) (jf k9) (bW k9) .none kV22 dc22 pm22 an22 cd22 ct22,λs v=>.of_eq rfl,λbase _ _=>?_⟩;have zh:aX l.prog w K mg base 1 "_law_cell_at" 2 mE:=Rk F0 m0 (mn F0 λ_ _ _ _ _ _ _ _=>rfl) T;have uP:aX l.prog w K mg base 1 "_law_next" 1 mF:=Rl F1 m1 (iV F1 λ_ _ _ _ _ _ _=>rfl) T;have fW:aX l.prog w K mg base 2 "_law_draw" 2 fj:=Rm F2 m2 (mn F2 λ_ _ _ _ _ _ _ _=>rfl) T uP;have yI:aX l.prog w K mg base 3 "_law_sizes_by" 1 nU:=Ro F3 m3 (iV F3 λ_ _ _ _ _ _ _=>rfl) T fW;have yJ:aX l.prog w K mg base 3 "_law_pick" 4 iy:=Rr F4 m4 (Ob F4 λ_ _ _ _ _ _ _ _ _ _=>rfl) T fW;have zi:aX l.prog w K mg base 4 "_law_rule_by" 2 k_:=Ru F5 m5 (mn F5 λ_ _ _ _ _ _ _ _=>rfl) T fW yI yJ;have zj:aX l.prog w K mg base 1 "_law_pen_of" 1 mG:=Rw F6 m6 (iV F6 λ_ _ _ _ _ _ _=>rfl) T;have la:aX l.prog w K mg base 1 "common_divisor" 2 iA:=Rx F7 m7 (mn F7 λ_ _ _ _ _ _ _ _=>rfl) T;have yP:aX l.prog w K mg base 2 "row_lowered" 1 mH:=Rz F8 m8 (iV F8 λ_ _ _ _ _ _ _=>rfl) T la;have uR:aX l.prog w K mg base 3 "row_cleared" 3 j_:=RA F9 m9 (Oa F9 λ_ _ _ _ _ _ _ _ _=>rfl) T yP;have yZ:aX l.prog w K mg base 4 "solved_rows" 1 lb:=RC F10 m10 (iV F10 λ_ _ _ _ _ _ _=>rfl) T uR;have yU:aX l.prog w K mg base 1 "rule_tiles" 1 nV:=RE F11 m11 (iV F11 λ_ _ _ _ _ _ _=>rfl) T;have yW:aX l.prog w K mg base 2 "table_of" 1 nW:=RG F12 m12 (iV F12 λ_ _ _ _ _ _ _=>rfl) T yU;have y6:aX l.prog w K mg base 3 "still_rows" 1 lg:=RI F13 m13 (iV F13 λ_ _ _ _ _ _ _=>rfl) T yW;have y8:aX l.prog w K mg base 2 "lowest_fraction" 2 ka:=RK F14 m14 (mn F14 λ_ _ _ _ _ _ _ _=>rfl) T la;have uV:aX l.prog w K mg base 5 "still_shares" 1 gQ:=RL F15 m15 (iV F15 λ_ _ _ _ _ _ _=>rfl) T la yZ y6 y8;have uS:aX l.prog w K mg base 1 "_law_come" 2 fX:=RM F16 m16 (mn F16 λ_ _ _ _ _ _ _ _=>rfl) T;have zk:aX l.prog w K mg base 2 "_law_shut" 1 mI:=RO F17 m17 (iV F17 λ_ _ _ _ _ _ _=>rfl) T uS;have uT:aX l.prog w K mg base 1 "_law_whole" 1 kb:=RQ F18 m18 (iV F18 λ_ _ _ _ _ _ _=>rfl) T;have ze:aX l.prog w K mg base 1 "_law_lowest" 2 mJ:=RT F19 m19 (mn F19 λ_ _ _ _ _ _ _ _=>rfl) T;have zf:aX l.prog w K mg base 1 "_law_table" 1 nY:=RV F20 m20 (iV F20 λ_ _ _ _ _ _ _=>rfl) T;have zm:aX l.prog w K mg base 2 "_law_shares_good" 2 lh:=RY F21 m21 (mn F21 λ_ _ _ _ _ _ _ _=>rfl) T uT ze zf;exact RZ R1 T zh zi zj uV zk zm
open PySem (sizeLine)
def ip(bs:List (Nat×List Tx))(n:Nat):List Tx:=((bs.find? λb=>decide (b.1=n)).map (·.2)).getD []
theorem n4(h:n ∈ bs.map (·.1)):∃ b ∈ bs,b.1=n/\(bs.find? λb=>decide (b.1=n))=some b/\ip bs n=b.2:=by
 cases e:bs.find? λb=>decide (b.1=n) with
 | none =>
  obtain⟨b,hb,rfl⟩:=Wp.mp h;have:=List.find?_eq_none.mp e b hb;simp at this
 | some b =>
  have h1:=List.mem_of_find?_eq_some e;have h2:=List.find?_some e;refine⟨b,h1,by simpa using h2,rfl,?_⟩;unfold ip;rw[e];rfl
def M(bs:List (Nat×List Tx))(t s:Nat):Nat:=(ip bs t).flatten.count s
theorem zI(R:c_ h w bs):(bs.map (·.1)).Nodup:=R.up.imp λh=>WP h
theorem R3{h w:Nat}{bs:List (Nat×List Tx)}(R:c_ h w bs){b:Nat×List Tx}(hb:b ∈ bs):ip bs b.1=b.2:=by
 obtain⟨b',Fm,e0,_,e2⟩:=n4 (Jf hb:b.1 ∈ bs.map (·.1));have:b'=b:=by
  obtain⟨i,hi,e⟩:=Qe hb;obtain⟨j,hj,e'⟩:=Qe Fm;have nd:=zI R;have:i=j:=(List.getElem_inj (h₀:=by simpa using hi) (h₁:=by simpa using hj) nd).mp (by simp[e,e',e0]);subst this;rw[<- e,<- e']
 rw[e2,this]
def sN:Nat->(Nat->Int)->Int
 | 0,_=>0
 | n + 1,f=>sN n f + f n
theorem fY:∀ {n:Nat} {f g:Nat->Int},(∀ i,i < n->f i=g i)->sN n f=sN n g
 | 0,_,_,_=>rfl
 | n + 1,f,g,h=>by
  show sN n f + f n=sN n g + g n;rw[fY λi hi=>h i (by omega),h n (by omega)]
theorem lj(f g:Nat->Int):∀ n,sN n (λi=>f i + g i)=sN n f + sN n g
 | 0=>rfl
 | n + 1=>by
  show sN n (λi=>f i + g i) + (f n + g n)=(sN n f + f n) + (sN n g + g n);rw[lj f g n]; omega
theorem fo(c:Int)(f:Nat->Int):∀ n,sN n (λi=>c * f i)=c * sN n f
 | 0=>by simp[sN]
 | n + 1=>by
  show sN n (λi=>c * f i) + c * f n=c * (sN n f + f n);rw[fo c f n,Int.mul_add]
theorem n5:∀ {n:Nat} {f:Nat->Int},(∀ i,i < n->f i=0)->sN n f=0
 | 0,_,_=>rfl
 | n + 1,f,h=>by
  show sN n f + f n=0;rw[n5 λi hi=>h i (by omega),h n (by omega)]; rfl
theorem zJ(f:Nat->Nat->Int)(m:Nat):∀ n,sN n (λi=>sN m λj=>f i j)=sN m λj=>sN n λi=>f i j
 | 0=>(n5 λi _=>rfl).symm
 | n + 1=>by
  show sN n (λi=>sN m λj=>f i j) + sN m (λj=>f n j)=sN m λj=>sN n (λi=>f i j) + f n j
  rw[zJ f m n,<- lj]
theorem zK:∀ {n:Nat} {f:Nat->Int},(∀ i,i < n->0<=f i)->0<=sN n f
 | 0,_,_=>Int.le_refl 0
 | n + 1,f,h=>by
  have h1:=zK (n:=n) (f:=f) λi hi=>h i (by omega)
  have h2:=h n (by omega);show 0<=sN n f + f n;omega
theorem zL:∀ {n:Nat} {f g:Nat->Int},(∀ i,i < n->f i<=g i)->sN n f<=sN n g
 | 0,_,_,_=>Int.le_refl 0
 | n + 1,f,g,h=>by
  have h1:=zL (n:=n) (f:=f) (g:=g) λi hi=>h i (by omega)
  have h2:=h n (by omega);show sN n f + f n<=sN n g + g n;omega
theorem zM:∀ {n:Nat} {f:Nat->Int},(∀ i,i < n->0<=f i)->sN n f=0->∀ i,i < n->f i=0
 | 0,_,_,_,i,hi=>by omega
 | n + 1,f,h,e,i,hi=>by
  have h1:=zK (n:=n) (f:=f) λi hi=>h i (by omega)
  have h2:=h n (by omega);have e':sN n f + f n=0:=e;by_cases q:i=n
  ·subst q; omega
  ·exact zM (n:=n) (λi hi=>h i (by omega)) (by omega) i (by omega)
theorem ll(hk:k < n)(h:∀ i,i < n->i≠k->f i=0):sN n f=f k:=by
 induction n with
 | zero=>omega
 | succ n ih =>
  show sN n f + f n=f k;by_cases q:k=n
  ·subst q;rw[n5 λi hi=>h i (by omega) (by omega)]; omega
  ·rw[ih (by omega) λi hi=>h i (by omega),h n (by omega) (λz=>q z.symm)]; omega
theorem R4(hk:k < n)(hl:l < n)(rL:k≠l)(h:∀ i,i < n->i≠k->i≠l->f i=0):sN n f=f k + f l:=by
 have e:sN n f=sN n (λi=>(if i=k then f k else 0) + (if i=l then f l else 0)):=fY λi hi=>by
  by_cases q:i=k
  ·subst q; simp[rL]
  ·by_cases q2:i=l
   ·subst q2; simp[q]
   ·simp[q,q2,h i hi q q2]
 rw[e,lj,ll (k:=k) hk (λi _ q=>by simp[q]),ll (k:=l) hl (λi _ q=>by simp[q])];simp
def dot(n:Nat)(r v:Nat->Int):Int:=sN n λi=>r i * v i
theorem rM(h:∀ i,i < n->g * r' i=a * r i + b * p i):g * dot n r' v=a * dot n r v + b * dot n p v:=by
 unfold dot;rw[<- fo,<- fo,<- fo,<- lj];refine fY λi hi=>?_
 rw[<- WI,h i hi,Int.add_mul,WI,WI]
theorem zN:∀ (n:Nat) (L:List (Nat->Int)),L.length < n->∃ v:Nat->Int,(∃ i,i < n/\v i≠0)/\∀ r ∈ L,dot n r v=0
 | 0,L,h=>by omega
 | n + 1,L,h=>by
  by_cases q:∃ p ∈ L,p n≠0
  ·obtain⟨p,hp,hn⟩:=q;obtain⟨l1,l2,rfl⟩:=List.append_of_mem hp;obtain⟨v,⟨i,hi,hv⟩,hs⟩:=zN n ((l1 ++ l2).map λr i=>p n * r i + (- r n) * p i) (by simp at h ⊢; omega);refine⟨λi=>if i < n then p n * v i else - dot n p v,⟨i,by omega,?_⟩,?_⟩
   ·simp only[hi,if_true];exact Int.mul_ne_zero hn hv
   ·have key:∀ r:Nat->Int,dot (n + 1) r (λi=>if i < n then p n * v i else - dot n p v)=p n * dot n r v + (- r n) * dot n p v:=λr=>by
     show sN n (λi=>r i * (if i < n then p n * v i else - dot n p v)) + r n * (if n < n then p n * v n else - dot n p v)=_;rw[if_neg (by omega)];have e:sN n (λi=>r i * (if i < n then p n * v i else - dot n p v))=p n * dot n r v:=by
      unfold dot;rw[<- fo];refine fY λi hi=>?_
      rw[if_pos hi,<- WI,WF (r i),WI]
     rw[e,Int.mul_neg,Jv]
    intro r hr;rw[key];have ke:r ∈ l1 ++ l2\/r=p:=by
     rcases Wy.mp hr with h | h
     ·exact .inl (WK _ h)
     ·rcases Wj.mp h with h | h
      ·exact .inr h
      ·exact .inl (WA _ h)
    rcases ke with ke | rfl
    ·have e:=hs _ (Wp.mpr ⟨r,ke,rfl⟩);have e2:=rM (n:=n) (r:=r) (r':=λi=>p n * r i + (- r n) * p i) (p:=p) (v:=v) (a:=p n) (b:=- r n) (g:=1) (λi _=>by rw[Int.one_mul]);rw[e] at e2;omega
    ·rw[Jv]; omega
  ·refine⟨λi=>if i=n then 1 else 0,⟨n,by omega,by simp⟩,λr hr=>?_⟩;have hz:r n=0:=by
    by_cases z:r n=0
    ·exact z
    ·exact absurd ⟨r,hr,z⟩ q
   refine n5 λi hi=>?_
   by_cases z:i=n
   ·subst z; simp[hz]
   ·simp[z]
section
variable {n:Nat} {T:Nat->Nat->Int} {A:Int}
def gm(n:Nat)(T:Nat->Nat->Int)(A:Int)(v:Nat->Int):Prop:=∀ j,j < n->sN n (λi=>v i * T i j)=A * v j
theorem Fn(h:∀ i,i < n->w i=a * u i + b * v i)(hu:gm n T A u)(hv:gm n T A v):gm n T A w:=λj hj=>by
 have e:sN n (λi=>w i * T i j)=a * sN n (λi=>u i * T i j) + b * sN n (λi=>v i * T i j):=by
  rw[<- fo,<- fo,<- lj];refine fY λi hi=>?_
  rw[h i hi,Int.add_mul,WI,WI]
 rw[e,hu j hj,hv j hj,h j hj,Int.mul_add,<- WI,<- WI,<- WI,<- WI,WF a A,WF b A]
theorem zO(f:Nat->Int):∀ n,((sN n f).natAbs:Int)<=sN n λi=>((f i).natAbs:Int)
 | 0=>Int.le_refl 0
 | n + 1=>by
  have ih:=zO f n;show((sN n f + f n).natAbs:Int)<=sN n (λi=>((f i).natAbs:Int)) + ((f n).natAbs:Int);omega
theorem Fo(hT:∀ i j,0<=T i j)(hA:0<=A)(hr:∀ i,i < n->sN n (T i)=A)(hv:gm n T A v):gm n T A λi=>((v i).natAbs:Int):=by
 have le:∀ j,j < n->A * ((v j).natAbs:Int)<=sN n λi=>((v i).natAbs:Int) * T i j:=λj hj=>by
  have h1:=zO (λi=>v i * T i j) n;rw[hv j hj,QV] at h1;have e1:((A.natAbs * (v j).natAbs:Nat):Int)=A * ((v j).natAbs:Int):=by
   rw[Q8,Int.natAbs_of_nonneg hA]
  rw[e1] at h1;refine Int.le_trans h1 (Int.le_of_eq (fY λi hi=>?_));rw[QV,Q8,Int.natAbs_of_nonneg (hT i j)]
 have R5:sN n (λj=>(sN n λi=>((v i).natAbs:Int) * T i j) - A * ((v j).natAbs:Int))=0:=by
  have e1:sN n (λj=>(sN n λi=>((v i).natAbs:Int) * T i j) - A * ((v j).natAbs:Int))=sN n (λj=>sN n λi=>((v i).natAbs:Int) * T i j) + sN n (λj=>(-A) * ((v j).natAbs:Int)):=by
   rw[<- lj];exact fY λj hj=>by rw[Jv]; omega
  rw[e1,<- zJ (λi j=>((v i).natAbs:Int) * T i j),fo];have e2:sN n (λi=>sN n λj=>((v i).natAbs:Int) * T i j)=A * sN n λi=>((v i).natAbs:Int):=by
   rw[<- fo];refine fY λi hi=>?_
   rw[fo,hr i hi,WF]
  rw[e2,Jv]; omega
 intro j hj;have:=zM (λj hj=>by have:=le j hj; omega) R5 j hj;show sN n (λi=>((v i).natAbs:Int) * T i j)=A * ((v j).natAbs:Int);omega
theorem Fp(hn:0 < n)(hr:∀ i,i < n->sN n (T i)=A):∃ v:Nat->Int,(∃ i,i < n/\v i≠0)/\gm n T A v:=by
 obtain⟨m,rfl⟩:∃ m,n=m + 1:=⟨n - 1,by omega⟩
 obtain⟨v,hv,hs⟩:=zN (m + 1) ((W4 m).map λj i=>T i j - (if i=j then A else 0)) (by simp);have dj:∀ j,j < m + 1->dot (m + 1) (λi=>T i j - (if i=j then A else 0)) v=sN (m + 1) (λi=>v i * T i j) - A * v j:=λj hj=>by
  have e:dot (m + 1) (λi=>T i j - (if i=j then A else 0)) v=sN (m + 1) (λi=>v i * T i j + (-1) * ((if i=j then A else 0) * v i)):=by
   unfold dot;refine fY λi hi=>?_
   rw[Int.sub_mul,WF (T i j)]; omega
  rw[e,lj,fo,ll (k:=j) (f:=λi=>(if i=j then A else 0) * v i) hj (λi _ q=>by simp[q])];simp only[if_true];omega
 have st:∀ j,j < m->sN (m + 1) (λi=>v i * T i j)=A * v j:=λj hj=>by
  have e:=hs _ (Wp.mpr ⟨j,WR.mpr hj,rfl⟩);rw[dj j (by omega)] at e;omega
 refine⟨v,hv,λj hj=>?_⟩;by_cases q:j < m
 ·exact st j q
 ·have:j=m:=by omega
  subst this;have e1:sN (j + 1) (λk=>sN (j + 1) λi=>v i * T i k)=A * sN (j + 1) v:=by
   rw[<- zJ (λi k=>v i * T i k),<- fo];refine fY λi hi=>?_
   rw[fo,hr i hi,WF]
  have e2:sN j (λk=>sN (j + 1) λi=>v i * T i k)=A * sN j v:=by
   rw[<- fo];exact fY λk hk=>st k hk
  have e3:sN (j + 1) (λk=>sN (j + 1) λi=>v i * T i k)=sN j (λk=>sN (j + 1) λi=>v i * T i k) + sN (j + 1) λi=>v i * T i j:=rfl
  have e4:sN (j + 1) v=sN j v + v j:=rfl;rw[e3,e2,e4,Int.mul_add] at e1;omega
end
def ah(r:List Int)(i:Nat):Int:=r.getD i 0
theorem R6(f:Int->Int)(h0:f 0=0)(r:List Int)(i:Nat):ah (r.map f) i=f (ah r i):=by
 unfold ah;rw[Wi,Wi,Wl]
 cases r[i]? with
 | none=>exact h0.symm
 | some x=>rfl
theorem R7(f:Int->Int->Int)(h:r.length=p.length)(hi:i < r.length):ah (Qm f r p) i=f (ah r i) (ah p i):=by
 unfold ah;rw[Wi,Wi,Wi,List.getElem?_zipWith,W5 hi,W5 (show i < p.length by omega)];rfl
theorem zP(h:r.length<=i):ah r i=0:=by
 unfold ah;rw[Wi,WN h]; rfl
theorem uW(h:i < r.length):ah r i ∈ r:=by
 unfold ah;rw[Wi,W5 h];exact Qk h
def gd(d:Nat)(r:List Int):Nat:=r.foldl (λ(d:Nat) x=>Q4 (d:Int) x) d
theorem Fq:∀ (r:List Int) (d:Nat),((gd d r:Nat):Int) ∣ (d:Int)/\∀ x ∈ r,((gd d r:Nat):Int) ∣ x
 | [],d=>⟨Int.dvd_refl _,λx h=>by cases h⟩
 | a :: r,d=>by
  obtain⟨h1,h2⟩:=Fq r (Q4 (d:Int) a);have e:gd d (a :: r)=gd (Q4 (d:Int) a) r:=rfl;rw[e];refine⟨Int.dvd_trans h1 (JT ..),λx hx=>?_⟩;rcases Wj.mp hx with rfl | hx
  ·exact Int.dvd_trans h1 (JN ..)
  ·exact h2 x hx
def rl(r:List Int):List Int:=if 1 < gd 0 r then r.map λx=>x.fdiv (gd 0 r:Nat) else r
def rc(r p:List Int)(c:Nat):List Int:=if ah r c=0 then r else rl (Qm (λa b=>a * ah p c - b * ah r c) r p)
theorem Fs{x g:Int}(h:g ∣ x):x.fdiv g * g=x:=Int.fdiv_mul_cancel h
theorem R8(r:List Int):(rl r).length=r.length/\∃ g:Int,g≠0/\∀ i,g * ah (rl r) i=ah r i:=by
 unfold rl;split
 ·rename_i h;refine⟨by simp,((gd 0 r:Nat):Int),by omega,λi=>?_⟩;rw[R6 (λx=>x.fdiv (gd 0 r:Nat)) (by simp)];by_cases hi:i < r.length
  ·rw[WF];exact Fs ((Fq r 0).2 _ (uW hi))
  ·rw[zP (by omega)]; simp
 ·exact⟨rfl,1,by decide,λi=>Int.one_mul _⟩
theorem z1{a b g x:Int}(hg:g≠0)(h:g * x=a * 0 + b * 0):x=0:=by
 rw[Jp,Jp,Int.add_zero] at h;rcases J0.mp h with h | h
 ·exact absurd h hg
 ·exact h
theorem z2{a b g x:Int}(ha:a≠0)(h:g * 0=a * x + b * 0):x=0:=by
 rw[Jp,Jp,Int.add_zero] at h;rcases J0.mp h.symm with h | h
 ·exact absurd h ha
 ·exact h
theorem Ft{g x y:Int}(hg:g≠0)(h:g * x=y):x.natAbs<=y.natAbs:=by
 rw[<- h,QV];exact Nat.le_mul_of_pos_left _ (by omega)
theorem Fu{n c m:Nat}{r p:List Int}(hr:r.length=n)(hp:p.length=n)(hc:c < n)(rN:ah p c≠0)(hm:1<=m)(br:∀ i,(ah r i).natAbs<=m)(bp:∀ i,(ah p i).natAbs<=m) :
  (rc r p c).length=n/\ah (rc r p c) c=0/\(∀ i,(ah (rc r p c) i).natAbs<=2 * m * m)/\∃ a b g:Int,a≠0/\g≠0/\∀ i,i < n->g * ah (rc r p c) i=a * ah r i + b * ah p i:=by
 have mm:m<=2 * m * m:=by
  have:1 * m<=2 * m * m:=J9 m (by omega);omega
 unfold rc;split
 ·rename_i h;exact⟨hr,h,λi=>Wu (br i) mm,1,0,1,by decide,by decide,λi _=>by omega⟩
 ·rename_i h;have hl:(Qm (λa b=>a * ah p c - b * ah r c) r p).length=n:=by simp; omega
  obtain⟨l1,g,hg,h1⟩:=R8 (Qm (λa b=>a * ah p c - b * ah r c) r p);have ez:∀ i,i < n->ah (Qm (λa b=>a * ah p c - b * ah r c) r p) i=ah r i * ah p c - ah p i * ah r c:=λi hi=>R7 _ (by omega) (by omega)
  generalize Qm (λa b=>a * ah p c - b * ah r c) r p=z at *;refine⟨by omega,?_,λi=>?_,ah p c,- ah r c,g,rN,hg,λi hi=>?_⟩
  ·have:=h1 c;rw[ez c hc,WF (ah p c),Int.sub_self] at this;rcases J0.mp this with q | q
   ·exact absurd q hg
   ·exact q
  ·by_cases hi:i < n
   ·refine Wu (Ft hg (h1 i)) ?_;rw[ez i hi];have a1:(ah r i * ah p c).natAbs<=m * m:=by
     rw[QV]; exact Qo (br i) (bp c)
    have a2:(ah p i * ah r c).natAbs<=m * m:=by
     rw[QV]; exact Qo (bp i) (br c)
    have e:2 * m * m=m * m + m * m:=by rw[Nat.mul_assoc]; omega
    omega
   ·rw[zP (by omega)]; exact Qn _
  ·rw[h1 i,ez i hi,Jv,WF (ah p c),WF (ah r c)]; omega
abbrev ei:=List (Nat×List Int)×List (List Int)
def n8(c:Nat)(s:ei):ei:=match s.2.filter (λr=>ah r c != 0) with
 | []=>s
 | p :: q=>(s.1.map (λkr=>(kr.1,rc kr.2 p c)) ++ [(c,p)],q.map (λr=>rc r p c) ++ s.2.filter (λr=>ah r c == 0))
structure Gj(n c m:Nat)(eW:List (List Int))(s:ei):Prop where
 l1:∀ x ∈ s.1,x.2.length=n
 l2:∀ r ∈ s.2,r.length=n
 kc:∀ x ∈ s.1,x.1 < c
 nd:(s.1.map (·.1)).Nodup
 pv:∀ x ∈ s.1,ah x.2 x.1≠0
 dg:∀ x ∈ s.1,∀ y ∈ s.1,y.1≠x.1->ah x.2 y.1=0
 zr:∀ r ∈ s.2,∀ i,i < c->ah r i=0
 kr:∀ v:Nat->Int,(∀ r ∈ eW,dot n (ah r) v=0) ↔ (∀ x ∈ s.1,dot n (ah x.2) v=0)/\∀ r ∈ s.2,dot n (ah r) v=0
 b1:∀ x ∈ s.1,∀ i,(ah x.2 i).natAbs<=m
 b2:∀ r ∈ s.2,∀ i,(ah r i).natAbs<=m
 ct:s.2.length<=eW.length
theorem R9{n c m:Nat}{eW:List (List Int)}{s:ei}(G:Gj n c m eW s)(hc:c < n)(hm:1<=m):Gj n (c + 1) (2 * m * m) eW (n8 c s):=by
 have mm:m<=2 * m * m:=by
  have:1 * m<=2 * m * m:=J9 m (by omega);omega
 unfold n8;split
 ·rename_i hf;refine⟨G.l1,G.l2,λx hx=>by have:=G.kc x hx; omega,G.nd,G.pv,G.dg,λr hr i hi=>?_,G.kr,λx hx i=>Wu (G.b1 x hx i) mm,λr hr i=>Wu (G.b2 r hr i) mm,G.ct⟩;by_cases q:i=c
  ·subst q;have:=List.filter_eq_nil_iff.mp hf r hr;simpa using this
  ·exact G.zr r hr i (by omega)
 ·rename_i p q hf;have kf:∀ r,r ∈ p :: q->r ∈ s.2/\ah r c≠0:=λr hr=>by
   rw[<- hf] at hr;have:=QW.mp hr;exact⟨this.1,by simpa using this.2⟩
  obtain⟨hp,rN⟩:=kf p Wh;have pl:=G.l2 p hp;have pb:=G.b2 p hp;have pz:=G.zr p hp;have kT:=λx (hx:x ∈ s.1)=>Fu (G.l1 x hx) pl hc rN hm (G.b1 x hx) pb
  have pG:=λr (hr:r ∈ q)=>Fu (G.l2 r (kf r (W9 _ hr)).1) pl hc rN hm (G.b2 r (kf r (W9 _ hr)).1) pb
  -- a cleared row is 0 where both are
  have cz:∀ {r:List Int} {i:Nat},i < n->∀ {a b g:Int},g≠0->g * ah (rc r p c) i=a * ah r i + b * ah p i->ah r i=0->ah p i=0->ah (rc r p c) i=0:=λ{r i} hi {a b g} hg h h1 h2=>by
   rw[h1,h2] at h;exact z1 hg h
  refine⟨λx hx=>?_,λr hr=>?_,λx hx=>?_,?_,λx hx=>?_,λx hx y hy qz=>?_,λr hr i hi=>?_,λv=>?_,λx hx i=>?_,λr hr i=>?_,?_⟩
  ·rcases Wy.mp hx with hx | hx
   ·obtain⟨x0,h0,rfl⟩:=Wp.mp hx;exact(kT x0 h0).1
   ·have:x=(c,p):=by simpa using hx
    subst this; exact pl
  ·rcases Wy.mp hr with hr | hr
   ·obtain⟨r0,h0,rfl⟩:=Wp.mp hr;exact(pG r0 h0).1
   ·exact G.l2 r (QW.mp hr).1
  ·rcases Wy.mp hx with hx | hx
   ·obtain⟨x0,h0,rfl⟩:=Wp.mp hx;have:=G.kc x0 h0;show x0.1 < c + 1;omega
   ·have:x=(c,p):=by simpa using hx
    subst this; show c < c + 1; omega
  ·rw[WV,Wz];refine List.nodup_append.mpr ⟨G.nd,by simp,λa ha b hb e=>?_⟩;have Fm:b=c:=by simpa using hb
   obtain⟨x0,h0,rfl⟩:=Wp.mp ha;have h1:=G.kc x0 h0;have h2:x0.1=b:=e;omega
  ·rcases Wy.mp hx with hx | hx
   ·obtain⟨x0,h0,rfl⟩:=Wp.mp hx;obtain⟨_,_,_,a,b,g,ha,hg,h⟩:=kT x0 h0;have k0:=G.kc x0 h0;have e:=h x0.1 (by omega);show ah (rc x0.2 p c) x0.1≠0;intro z;rw[z,pz x0.1 k0] at e;exact G.pv x0 h0 (z2 ha e)
   ·have:x=(c,p):=by simpa using hx
    subst this; exact rN
  ·rcases Wy.mp hx with hx | hx
   ·obtain⟨x0,h0,rfl⟩:=Wp.mp hx;obtain⟨_,hcz,_,a,b,g,ha,hg,h⟩:=kT x0 h0;rcases Wy.mp hy with hy | hy
    ·obtain⟨y0,h0',rfl⟩:=Wp.mp hy;have k0:=G.kc y0 h0';exact cz (by show y0.1 < n; omega) hg (h y0.1 (by omega)) (G.dg x0 h0 y0 h0' qz) (pz y0.1 k0)
    ·have:y=(c,p):=by simpa using hy
     subst this; exact hcz
   ·have:x=(c,p):=by simpa using hx
    subst this;rcases Wy.mp hy with hy | hy
    ·obtain⟨y0,h0',rfl⟩:=Wp.mp hy;exact pz y0.1 (G.kc y0 h0')
    ·have:y=(c,p):=by simpa using hy
     subst this; exact absurd rfl qz
  ·rcases Wy.mp hr with hr | hr
   ·obtain⟨r0,h0,rfl⟩:=Wp.mp hr;obtain⟨_,hcz,_,a,b,g,ha,hg,h⟩:=pG r0 h0;by_cases z:i=c
    ·subst z; exact hcz
    ·exact cz (by omega) hg (h i (by omega)) (G.zr r0 (kf r0 (W9 _ h0)).1 i (by omega)) (pz i (by omega))
   ·obtain⟨h1,h2⟩:=QW.mp hr;by_cases z:i=c
    ·subst z; simpa using h2
    ·exact G.zr r h1 i (by omega)
  ·rw[G.kr v];constructor
   ·rintro ⟨k1,k2⟩;have kp:=k2 p hp;refine⟨λx hx=>?_,λr hr=>?_⟩
    ·rcases Wy.mp hx with hx | hx
     ·obtain⟨x0,h0,rfl⟩:=Wp.mp hx;obtain⟨_,_,_,a,b,g,ha,hg,h⟩:=kT x0 h0;have e:=rM (v:=v) h;rw[k1 x0 h0,kp] at e;exact z1 hg e
     ·have:x=(c,p):=by simpa using hx
      subst this; exact kp
    ·rcases Wy.mp hr with hr | hr
     ·obtain⟨r0,h0,rfl⟩:=Wp.mp hr;obtain⟨_,_,_,a,b,g,ha,hg,h⟩:=pG r0 h0;have e:=rM (v:=v) h;rw[k2 r0 (kf r0 (W9 _ h0)).1,kp] at e;exact z1 hg e
     ·exact k2 r (QW.mp hr).1
   ·rintro ⟨k1,k2⟩;have kp:dot n (ah p) v=0:=k1 (c,p) (WA _ (by simp));refine⟨λx hx=>?_,λr hr=>?_⟩
    ·obtain⟨_,_,_,a,b,g,ha,hg,h⟩:=kT x hx;have e:=rM (v:=v) h;rw[k1 (x.1,rc x.2 p c) (WK _ (Wp.mpr ⟨x,hx,rfl⟩)),kp] at e;exact z2 ha e
    ·by_cases z:ah r c=0
     ·exact k2 r (WA _ (List.mem_filter.mpr ⟨hr,by simpa using z⟩))
     ·have uX:r ∈ p :: q:=by rw[<- hf]; exact List.mem_filter.mpr ⟨hr,by simpa using z⟩
      rcases Wj.mp uX with rfl | uX
      ·exact kp
      ·obtain⟨_,_,_,a,b,g,ha,hg,h⟩:=pG r uX;have e:=rM (v:=v) h;rw[k2 (rc r p c) (WK _ (Wp.mpr ⟨r,uX,rfl⟩)),kp] at e;exact z2 ha e
  ·rcases Wy.mp hx with hx | hx
   ·obtain⟨x0,h0,rfl⟩:=Wp.mp hx;exact(kT x0 h0).2.2.1 i
   ·have:x=(c,p):=by simpa using hx
    subst this; exact Wu (pb i) mm
  ·rcases Wy.mp hr with hr | hr
   ·obtain⟨r0,h0,rfl⟩:=Wp.mp hr;exact(pG r0 h0).2.2.1 i
   ·exact Wu (G.b2 r (QW.mp hr).1 i) mm
  ·refine Wu ?_ G.ct;have e1:(p :: q).length + (s.2.filter (λr=>ah r c == 0)).length<=s.2.length:=by
    rw[<- hf];clear hf kT pG pl pb pz hp kf cz;induction s.2 with
    | nil=>simp
    | cons a l ih =>
     by_cases z:ah a c=0
     ·simp[z] at ih ⊢; omega
     ·simp[z] at ih ⊢; omega
   simp at e1 ⊢;omega
def mL(rows:List (List Int)):Nat->ei
 | 0=>([],rows)
 | c + 1=>n8 c (mL rows c)
def mB:Nat->Nat
 | 0=>16
 | k + 1=>2 * mB k * mB k
theorem zQ:∀ k,1<=mB k
 | 0=>by decide
 | k + 1=>by
  have:=zQ k;have h:1 * 1<=2 * mB k * mB k:=Qo (by omega) this;exact h
theorem R_(k:Nat):mB k<=mB (k + 1):=by
 have:=zQ k;have h:1 * mB k<=2 * mB k * mB k:=J9 _ (by omega);show mB k<=2 * mB k * mB k;omega
theorem zR(hl:∀ r ∈ rows,r.length=n)(hb:∀ r ∈ rows,∀ i,(ah r i).natAbs<=16):∀ c,c<=n->Gj n c (mB c) rows (mL rows c)
 | 0,_=>⟨(λx h=>by cases h),hl,(λx h=>by cases h),List.nodup_nil,(λx h=>by cases h),(λx h=>by cases h),(λr _ i hi=>by omega),λv=>⟨λh=>⟨(λx hx=>by cases hx),h⟩,λh=>h.2⟩,(λx h=>by cases h),hb,Wf _⟩
 | c + 1,h=>R9 (zR hl hb c (by omega)) (by omega) (zQ c)
section
variable {n m:Nat} {eW:List (List Int)} {s:ei} (G:Gj n n m eW s)
def cK(s:ei)(i:Nat):Prop:=∃ r,(i,r) ∈ s.1
include G
theorem Fv(h:cK s i):i < n:=by
 obtain⟨r,hr⟩:=h;exact G.kc _ hr
theorem uY(v:Nat->Int):(∀ r ∈ eW,dot n (ah r) v=0) ↔ ∀ x ∈ s.1,dot n (ah x.2) v=0:=by
 rw[G.kr v];refine⟨λh=>h.1,λh=>⟨h,λr hr=>n5 λi hi=>?_⟩⟩;rw[G.zr r hr i hi,JF]
theorem Fw(h:(i,r) ∈ s.1)(hj:cK s j)(pZ:j≠i):ah r j=0:=by
 obtain⟨r',ke⟩:=hj;exact G.dg _ h _ ke pZ
theorem Fx(h:(i,r) ∈ s.1)(hf:f < n)(zS:i≠f)(only:∀ j,j < n->j≠f->cK s j)(u:Nat->Int):dot n (ah r) u=ah r i * u i + ah r f * u f :=
 R4 (Fv G ⟨r,h⟩) hf zS λj hj h1 h2=>by rw[Fw G h (only j hj h2) h1,JF]
theorem Sa(h:(i,r) ∈ s.1)(only:∀ j,j < n->cK s j)(u:Nat->Int):dot n (ah r) u=ah r i * u i :=
 ll (Fv G ⟨r,h⟩) λj hj h1=>by rw[Fw G h (only j hj) h1,JF]
theorem Sb(hv:∃ i,i < n/\v i≠0)(hk:∀ r ∈ eW,dot n (ah r) v=0):∃ f,f < n/\¬ cK s f:=by
 by_cases q:∃ f,f < n/\¬ cK s f
 ·exact q
 ·exfalso
  have only:∀ j,j < n->cK s j:=λj hj=>by
   by_cases z:cK s j
   ·exact z
   ·exact absurd ⟨j,hj,z⟩ q
  obtain⟨i,hi,hvi⟩:=hv;obtain⟨r,hr⟩:=only i hi;have e:=(uY G v).mp hk _ hr;rw[Sa G hr only] at e;rcases J0.mp e with e | e
  ·exact G.pv _ hr e
  ·exact hvi e
omit G in
def en(s:ei)(i:Nat):Option (List Int):=(s.1.find? λx=>decide (x.1=i)).map (·.2)
omit G in
theorem Fy:∀ {l:List (Nat×List Int)},(l.map (·.1)).Nodup->(i,r) ∈ l->(l.find? λx=>decide (x.1=i))=some (i,r)
 | [],_,h=>by cases h
 | a :: l,nd,h=>by
  rw[Wo] at nd;obtain⟨n1,n2⟩:=WT.mp nd;rcases Wj.mp h with rfl | h
  ·simp
  ·have:a.1≠i:=λz=>n1 (by rw[z]; exact Wp.mpr ⟨_,h,rfl⟩)
   rw[List.find?_cons_of_neg (by simpa using this)];exact Fy n2 h
theorem Sd(h:(i,r) ∈ s.1):en s i=some r:=by
 unfold en;rw[Fy G.nd h]; rfl
omit G in
theorem Fz(h:¬ cK s i):en s i=none:=by
 unfold en
 cases e:s.1.find? λx=>decide (x.1=i) with
 | none=>rfl
 | some x =>
  have h1:=List.mem_of_find?_eq_some e;have h2:=List.find?_some e;have:x.1=i:=by simpa using h2
  exact absurd ⟨x.2,by rw[<- this]; exact h1⟩ h
def vv(s:ei)(f:Nat)(w:Int)(i:Nat):Int:=match en s i with
 | some r=>(-(ah r f) * w).fdiv (ah r i)
 | none=>w
theorem zT{i f:Nat}{r:List Int}{w:Int}(h:(i,r) ∈ s.1)(hw:ah r i ∣ w):ah r i * vv s f w i = -(ah r f) * w:=by
 unfold vv;rw[Sd G h];show ah r i * (-(ah r f) * w).fdiv (ah r i)=_;rw[WF];exact Fs (Int.dvd_mul_of_dvd_right hw)
omit G in
theorem rO(h:¬ cK s f):vv s f w f=w:=by
 unfold vv;rw[Fz h]
variable {f:Nat} {w:Int} (hf:f < n) (dI:¬ cK s f) (only:∀ j,j < n->j≠f->cK s j) (hw:∀ x ∈ s.1,ah x.2 x.1 ∣ w)
include hf dI only hw
theorem FA:∀ r ∈ eW,dot n (ah r) (vv s f w)=0:=(uY G _).mpr λx hx=>by
 have zS:x.1≠f:=λz=>dI ⟨x.2,by rw[<- z]; exact hx⟩
 rw[Fx G (i:=x.1) hx hf zS only,zT G hx (hw x hx),rO dI,Jv];omega
theorem FC(hu:∀ r ∈ eW,dot n (ah r) u=0)(hi:i < n):w * u i=u f * vv s f w i:=by
 by_cases q:i=f
 ·subst q;rw[rO dI,WF]
 ·obtain⟨r,hr⟩:=only i hi q;have e1:=(uY G u).mp hu _ hr;rw[Fx G hr hf q only] at e1;have e2:=zT G (f:=f) hr (hw _ hr);have h0:=G.pv _ hr;have e3:ah r i * (w * u i - u f * vv s f w i)=0:=by
   rw[Int.mul_sub,<- WI,WF (ah r i) w,WI,<- WI (ah r i) (u f),WF (ah r i) (u f),WI (u f),e2];have e4:ah r i * u i = -(ah r f * u f):=by omega
   rw[e4,Int.mul_neg,Jv,Int.mul_neg,WF (u f),WI (ah r f) w,WF w (u f),<- WI (ah r f) (u f) w,WF (ah r f * u f) w];omega
  rcases J0.mp e3 with e | e
  ·exact absurd e h0
  ·omega
end
theorem Se{n:Nat}{T:Nat->Nat->Int}{A:Int}{rows:List (List Int)}(Sf:rows.length=n)(l0:∀ j,j < n->∀ i,i < n->ah (rows.getD j []) i=T i j - (if i=j then A else 0))(v:Nat->Int) :
  (∀ r ∈ rows,dot n (ah r) v=0) ↔ gm n T A v:=by
 have dj:∀ j,j < n->dot n (ah (rows.getD j [])) v=sN n (λi=>v i * T i j) - A * v j:=λj hj=>by
  have e:dot n (ah (rows.getD j [])) v=sN n (λi=>v i * T i j + (-1) * ((if i=j then A else 0) * v i)):=by
   unfold dot;refine fY λi hi=>?_
   rw[l0 j hj i hi,Int.sub_mul,WF (T i j)]; omega
  rw[e,lj,fo,ll (k:=j) (f:=λi=>(if i=j then A else 0) * v i) hj (λi _ q=>by simp[q])];simp only[if_true];omega
 constructor
 ·intro h j hj;have hm:rows.getD j [] ∈ rows:=by
   rw[Wi,W5 (by omega)];exact Qk _
  have:=h _ hm;rw[dj j hj] at this;omega
 ·intro h r hr;obtain⟨j,hj,rfl⟩:=Qe hr;have e:rows[j]=rows.getD j []:=by rw[Wi,W5 hj]; rfl
  rw[e,dj j (by omega),h j (by omega)];omega
section
variable {n m:Nat} {T:Nat->Nat->Int} {A:Int} {eW:List (List Int)} {s:ei} (G:Gj n n m eW s) (hn:0 < n) (hT:∀ i j,0<=T i j) (hA:0 < A) (hr:∀ i,i < n->sN n (T i)=A)
 (hk:∀ v,(∀ r ∈ eW,dot n (ah r) v=0) ↔ gm n T A v)
include G hn hr hk in
theorem Sg:∃ f,f < n/\¬ cK s f:=by
 obtain⟨v,hv,hs⟩:=Fp hn hr;exact Sb G hv ((hk v).mpr hs)
include G hT hA hr hk in
theorem Sh(hf:f < n)(dI:¬ cK s f)(only:∀ j,j < n->j≠f->cK s j)(hw:∀ x ∈ s.1,ah x.2 x.1 ∣ w)(Si:0 < w):∀ i,i < n->0<=vv s f w i:=λi hi=>by
 have k:=FA G hf dI only hw;have k2:=Fo hT (by omega) hr ((hk _).mp k);have e:w * ((vv s f w i).natAbs:Int)=((vv s f w f).natAbs:Int) * vv s f w i:=FC G hf dI only hw ((hk _).mpr k2) hi;have e0:((vv s f w f).natAbs:Int)=w:=by rw[rO dI]; omega
 rw[e0] at e;have:=Int.eq_of_mul_eq_mul_left (show w≠0 by omega) e;omega
include hT hA in
theorem Sj(hv:gm n T A v)(h0:∀ i,i < n->0<=v i)(hi:i < n)(hj:j < n)(hp:0 < v i)(ht:0 < T i j):0 < v j:=by
 have e:=hv j hj;have h1:v i * T i j<=sN n λi=>v i * T i j:=by
  have:sN n (λk=>if k=i then v i * T i j else 0)=v i * T i j:=by
   rw[ll (k:=i) hi (λk _ q=>by simp[q])]; simp
  rw[<- this];refine zL λk hk=>?_
  by_cases q:k=i
  ·subst q; simp
  ·simp only[q,if_false];exact Int.mul_nonneg (h0 k hk) (hT k j)
 have h2:0 < v i * T i j:=Int.mul_pos hp ht;have h3:0 < A * v j:=by omega
 have h4:=h0 j hj;by_cases q:v j=0
 ·rw[q,Jp] at h3; omega
 ·omega
include hr hA in
theorem Sk[DecidablePred P](uZ:c0 < n)(Sl:P c0)(hP:∀ i j,i < n->j < n->P i->¬ P j->T i j=0):∃ v:Nat->Int,(∃ i,i < n/\v i≠0)/\(∀ i,i < n->¬ P i->v i=0)/\gm n T A v:=by
 obtain⟨v,hv,hs⟩:=Fp (n:=n) (T:=λi j=>if P i then T i j else if j=c0 then A else 0) (A:=A) (by omega) (λi hi=>by
  by_cases q:P i
  ·simp only[q,if_true]; exact hr i hi
  ·simp only[q,if_false];rw[ll (k:=c0) uZ (λk _ z=>by simp[z])]; simp)
 have out:∀ j,j < n->¬ P j->A * v j=0:=λj hj FD=>by
  rw[<- hs j hj];refine n5 λi hi=>?_
  by_cases q:P i
  ·simp only[q,if_true]; rw[hP i j hi hj q FD,Jp]
  ·have:j≠c0:=λz=>FD (by rw[z]; exact Sl)
   simp only[q,if_false,this]; rw[Jp]
 have z:∀ i,i < n->¬ P i->v i=0:=λi hi q=>by
  rcases J0.mp (out i hi q) with h | h
  ·omega
  ·exact h
 refine⟨v,hv,z,λj hj=>?_⟩;rw[<- hs j hj];refine fY λi hi=>?_
 by_cases q:P i
 ·simp only[q,if_true]
 ·rw[z i hi q,JF,JF]
end
section
variable {n m:Nat} {T:Nat->Nat->Int} {A:Int} {eW:List (List Int)} {s:ei} (G:Gj n n m eW s) (hT:∀ i j,0<=T i j) (hA:0 < A) (hr:∀ i,i < n->sN n (T i)=A)
 (hk:∀ v,(∀ r ∈ eW,dot n (ah r) v=0) ↔ gm n T A v)
theorem jE:∀ {l ts:List Nat},l.Nodup->(∀ x ∈ l,x ∈ ts)->l.length<=ts.length
 | [],_,_,_=>Qn _
 | a :: r,ts,nd,h=>by
  obtain⟨n1,n2⟩:=WT.mp nd;have ha:=h a Wh;have:=jE (l:=r) (ts:=ts.erase a) n2 λx hx=>by
   have cC:x≠a:=λz=>n1 (by rw[<- z]; exact hx)
   exact(List.mem_erase_of_ne cC).mpr (h x (W9 _ hx))
  rw[List.length_erase_of_mem ha] at this;have:0 < ts.length:=List.length_pos_of_mem ha;rw[WL]; omega
include G hk in
theorem Sm(h1:f1 < n)(h2:f2 < n)(pH:f1≠f2)(k1:¬ cK s f1)(k2:¬ cK s f2)(hc:c0 < n):∃ u:Nat->Int,(∃ i,i < n/\u i≠0)/\u c0=0/\gm n T A u:=by
 have hl:s.1.length + 2<=n:=by
  have nk:∀ {f:Nat},¬ cK s f->f ∉ s.1.map (·.1):=λ{f} hf z=>by
   obtain⟨x,hx,rfl⟩:=Wp.mp z;exact hf ⟨x.2,hx⟩
  have:=jE (l:=f1 :: f2 :: s.1.map (·.1)) (ts:=W4 n) (WT.mpr ⟨λz=>by
   rcases Wj.mp z with z | z
   ·exact pH z
   ·exact nk k1 z,WT.mpr ⟨nk k2,G.nd⟩⟩) λx hx=>by
   rcases Wj.mp hx with rfl | hx
   ·exact WR.mpr h1
   ·rcases Wj.mp hx with rfl | hx
    ·exact WR.mpr h2
    ·obtain⟨y,hy,rfl⟩:=Wp.mp hx;exact WR.mpr (G.kc y hy)
  simp at this;omega
 obtain⟨u,hu,hs⟩:=zN n (s.1.map (λx=>ah x.2) ++ [λi=>if i=c0 then 1 else 0]) (by simp; omega);refine⟨u,hu,?_,(hk u).mp ((uY G u).mpr λx hx=>hs _ (WK _ (Wp.mpr ⟨x,hx,rfl⟩)))⟩;have e:=hs (λi=>if i=c0 then 1 else 0) (WA _ (by simp));unfold dot at e;rw[ll (k:=c0) hc (λi _ q=>by simp[q])] at e;simpa using e
include G hT hA hr hk in
theorem Sn(hc:c0 < n)(g8:∀ P:Nat->Prop,(∃ i,i < n/\P i)->(∀ i j,i < n->j < n->P i->0 < T i j->P j)->P c0)(h1:f1 < n)(h2:f2 < n)(k1:¬ cK s f1)(k2:¬ cK s f2):f1=f2:=by
 by_cases pH:f1=f2
 ·exact pH
 ·exfalso
  obtain⟨u,⟨i,hi,hui⟩,u0,hu⟩:=Sm G hk h1 h2 pH k1 k2 hc;have ha:=Fo hT (by omega) hr hu;have no:∀ p:Nat->Int,gm n T A p->(∀ j,j < n->0<=p j)->p c0=0->p i=0:=λp hp h0 hz=>by
   by_cases q:p i=0
   ·exact q
   ·have VI:=h0 i hi;have:=g8 (λj=>j < n/\0 < p j) ⟨i,hi,hi,by omega⟩ λa b ha hb So g_=>⟨hb,Sj hT hA hp h0 ha hb So.2 g_⟩
    omega
  have e1:((u i).natAbs:Int) + u i=0:=no (λj=>((u j).natAbs:Int) + u j) (Fn (u:=λj=>((u j).natAbs:Int)) (v:=u) (a:=1) (b:=1) (λj _=>by omega) ha hu) (λj _=>by omega) (by rw[u0]; rfl);have e2:((u i).natAbs:Int) - u i=0:=no (λj=>((u j).natAbs:Int) - u j) (Fn (u:=λj=>((u j).natAbs:Int)) (v:=u) (a:=1) (b:=-1) (λj _=>by omega) ha hu) (λj _=>by omega) (by rw[u0]; rfl);omega
include G hA hr hk in
theorem Sq[DecidablePred P1][DecidablePred P2](ha:a < n)(hb:b < n)(pa:P1 a)(pb:P2 b)(c1:∀ i j,i < n->j < n->P1 i->¬ P1 j->T i j=0)(c2:∀ i j,i < n->j < n->P2 i->¬ P2 j->T i j=0)(Sr:∀ i,i < n->P1 i->¬ P2 i)
  (hf:f < n) (dI:¬ cK s f) (only:∀ j,j < n->j≠f->cK s j) (hw:∀ x ∈ s.1,ah x.2 x.1 ∣ w) (Si:0 < w):False:=by
 have at_:∀ {P:Nat->Prop} [DecidablePred P] {c:Nat},c < n->P c->(∀ i j,i < n->j < n->P i->¬ P j->T i j=0)->P f:=λ{P} _ {c} hc pc cl=>by
  obtain⟨v,⟨i,hi,hvi⟩,hz,hv⟩:=Sk hA hr hc pc cl;by_cases q:P f
  ·exact q
  ·exfalso
   have e:=FC G hf dI only hw ((hk v).mpr hv) hi;rw[hz f hf q,JF] at e;rcases J0.mp e with e | e
   ·omega
   ·exact hvi e
 exact Sr f hf (at_ ha pa c1) (at_ hb pb c2)
end
def wt(l:List (Nat×List Int))(w:Nat):Nat:=l.foldl (λw x=>Nat.lcm w (ah x.2 x.1).natAbs) w
theorem FE:∀ (l:List (Nat×List Int)) (w:Nat),(w ∣ wt l w)/\∀ x ∈ l,(ah x.2 x.1).natAbs ∣ wt l w
 | [],w=>⟨Nat.dvd_refl _,λx h=>by cases h⟩
 | a :: l,w=>by
  obtain⟨h1,h2⟩:=FE l (Nat.lcm w (ah a.2 a.1).natAbs);refine⟨Nat.dvd_trans (Nat.dvd_lcm_left ..) h1,λx hx=>?_⟩;rcases Wj.mp hx with rfl | hx
  ·exact Nat.dvd_trans (Nat.dvd_lcm_right ..) h1
  ·exact h2 x hx
theorem FG:∀ (l:List (Nat×List Int)) (w:Nat),(∀ x ∈ l,ah x.2 x.1≠0)->0 < w->0 < wt l w
 | [],w,_,h=>h
 | a :: l,w,hl,h=>FG l _ (λx hx=>hl x (W9 _ hx)) (Nat.lcm_pos h (by have:=hl a Wh; omega))
theorem FH:∀ (l:List (Nat×List Int)) (w:Nat),(∀ x ∈ l,(ah x.2 x.1).natAbs<=m)->wt l w<=w * m ^ l.length
 | [],w,_=>by simp[wt]
 | a :: l,w,hl=>by
  refine Wu (FH l _ λx hx=>hl x (W9 _ hx)) ?_;have h1:Nat.lcm w (ah a.2 a.1).natAbs<=w * m:=Wu (Jy _ _) (Nat.mul_le_mul_left _ (hl a Wh));rw[WL,JW,JD (m ^ l.length) m,<- Nat.mul_assoc];exact J9 _ h1
theorem u3(v:Nat->Int):∀ n,((W4 n).map v).sum=sN n v
 | 0=>rfl
 | n + 1=>by
  rw[List.range_succ,WV,List.sum_append,u3 v n];simp[sN]
theorem gn(f:DE)(δ:Dl):bL f δ=(f δ).bind λr δ1=>match r.d with
 | .lst ds=>.ok ds δ1
 | .tup ds=>.ok ds δ1
 | .str x=>.ok (x.map λn=>.str [n]) δ1
 | _=>.stuck:=id rfl
theorem VJ(neg:Bool)(fa f g:DE)(δ:Dl):Nh neg fa f g δ=(fa δ).bind λv δ1=>(f δ1).bind λlo δ2=>(g δ2).bind λhi δ3=>match v.d,lo.d,hi.d with
 | .int i,.int l,.int h=>.ok (.pure (.bl (if neg then !(decide (l<=i) && decide (i < h)) else(decide (l<=i) && decide (i < h))))) δ3
 | _,_,_=>.stuck:=id rfl
theorem rP(f F:A->D)(p:A->Bool)(δ:Dl):∀ (as:List A) (acc:List D),acc.length + as.length<=Wc ->
  (∀ a ∈ as,∃ δ1 δ2 x δ3,g (.pure (f a)) δ=some δ1/\t δ1 = .ok (p a) δ2/\bD cs δ2=δ/\el δ2 = .ok x δ3/\bD cs δ3=δ/\x.d=F a)->cy cs g t el (as.map f) δ acc = .ok (acc ++ (as.filter p).map F) δ
 | [],acc,_,_=>by simp[cy]
 | a :: r,acc,hl,hs=>by
  obtain⟨δ1,δ2,x,δ3,e1,e2,e2',e3,e4,e5⟩:=hs a Wh;have gc:acc.length < Wc:=by simp at hl; omega
  rw[Wo];unfold cy;rw[e1]
  cases hp:p a with
  | true =>
   have ih:=rP (cs:=cs) (g:=g) (t:=t) (el:=el) f F p δ r (acc ++ [x.d]) (by simp at hl ⊢; omega) (λa ha=>hs a (W9 _ ha));rw[e5] at ih;rw[hp] at e2;simp only[e2,eV,if_true,e3,if_pos gc,e4,e5,ih,List.filter_cons,hp];simp
  | false =>
   have ih:=rP (cs:=cs) (g:=g) (t:=t) (el:=el) f F p δ r acc (by simp at hl ⊢; omega) (λa ha=>hs a (W9 _ ha));rw[hp] at e2;simp only[e2,eV,e2',ih,List.filter_cons,hp];simp
def nx(s:Int):Int:=(((s + 7919) % 2147483647) * ((s + 7919) % 2147483647) + 48271 * ((s + 7919) % 2147483647) + 12345) % 2147483629
theorem Ss(s:Int):mF [.pure (.int s)]=some (.pure (.int (nx s)),[.pure (.int s)]):=by
 unfold mF cn yC gJ;have h1:=Jz (s + 7919) (b:=2147483647) (by decide);have h2:=JG (s + 7919) (b:=2147483647) (by decide);have c1:jT ((s + 7919) % 2147483647) ((s + 7919) % 2147483647)=true:=by unfold jT; simp; omega
 have c2:jT 48271 ((s + 7919) % 2147483647)=true:=by unfold jT; simp
 simp[cF,bQ,az,ak,a0,aj,bX,e9,eC,gK,qC,c1,c2,dt,cu];rfl
def fI(d:D):Prop:=∃ l f s:Int,d = .lst [.int l,.int f,.int s]/\0<=l
theorem u4(hp:fI d)(m:Nat)(h0:0 < m)(h1:m < 1073741824):∃ (r:Nat) (d':D),fj [.own d,.pure (.int m)]=some (.pure (.int r),[.own d',.pure (.int m)])/\r < m/\fI d':=by
 obtain⟨l,f,s,rfl,hl⟩:=hp;have hm:(0:Int) < (m:Int):=by omega
 have hd:qD l m=true:=by unfold qD; simp; omega
 unfold fj cn yD gJ;by_cases hf:f=1
 ·subst hf;have e1:=Jz l (b:=(m:Int)) (by omega);have e2:=JG l hm;refine⟨(l % (m:Int)).toNat,.lst [.int (l / m),.int 1,.int s],?_,by omega,⟨_,_,_,rfl,Int.ediv_nonneg hl (by omega)⟩⟩;simp[cF,bQ,az,ak,a0,aj,aa,ax,bU,aA,flat,rj,xN,xM,aB,e9,qE,eC,h0,hd,kO,gh,putL,dt,cu,dW];omega
 ·have e1:=Jz (nx (nx s + 7) / 64) (b:=(m:Int)) (by omega);have e2:=JG (nx (nx s + 7) / 64) hm;refine⟨(nx (nx s + 7) / 64 % (m:Int)).toNat,.lst [.int l,.int f,.int (nx (nx s + 7))],?_,by omega,⟨_,_,_,rfl,hl⟩⟩;simp[cF,bQ,az,ak,a0,aj,aa,ax,bU,aA,flat,rj,xN,xM,aB,e9,qE,eC,h0,hd,kO,gh,putL,dt,cu,dW,hf,aI,aZ,cj,bR,bK,bo,Ss,bX,aT,qD];omega
theorem Su(c:Int):∃ d,mG [.pure (.int c)]=some (.own d,[.pure (.int c)])/\fI d:=by
 unfold mG cn yK gJ;refine⟨.lst [.int (if 0 - c > c then 0 - c else c),.int (if decide (1000000000000000000<=(if 0 - c > c then 0 - c else c)) then 1 else 0),.int ((if 0 - c > c then 0 - c else c) % 1000003)],?_,⟨_,_,_,rfl,by split <;> omega⟩⟩;simp[cF,bQ,az,ak,a0,aj,aa,wQ,jo,eC,oG,CF,iJ,wM,wL,e9,dt,cu]
theorem Sv(ns:List Int):∃ c:Int,mE [.pure (.lst (ns.map .int)),.pure (.int 0)]=some (.pure (.int c),[.pure (.lst (ns.map .int)),.pure (.int 0)]):=by
 unfold mE cn yB gJ
 cases ns with
 | nil=>exact⟨0,by simp[cF,bQ,ak,a0,aj,kI,iJ,aB,bh,dt,cu]⟩
 | cons n r=>exact⟨n,by
   have:(0:Int) < (r.length:Int) + 1:=by omega
   simp[cF,bQ,ak,a0,aj,kI,iJ,aB,bh,dt,cu,ax,rj,this]⟩
theorem mM(hp:fI d)(m:Nat)(i:Int)(hi:i=m)(h0:0 < m)(h1:m < 1073741824):∃ (r:Nat) (d':D),fj [.own d,.pure (.int i)]=some (.pure (.int r),[.own d',.pure (.int i)])/\r < m/\fI d':=by
 subst hi;exact u4 hp m h0 h1
def mN:Tx:=[97,98,99,100,101,102,103,104,105,106,107,108,109,110,111,112,113,114,115,116,117,118,119,120,121,122]
theorem Sw(hp:fI d):∃ (h w:Nat) (d':D),nU [.own d]=some (.pure (.tup [.int h,.int w]),[.own d'])/\0 < h/\h<=4/\0 < w/\w<=4/\2 < h + w/\fI d':=by
 obtain⟨r1,d1,e1,l1,p1⟩:=mM hp 3 3 rfl (by decide) (by decide);obtain⟨r2,d2,e2,l2,p2⟩:=mM p1 3 3 rfl (by decide) (by decide);obtain⟨r3,d3,e3,l3,p3⟩:=mM p2 8 8 rfl (by decide) (by decide);obtain⟨r4,d4,e4,l4,p4⟩:=mM p3 6 6 rfl (by decide) (by decide);unfold nU cn yF gJ;by_cases h3:r3=0
 ·subst h3;have:r4=0\/r4=1\/r4=2\/r4=3\/r4=4\/r4=5:=by omega
  rcases this with rfl | rfl | rfl | rfl | rfl | rfl
  ·exact⟨4,1,d4,by simp[cF,bQ,az,aI,aZ,bR,cj,bK,bo,e1,e2,e3,e4,aT,bX,bU,aA,flat,aB,ax,c8,dW,bV,aY,bY,ak,a0,aj,aa,dt,cu],by decide,by decide,by decide,by decide,by decide,p4⟩
  ·exact⟨1,4,d4,by simp[cF,bQ,az,aI,aZ,bR,cj,bK,bo,e1,e2,e3,e4,aT,bX,bU,aA,flat,aB,ax,c8,dW,bV,aY,bY,ak,a0,aj,aa,dt,cu],by decide,by decide,by decide,by decide,by decide,p4⟩
  ·exact⟨4,4,d4,by simp[cF,bQ,az,aI,aZ,bR,cj,bK,bo,e1,e2,e3,e4,aT,bX,bU,aA,flat,aB,ax,c8,dW,bV,aY,bY,ak,a0,aj,aa,dt,cu],by decide,by decide,by decide,by decide,by decide,p4⟩
  ·exact⟨4,3,d4,by simp[cF,bQ,az,aI,aZ,bR,cj,bK,bo,e1,e2,e3,e4,aT,bX,bU,aA,flat,aB,ax,c8,dW,bV,aY,bY,ak,a0,aj,aa,dt,cu],by decide,by decide,by decide,by decide,by decide,p4⟩
  ·exact⟨1,2,d4,by simp[cF,bQ,az,aI,aZ,bR,cj,bK,bo,e1,e2,e3,e4,aT,bX,bU,aA,flat,aB,ax,c8,dW,bV,aY,bY,ak,a0,aj,aa,dt,cu],by decide,by decide,by decide,by decide,by decide,p4⟩
  ·exact⟨2,1,d4,by simp[cF,bQ,az,aI,aZ,bR,cj,bK,bo,e1,e2,e3,e4,aT,bX,bU,aA,flat,aB,ax,c8,dW,bV,aY,bY,ak,a0,aj,aa,dt,cu],by decide,by decide,by decide,by decide,by decide,p4⟩
 ·by_cases hs:r1=0/\r2=0
  ·obtain⟨rfl,rfl⟩:=hs;refine⟨1,2,d3,?_,by decide,by decide,by decide,by decide,by decide,p3⟩;simp[cF,bQ,az,aI,aZ,bR,cj,bK,bo,e1,e2,e3,aT,bX,bU,aA,flat,aB,h3,ak,a0,aj,aa,dt,cu]
  ·have hn:¬ (1 + (r1:Int) + (1 + (r2:Int))=2):=by omega
   refine⟨1 + r1,1 + r2,d3,?_,by omega,by omega,by omega,by omega,by omega,p3⟩;simp[cF,bQ,az,aI,aZ,bR,cj,bK,bo,e1,e2,e3,aT,bX,bU,aA,flat,aB,h3,hn,ak,a0,aj,aa,dt,cu]
theorem FI(ts:List Nat)(r:Nat)(h:r < ts.length):ax (.lst (ts.map λn=>.str [n])) (.int r)=some (.pure (.str [ts.getD r 0])):=by
 simp[ax,il,h]
theorem Sx(hp:fI d)(ts:List Nat)(place way:Nat)(h1:place < ts.length)(h2:ts.length<=64):∃ (n:Nat) (d':D),
  iy [.own d,.pure (.lst (ts.map λn=>.str [n])),.pure (.int place),.pure (.int way)]=some (.pure (.str [n]),[.own d',.pure (.lst (ts.map λn=>.str [n])),.pure (.int place),.pure (.int way)])/\n ∈ ts/\fI d':=by
 have mem:∀ r,r < ts.length->ts.getD r 0 ∈ ts:=λr h=>by simp[h]
 unfold iy cn yG gJ;by_cases w1:way=1
 ·subst w1;obtain⟨r,d1,e1,l1,p1⟩:=mM hp (place + 1) ((place:Int) + 1) (by omega) (by omega) (by omega);refine⟨ts.getD r 0,d1,?_,mem r (by omega),p1⟩;simp[cF,bQ,ak,a0,aj,bU,aA,flat,aB,aI,aZ,bR,cj,bK,bX,bo,e1,aT,ax,il,dt,cu,show r < ts.length by omega]
 ·by_cases w2:way=2
  ·subst w2;have hr:(place + 1) % ts.length < ts.length:=Nat.mod_lt _ (by omega);refine⟨ts.getD ((place + 1) % ts.length) 0,d,?_,mem _ hr,hp⟩;have hm:e9 (.int ((place:Int) + 1)) (.int ts.length)=some (.pure (.int (((place + 1) % ts.length:Nat):Int))):=by
    simp only[e9,eC];rw[if_pos (by simp; omega)];simp
   simp[cF,bQ,ak,a0,aj,bU,aA,flat,aB,bX,bh,hm,dt,cu];have hx:=FI ts ((place + 1) % ts.length) hr;simp at hx;simp[hx]
  ·by_cases w3:way=3
   ·subst w3;obtain⟨r,d1,e1,l1,p1⟩:=mM hp 4 4 rfl (by decide) (by decide);by_cases hr:0 < r
    ·refine⟨ts.getD place 0,d1,?_,mem place h1,p1⟩;simp[cF,bQ,ak,a0,aj,bU,aA,flat,aB,aI,aZ,bR,cj,bK,bo,e1,aT,fT,iJ,hr,ax,il,h1,dt,cu]
    ·obtain⟨r',d2,e2,l2,p2⟩:=u4 p1 ts.length (by omega) (by omega);refine⟨ts.getD r' 0,d2,?_,mem r' l2,p2⟩;simp[cF,bQ,ak,a0,aj,bU,aA,flat,aB,aI,aZ,bR,cj,bK,bo,e1,aT,fT,iJ,hr,bh,e2,ax,il,l2,dt,cu]
   ·obtain⟨r',d2,e2,l2,p2⟩:=u4 hp ts.length (by omega) (by omega);refine⟨ts.getD r' 0,d2,?_,mem r' l2,p2⟩;have c1:¬ (way:Int)=1:=by omega
    have c2:¬ (way:Int)=2:=by omega
    have c3:¬ (way:Int)=3:=by omega
    simp[cF,bQ,ak,a0,aj,bU,aA,flat,aB,aI,aZ,bR,cj,bK,bo,aT,c1,c2,c3,bh,e2,ax,il,l2,dt,cu]
theorem Sy:∀ k,k < 26->mN.getD k 0=97 + k:=by decide
theorem FJ(xs:List Nat)(h:xs.length < 64):nr (.lst (xs.map λn=>.str [n]))=some (.own (.lst ((fR xs).map λn=>.str [n]))):=by
 have e:(xs.map λn=>D.str [n])=(xs.map λn=>[n]).map D.str:=by simp
 unfold nr;simp only[e,uG];rw[if_pos (by simpa using h),Es];simp
def jF(f n:Nat):List Nat:=(W4 n).map λk=>97 + (f + 5 * k) % 26
theorem Sz(f n:Nat)(hn:n<=26):(jF f n).Nodup:=by
 unfold jF;rw[List.nodup_iff_pairwise_ne,List.pairwise_map];refine(List.pairwise_lt_range (n:=n)).imp_of_mem ?_;intro a b ha hb g_ e;simp at ha hb;omega
def rb(pd:D)(m h w n f:Nat)(s7:S)(wy:Nat)(blocks:List D)(a b c:Option S):Dl :=
 [some (.own pd),some (.pure (.int m)),some (.pure (.int h)),some (.pure (.int w)),some (.pure (.int (1 + (n:Int)))),some (.pure (.int f)),some (.pure (.str mN)),some s7,some (.pure (.int wy)),some (.own (.lst blocks)),a,b,c,none,none]
def tD(ts:List Nat):D:=.lst (ts.map λn=>.str [n])
def sT(ts:List Nat)(s:S):Prop:=s = .own (tD ts)\/s = .pure (tD ts)
theorem SD(mO:ts.length<=64)(hw:w<=4)(jG:fI pd)(h7:sT ts s7)(blocks:List D)(place:Nat)(dB:place < ts.length)(block:List D)(row:Nat) :
  ∃ (x:Tx) (gq:D) (gr:S),cy [14] (ag [0] 14) a_ (aI iy [.io 0,.val (aa 7),.val (aa 10),.val (aa 8)]) (cg 0 w) (rb pd m h w n f s7 wy blocks (some (.pure (.int place))) (some (.own (.lst block))) (some (.pure (.int row)))) []
   = .ok (x.map λn=>.str [n]) (rb gq m h w n f gr wy blocks (some (.pure (.int place))) (some (.own (.lst block))) (some (.pure (.int row))))/\x.length=w/\(∀ n ∈ x,n ∈ ts)/\fI gq/\sT ts gr:=by
 obtain⟨xs,δ',e,⟨gq,gr,hpd',h7',rfl⟩,hn,hf⟩:=xO (cs:=[14]) (g:=ag [0] 14) (t:=a_) (el:=aI iy [.io 0,.val (aa 7),.val (aa 10),.val (aa 8)]) (λδ=>∃ pd s7,fI pd/\sT ts s7/\δ=rb pd m h w n f s7 wy blocks (some (.pure (.int place))) (some (.own (.lst block))) (some (.pure (.int row))))
  (λ_ x=>∃ n,n ∈ ts/\x = .str [n]) (cg 0 w) _ [] ⟨pd,s7,jG,h7,rfl⟩ (by rw[cU]; simp; omega) (λd hd δ ⟨pd,s7,jG,h7,e⟩=>by
   subst e;obtain⟨i,hi,rfl⟩:=Eo hd;obtain⟨k,d',e,hk,p⟩:=Sx jG ts place wy dB mO;have e':iy [.own pd,.pure (tD ts),.pure (.int place),.pure (.int wy)]=some (.pure (.str [k]),[.own d',.pure (tD ts),.pure (.int place),.pure (.int wy)]):=e;refine⟨_,_,.pure (.str [k]),(rb d' m h w n f (.pure (tD ts)) wy blocks (some (.pure (.int place))) (some (.own (.lst block))) (some (.pure (.int row)))).set 14 (some (.pure (.int i))),rfl,rfl,?_,⟨d',_,p,.inr rfl,rfl⟩,⟨_,hk,rfl⟩⟩;rcases h7 with rfl | rfl
   ·simp[rb,aI,aZ,bR,cj,bK,aa,bo,e',aT]
   ·simp[rb,aI,aZ,bR,cj,bK,aa,bo,e',aT])
 obtain⟨x,rfl,hx⟩:=Ex (P:=λn=>n ∈ ts) (OC hn hf λd x _ h=>h);exact⟨x,gq,gr,by simpa using e,by simpa using hn,hx,hpd',h7'⟩
theorem SF(mO:ts.length<=64)(hw:w<=4)(hh:h<=4)(jG:fI pd)(h7:sT ts s7)(blocks:List D)(place:Nat)(dB:place < ts.length)(rs:Option S) :
  ∃ (fl:List Tx) (gq:D) (gr:S) (rQ:Option S),forL (ag [0] 12) (dm 11 (aO (dF []) (ao (bJ [14] (dY (aa 3)) (ag [0] 14) a_ (aI iy [.io 0,.val (aa 7),.val (aa 10),.val (aa 8)]))))) (cg 0 h) (rb pd m h w n f s7 wy blocks (some (.pure (.int place))) (some (.own (.lst []))) rs)
   = .ok .next (rb gq m h w n f gr wy blocks (some (.pure (.int place))) (some (.own (.lst (fl.map .str)))) rQ)/\fl.length=h/\(∀ r ∈ fl,r.length=w/\∀ n ∈ r,n ∈ ts)/\fI gq/\sT ts gr:=by
 obtain⟨δ',e3,gq,gr,fl,rQ,hpd',h7',nc,g8,rfl⟩:=jy (g:=ag [0] 12) (b:=dm 11 (aO (dF []) (ao (bJ [14] (dY (aa 3)) (ag [0] 14) a_ (aI iy [.io 0,.val (aa 7),.val (aa 10),.val (aa 8)]))))) (λk δ=>∃ (pd:D) (s7:S) (fl:List Tx) (rs:Option S),fI pd/\sT ts s7/\fl.length=k/\(∀ r ∈ fl,r.length=w/\∀ n ∈ r,n ∈ ts)/\δ=rb pd m h w n f s7 wy blocks (some (.pure (.int place))) (some (.own (.lst (fl.map .str)))) rs)
  (cg 0 h) 0 _ ⟨pd,s7,[],rs,jG,h7,rfl,by simp,rfl⟩ (λi d δ hd ⟨pd,s7,fl,rs,jG,h7,nc,g8,e⟩=>by
   subst e;obtain⟨hi,rfl⟩:=xQ hd;obtain⟨x,gq,gr,e,hx,hxt,hpd',h7'⟩:=SD (m:=m) (h:=h) (n:=n) (f:=f) (wy:=wy) mO hw jG h7 blocks place dB (fl.map .str) i;have hz:fl.length < Wc:=by rw[cU]; omega
   have ej:=Ox x (by omega);refine⟨_,rb gq m h w n f gr wy blocks (some (.pure (.int place))) (some (.own (.lst ((fl ++ [x]).map .str)))) (some (.pure (.int i))),rfl,?_,⟨gq,gr,fl ++ [x],_,hpd',h7',by simp[nc],?_,rfl⟩⟩
   ·unfold rb at e ⊢;simp[dm,gh,aa,mr w (by omega),cj,bD];rw[e];simp[ej,c9,putL,hz]
   ·intro r hr;rcases Wy.mp hr with hr | hr
    ·exact g8 r hr
    ·simp at hr; subst hr; exact⟨hx,hxt⟩)
 exact⟨fl,gq,gr,rQ,e3,by simpa using nc,g8,hpd',h7'⟩
theorem SJ(hp:fI d)(m:Nat)(zU:0 < m)(Eh:m<=26):∃ (h w:Nat) (bs:List (Nat×List Tx)) (d':D),
  k_ [.own d,.pure (.int m)]=some (.pure (ay h w bs),[.own d',.pure (.int m)])/\c_ h w bs/\bs.length<=m/\fI d':=by
 obtain⟨h,w,d1,e1,h0,h1,w0,w1,hw,p1⟩:=Sw hp;obtain⟨r,d2,e2,l2,p2⟩:=u4 p1 m zU (by omega);obtain⟨f,d3,e3,l3,p3⟩:=mM p2 26 26 rfl (by decide) (by decide);obtain⟨wy,d4,e4,l4,p4⟩:=mM p3 5 5 rfl (by decide) (by decide);-- the tiles
 have ec:=Ou (cs:=[13]) (g:=ag [0] 13) (t:=a_) (el:=ak ax 6 (ao (aD e9 (ak bX 5 (ao (aD gK (eD (.int 5)) (aj 13)))) (ao (eD (.int 26)))))) (λd=>match d with | .int k=>.str [97 + (f + 5 * k.toNat) % 26] | _=>.aJ)
  [some (.own d3),some (.pure (.int m)),some (.pure (.int h)),some (.pure (.int w)),some (.pure (.int (1 + (r:Int)))),some (.pure (.int f)),some (.pure (.str mN)),none,none,none,none,none,none,none,none] (cg 0 (1 + r)) [] (by rw[cU]; simp; omega) (λd hd=>by
   obtain⟨i,hi,rfl⟩:=Eo hd;refine⟨_,_,.pure (.str [97 + (f + 5 * i) % 26]),[some (.own d3),some (.pure (.int m)),some (.pure (.int h)),some (.pure (.int w)),some (.pure (.int (1 + (r:Int)))),some (.pure (.int f)),some (.pure (.str mN)),none,none,none,none,none,none,some (.pure (.int i)),none],rfl,rfl,?_,rfl,rfl⟩;have hk:(f + 5 * i) % 26 < 26:=Nat.mod_lt _ (by decide);have hx:=Oz mN ((f + 5 * i) % 26) hk (by decide);rw[Sy _ hk] at hx;have hc:((f:Int) + 5 * (i:Int)) % 26=(((f + 5 * i) % 26:Nat):Int):=by omega
   have hmul:gK (.int 5) (.int i)=some (.pure (.int (5 * (i:Int)))):=by
    unfold gK qC eC;have:jT 5 i=true:=by unfold jT; simp
    simp only[this,if_true]
   have SK:e9 (.int ((f:Int) + 5 * (i:Int))) (.int 26)=some (.pure (.int (((f + 5 * i) % 26:Nat):Int))):=by
    rw[<- hc]; rfl
   generalize mN=lt at hx ⊢;simp only[ak,a0,aj,oU,El,Oo,eV,En,List.set_cons_succ,List.set_cons_zero,List.getElem?_cons_succ,List.getElem?_cons_zero,Om,hmul,bX,SK,hx])
 have SM:List.map (λ(d:D)=>match d with | .int k=>D.str [97 + (f + 5 * k.toNat) % 26] | _=>.aJ) (cg 0 (1 + r))=(jF f (1 + r)).map λn=>.str [n]:=by
  simp[cg,jF]
 rw[SM] at ec;simp only[QO] at ec;have FK:(jF f (1 + r)).length=1 + r:=by simp[jF]
 have es:=FJ (jF f (1 + r)) (by rw[FK]; omega);have mO:(fR (jF f (1 + r))).length=1 + r:=by rw[Eu,FK]
 have a7:=xS (Sz f (1 + r) (by omega));have hle:∀ t ∈ fR (jF f (1 + r)),97<=t/\t<=122:=λt ht=>by
  rw[rm] at ht;simp[jF] at ht;obtain⟨k,_,rfl⟩:=ht;omega
 generalize fR (jF f (1 + r))=ts at es mO a7 hle;-- the blocks
 obtain⟨δ',e5,pd,s7,bs,a,b,c,jG,h7,hbl,pI,g8,rfl⟩:=jy (g:=ag [0] 10) (b:=(aC (az (fU cP) (ag [0] 11)) (aC (dZ (dY (aa 2)) (ag [0] 12) (dm 11 (aO (dF []) (ao (bJ [14] (dY (aa 3)) (ag [0] 14) a_ (aI iy [.io 0,.val (aa 7),.val (aa 10),.val (aa 8)])))))) (dm 9 (h9 (bS (ak ax 7 (aj 10)) (bS (aO e_ (aj 11)) cP)))))))
  (λk δ=>∃ (pd:D) (s7:S) (bs:List (Nat×List Tx)) (a b c:Option S),fI pd/\sT ts s7/\bs.length=k/\bs.map (·.1)=ts.take k/\(∀ b ∈ bs,b.2.length=h/\∀ r ∈ b.2,r.length=w/\∀ n ∈ r,n ∈ ts)/\δ=rb pd m h w r f s7 wy (bs.map bT) a b c)
  (cg 0 (1 + r)) 0 (rb d4 m h w r f (.own (tD ts)) wy [] none none none) ⟨d4,_,[],none,none,none,p4,.inl rfl,rfl,rfl,by simp,rfl⟩ (λi d δ hd ⟨pd,s7,bs,a,b,c,jG,h7,hbl,pI,g8,e⟩=>by
   subst e;obtain⟨hi,rfl⟩:=xQ hd;rw[QD] at hbl pI;obtain⟨fl,gq,gr,rQ,e,nc,hflt,hpd',h7'⟩:=SF (m:=m) (n:=r) (f:=f) (wy:=wy) (ts:=ts) (by omega) w1 h1 jG h7 (bs.map bT) i (by omega) c;have hz:bs.length < Wc:=by rw[cU]; omega
   have hx:=FI ts i (by omega);refine⟨_,rb gq m h w r f gr wy ((bs ++ [(ts.getD i 0,fl)]).map bT) (some (.pure (.int i))) (some (.own (.lst (fl.map .str)))) rQ,rfl,?_,⟨gq,gr,bs ++ [(ts.getD i 0,fl)],_,_,_,hpd',h7',by simp[hbl],?_,?_,rfl⟩⟩
   ·unfold rb at e ⊢;simp[az,aa,mr h (by omega)];rw[e];rcases h7' with rfl | rfl
    ·simp[dm,gh,ak,a0,aj,tD,hx,e_,putL,hz,bT]
    ·simp[dm,gh,ak,a0,aj,tD,hx,e_,putL,hz,bT]
   ·rw[QD,WV,pI,List.take_add_one];simp[show i < ts.length by omega]
   ·intro b hb;rcases Wy.mp hb with hb | hb
    ·exact g8 b hb
    ·simp at hb; subst hb; exact⟨nc,hflt⟩)
 have VM:bs.length=1 + r:=by simpa using hbl
 have zV:bs.map (·.1)=ts:=by
  rw[pI,Jm];simp[mO]
 refine⟨h,w,bs,pd,?_,⟨h0,h1,w0,w1,hw,by omega,by omega,by rw[zV]; exact a7,λb hb=>hle _ (by rw[<- zV]; exact Jf hb),λb hb=>by rw[zV]; exact g8 b hb⟩,by omega,jG⟩;unfold k_ cn yH gJ;unfold mN at ec;simp[cF,bQ,az,aI,aZ,bR,cj,bK,bo,e1,aT,bV,aY,bY,aa,e2,bX,e3,Ey r (by omega),bD];rw[ec];simp[c9,es,e4,aT,aa,Ey r (by omega)];unfold rb mN tD at e5;rw[e5];simp[aj,e_,dt,cu,aa]
theorem gt_int(i j:Int):fT (.int i) (.int j)=some (.pure (.bl (decide (j < i)))):=rfl
theorem u5(i j:Int):bU (.int i) (.int j)=some (.pure (.bl (i == j))):=rfl
theorem pJ(i j:Int):cZ (.int i) (.int j)=some (.pure (.bl (!(i == j)))):=rfl
theorem lp(h w:Nat)(bs:List (Nat×List Tx)):ax (ay h w bs) (.int 0)=some (.pure (.int h))/\ax (ay h w bs) (.int 1)=some (.pure (.int w))/\ax (ay h w bs) (.int 2)=some (.pure (.tup (bs.map bT))):=by
 refine⟨?_,?_,?_⟩
 ·simp[ax,rj]
 ·simp[ax,xN]
 ·simp[ax,xM]
theorem rR(np:List Nat)(n:Nat)(b:DS)(ss:List S):cn np n b ss=if cF np 0 ss then(match b (bQ n ss) with
 | .ok fl δ=>(dt fl).bind λr=>(cu 0 ss δ).map λaW=>(r,aW)
 | _=>none) else none:=rfl
theorem SN(xs:List Tx)(m:Nat)(h:∀ x ∈ xs,x.length<=m):iM xs<=xs.length * m:=by
 induction xs with
 | nil=>simp[iM]
 | cons x r ih =>
  have h1:=h x Wh;have h2:=ih λy hy=>h y (W9 _ hy)
  have e:iM (x :: r)=x.length + iM r:=by simp[iM]
  rw[e,WL,Nat.succ_mul];omega
theorem mul_int(i j:Int)(h0:0<=j)(h1:j<=1000):gK (.int i) (.int j)=some (.pure (.int (i * j))):=by
 unfold gK qC eC;have:jT i j=true:=by unfold jT; simp; omega
 simp only[this,if_true]
theorem rS(e:b (bQ n [.pure x,.pure y]) = .ok (.ret v) δ1):cn [] n b [.pure x,.pure y]=some (v,[.pure x,.pure y]):=by
 rw[rR,e]; rfl
theorem FN(e:b (bQ n [.pure x,.pure y,.pure z]) = .ok (.ret v) δ1):cn [] n b [.pure x,.pure y,.pure z]=some (v,[.pure x,.pure y,.pure z]):=by
 rw[rR,e]; rfl
theorem n9(e:b (bQ n [.pure x]) = .ok (.ret v) δ1):cn [] n b [.pure x]=some (v,[.pure x]):=by
 rw[rR,e]; rfl
theorem bq(h:a δ = .ok .next δ1):aC a b δ=b δ1:=by unfold aC; rw[h]; rfl
theorem FO(h:a δ = .ok (.ret v) δ1):aC a b δ = .ok (.ret v) δ1:=by unfold aC; rw[h]; rfl
theorem kg(h:it δ = .ok ds δ1):dZ it g b δ=forL g b ds δ1:=by unfold dZ; rw[h]; rfl
theorem u6(ds:List D):bh (.tup ds)=some (.pure (.int ds.length)):=rfl
theorem SQ(ts:List Nat):fB (ts.map λn=>D.str [n])=some (ts.map λn=>[n]):=by
 have:=uG (ts.map λn=>[n]);simpa[Wz,Function.comp_def] using this
theorem SR(R:c_ h w bs):nV [.pure (ay h w bs)]=some (.own (tD (bs.map (·.1))),[.pure (ay h w bs)]):=by
 have n1:=R.n1;obtain⟨_,_,x2⟩:=lp h w bs;have e:=ir (cs:=[1,2]) (g:=bV 2 (aY (ag [] 1) (aY (ag [] 2) bY))) (t:=a_) (el:=aa 1) bT (λb=>.str [b.1]) [some (.pure (ay h w bs)),none,none] bs [] (by rw[cU]; simp; omega) (λb hb=>by
  refine⟨[some (.pure (ay h w bs)),some (.pure (.str [b.1])),some (.pure (du b.2))],_,.pure (.str [b.1]),[some (.pure (ay h w bs)),some (.pure (.str [b.1])),some (.pure (du b.2))],rfl,rfl,?_,rfl,rfl⟩;simp[aa])
 simp only[QO] at e;rw[nV];refine n9 (δ1:=[some (.pure (ay h w bs)),none,none]) ?_;rw[yR];have et:tD (bs.map (·.1)) = .lst (bs.map λb=>D.str [b.1]):=by simp[tD,Function.comp_def]
 rw[et];show bN (bJ [1,2] (bL (ak ax 0 (ao (eD (.int 2))))) (bV 2 (aY (ag [] 1) (aY (ag [] 2) bY))) a_ (aa 1)) [some (.pure (ay h w bs)),none,none]=_;generalize ay h w bs=U at *;simp[gn,ak,a0,aj,x2,cj,bD,e,c9]
theorem SV(n:Int):kb [.pure (.int n)]=some (.pure (.bl true),[.pure (.int n)]):=rfl
theorem SY(xs:List Tx)(h:iM xs<=16777216):dF [] (du xs)=some (.pure (.str xs.flatten)):=by
 unfold dF;simp only[uG,xP];rw[if_pos (by simpa using h)]
theorem S0{ts:List Nat}{ch:Nat}(h:ch ∈ ts):∃ n,(ts.map λn=>[n]).idxOf [ch]=n/\ts[n]? = some ch:=by
 have hm:([ch]:Tx) ∈ ts.map λn=>[n]:=Wp.mpr ⟨ch,h,rfl⟩
 have hl:=List.idxOf_lt_length_of_mem hm;refine⟨_,rfl,?_⟩;have e:=List.getElem_idxOf hl;have gc:(ts.map λn=>[n]).idxOf [ch] < ts.length:=by simpa using hl
 rw[List.getElem_map] at e;have e':ts[(ts.map λn=>[n]).idxOf [ch]]=ch:=by simpa using e
 rw[W5 gc,e']
theorem S3{ts:List Nat}(nd:ts.Nodup){n ch:Nat}(h:ts[n]? = some ch)(F G:Nat->D):(ts.map F).set n (G ch)=ts.map λs=>if s=ch then G s else F s:=by
 apply Qz;intro i;by_cases hi:n=i
 ·subst hi;have hl:=(W1.mp h).1;rw[Wa (by simpa using hl),Wl,h];simp
 ·rw[W6 hi,Wl,Wl]
  cases e:ts[i]? with
  | none=>rfl
  | some x =>
   have:x≠ch:=λz=>by
    subst z;obtain⟨h1,e1⟩:=W1.mp h;obtain⟨h2,e2⟩:=W1.mp e;exact hi ((List.getElem_inj nd).mp (e1.trans e2.symm))
   simp[this]
def cG(ts:List Nat)(f:Nat->Nat):List D:=ts.map λs=>.int ((f s:Nat):Int)
theorem FP{ts:List Nat}(nd:ts.Nodup)(hl:ts.length<=26)(U V:D)(b1:Nat):∀ (tx:Tx) (f:Nat->Nat) (s5 s6:Option D),(∀ n ∈ tx,n ∈ ts) ->
  ∃ pK pL:Option D,kX 3 6 [b1] (ag [2] 5) (az (j7 1 (aa 5)) (ag [2] 6)) tx (cG ts f) [some (.pure U),some (.own (tD ts)),none,some (.pure (.str [b1])),some (.pure V),s5.map .pure,s6.map .pure,none]
   = .ok (cG ts λs=>f s + tx.count s) [some (.pure U),some (.own (tD ts)),none,some (.pure (.str [b1])),some (.pure V),pK.map .pure,pL.map .pure,none]
 | [],f,s5,s6,_=>⟨s5,s6,by simp[kX]⟩
 | ch :: r,f,s5,s6,h=>by
  obtain⟨n,e1,e2⟩:=S0 (h ch Wh);obtain⟨a,b,ih⟩:=FP nd hl U V b1 r (λs=>f s + if s=ch then 1 else 0) (some (.str [ch])) (some (.int (n:Int))) λk hk=>h k (W9 _ hk)
  refine⟨a,b,?_⟩;have hi:nK (tD ts) (.str [ch])=some (.pure (.int (n:Int))):=by
   unfold nK tD;simp only[SQ];have hm:([ch]:Tx) ∈ ts.map λn=>[n]:=Wp.mpr ⟨ch,h ch Wh,rfl⟩
   rw[if_pos ⟨hm,by simp; omega⟩,e1]
  have jL:az (j7 1 (aa 5)) (ag [2] 6) [some (.pure U),some (.own (tD ts)),none,some (.pure (.str [b1])),some (.pure V),some (.pure (.str [ch])),s6.map .pure,none] = .ok .next [some (.pure U),some (.own (tD ts)),none,some (.pure (.str [b1])),some (.pure V),some (.pure (.str [ch])),some (.pure (.int (n:Int))),none]:=by
   have hL:Ei (tD ts)=true:=rfl;generalize tD ts=T at *;simp[az,j7,aa,hL,hi]
  have hx:(cG ts f)[n]? = some (.int ((f ch:Nat):Int)):=by
   unfold cG;rw[Wl,e2];rfl
  have hs:(cG ts f).set n (.int ((f ch:Nat) + 1:Int))=cG ts λs=>f s + if s=ch then 1 else 0:=by
   unfold cG;have:=S3 nd e2 (λs=>D.int ((f s:Nat):Int)) (λs=>D.int ((f s:Nat) + 1:Int));rw[this];refine QT λs _=>?_
   by_cases q:s=ch
   ·simp[q]
   ·simp[q]
  have hf:(cG ts λs=>f s + (ch :: r).count s)=cG ts λs=>(f s + if s=ch then 1 else 0) + r.count s:=by
   refine QT λs _=>?_
   show D.int (((f s + List.count s (ch :: r)):Nat):Int)=D.int ((((f s + if s=ch then 1 else 0) + List.count s r):Nat):Int);rw[List.count_cons];by_cases q:ch=s
   ·subst q;simp;omega
   ·simp[q,Ne.symm q]
  rw[hf,<- ih];conv=>lhs; unfold kX
  have hg:ag [2] 5 (.pure (.str [ch])) [some (.pure U),some (.own (tD ts)),none,some (.pure (.str [b1])),some (.pure V),s5.map .pure,s6.map .pure,none]=some [some (.pure U),some (.own (tD ts)),none,some (.pure (.str [b1])),some (.pure V),some (.pure (.str [ch])),s6.map .pure,none]:=rfl;rw[hg];dsimp only;rw[jL];simp only[eV];simp only[List.getElem?_cons_succ,List.getElem?_cons_zero];rw[if_pos (by simp)];simp only[QA,hx];rw[hs];rfl
theorem S4(R:c_ h w bs)(F:Nat×List Tx->D)(hb:bs[i]? = some b):putD ((bs.take i).map λb=>((Sum.inr [b.1]:bc),F b)) (.inr [b.1]) (F b)=(bs.take (i + 1)).map λb=>((Sum.inr [b.1]:bc),F b):=by
 have hi:=(W1.mp hb).1;have hn:(((bs.take i).map λb=>((Sum.inr [b.1]:bc),F b)).any λkv=>decide (kv.1 = .inr [b.1]))=false:=by
  rw[JJ];intro kv hkv;obtain⟨c,hc,rfl⟩:=Wp.mp hkv;simp only[decide_eq_true_eq];intro e;simp at e;obtain⟨j,hj⟩:=J7 hc;have FQ:j < i:=by have:=(W1.mp hj).1; simp at this; omega
  rw[List.getElem?_take_of_lt FQ] at hj;have:=List.pairwise_iff_getElem.mp R.up j i (by simp; omega) (by simpa using hi) FQ;have e1:=(W1.mp hj).2;have e2:=(W1.mp hb).2;simp only[List.getElem_map,e1,e2] at this;omega
 unfold putD;rw[hn,List.take_add_one,hb];simp
theorem u7(R:c_ h w bs)(hb:b ∈ bs):dF [] (du b.2)=some (.pure (.str b.2.flatten))/\b.2.flatten.length<=16/\∀ n ∈ b.2.flatten,n ∈ bs.map (·.1):=by
 obtain⟨h1,h2⟩:=R.ip b hb;have hh:=R.h1;have hw:=R.w1;have hs:=SN b.2 w (λx hx=>Nat.le_of_eq (h2 x hx).1);have hm:b.2.length * w<=4 * 4:=Qo (by omega) hw;refine⟨SY _ (by omega),?_,λn hn=>?_⟩
 ·have:b.2.flatten.length=iM b.2:=by rw[List.length_flatten]; rfl
  omega
 ·obtain⟨r,hr,hn⟩:=List.mem_flatten.mp hn;exact(h2 r hr).2 n hn
def jH(bs:List (Nat×List Tx))(b2:List Tx):D:=.lst (cG (bs.map (·.1)) λs=>b2.flatten.count s)
def dA(bs:List (Nat×List Tx)):D:=.aw (bs.map λb=>((Sum.inr [b.1]:bc),jH bs b.2))
theorem zeros(n:Nat)(ts:List Nat)(h:n=ts.length):(Wg n ([.int 0]:List D)).flatten=cG ts λ_=>0:=by
 subst h;induction ts with
 | nil=>rfl
 | cons t r ih =>
  rw[WL,Q9,Qy,ih];rfl
theorem S5(U V T:D)(b1 n:Nat)(dd:List (bc×D))(tx:Tx)(zs jz:List D)(s5 s6 pK pL:Option S)(hl:bh T=some (.pure (.int (n:Int))))(hn:n<=1000)(hz:(Wg n ([.int 0]:List D)).flatten=zs)(hd:dd.length < Wc)(hj:dF [] V=some (.pure (.str tx)))
  (ht:kX 3 6 [b1] (ag [2] 5) (az (j7 1 (aa 5)) (ag [2] 6)) tx zs [some (.pure U),some (.own T),none,some (.pure (.str [b1])),some (.pure V),s5,s6,none] = .ok jz [some (.pure U),some (.own T),none,some (.pure (.str [b1])),some (.pure V),pK,pL,none]) :
  nN 2 3 6 (aD kW (l6 [.int 0]) (ao (aO bh (aj 1)))) (aO (dF []) (aj 4)) (ag [2] 5) (az (j7 1 (aa 5)) (ag [2] 6)) [some (.pure U),some (.own T),some (.own (.aw dd)),some (.pure (.str [b1])),some (.pure V),s5,s6,none]
   = .ok .next [some (.pure U),some (.own T),some (.own (.aw (putD dd (.inr [b1]) (.lst jz)))),some (.pure (.str [b1])),some (.pure V),pK,pL,none]:=by
 have hm:kW (.lst [.int 0]) (.int (n:Int))=some (.own (.lst zs)):=by
  unfold kW;dsimp only;rw[if_pos ⟨by omega,by omega,by simp,by simp⟩];simp only[QA,hz]
 unfold nN;simp[mf,aD,l6,aj,hl,hm,hd,hj];rw[ht];rfl
theorem S6{bs:List (Nat×List Tx)}(hn:bs.length<=26)(k:Nat)(δ:Dl)(hk:δ[k]? = some none):cy [k] (ag [] k) a_ (ak ax k (ao (eD (.int 0)))) (bs.map bT) δ [] = .ok ((bs.map (·.1)).map λn=>.str [n]) δ:=by
 have hl:k < δ.length:=(W1.mp hk).1;have:=ir (cs:=[k]) (g:=ag [] k) (t:=a_) (el:=ak ax k (ao (eD (.int 0)))) bT (λb=>D.str [b.1]) δ bs [] (by rw[cU]; simp; omega) (λb hb=>by
  have q:ax (bT b) (.int 0)=some (.pure (.str [b.1])):=by simp[ax,c8,dW]
  have hg:(δ.set k (some (.pure (bT b))))[k]? = some (some (.pure (bT b))):=Wa hl;refine⟨δ.set k (some (.pure (bT b))),_,.pure (.str [b.1]),δ.set k (some (.pure (bT b))),by simp[ag],rfl,?_,?_,rfl⟩
  ·generalize bT b=B at *;simp[ak,a0,aj,hg,q]
  ·show(δ.set k (some (.pure (bT b)))).set k none=δ;rw[List.set_set];apply Qz;intro i;by_cases hi:k=i
   ·subst hi;rw[Wa hl,hk]
   ·rw[W6 hi])
 rw[this];simp
theorem S7{h w:Nat}{bs:List (Nat×List Tx)}(R:c_ h w bs):nY [.pure (ay h w bs)]=some (.own (dA bs),[.pure (ay h w bs)]):=by
 have x2:=(lp h w bs).2.2;have n1:=R.n1;have mO:(bs.map (·.1)).length<=26:=by simpa using n1
 have hlen:bh (tD (bs.map (·.1)))=some (.pure (.int ((bs.length:Nat):Int))):=by simp[tD,bh]
 have hc:=S6 n1 7 [some (.pure (ay h w bs)),none,none,none,none,none,none,none] rfl;have loop:∃ o3 o4 o5 o6:Option D,forL (bV 2 (aY (ag [] 3) (aY (ag [] 4) bY))) (aC (nN 2 3 6 (aD kW (l6 [.int 0]) (ao (aO bh (aj 1)))) (aO (dF []) (aj 4)) (ag [2] 5) (az (j7 1 (aa 5)) (ag [2] 6))) cA) (bs.map bT) [some (.pure (ay h w bs)),some (.own (tD (bs.map (·.1)))),some (.own (.aw [])),none,none,none,none,none]
   = .ok .next [some (.pure (ay h w bs)),some (.own (tD (bs.map (·.1)))),some (.own (dA bs)),o3.map .pure,o4.map .pure,o5.map .pure,o6.map .pure,none]:=by
  obtain⟨δ',e,o3,o4,o5,o6,rfl⟩:=jy (g:=bV 2 (aY (ag [] 3) (aY (ag [] 4) bY))) (b:=aC (nN 2 3 6 (aD kW (l6 [.int 0]) (ao (aO bh (aj 1)))) (aO (dF []) (aj 4)) (ag [2] 5) (az (j7 1 (aa 5)) (ag [2] 6))) cA)
   (λk δ=>∃ o3 o4 o5 o6:Option D,δ=[some (.pure (ay h w bs)),some (.own (tD (bs.map (·.1)))),some (.own (.aw ((bs.take k).map λb=>((Sum.inr [b.1]:bc),jH bs b.2)))),o3.map .pure,o4.map .pure,o5.map .pure,o6.map .pure,none]) (bs.map bT) 0 [some (.pure (ay h w bs)),some (.own (tD (bs.map (·.1)))),some (.own (.aw [])),none,none,none,none,none] ⟨none,none,none,none,by simp⟩ (λi d δ hd ⟨o3,o4,o5,o6,e⟩=>by
   subst e;rw[Wl,WC] at hd;obtain⟨b,hb,rfl⟩:=hd;rw[QD];have hm:=WE hb;obtain⟨t1,t2,t3⟩:=u7 R hm;have hz:((bs.take i).map λb=>((Sum.inr [b.1]:bc),jH bs b.2)).length < Wc:=by
    rw[cU]; simp; omega
   obtain⟨pK,pL,et⟩:=FP (zI R) mO (ay h w bs) (du b.2) b.1 b.2.flatten (λ_=>0) o5 o6 t3;have hq:=S5 (ay h w bs) (du b.2) (tD (bs.map (·.1))) b.1 bs.length _ b.2.flatten _ _ _ _ _ _ hlen (by omega) (zeros bs.length (bs.map (·.1)) (by simp)) hz t1 et;have hr:D.lst (cG (bs.map (·.1)) λs=>0 + b.2.flatten.count s)=jH bs b.2:=by
    unfold jH;congr 1
    exact QT λs _=>by simp
   rw[hr,S4 R (λb=>jH bs b.2) hb] at hq;refine⟨[some (.pure (ay h w bs)),some (.own (tD (bs.map (·.1)))),some (.own (.aw ((bs.take i).map λb=>((Sum.inr [b.1]:bc),jH bs b.2)))),some (.pure (.str [b.1])),some (.pure (du b.2)),o5.map .pure,o6.map .pure,none],_,rfl,?_,some (.str [b.1]),some (du b.2),pK,pL,rfl⟩;rw[bq hq];rfl)
  refine⟨o3,o4,o5,o6,?_⟩;rw[e];simp[dA]
 obtain⟨o3,o4,o5,o6,e⟩:=loop;rw[nY,rR,zc];have hT:D.lst ((bs.map (·.1)).map λn=>.str [n])=tD (bs.map (·.1)):=rfl;generalize ((bs.map (·.1)).map λn=>D.str [n])=TS at *;generalize tD (bs.map (·.1))=T at *;generalize dA bs=DT at *;generalize hru:ay h w bs=ru at *;generalize o3.map S.pure=p3 at *;generalize o4.map S.pure=p4 at *;generalize o5.map S.pure=p5 at *;generalize o6.map S.pure=p6 at *;simp[cF,bQ,az,gn,aa,q_,ak,a0,aj,x2,cj,bD,hc,c9];rw[hT,e];simp[j4,dt,cu]
theorem FT(R:c_ h w bs)(ht:t ∈ bs.map (·.1))(s:Nat):M bs t s<=16:=by
 obtain⟨b,hb,_,_,e2⟩:=n4 ht;unfold M;rw[e2];exact Wu List.count_le_length (u7 R hb).2.1
theorem S8(R:c_ h w bs)(ht:t ∈ bs.map (·.1)):j3 (dA bs) (.str [t])=some (.pure (.lst (cG (bs.map (·.1)) (M bs t)))):=by
 obtain⟨b,hb,e0,e1,e2⟩:=n4 ht;have hv:dR (bs.map λb=>((Sum.inr [b.1]:bc),jH bs b.2)) (.inr [t])=some (jH bs b.2):=by
  unfold dR;rw[List.find?_map];have:((λkv:bc×D=>decide (kv.1 = .inr [t])) ∘ λb:Nat×List Tx=>((Sum.inr [b.1]:bc),jH bs b.2))=λb=>decide (b.1=t):=by
   funext b
   simp
  rw[this,e1];rfl
 unfold dA j3;simp only[eU,Qs,hv,WB];unfold jH M;rw[e2]
theorem FU(f F:A->D)(I:Dl->Prop):∀ (as:List A) (acc:List D) (δ:Dl),I δ->acc.length + as.length<=Wc ->
  (∀ a ∈ as,∀ δ,I δ->∃ δ1 δ2 x δ3,g (.pure (f a)) δ=some δ1/\t δ1 = .ok true δ2/\el δ2 = .ok x δ3/\I (bD cs δ3)/\x.d=F a)->∃ δ',cy cs g t el (as.map f) δ acc = .ok (acc ++ as.map F) δ'/\I δ'
 | [],acc,δ,h,_,_=>⟨δ,by simp[cy],h⟩
 | a :: r,acc,δ,h,hl,hs=>by
  obtain⟨δ1,δ2,x,δ3,e1,e2,e3,e4,e5⟩:=hs a Wh δ h;have gc:acc.length < Wc:=by simp at hl; omega
  obtain⟨δ',e6,h6⟩:=FU (cs:=cs) (g:=g) (t:=t) (el:=el) f F I r (acc ++ [x.d]) (bD cs δ3) e4 (by simp at hl ⊢; omega) (λa ha=>hs a (W9 _ ha));refine⟨δ',?_,h6⟩;rw[Wo];unfold cy;rw[e1];simp only[e2,eV,if_true,e3,if_pos gc];rw[e6,e5];simp
def tb(ts:List Nat)(X:Nat->Nat->Nat):D:=.tup (ts.map λt=>.tup (cG ts (X t)))
theorem S9{h w:Nat}{bs:List (Nat×List Tx)}(R:c_ h w bs){b:Nat×List Tx}(hb:b ∈ bs)(ru d2:D):cy [4] (ag [] 4) a_ (nL (aO (dF []) (aj 3)) (aa 4)) ((bs.map (·.1)).map λn=>D.str [n]) [some (.pure ru),some (.pure (tD (bs.map (·.1)))),some (.pure d2),some (.pure (du b.2)),none] [] = .ok (cG (bs.map (·.1)) (M bs b.1)) [some (.pure ru),some (.pure (tD (bs.map (·.1)))),some (.pure d2),some (.pure (du b.2)),none]:=by
 have n1:=R.n1;obtain⟨t1,_,_⟩:=u7 R hb;have:=ir (cs:=[4]) (g:=ag [] 4) (t:=a_) (el:=nL (aO (dF []) (aj 3)) (aa 4)) (λn=>D.str [n]) (λs=>D.int ((M bs b.1 s:Nat):Int)) [some (.pure ru),some (.pure (tD (bs.map (·.1)))),some (.pure d2),some (.pure (du b.2)),none] (bs.map (·.1)) [] (by rw[cU]; simp; omega) (λs hs=>by
  refine⟨[some (.pure ru),some (.pure (tD (bs.map (·.1)))),some (.pure d2),some (.pure (du b.2)),some (.pure (.str [s]))],_,.pure (.int ((M bs b.1 s:Nat):Int)),[some (.pure ru),some (.pure (tD (bs.map (·.1)))),some (.pure d2),some (.pure (du b.2)),some (.pure (.str [s]))],rfl,rfl,?_,rfl,rfl⟩;have e:M bs b.1 s=b.2.flatten.count s:=by unfold M; rw[R3 R hb]
  rw[e];generalize b.2.flatten=z at *;generalize du b.2=FB at *;generalize tD (bs.map (·.1))=T at *;simp[nL,aj,t1,Ek,aa,Ej])
 rw[this];rfl
theorem S_{h w:Nat}{bs:List (Nat×List Tx)}(R:c_ h w bs):nW [.pure (ay h w bs)]=some (.pure (tb (bs.map (·.1)) (M bs)),[.pure (ay h w bs)]):=by
 have n1:=R.n1;have x2:=(lp h w bs).2.2;have g:=SR R;obtain⟨δ',e,s1,h1,hδ⟩:=FU (cs:=[2,3]) (g:=bV 2 (aY (ag [] 2) (aY (ag [] 3) bY))) (t:=a_) (el:=aO e_ (ao (bJ [4] (bL (aa 1)) (ag [] 4) a_ (nL (aO (dF []) (aj 3)) (aa 4))))) bT (λb=>D.tup (cG (bs.map (·.1)) (M bs b.1)))
  (λδ=>∃ s1,sT (bs.map (·.1)) s1/\δ=[some (.pure (ay h w bs)),some s1,none,none,none]) bs [] [some (.pure (ay h w bs)),some (.own (tD (bs.map (·.1)))),none,none,none] ⟨_,.inl rfl,rfl⟩ (by rw[cU]; simp; omega) (λb hb δ ⟨s1,h1,hδ⟩=>by
  subst hδ;have hc:=S9 R hb (ay h w bs) (.str [b.1]);refine⟨[some (.pure (ay h w bs)),some s1,some (.pure (.str [b.1])),some (.pure (du b.2)),none],_,.pure (.tup (cG (bs.map (·.1)) (M bs b.1))),[some (.pure (ay h w bs)),some (.pure (tD (bs.map (·.1)))),some (.pure (.str [b.1])),some (.pure (du b.2)),none],rfl,rfl,?_,⟨_,.inr rfl,rfl⟩,rfl⟩;have hT:tD (bs.map (·.1)) = .lst ((bs.map (·.1)).map λn=>.str [n]):=rfl;generalize ((bs.map (·.1)).map λn=>D.str [n])=TS at *;generalize cG (bs.map (·.1)) (M bs b.1)=CC at *;generalize ay h w bs=ru at *;generalize du b.2=FB at *;rcases h1 with rfl | rfl
  ·rw[hT] at *;simp[gn,aa,cj,bD,hc,c9,e_]
  ·rw[hT] at *;simp[gn,aa,cj,bD,hc,c9,e_])
 have hE:bs.map (λb=>D.tup (cG (bs.map (·.1)) (M bs b.1)))=(bs.map (·.1)).map λt=>.tup (cG (bs.map (·.1)) (M bs t)):=by
  rw[Wz]; rfl
 rw[hE,QO] at e;rw[nW,rR,yT];unfold tb;generalize ((bs.map (·.1)).map λt=>D.tup (cG (bs.map (·.1)) (M bs t)))=RR at *;generalize tD (bs.map (·.1))=T at *;subst hδ;generalize ay h w bs=ru at *;simp[cF,bQ,az,aI,aZ,bR,bK,aa,bo,g,aT,gn,ak,a0,aj,x2,cj,bD];rw[e];simp[c9,e_,dt,cu]
theorem u9(h1:g (.pure d) δ=some δ1)(h2:b δ1 = .ok .next δ2):forL g b (d :: r) δ=forL g b r δ2:=by
 conv=>lhs; unfold forL
 rw[h1];simp only[h2,eV]
theorem zW(h1:t δ = .ok true δ1)(h2:b δ1 = .ok .next δ2):dq t b (n + 1) δ=dq t b n δ2:=by
 simp only[dq,h1,eV,if_true,h2]
theorem zX(h1:t δ = .ok false δ1):dq t b (n + 1) δ = .ok .next δ1:=by
 simp[dq,h1]
theorem Ta{B:Type}(F:Nat->B)(ts:List Nat):(W4 ts.length).map (λi=>F (ts.getD i 0))=ts.map F:=by
 apply Qz;intro i;rw[Wl,Wl];by_cases h:i < ts.length
 ·rw[Qd h,W5 h];simp[h]
 ·rw[WN (by simpa using h),WN (by simpa using h)];rfl
theorem Tb(ts:List Nat)(f:Nat->Nat){i:Nat}(h:i < ts.length):ax (.tup (cG ts f)) (.int i)=some (.pure (.int ((f (ts.getD i 0):Nat):Int))):=by
 have:i < (cG ts f).length:=by simpa[cG] using h
 simp[ax,il,this];simp[cG,h]
theorem zY(a b:Int):Q4 b (a.fmod b)=Q4 a b:=by
 have e:b * a.fdiv b + a.fmod b=a:=Int.mul_fdiv_add_fmod a b;refine Nat.dvd_antisymm ?_ ?_
 ·refine Int.ofNat_dvd.mp (Int.dvd_coe_gcd ?_ (JT ..));rw[<- e];exact Int.dvd_add (Int.dvd_mul_of_dvd_left (JT ..)) (by rw[e]; exact JN ..)
 ·refine Int.ofNat_dvd.mp (Int.dvd_coe_gcd (JN ..) ?_);have e2:a.fmod b=a - b * a.fdiv b:=by omega
  rw[e2];exact Int.dvd_sub (JT ..) (Int.dvd_mul_of_dvd_left (JN ..))
theorem FV(a:Int)(h:0 < b):0<=a.fmod b/\a.fmod b < b:=by
 rw[Int.fmod_eq_emod_of_nonneg a (by omega)];exact⟨Jz _ (by omega),JG _ h⟩
theorem FW(a:Int)(h:b < 0):b < a.fmod b/\a.fmod b<=0:=by
 rw[Int.fmod_eq_emod];have h1:=Jz a (show b≠0 by omega);have h2:=Int.emod_lt_of_neg a h;split
 ·rename_i q;rcases q with q | q
  ·omega
  ·rw[Int.emod_eq_zero_of_dvd q]; omega
 ·rename_i q;have:a % b≠0:=λz=>q (.inr (Int.dvd_of_emod_eq_zero z))
  omega
theorem Tc{b r:Int}(h:(0 < r/\r < b)\/(r < 0/\b < r)):2 * (b.fmod r).natAbs < b.natAbs:=by
 have e:r * b.fdiv r + b.fmod r=b:=Int.mul_fdiv_add_fmod b r;generalize b.fdiv r=q at *;rcases h with ⟨h1,h2⟩ | ⟨h1,h2⟩
 ·obtain⟨k1,k2⟩:=FV b h1;generalize b.fmod r=s at *;have hq:1<=q:=by
   by_cases z:1<=q
   ·exact z
   ·have:r * q<=0:=Int.mul_nonpos_of_nonneg_of_nonpos (by omega) (by omega);omega
  have:r * 1<=r * q:=Int.mul_le_mul_of_nonneg_left hq (by omega);omega
 ·obtain⟨k1,k2⟩:=FW b h1;generalize b.fmod r=s at *;have hq:1<=q:=by
   by_cases z:1<=q
   ·exact z
   ·have:0<=r * q:=Int.mul_nonneg_of_nonpos_of_nonpos (by omega) (by omega);omega
  have:r * q<=r * 1:=Int.mul_le_mul_of_nonpos_left (by omega) hq;omega
abbrev gT:DT:=aB (ak cZ 1 (ao (eD (.int 0))))
abbrev gB:DS:=j8 [] 0 1 (bS (aa 1) (bS (ak uL 0 (aj 1)) cP))
abbrev g2(a b:Int):Dl:=[some (.pure (.int a)),some (.pure (.int b))]
theorem zZ(a b:Int)(h:b≠0)(n:Nat):dq gT gB (n + 1) (g2 a b)=dq gT gB n (g2 b (a.fmod b)):=by
 have q:cZ (.int b) (.int 0)=some (.pure (.bl true)):=by
  rw[pJ];have:(b == 0)=false:=by simp; omega
  rw[this]; rfl
 have md:=Pa a b h;generalize a.fmod b=c at *;refine zW (δ1:=g2 a b) ?_ ?_
 ·simp[gT,aB,ak,a0,aj,q]
 ·simp[gB,j8,aa,ak,a0,aj,md]
theorem z0(a:Int)(n:Nat):dq gT gB (n + 1) (g2 a 0) = .ok .next (g2 a 0):=by
 refine zX ?_;have q:cZ (.int 0) (.int 0)=some (.pure (.bl false)):=by rw[pJ]; rfl
 simp[gT,aB,ak,a0,aj,q]
theorem FX:∀ (k:Nat) (a b:Int) (f:Nat),b.natAbs < 2 ^ k->2 * k + 1<=f->∃ x:Int,x.natAbs=Q4 a b/\dq gT gB f (g2 a b) = .ok .next (g2 x 0)
 | 0,a,b,f,h,hf=>by
  obtain⟨f,rfl⟩:∃ j,f=j + 1:=⟨f - 1,by omega⟩
  have:b=0:=by simp at h; exact h
  subst this;exact⟨a,by simp,z0 a f⟩
 | k + 1,a,b,f,h,hf=>by
  obtain⟨f,rfl⟩:∃ j,f=j + 1 + 1 + 1:=⟨f - 3,by omega⟩
  by_cases hb:b=0
  ·subst hb;exact⟨a,by simp,z0 a _⟩
  ·by_cases hr:a.fmod b=0
   ·refine⟨b,?_,?_⟩
    ·rw[<- zY,hr]; simp
    ·rw[zZ a b hb,hr,z0]
   ·have h2:2 * (b.fmod (a.fmod b)).natAbs < b.natAbs:=by
     apply Tc;by_cases hp:0 < b
     ·have:=FV a hp; left; omega
     ·have:=FW a (show b < 0 by omega); right; omega
    have a7:(b.fmod (a.fmod b)).natAbs < 2 ^ k:=by
     rw[JW] at h;omega
    obtain⟨x,hx,e⟩:=FX k (a.fmod b) (b.fmod (a.fmod b)) (f + 1) a7 (by omega);refine⟨x,by rw[hx,zY,zY],?_⟩;rw[zZ a b hb,zZ b _ hr,e]
theorem z5(a b:Int)(h:b.natAbs < 2 ^ k)(hk:k<=400000):iA [.pure (.int a),.pure (.int b)]=some (.pure (.int (Q4 a b:Nat)),[.pure (.int a),.pure (.int b)]):=by
 obtain⟨x,hx,e⟩:=FX k a b 1000000 h (by omega);rw[iA,yL];refine rS (δ1:=g2 x 0) ?_;have e':dq gT gB 1000000 (bQ 2 [.pure (.int a),.pure (.int b)]) = .ok .next (g2 x 0):=e;rw[bq e'];have ab:mx (.int x)=some (.pure (.int (Q4 a b:Nat))):=by
  show some (S.pure (.int (if x < 0 then -x else x)))=_;rw[<- hx];congr 3
  split <;> omega
 simp[aj,ab]
theorem rT(a b:Int)(ha:a.natAbs < 2 ^ k)(hb:b.natAbs < 2 ^ k)(hk:k<=67108864):dE (.int a) (.int b)=some (.pure (.int (a * b))):=by
 show(if mv a b then some (S.pure (.int (a * b))) else none)=_;have bits:∀ x:Int,x.natAbs < 2 ^ k->PySem.Builtin.Int.intBits x<=k:=λx hx=>by
  have:=O4 hx;unfold PySem.Builtin.Int.intBits at this ⊢;have e:((x.natAbs:Nat):Int).natAbs=x.natAbs:=by omega
  have e2:(((x.natAbs:Nat):Int) == 0)=(x == 0):=by
   rw[Jk,beq_iff_eq,beq_iff_eq]; omega
  rw[e,e2] at this;exact this
 have:mv a b=true:=by
  unfold mv;simp only[Wv,decide_eq_true_eq];exact⟨Wu (bits a ha) hk,Wu (bits b hb) hk⟩
 rw[this,if_pos rfl]
def iL(r:List Int):D:=.lst (r.map .int)
theorem FY:∀ (r:List Int) (d:Nat),(∀ x ∈ r,x.natAbs<=B)->d<=B->gd d r<=B
 | [],d,_,h=>h
 | a :: r,d,hr,h=>FY r _ (λx hx=>hr x (W9 _ hx)) (by
   by_cases q:a=0
   ·subst q; simp; exact h
   ·exact Wu (Int.gcd_le_natAbs_right (d:Int) q) (hr a Wh))
theorem FZ(hk:k<=8000)(R:D):∀ (r:List Int) (d:Nat) (o2:Option S),(∀ x ∈ r,x.natAbs < 2 ^ k)->∃ q2,(∀ s,o2≠some (.own s))->(∀ s,q2≠some (.own s)) /\
  forL (ag [] 2) (az (aI iA [.val (aa 1),.val (aa 2)]) (ag [] 1)) (r.map D.int) [some (.pure R),some (.pure (.int (d:Int))),o2] = .ok .next [some (.pure R),some (.pure (.int (gd d r:Nat))),q2]
 | [],d,o2,_=>⟨o2,λh=>⟨h,rfl⟩⟩
 | a :: r,d,o2,hr=>by
  obtain⟨q2,h2⟩:=FZ hk R r (Q4 (d:Int) a) (some (.pure (.int a))) (λx hx=>hr x (W9 _ hx));refine⟨q2,λ_=>⟨(h2 (λs=>by simp)).1,?_⟩⟩;have g:=z5 (d:Int) a (hr a Wh) (by omega);rw[Wo,u9 (δ1:=[some (.pure R),some (.pure (.int (d:Int))),some (.pure (.int a))]) (δ2:=[some (.pure R),some (.pure (.int (Q4 (d:Int) a:Nat))),some (.pure (.int a))]) rfl (by
   generalize ((Q4 (d:Int) a:Nat):Int)=g0 at *;generalize (d:Int)=di at *;simp[az,aI,aZ,bR,bK,aa,bo,g,aT])]
  exact(h2 (λs=>by simp)).2
theorem F_(L:List D)(i:Nat)(δ:Dl)(h:δ[i]? = some (some (.pure (.lst L)))):bL (aa i) δ = .ok L δ:=by
 have Td:δ.set i (some (.pure (.lst L)))=δ:=by
  apply Qz;intro j;by_cases hj:i=j
  ·subst hj;rw[Wa (W1.mp h).1,h]
  ·rw[W6 hj]
 simp[gn,aa,h,S.d]
theorem Te(hk:k<=8000)(r:List Int)(hl:r.length<=26)(hr:∀ x ∈ r,x.natAbs < 2 ^ k):∃ s:S,s.d=iL (rl r)/\mH [.pure (iL r)]=some (s,[.pure (iL r)]):=by
 obtain⟨q2,h⟩:=FZ hk (iL r) r 0 none hr;obtain⟨hq,e⟩:=h (λs=>by simp);have hd:gd 0 r < 2 ^ k:=by
  have:gd 0 r<=2 ^ k - 1:=FY r 0 (λx hx=>by have:=hr x hx; omega) (Qn _);have:0 < 2 ^ k:=Nat.two_pow_pos k;omega
 have gt:=gt_int ((gd 0 r:Nat):Int) 1;have Tf:cj [some (.pure (iL r)),some (.pure (.int ((gd 0 r:Nat):Int))),q2] 2=false:=by
  cases q2 with
  | none=>rfl
  | some s =>
   cases s with
   | pure d=>rfl
   | own d=>exact absurd rfl (hq d)
 have fw:∀ s δ',bN (qB (aB (ak fT 1 (ao (eD (.int 1))))) (bJ [2] (bL (aa 0)) (ag [] 2) a_ (ak gk 2 (aj 1))) (aa 0)) [some (.pure (iL r)),some (.pure (.int ((gd 0 r:Nat):Int))),q2] = .ok (.ret s) δ'->mH [.pure (iL r)]=some (s,[.pure (iL r)]):=λs δ' q=>by
  rw[mH,yN];refine n9 (δ1:=δ') ?_;rw[bq (δ1:=[some (.pure (iL r)),some (.pure (.int 0)),none]) (by generalize iL r=R at *; simp[bQ,az])];have iq:bL (aa 0) [some (.pure (iL r)),some (.pure (.int 0)),none] = .ok (r.map D.int) [some (.pure (iL r)),some (.pure (.int 0)),none]:=F_ _ 0 _ rfl;rw[bq ((kg iq).trans e)];exact q
 by_cases h1:1 < gd 0 r
 ·have eR:rl r=r.map λx=>x.fdiv (gd 0 r:Nat):=by unfold rl; rw[if_pos h1]
  rw[decide_eq_true (by omega)] at gt;have c:=ir (cs:=[2]) (g:=ag [] 2) (t:=a_) (el:=ak gk 2 (aj 1)) D.int (λx:Int=>D.int (x.fdiv (gd 0 r:Nat))) [some (.pure (iL r)),some (.pure (.int ((gd 0 r:Nat):Int))),none] r [] (by rw[cU]; simp; omega) (λx hx=>by
   have dv:=o9 x ((gd 0 r:Nat):Int) (by omega) (show(((gd 0 r:Nat):Int)).natAbs < k6 by
    have:2 ^ k<=2 ^ 8000:=WS (by decide) hk;show _ < 2 ^ 8000;omega)
   refine⟨[some (.pure (iL r)),some (.pure (.int ((gd 0 r:Nat):Int))),some (.pure (.int x))],_,.pure (.int (x.fdiv (gd 0 r:Nat))),[some (.pure (iL r)),some (.pure (.int ((gd 0 r:Nat):Int))),some (.pure (.int x))],rfl,rfl,?_,rfl,rfl⟩;generalize iL r=R at *;generalize x.fdiv ((gd 0 r:Nat):Int)=y at *;generalize ((gd 0 r:Nat):Int)=g0 at *;simp[ak,a0,aj,dv])
  refine⟨.own (iL (rl r)),rfl,fw _ [some (.pure (iL r)),some (.pure (.int ((gd 0 r:Nat):Int))),q2] ?_⟩;have iq:bL (aa 0) [some (.pure (iL r)),some (.pure (.int ((gd 0 r:Nat):Int))),q2] = .ok (r.map D.int) [some (.pure (iL r)),some (.pure (.int ((gd 0 r:Nat):Int))),q2]:=F_ _ 0 _ rfl;have eL:iL (rl r) = .lst (r.map λx:Int=>D.int (x.fdiv (gd 0 r:Nat))):=by
   unfold iL;rw[eR,Wz]; rfl
  rw[eL];have rV:bD [2] [some (.pure (iL r)),some (.pure (.int ((gd 0 r:Nat):Int))),q2]=[some (.pure (iL r)),some (.pure (.int ((gd 0 r:Nat):Int))),none]:=rfl;have VN:∀ a b:S,c9 [2] [some a,some b,q2] [some a,some b,none]=[some a,some b,q2]:=λa b=>rfl
  have Tg:[2].any (cj [some (.pure (iL r)),some (.pure (.int ((gd 0 r:Nat):Int))),q2])=false:=by simp[Tf]
  have cmp:bJ [2] (bL (aa 0)) (ag [] 2) a_ (ak gk 2 (aj 1)) [some (.pure (iL r)),some (.pure (.int ((gd 0 r:Nat):Int))),q2] = .ok (.own (.lst (r.map λx:Int=>D.int (x.fdiv (gd 0 r:Nat))))) [some (.pure (iL r)),some (.pure (.int ((gd 0 r:Nat):Int))),q2]:=by
   rw[xJ,iq];simp only[eV];rw[Tg,rV,c];rfl
  generalize (r.map λx:Int=>D.int (x.fdiv (gd 0 r:Nat)))=Y at *;generalize ((gd 0 r:Nat):Int)=g0 at *;generalize iL r=R at *;have ht:aB (ak fT 1 (ao (eD (.int 1)))) [some (.pure R),some (.pure (.int g0)),q2] = .ok true [some (.pure R),some (.pure (.int g0)),q2]:=by
   simp[aB,ak,a0,aj,gt]
  rw[Em,Oq,ht];simp only[eV,if_true];rw[cmp];rfl
 ·have eR:rl r=r:=by unfold rl; rw[if_neg h1]
  rw[decide_eq_false (by omega)] at gt;refine⟨.pure (iL r),by rw[eR]; rfl,fw _ [some (.pure (iL r)),some (.pure (.int ((gd 0 r:Nat):Int))),q2] ?_⟩;generalize ((gd 0 r:Nat):Int)=g0 at *;generalize iL r=R at *;simp[aB,ak,a0,aj,aa,gt]
theorem mP{r:List Int}{c:Nat}(h:c < r.length):ax (iL r) (.int (c:Int))=some (.pure (.int (ah r c))):=by
 unfold iL ah;simp only[ax];rw[il,Wl,W5 h,Wi,W5 h];rfl
theorem Th(r p:List Int):mj (r.map D.int) (p.map D.int)=(r.zip p).map λab:Int×Int=>D.tup [.int ab.1,.int ab.2]:=by
 unfold mj;rw[List.zipWith_map,List.zip,List.map_zipWith]
theorem Ti{k n c:Nat}(hk:2 * k + 1<=8000){r p:List Int}(hr:r.length=n)(hp:p.length=n)(hn:n<=26)(hc:c < n)(br:∀ x ∈ r,x.natAbs < 2 ^ k)(bp:∀ x ∈ p,x.natAbs < 2 ^ k) :
  ∃ s:S,s.d=iL (rc r p c)/\j_ [.pure (iL r),.pure (iL p),.pure (.int (c:Int))]=some (s,[.pure (iL r),.pure (iL p),.pure (.int (c:Int))]):=by
 have i1:=mP (r:=r) (c:=c) (by omega);have i2:=mP (r:=p) (c:=c) (by omega);have q:=u5 (ah r c) 0;by_cases hz:ah r c=0
 ·have eR:rc r p c=r:=by unfold rc; rw[if_pos hz]
  have:(ah r c == 0)=true:=by simpa using hz
  rw[this] at q;refine⟨.pure (iL r),by rw[eR]; rfl,?_⟩;rw[j_,uQ];generalize iL r=R at *;generalize iL p=P at *;refine FN (δ1:=[some (.pure R),some (.pure P),some (.pure (.int (c:Int))),none,none]) (FO ?_);simp[bQ,aB,ak,a0,aj,aa,i1,q]
 ·have eR:rc r p c=rl (Qm (λa b=>a * ah p c - b * ah r c) r p):=by unfold rc; rw[if_neg hz]
  have:(ah r c == 0)=false:=by simpa using hz
  rw[this] at q;have ac:(ah r c).natAbs < 2 ^ k:=br _ (uW (by omega));have pc:(ah p c).natAbs < 2 ^ k:=bp _ (uW (by omega));have two:∀ a b x y:Int,a.natAbs < 2 ^ k->b.natAbs < 2 ^ k->x.natAbs < 2 ^ k->y.natAbs < 2 ^ k->(a * x - b * y).natAbs < 2 ^ (2 * k + 1):=λa b x y h1 h2 h3 h4=>by
   have e1:(a * x).natAbs < 2 ^ k * 2 ^ k:=by
    rw[QV]; exact Nat.mul_lt_mul'' h1 h3
   have e2:(b * y).natAbs < 2 ^ k * 2 ^ k:=by
    rw[QV]; exact Nat.mul_lt_mul'' h2 h4
   have e3:2 ^ (2 * k + 1)=2 ^ k * 2 ^ k + 2 ^ k * 2 ^ k:=by
    rw[JW,show 2 * k=k + k by omega,Nat.pow_add]; omega
   rw[e3];omega
  have bz:∀ x ∈ Qm (λa b=>a * ah p c - b * ah r c) r p,x.natAbs < 2 ^ (2 * k + 1):=λx hx=>by
   obtain⟨i,hi,rfl⟩:=Qe hx;rw[List.getElem_zipWith];exact two _ _ _ _ (br _ (Qk _)) (bp _ (Qk _)) pc ac
  obtain⟨s,hs,gl⟩:=Te hk (Qm (λa b=>a * ah p c - b * ah r c) r p) (by simp; omega) bz;have c1:=ir (cs:=[3,4]) (g:=bV 2 (aY (ag [] 3) (aY (ag [] 4) bY))) (t:=a_) (el:=aD jo (ak dE 3 (ao (ak ax 1 (aj 2)))) (ao (ak dE 4 (ao (ak ax 0 (aj 2)))))) (λab:Int×Int=>D.tup [.int ab.1,.int ab.2]) (λab:Int×Int=>D.int (ab.1 * ah p c - ab.2 * ah r c)) [some (.pure (iL r)),some (.pure (iL p)),some (.pure (.int (c:Int))),none,none] (r.zip p) [] (by rw[cU]; simp; omega) (λab g_=>by
   obtain⟨a,b⟩:=ab;have ma:=bp _ (Jx g_).2;have mb:=br _ (Jx g_).1;have m1:=rT a (ah p c) mb pc (by omega);have m2:=rT b (ah r c) ma ac (by omega);have sb:jo (.int (a * ah p c)) (.int (b * ah r c))=some (.pure (.int (a * ah p c - b * ah r c))):=rfl;refine⟨[some (.pure (iL r)),some (.pure (iL p)),some (.pure (.int (c:Int))),some (.pure (.int a)),some (.pure (.int b))],_,.pure (.int (a * ah p c - b * ah r c)),[some (.pure (iL r)),some (.pure (iL p)),some (.pure (.int (c:Int))),some (.pure (.int a)),some (.pure (.int b))],rfl,rfl,?_,rfl,rfl⟩;generalize iL r=R at *;generalize iL p=P at *;generalize a * ah p c - b * ah r c=x0 at *;generalize a * ah p c=x1 at *;generalize b * ah r c=x2 at *;generalize ah p c=x3 at *;generalize ah r c=x4 at *;simp[ak,a0,aj,i1,i2,m1,m2,sb])
  have eY:((r.zip p).map λab:Int×Int=>D.int (ab.1 * ah p c - ab.2 * ah r c))=(Qm (λa b=>a * ah p c - b * ah r c) r p).map D.int:=by
   rw[List.zip,List.map_zipWith,List.map_zipWith]
  rw[eY] at c1;refine⟨s,by rw[eR]; exact hs,?_⟩;have iz:iU (aa 0) (aa 1) [some (.pure (iL r)),some (.pure (iL p)),some (.pure (.int (c:Int))),none,none] = .ok ((r.zip p).map λab:Int×Int=>D.tup [.int ab.1,.int ab.2]) [some (.pure (iL r)),some (.pure (iL p)),some (.pure (.int (c:Int))),none,none]:=by
   rw[<- Th];simp[iU,aa,S.d,iL,j6]
  have cmp:bJ [3,4] (iU (aa 0) (aa 1)) (bV 2 (aY (ag [] 3) (aY (ag [] 4) bY))) a_ (aD jo (ak dE 3 (ao (ak ax 1 (aj 2)))) (ao (ak dE 4 (ao (ak ax 0 (aj 2)))))) [some (.pure (iL r)),some (.pure (iL p)),some (.pure (.int (c:Int))),none,none] = .ok (.own (iL (Qm (λa b=>a * ah p c - b * ah r c) r p))) [some (.pure (iL r)),some (.pure (iL p)),some (.pure (.int (c:Int))),none,none]:=by
   rw[xJ,iz];simp only[eV];rw[show([3,4]:List Nat).any (cj [some (.pure (iL r)),some (.pure (iL p)),some (.pure (.int (c:Int))),none,none])=false from rfl,show bD [3,4] [some (.pure (iL r)),some (.pure (iL p)),some (.pure (.int (c:Int))),none,none]=[some (.pure (iL r)),some (.pure (iL p)),some (.pure (.int (c:Int))),none,none] from rfl,c1];rfl
  rw[j_,uQ];clear c1 iz eY;generalize iL (Qm (λa b=>a * ah p c - b * ah r c) r p)=Z at *;generalize iL r=R at *;generalize iL p=P at *;refine FN (δ1:=[some (.pure R),some (.pure P),some (.pure (.int (c:Int))),none,none]) ?_;rw[bq (δ1:=[some (.pure R),some (.pure P),some (.pure (.int (c:Int))),none,none]) (by simp[bQ,aB,ak,a0,aj,aa,i1,q])];generalize (bJ [3,4] (iU (aa 0) (aa 1)) (bV 2 (aY (ag [] 3) (aY (ag [] 4) bY))) a_ (aD jo (ak dE 3 (ao (ak ax 1 (aj 2)))) (ao (ak dE 4 (ao (ak ax 0 (aj 2)))))))=E at *;simp[aI,aZ,bR,bK,bo,cmp,gl,aT,S.d]
def bE(L:List (List Int)):D:=.lst (L.map iL)
def sD(l:List (Nat×List Int)):List (bc×D):=l.map λx=>(Sum.inl (x.1:Int),iL x.2)
theorem z7:mB 6 < 2 ^ 320:=by decide
theorem u_{c:Nat}:∀ {d:Nat},c<=d->mB c<=mB d
 | 0,h=>by
  have e:c=0:=by omega
  rw[e];exact Wf _
 | d + 1,h=>by
  by_cases q:c=d + 1
  ·rw[q];exact Wf _
  ·exact Wu (u_ (by omega)) (R_ d)
theorem Ga(h:c<=6)(b:∀ i,(ah r i).natAbs<=mB c):∀ x ∈ r,x.natAbs < 2 ^ 320:=λx hx=>by
 obtain⟨i,hi,rfl⟩:=Qe hx;have e:ah r i=r[i]:=by unfold ah; rw[Wi,W5 hi]; rfl
 have h1:=b i;rw[e] at h1;exact WH h1 (WH (u_ h) z7)
abbrev v8(R:D)(sl lf:Option S)(o3 o4 o5:Option S):Dl:=[some (.pure R),sl,lf,o3,o4,o5,none,none]
theorem Tj{n c:Nat}(hc:c < n){L:List (List Int)}(hl:∀ r ∈ L,r.length=n)(z8:L.length<=26)(R:D)(sl lf o4 o5:Option S) :
  cy [6] (ag [] 6) (aB (aD cZ (ak ax 6 (aj 3)) (ao (eD (.int 0))))) (aa 6) (L.map iL) (v8 R sl lf (some (.pure (.int (c:Int)))) o4 o5) [] = .ok ((L.filter λr=>ah r c != 0).map iL) (v8 R sl lf (some (.pure (.int (c:Int)))) o4 o5):=by
 have:=rP (cs:=[6]) (g:=ag [] 6) (t:=aB (aD cZ (ak ax 6 (aj 3)) (ao (eD (.int 0))))) (el:=aa 6) iL iL (λr=>ah r c != 0) (v8 R sl lf (some (.pure (.int (c:Int)))) o4 o5) L [] (by rw[cU]; simp; omega) (λr hr=>by
  have i1:=mP (r:=r) (c:=c) (by rw[hl r hr]; exact hc);have q:=pJ (ah r c) 0;refine⟨[some (.pure R),sl,lf,some (.pure (.int (c:Int))),o4,o5,some (.pure (iL r)),none],[some (.pure R),sl,lf,some (.pure (.int (c:Int))),o4,o5,some (.pure (iL r)),none],.pure (iL r),[some (.pure R),sl,lf,some (.pure (.int (c:Int))),o4,o5,some (.pure (iL r)),none],rfl,?_,rfl,?_,rfl,rfl⟩
  ·have e:(ah r c != 0) = !(ah r c == 0):=rfl;rw[e];generalize iL r=Q at *;generalize (ah r c == 0)=b at *;simp[aB,ak,a0,aj,i1,q]
  ·generalize iL r=Q at *;simp[aa])
 exact this
theorem Tn{n c:Nat}(hc:c < n){L:List (List Int)}(hl:∀ r ∈ L,r.length=n)(z8:L.length<=26)(R:D)(sl lf o4 o5:Option S) :
  cy [6] (ag [] 6) (aB (aD bU (ak ax 6 (aj 3)) (ao (eD (.int 0))))) (aa 6) (L.map iL) (v8 R sl lf (some (.pure (.int (c:Int)))) o4 o5) [] = .ok ((L.filter λr=>ah r c == 0).map iL) (v8 R sl lf (some (.pure (.int (c:Int)))) o4 o5):=by
 have:=rP (cs:=[6]) (g:=ag [] 6) (t:=aB (aD bU (ak ax 6 (aj 3)) (ao (eD (.int 0))))) (el:=aa 6) iL iL (λr=>ah r c == 0) (v8 R sl lf (some (.pure (.int (c:Int)))) o4 o5) L [] (by rw[cU]; simp; omega) (λr hr=>by
  have i1:=mP (r:=r) (c:=c) (by rw[hl r hr]; exact hc);have q:=u5 (ah r c) 0;refine⟨[some (.pure R),sl,lf,some (.pure (.int (c:Int))),o4,o5,some (.pure (iL r)),none],[some (.pure R),sl,lf,some (.pure (.int (c:Int))),o4,o5,some (.pure (iL r)),none],.pure (iL r),[some (.pure R),sl,lf,some (.pure (.int (c:Int))),o4,o5,some (.pure (iL r)),none],rfl,?_,rfl,?_,rfl,rfl⟩
  ·generalize iL r=Q at *;generalize (ah r c == 0)=b at *;simp[aB,ak,a0,aj,i1,q]
  ·generalize iL r=Q at *;simp[aa])
 exact this
abbrev iZ:DE:=aI j_ [.val (aa 6),.val (aa 5),.val (aa 3)]
theorem Gb(hk:2 * k + 1<=8000)(hr:r.length=n)(hp:p.length=n)(hn:n<=26)(hc:c < n)(br:∀ x ∈ r,x.natAbs < 2 ^ k)(bp:∀ x ∈ p,x.natAbs < 2 ^ k)(R:D)(sl lf o4 o7:Option S) :
  ∃ s:S,s.d=iL (rc r p c)/\iZ [some (.pure R),sl,lf,some (.pure (.int (c:Int))),o4,some (.pure (iL p)),some (.pure (iL r)),o7] = .ok s [some (.pure R),sl,lf,some (.pure (.int (c:Int))),o4,some (.pure (iL p)),some (.pure (iL r)),o7]:=by
 obtain⟨s,hs,g⟩:=Ti hk hr hp hn hc br bp;refine⟨s,hs,?_⟩;generalize iL r=Q at *;generalize iL p=P at *;simp[iZ,aI,aZ,bR,bK,aa,bo,g,aT]
theorem To{k n c:Nat}(hk:2 * k + 1<=8000){p:List Int}(hp:p.length=n)(hn:n<=26)(hc:c < n)(bp:∀ x ∈ p,x.natAbs < 2 ^ k){L:List (List Int)}(hl:∀ r ∈ L,r.length=n)(bl:∀ r ∈ L,∀ x ∈ r,x.natAbs < 2 ^ k)(z8:L.length<=26)(R:D)(sl lf o4:Option S) :
  cy [6] (ag [] 6) a_ iZ (L.map iL) (v8 R sl lf (some (.pure (.int (c:Int)))) o4 (some (.pure (iL p)))) [] = .ok ((L.map λr=>rc r p c).map iL) (v8 R sl lf (some (.pure (.int (c:Int)))) o4 (some (.pure (iL p)))):=by
 have:=ir (cs:=[6]) (g:=ag [] 6) (t:=a_) (el:=iZ) iL (λr=>iL (rc r p c)) (v8 R sl lf (some (.pure (.int (c:Int)))) o4 (some (.pure (iL p)))) L [] (by rw[cU]; simp; omega) (λr hr=>by
  obtain⟨s,hs,e⟩:=Gb hk (hl r hr) hp hn hc (bl r hr) bp R sl lf o4 none;exact⟨_,_,s,_,rfl,rfl,e,rfl,hs⟩)
 rw[Wz];exact this
theorem Gd:∀ l:List (Nat×List Int),iT (l.map λx=>D.tup [.int (x.1:Int),iL x.2])=some (sD l)
 | []=>rfl
 | x :: l=>by
  rw[Wo];simp only[iT,eU,Gd l];rfl
theorem z9:∀ (kps acc:List (bc×D)),((acc ++ kps).map (·.1)).Nodup->me kps acc=acc ++ kps
 | [],acc,_=>by simp[me]
 | p :: r,acc,h=>by
  have hn:(acc.any λkv=>decide (kv.1=p.1))=false:=by
   rw[JJ];intro kv hkv z;rw[WV,Wo] at h;have:=(List.nodup_append.mp h).2.2 kv.1 (Wp.mpr ⟨kv,hkv,rfl⟩) p.1 Wh;exact this (by simpa using z)
  have e:putD acc p.1 p.2=acc ++ [p]:=by unfold putD; rw[hn]; simp
  show me r (putD acc p.1 p.2)=_;rw[e,z9 r (acc ++ [p]) (by simpa using h)];simp
theorem Tp(l:List (Nat×List Int))(h:(l.map (·.1)).Nodup):((sD l).map (·.1)).Nodup:=by
 have e:(sD l).map (·.1)=(l.map (·.1)).map λk:Nat=>(Sum.inl (k:Int):bc):=by
  unfold sD;rw[Wz,Wz]; rfl
 rw[e];exact List.Pairwise.map _ (λa b g_ z=>g_ (by injection z with z; omega)) h
theorem Tq(h:(l.map (·.1)).Nodup)(hl:l.length<=1000):jx (.lst (l.map λx=>D.tup [.int (x.1:Int),iL x.2]))=some (.own (.aw (sD l))):=by
 simp only[jx];rw[Gd];show(if (sD l).length<=Wc then some (S.own (.aw (me (sD l) []))) else none)=_;rw[if_pos (by rw[cU]; simp[sD]; omega),z9 _ _ (by simpa using Tp l h)];rfl
theorem Tr(l:List (Nat×List Int)):oX (sD l)=l.map λx=>D.tup [.int (x.1:Int),iL x.2]:=by
 unfold oX sD;rw[Wz]; rfl
theorem Ts{l:List (Nat×List Int)}{c:Nat}{p:List Int}(h:∀ x ∈ l,x.1 < c):putD (sD l) (.inl (c:Int)) (iL p)=sD (l ++ [(c,p)]):=by
 unfold putD;rw[if_neg]
 ·unfold sD; rw[WV]; rfl
 ·intro q;obtain⟨kv,h1,h2⟩:=List.any_eq_true.mp q;obtain⟨x,hx,rfl⟩:=Wp.mp h1;have:=h x hx;have e:(Sum.inl (x.1:Int):bc) = .inl (c:Int):=by simpa using h2
  injection e with e
  omega
abbrev rW:DE:=bJ [6] (bL (aa 2)) (ag [] 6) (aB (aD cZ (ak ax 6 (aj 3)) (ao (eD (.int 0))))) (aa 6)
abbrev va:DE:=aD bX (bJ [6] (bL (kM 4 (jr (eD (.int 1))) qI)) (ag [] 6) a_ iZ) (ao (bJ [6] (bL (aa 2)) (ag [] 6) (aB (aD bU (ak ax 6 (aj 3)) (ao (eD (.int 0))))) (aa 6)))
abbrev vc:DE:=aO jx (ao (bJ [7,6] (rq 1) (bV 2 (aY (ag [] 7) (aY (ag [] 6) bY))) a_ (h9 (bS (aa 7) (bS iZ cP)))))
abbrev sB:DS:=(aC (az rW (ag [] 4)) (b_ (aB (aD fT (aO bh (aj 4)) (ao (eD (.int 0))))) (aC (az (ak ax 4 (ao (eD (.int 0)))) (ag [] 5)) (aC (az va (ag [] 2)) (aC (az vc (ag [] 1)) (kU 1 (aa 3) (aa 5))))) cA))
theorem kh(h1:it δ = .ok ds δ1)(h2:cs.any (cj δ1)=false)(h3:cy cs g t el ds (bD cs δ1) [] = .ok acc δ2):bJ cs it g t el δ = .ok (.own (.lst acc)) (c9 cs δ1 δ2):=by
 rw[xJ,h1];simp only[eV];rw[h2,h3];rfl
theorem Ge(L:List D)(s:S)(hs:s = .pure (.lst L)\/s = .own (.lst L))(R:D)(sl o3 o4 o5:Option S):bL (aa 2) (v8 R sl (some s) o3 o4 o5) = .ok L (v8 R sl (some (.pure (.lst L))) o3 o4 o5):=by
 rcases hs with rfl | rfl <;> simp[gn,aa,S.d]
theorem Tt{k n c:Nat}(hk:2 * k + 1<=8000){p:List Int}(hp:p.length=n)(hn:n<=26)(hc:c < n)(bp:∀ x ∈ p,x.natAbs < 2 ^ k){l:List (Nat×List Int)}(hl:∀ x ∈ l,x.2.length=n)(bl:∀ x ∈ l,∀ y ∈ x.2,y.natAbs < 2 ^ k)(z8:l.length<=26)(R:D)(sl lf o4:Option S) :
  cy [7,6] (bV 2 (aY (ag [] 7) (aY (ag [] 6) bY))) a_ (h9 (bS (aa 7) (bS iZ cP))) (l.map λx=>D.tup [.int (x.1:Int),iL x.2]) (v8 R sl lf (some (.pure (.int (c:Int)))) o4 (some (.pure (iL p)))) [] = .ok ((l.map λx=>(x.1,rc x.2 p c)).map λx=>D.tup [.int (x.1:Int),iL x.2]) (v8 R sl lf (some (.pure (.int (c:Int)))) o4 (some (.pure (iL p)))):=by
 have:=ir (cs:=[7,6]) (g:=bV 2 (aY (ag [] 7) (aY (ag [] 6) bY))) (t:=a_) (el:=h9 (bS (aa 7) (bS iZ cP))) (λx:Nat×List Int=>D.tup [.int (x.1:Int),iL x.2]) (λx:Nat×List Int=>D.tup [.int (x.1:Int),iL (rc x.2 p c)]) (v8 R sl lf (some (.pure (.int (c:Int)))) o4 (some (.pure (iL p)))) l [] (by rw[cU]; simp; omega) (λx hx=>by
  obtain⟨s,hs,e⟩:=Gb hk (hl x hx) hp hn hc (bl x hx) bp R sl lf o4 (some (.pure (.int (x.1:Int))));refine⟨[some (.pure R),sl,lf,some (.pure (.int (c:Int))),o4,some (.pure (iL p)),some (.pure (iL x.2)),some (.pure (.int (x.1:Int)))],_,.pure (.tup [.int (x.1:Int),iL (rc x.2 p c)]),[some (.pure R),sl,lf,some (.pure (.int (c:Int))),o4,some (.pure (iL p)),some (.pure (iL x.2)),some (.pure (.int (x.1:Int)))],rfl,rfl,?_,rfl,rfl⟩;rw[<- hs];generalize iL x.2=Q at *;generalize iL p=P at *;have e:iZ [some (.pure R),sl,lf,some (.pure (.int (c:Int))),o4,some (.pure P),some (.pure Q),some (.pure (.int (x.1:Int)))] = .ok s [some (.pure R),sl,lf,some (.pure (.int (c:Int))),o4,some (.pure P),some (.pure Q),some (.pure (.int (x.1:Int)))]:=e;generalize iZ=E at *;simp[aa,e])
 rw[Wz];exact this
theorem Tu{n c:Nat}(hn:n<=6)(hc:c < n){rows:List (List Int)}(VO:rows.length<=n){st:ei}(G:Gj n c (mB c) rows st)(R:D)(s2:S)(h2:s2 = .pure (bE st.2)\/s2 = .own (bE st.2))(o4 o5:Option S) :
  ∃ s2' q4 q5,(s2' = .pure (bE (n8 c st).2)\/s2' = .own (bE (n8 c st).2))/\sB (v8 R (some (.own (.aw (sD st.1)))) (some s2) (some (.pure (.int (c:Int)))) o4 o5) = .ok .next (v8 R (some (.own (.aw (sD (n8 c st).1)))) (some s2') (some (.pure (.int (c:Int)))) q4 q5):=by
 have c2:st.2.length<=26:=by have:=G.ct; omega
 have c1:st.1.length<=26:=by
  have:=jE G.nd (ts:=W4 c) λx hx=>by
   obtain⟨y,hy,rfl⟩:=Wp.mp hx;exact WR.mpr (G.kc y hy)
  simp at this;omega
 have b1:∀ x ∈ st.1,∀ y ∈ x.2,y.natAbs < 2 ^ 320:=λx hx=>Ga (by omega) (G.b1 x hx)
 have b2:∀ r ∈ st.2,∀ y ∈ r,y.natAbs < 2 ^ 320:=λr hr=>Ga (by omega) (G.b2 r hr)
 have pk:=Tj hc G.l2 c2 R (some (.own (.aw (sD st.1)))) (some (.pure (bE st.2))) o4 o5;have e1:rW (v8 R (some (.own (.aw (sD st.1)))) (some s2) (some (.pure (.int (c:Int)))) o4 o5) = .ok (.own (.lst ((st.2.filter λr=>ah r c != 0).map iL))) (v8 R (some (.own (.aw (sD st.1)))) (some (.pure (bE st.2))) (some (.pure (.int (c:Int)))) o4 o5):=kh (Ge _ s2 h2 R _ _ _ _) rfl pk;have k1:az rW (ag [] 4) (v8 R (some (.own (.aw (sD st.1)))) (some s2) (some (.pure (.int (c:Int)))) o4 o5) = .ok .next (v8 R (some (.own (.aw (sD st.1)))) (some (.pure (bE st.2))) (some (.pure (.int (c:Int)))) (some (.own (.lst ((st.2.filter λr=>ah r c != 0).map iL)))) o5):=by
  show(rW _).bind _=_;rw[e1];rfl
 unfold n8
 cases hf:st.2.filter (λr=>ah r c != 0) with
 | nil =>
  rw[hf] at k1;refine⟨.pure (bE st.2),some (.own (.lst [])),o5,.inl rfl,?_⟩;have k1:az rW (ag [] 4) (v8 R (some (.own (.aw (sD st.1)))) (some s2) (some (.pure (.int (c:Int)))) o4 o5) = .ok .next (v8 R (some (.own (.aw (sD st.1)))) (some (.pure (bE st.2))) (some (.pure (.int (c:Int)))) (some (.own (.lst []))) o5):=k1;rw[sB,bq k1];have gt:=gt_int 0 0;generalize bE st.2=Q at *;generalize sD st.1=W at *;have ln:bh (.lst [])=some (.pure (.int 0)):=rfl;simp[aB,aj,S.d,ln,gt]
 | cons p q =>
  rw[hf] at k1;have kf:∀ r,r ∈ p :: q->r ∈ st.2:=λr hr=>by rw[<- hf] at hr; exact(QW.mp hr).1
  have hp:=kf p Wh;have pl:=G.l2 p hp;have pb:=b2 p hp;have Tv:q.length<=26:=by
   have:=List.length_filter_le (λr=>ah r c != 0) st.2;rw[hf,WL] at this;omega
  have cl:=To (by decide:2 * 320 + 1<=8000) pl (by omega) hc pb (λr hr=>G.l2 r (kf r (W9 _ hr))) (λr hr=>b2 r (kf r (W9 _ hr))) Tv R (some (.own (.aw (sD st.1)))) (some (.pure (bE st.2))) (some (.own (.lst ((p :: q).map iL))));have zr:=Tn hc G.l2 c2 R (some (.own (.aw (sD st.1)))) (some (.pure (bE st.2))) (some (.own (.lst ((p :: q).map iL)))) (some (.pure (iL p)));have dc:=Tt (by decide:2 * 320 + 1<=8000) pl (by omega) hc pb G.l1 b1 c1 R none (some (.own (bE (q.map (λr=>rc r p c) ++ st.2.filter λr=>ah r c == 0)))) (some (.own (.lst ((p :: q).map iL))));rw[<- Tr] at dc;have dd:=Tq (l:=st.1.map λx=>(x.1,rc x.2 p c)) (by rw[Wz]; exact G.nd) (by simp; omega);have ps:=Ts (l:=st.1.map λx=>(x.1,rc x.2 p c)) (c:=c) (p:=p) (λx hx=>by
   obtain⟨y,hy,rfl⟩:=Wp.mp hx;exact G.kc y hy)
  refine⟨.own (bE (q.map (λr=>rc r p c) ++ st.2.filter λr=>ah r c == 0)),some (.own (.lst ((p :: q).map iL))),some (.pure (iL p)),.inr rfl,?_⟩;rw[sB,bq k1];-- the test
  have ht:aB (aD fT (aO bh (aj 4)) (ao (eD (.int 0)))) (v8 R (some (.own (.aw (sD st.1)))) (some (.pure (bE st.2))) (some (.pure (.int (c:Int)))) (some (.own (.lst ((p :: q).map iL)))) o5) = .ok true (v8 R (some (.own (.aw (sD st.1)))) (some (.pure (bE st.2))) (some (.pure (.int (c:Int)))) (some (.own (.lst ((p :: q).map iL)))) o5):=by
   have ln:bh (.lst ((p :: q).map iL))=some (.pure (.int ((q.length + 1:Nat):Int))):=by simp[bh]
   have gt:=gt_int ((q.length + 1:Nat):Int) 0;rw[decide_eq_true (by omega)] at gt;generalize D.lst ((p :: q).map iL)=PQ at *;generalize bE st.2=Q at *;generalize sD st.1=W at *;generalize ((q.length + 1:Nat):Int)=z at *;simp[aB,aj,S.d,ln,gt]
  rw[Ot,ht];simp only[eV,if_true];-- the pivot
  have kp:az (ak ax 4 (ao (eD (.int 0)))) (ag [] 5) (v8 R (some (.own (.aw (sD st.1)))) (some (.pure (bE st.2))) (some (.pure (.int (c:Int)))) (some (.own (.lst ((p :: q).map iL)))) o5) = .ok .next (v8 R (some (.own (.aw (sD st.1)))) (some (.pure (bE st.2))) (some (.pure (.int (c:Int)))) (some (.own (.lst ((p :: q).map iL)))) (some (.pure (iL p)))):=by
   have ix:ax (.lst ((p :: q).map iL)) (.int 0)=some (.pure (iL p)):=by
    simp only[ax]; rw[rj]; rfl
   generalize D.lst ((p :: q).map iL)=PQ at *;generalize iL p=P at *;generalize bE st.2=Q at *;generalize sD st.1=W at *;simp[az,ak,a0,aj,S.d,ix]
  rw[bq kp];-- the rows that are left
  have i4:bL (kM 4 (jr (eD (.int 1))) qI) (v8 R (some (.own (.aw (sD st.1)))) (some (.pure (bE st.2))) (some (.pure (.int (c:Int)))) (some (.own (.lst ((p :: q).map iL)))) (some (.pure (iL p)))) = .ok (q.map iL) (v8 R (some (.own (.aw (sD st.1)))) (some (.pure (bE st.2))) (some (.pure (.int (c:Int)))) (some (.own (.lst ((p :: q).map iL)))) (some (.pure (iL p)))):=by
   have sl:iK (some 1) none (.lst ((p :: q).map iL))=some (.own (.lst (q.map iL))):=by
    have:cY ((p :: q).map iL) (some 1) none=q.map iL:=by
     unfold cY HT.aU;simp;exact Jm (by simp)
    simp only[iK,this]
   generalize D.lst ((p :: q).map iL)=PQ at *;generalize iL p=P at *;generalize bE st.2=Q at *;generalize sD st.1=W at *;generalize q.map iL=QL at *;simp[gn,kM,jr,aj,S.d,sl]
  have kl:az va (ag [] 2) (v8 R (some (.own (.aw (sD st.1)))) (some (.pure (bE st.2))) (some (.pure (.int (c:Int)))) (some (.own (.lst ((p :: q).map iL)))) (some (.pure (iL p)))) = .ok .next (v8 R (some (.own (.aw (sD st.1)))) (some (.own (bE (q.map (λr=>rc r p c) ++ st.2.filter λr=>ah r c == 0)))) (some (.pure (.int (c:Int)))) (some (.own (.lst ((p :: q).map iL)))) (some (.pure (iL p)))):=by
   have a1:=kh (cs:=[6]) (g:=ag [] 6) (t:=a_) (el:=iZ) i4 rfl cl;have a2:=kh (cs:=[6]) (g:=ag [] 6) (t:=aB (aD bU (ak ax 6 (aj 3)) (ao (eD (.int 0))))) (el:=aa 6) (Ge _ (.pure (bE st.2)) (.inl rfl) R (some (.own (.aw (sD st.1)))) (some (.pure (.int (c:Int)))) (some (.own (.lst ((p :: q).map iL)))) (some (.pure (iL p)))) rfl zr;have ad:bX (.lst ((q.map λr=>rc r p c).map iL)) (.lst ((st.2.filter λr=>ah r c == 0).map iL))=some (.own (bE (q.map (λr=>rc r p c) ++ st.2.filter λr=>ah r c == 0))):=by
    have l1:=List.length_filter_le (λr=>ah r c == 0) st.2;unfold bE;simp only[bX];rw[if_pos (by rw[cU]; simp; omega),WV]
   show(va _).bind _=_;unfold va;rw[El,a1];simp only[eV,oU];have Tw:bJ [6] (bL (aa 2)) (ag [] 6) (aB (aD bU (ak ax 6 (aj 3)) (ao (eD (.int 0))))) (aa 6) (c9 [6] (v8 R (some (.own (.aw (sD st.1)))) (some (.pure (bE st.2))) (some (.pure (.int (c:Int)))) (some (.own (.lst ((p :: q).map iL)))) (some (.pure (iL p)))) (v8 R (some (.own (.aw (sD st.1)))) (some (.pure (bE st.2))) (some (.pure (.int (c:Int)))) (some (.own (.lst ((p :: q).map iL)))) (some (.pure (iL p)))))=_:=a2;rw[Tw];simp only[eV,En,uE];rw[ad];rfl
  rw[bq kl];-- the dict
  have kd:az vc (ag [] 1) (v8 R (some (.own (.aw (sD st.1)))) (some (.own (bE (q.map (λr=>rc r p c) ++ st.2.filter λr=>ah r c == 0)))) (some (.pure (.int (c:Int)))) (some (.own (.lst ((p :: q).map iL)))) (some (.pure (iL p)))) = .ok .next (v8 R (some (.own (.aw (sD (st.1.map λx=>(x.1,rc x.2 p c)))))) (some (.own (bE (q.map (λr=>rc r p c) ++ st.2.filter λr=>ah r c == 0)))) (some (.pure (.int (c:Int)))) (some (.own (.lst ((p :: q).map iL)))) (some (.pure (iL p)))):=by
   have ii:rq 1 (v8 R (some (.own (.aw (sD st.1)))) (some (.own (bE (q.map (λr=>rc r p c) ++ st.2.filter λr=>ah r c == 0)))) (some (.pure (.int (c:Int)))) (some (.own (.lst ((p :: q).map iL)))) (some (.pure (iL p)))) = .ok (oX (sD st.1)) (v8 R none (some (.own (bE (q.map (λr=>rc r p c) ++ st.2.filter λr=>ah r c == 0)))) (some (.pure (.int (c:Int)))) (some (.own (.lst ((p :: q).map iL)))) (some (.pure (iL p)))):=rfl;have a1:=kh (cs:=[7,6]) (g:=bV 2 (aY (ag [] 7) (aY (ag [] 6) bY))) (t:=a_) (el:=h9 (bS (aa 7) (bS iZ cP))) ii rfl dc;show(vc _).bind _=_;unfold vc;rw[uF,oU,a1];simp only[eV,xK,uE];rw[dd];rfl
  rw[bq kd];have hw:(sD (st.1.map λx=>(x.1,rc x.2 p c))).length < Wc:=by rw[cU]; simp[sD]; omega
  show kU 1 (aa 3) (aa 5) _ = .ok .next (v8 R (some (.own (.aw (sD (st.1.map (λx=>(x.1,rc x.2 p c)) ++ [(c,p)]))))) _ _ _ _);rw[<- ps];generalize D.lst ((p :: q).map iL)=PQ at *;generalize iL p=P at *;generalize bE (q.map (λr=>rc r p c) ++ st.2.filter λr=>ah r c == 0)=Q at *;generalize sD (st.1.map λx=>(x.1,rc x.2 p c))=W at *;simp[kU,mf,aa,S.d,eU,hw]
theorem Tz(hn:n<=6)(hr:rows.length=n)(hl:∀ r ∈ rows,r.length=n)(hb:∀ r ∈ rows,∀ i,(ah r i).natAbs<=16) :
  lb [.pure (bE rows)]=some (.own (.aw (sD (mL rows n).1)),[.pure (bE rows)]):=by
 obtain⟨δ',e,I⟩:=jy (g:=ag [] 3) (b:=sB) (λc δ=>c<=n->∃ s2 o3 o4 o5,(s2 = .pure (bE (mL rows c).2)\/s2 = .own (bE (mL rows c).2))/\δ=v8 (bE rows) (some (.own (.aw (sD (mL rows c).1)))) (some s2) o3 o4 o5) (cg 0 n) 0 (v8 (bE rows) (some (.own (.aw []))) (some (.pure (bE rows))) none none none) (λ_=>⟨_,none,none,none,.inl rfl,rfl⟩) (λi d δ hd I=>by
   obtain⟨hi,rfl⟩:=tU hd;rw[QD] at I ⊢;obtain⟨s2,o3,o4,o5,h2,rfl⟩:=I (by omega);obtain⟨s2',q4,q5,h2',e⟩:=Tu hn hi (by omega) (zR hl hb i (by omega)) (bE rows) s2 h2 o4 o5;rw[Int.zero_add];exact⟨_,_,rfl,e,λ_=>⟨s2',_,q4,q5,h2',rfl⟩⟩)
 have hlen:0 + (cg 0 n).length=n:=by simp[cg]
 rw[hlen] at I;obtain⟨s2,o3,o4,o5,h2,rfl⟩:=I (Wf _);have ln:bh (bE rows)=some (.pure (.int (n:Int))):=by unfold bE; simp[bh,hr]
 have rn:=mr n (by omega);rw[lb,yQ];refine n9 (δ1:=[some (.pure (bE rows)),none,some s2,o3,o4,o5,none,none]) ?_;generalize bE rows=Q at *;generalize sD (mL rows n).1=W at *;rw[bq (δ1:=[some (.pure Q),some (.own (.aw [])),none,none,none,none,none,none]) (by simp[bQ,az,q_])];rw[bq (δ1:=v8 Q (some (.own (.aw []))) (some (.pure Q)) none none none) (by simp[az,aa])];have iq:dY (aO bh (aj 0)) (v8 Q (some (.own (.aw []))) (some (.pure Q)) none none none) = .ok (cg 0 n) (v8 Q (some (.own (.aw []))) (some (.pure Q)) none none none):=by
  simp[aj,ln,rn]
 refine(bq ((kg iq).trans e)).trans ?_;simp[j4]
def bM(bs:List (Nat×List Tx))(i j:Nat):Int:=((M bs ((bs.map (·.1)).getD i 0) ((bs.map (·.1)).getD j 0):Nat):Int)
def eG(bs:List (Nat×List Tx))(A:Int)(j:Nat):List Int:=((W4 bs.length).map λi=>bM bs i j).set j (bM bs j j - A)
theorem Gf(n:Nat)(f:Nat->Int)(hi:i < n):ah ((W4 n).map f) i=f i:=by
 unfold ah;rw[Wi,Wl,Qd hi]; rfl
theorem Gg(hi:i < bs.length)(hj:j < bs.length):ah (eG bs A j) i=bM bs i j - (if i=j then A else 0):=by
 unfold eG;by_cases q:i=j
 ·subst q;unfold ah;rw[Wi,Wa (by simpa using hi),if_pos rfl]; rfl
 ·have e:ah (((W4 bs.length).map λi=>bM bs i j).set j (bM bs j j - A)) i=ah ((W4 bs.length).map λi=>bM bs i j) i:=by
   unfold ah;rw[Wi,Wi,W6 (λz=>q z.symm)]
  rw[e,Gf _ _ hi,if_neg q]; omega
theorem vd(bs:List (Nat×List Tx))(i j:Nat):0<=bM bs i j:=by unfold bM; omega
section
variable {h w:Nat} {bs:List (Nat×List Tx)} (R:c_ h w bs)
theorem lq(hi:i < bs.length):(bs.map (·.1)).getD i 0 ∈ bs.map (·.1):=by
 rw[Wi,W5 (by simpa using hi)];exact Qk _
include R
theorem TC(hi:i < bs.length)(j:Nat):bM bs i j<=16:=by
 have:=FT R (lq hi) ((bs.map (·.1)).getD j 0);unfold bM; omega
theorem z_:(h:Int) * (w:Int)<=16/\0 < (h:Int) * (w:Int):=by
 have h0:=R.h0;have w0:=R.w0;have h4:=R.h1;have w4:=R.w1;have:h * w<=4 * 4:=Qo h4 w4;have p:0 < h * w:=Nat.mul_pos h0 w0;have e:((h * w:Nat):Int)=(h:Int) * (w:Int):=Q8 _ _;omega
theorem Gi(hj:j < bs.length):∀ i,(ah (eG bs ((h:Int) * (w:Int)) j) i).natAbs<=16:=λi=>by
 by_cases hi:i < bs.length
 ·rw[Gg hi hj];have:=TC R hi j;have:=vd bs i j;have:=z_ R;split <;> omega
 ·rw[zP (by simp[eG]; omega)]; exact Qn _
theorem Aa(hi:i < bs.length):sN bs.length (bM bs i)=(h:Int) * (w:Int):=by
 obtain⟨b,hb,e1,_,e2⟩:=n4 (lq hi);obtain⟨b1,b2⟩:=R.ip b hb;have nd:=zI R;have cnt:∀ tx:Tx,(∀ n ∈ tx,n ∈ bs.map (·.1))->sN bs.length (λj=>((tx.count ((bs.map (·.1)).getD j 0):Nat):Int))=tx.length:=λtx=>by
  induction tx with
  | nil=>intro _; exact n5 λj _=>by simp
  | cons x r ih =>
   intro hx;have TF:=hx x Wh;obtain⟨j0,hj0,ej⟩:=Qe TF;have TH:j0 < bs.length:=by simpa using hj0
   have g0:(bs.map (·.1)).getD j0 0=x:=by
    rw[Wi,W5 hj0]; exact ej
   have e:sN bs.length (λj=>(((x :: r).count ((bs.map (·.1)).getD j 0):Nat):Int))=sN bs.length (λj=>((r.count ((bs.map (·.1)).getD j 0):Nat):Int)) + sN bs.length (λj=>if j=j0 then 1 else 0):=by
    rw[<- lj];refine fY λj hj=>?_
    rw[List.count_cons];by_cases q:j=j0
    ·subst q; rw[g0]; simp
    ·have:¬ x=(bs.map (·.1)).getD j 0:=λz=>q (by
      have z2:(bs.map (·.1)).getD j 0=(bs.map (·.1)).getD j0 0:=by rw[<- z,g0]
      have oT:j < (bs.map (·.1)).length:=by simpa using hj
      rw[Wi,Wi,W5 oT,W5 hj0] at z2;have z3:(bs.map (·.1))[j]=(bs.map (·.1))[j0]:=z2;have up:=List.pairwise_iff_getElem.mp R.up;by_cases l1:j < j0
      ·have:=up j j0 oT hj0 l1; omega
      ·by_cases l2:j0 < j
       ·have:=up j0 j hj0 oT l2; omega
       ·omega)
     have e0:(x == (bs.map (·.1)).getD j 0)=false:=beq_false_of_ne this;rw[e0,if_neg q];simp
   rw[e,ih λn hn=>hx n (W9 _ hn),ll (k:=j0) TH (λi _ q=>by simp[q])];simp
 have e3:bM bs i=λj=>((b.2.flatten.count ((bs.map (·.1)).getD j 0):Nat):Int):=by
  funext j
  unfold bM M;rw[e2]
 rw[e3,cnt b.2.flatten λn hn=>by
  obtain⟨r,hr,hnr⟩:=List.mem_flatten.mp hn;exact(b2 r hr).2 n hnr]
 have fl:∀ (L:List Tx),(∀ r ∈ L,r.length=w)->L.flatten.length=L.length * w:=λL=>by
  induction L with
  | nil=>intro _; simp
  | cons a l ih =>
   intro hL;rw[Qy,Qb,ih λr hr=>hL r (W9 _ hr),hL a Wh,WL,Nat.add_mul]; omega
 rw[fl b.2 λr hr=>(b2 r hr).1,b1,Q8]
end
abbrev t7(ru tb ar:D)(rows:List D)(o4:Option S)(o5:Option S):Dl:=[some (.pure ru),some (.pure tb),some (.pure ar),some (.own (.lst rows)),o4,o5,none]
abbrev Ab:DS:=(aC (az (bJ [6] (bL (aa 1)) (ag [] 6) a_ (ak ax 6 (aj 4))) (ag [] 5)) (aC (kO 5 (aa 4) (aD jo (ak ax 5 (aj 4)) (aj 2))) (dm 3 (aa 5))))
theorem TJ(R:c_ h w bs)(hj:j < bs.length)(rows:List D)(Sf:rows.length<=1000)(A:Int)(o5:Option S):∃ q5,Ab (t7 (ay h w bs) (tb (bs.map (·.1)) (M bs)) (.int A) rows (some (.pure (.int (j:Int)))) o5) = .ok .next (t7 (ay h w bs) (tb (bs.map (·.1)) (M bs)) (.int A) (rows ++ [iL (eG bs A j)]) (some (.pure (.int (j:Int)))) q5):=by
 have n1:=R.n1;have hl:(bs.map (·.1)).length=bs.length:=by simp
 have c:=ir (cs:=[6]) (g:=ag [] 6) (t:=a_) (el:=ak ax 6 (aj 4)) (λt=>D.tup (cG (bs.map (·.1)) (M bs t))) (λt=>D.int ((M bs t ((bs.map (·.1)).getD j 0):Nat):Int)) (t7 (ay h w bs) (tb (bs.map (·.1)) (M bs)) (.int A) rows (some (.pure (.int (j:Int)))) o5) (bs.map (·.1)) [] (by rw[cU]; simp; omega) (λt ht=>by
  have ix:=Tb (bs.map (·.1)) (M bs t) (i:=j) (by omega);refine⟨[some (.pure (ay h w bs)),some (.pure (tb (bs.map (·.1)) (M bs))),some (.pure (.int A)),some (.own (.lst rows)),some (.pure (.int (j:Int))),o5,some (.pure (.tup (cG (bs.map (·.1)) (M bs t))))],_,.pure (.int ((M bs t ((bs.map (·.1)).getD j 0):Nat):Int)),[some (.pure (ay h w bs)),some (.pure (tb (bs.map (·.1)) (M bs))),some (.pure (.int A)),some (.own (.lst rows)),some (.pure (.int (j:Int))),o5,some (.pure (.tup (cG (bs.map (·.1)) (M bs t))))],rfl,rfl,?_,rfl,rfl⟩;generalize D.tup (cG (bs.map (·.1)) (M bs t))=Q at *;generalize tb (bs.map (·.1)) (M bs)=TB at *;generalize ay h w bs=ru at *;generalize ((M bs t ((bs.map (·.1)).getD j 0):Nat):Int)=x at *;simp[ak,a0,aj,ix])
 have eY:((bs.map (·.1)).map λt=>D.int ((M bs t ((bs.map (·.1)).getD j 0):Nat):Int))=((W4 bs.length).map λi=>bM bs i j).map D.int:=by
  rw[<- Ta (λt=>D.int ((M bs t ((bs.map (·.1)).getD j 0):Nat):Int)),hl,Wz];rfl
 rw[eY] at c;have iq:bL (aa 1) (t7 (ay h w bs) (tb (bs.map (·.1)) (M bs)) (.int A) rows (some (.pure (.int (j:Int)))) o5) = .ok ((bs.map (·.1)).map λt=>D.tup (cG (bs.map (·.1)) (M bs t))) (t7 (ay h w bs) (tb (bs.map (·.1)) (M bs)) (.int A) rows (some (.pure (.int (j:Int)))) o5):=by
  simp[gn,aa,S.d,tb]
 have cm:=kh (cs:=[6]) (g:=ag [] 6) (t:=a_) (el:=ak ax 6 (aj 4)) iq rfl c;have k1:az (bJ [6] (bL (aa 1)) (ag [] 6) a_ (ak ax 6 (aj 4))) (ag [] 5) (t7 (ay h w bs) (tb (bs.map (·.1)) (M bs)) (.int A) rows (some (.pure (.int (j:Int)))) o5) = .ok .next (t7 (ay h w bs) (tb (bs.map (·.1)) (M bs)) (.int A) rows (some (.pure (.int (j:Int)))) (some (.own (iL ((W4 bs.length).map λi=>bM bs i j))))):=by
  show(bJ _ _ _ _ _ _).bind _=_;rw[cm];rfl
 refine⟨some (.pure (iL (eG bs A j))),?_⟩;rw[Ab,bq k1];have ix:=mP (r:=(W4 bs.length).map λi=>bM bs i j) (c:=j) (by simpa using hj);rw[Gf _ _ hj] at ix;have sb:jo (.int (bM bs j j)) (.int A)=some (.pure (.int (bM bs j j - A))):=rfl;have eS:(((W4 bs.length).map λi=>bM bs i j).map D.int).set j (.int (bM bs j j - A))=(eG bs A j).map D.int:=by
  unfold eG;rw[List.map_set]
 have eI:iL ((W4 bs.length).map λi=>bM bs i j) = .lst (((W4 bs.length).map λi=>bM bs i j).map D.int):=rfl;have eJ:iL (eG bs A j) = .lst ((eG bs A j).map D.int):=rfl;have hN:dW (((W4 bs.length).map λi=>bM bs i j).map D.int).length (j:Int)=some j:=by
  unfold dW;rw[if_pos (by omega),if_pos (by simpa using hj)];simp
 have hz:rows.length < Wc:=by rw[cU]; omega
 rw[eI] at ix ⊢;rw[eJ];clear c iq cm k1 eY;generalize tb (bs.map (·.1)) (M bs)=TB at *;generalize ay h w bs=ru at *;generalize (((W4 bs.length).map λi=>bM bs i j).map D.int)=X1 at *;generalize (eG bs A j).map D.int=X2 at *;generalize bM bs j j - A=x2 at *;generalize bM bs j j=x1 at *;rw[bq (δ1:=t7 ru TB (.int A) rows (some (.pure (.int (j:Int)))) (some (.own (.lst X2)))) (by
  simp[kO,gh,putL,aa,ak,a0,aj,S.d,ix,sb,hN,eS])]
 simp[dm,gh,putL,aa,S.d,hz]
theorem TK(R:c_ h w bs):lg [.pure (ay h w bs)]=some (.own (bE ((W4 bs.length).map (eG bs ((h:Int) * (w:Int))))),[.pure (ay h w bs)]):=by
 have n1:=R.n1;have gt:=S_ R;have w4:=R.w1;obtain⟨i0,i1,_⟩:=lp h w bs;have ml:=mul_int (h:Int) (w:Int) (by omega) (by omega);generalize (h:Int) * (w:Int)=A at *;obtain⟨δ',e,o4,o5,rfl⟩:=jy (g:=ag [] 4) (b:=Ab) (λi δ=>∃ o4 o5,δ=t7 (ay h w bs) (tb (bs.map (·.1)) (M bs)) (.int A) (((W4 i).map (eG bs A)).map iL) o4 o5) (cg 0 bs.length) 0 (t7 (ay h w bs) (tb (bs.map (·.1)) (M bs)) (.int A) [] none none) ⟨none,none,rfl⟩ (λi d δ hd ⟨o4,o5,e⟩=>by
  subst e;obtain⟨hi,rfl⟩:=tU hd;rw[QD,Int.zero_add];obtain⟨q5,e⟩:=TJ R hi (((W4 i).map (eG bs A)).map iL) (by simp; omega) A o5;refine⟨_,_,rfl,e,some (.pure (.int (i:Int))),q5,?_⟩;rw[List.range_succ,WV,WV];rfl)
 have hlen:0 + (cg 0 bs.length).length=bs.length:=by simp[cg]
 rw[hlen] at e;have ln:bh (tb (bs.map (·.1)) (M bs))=some (.pure (.int (bs.length:Int))):=by unfold tb; rw[u6]; simp
 have rn:=mr bs.length (by omega);rw[lg,yV];refine n9 (δ1:=[some (.pure (ay h w bs)),some (.pure (tb (bs.map (·.1)) (M bs))),some (.pure (.int A)),none,o4,o5,none]) ?_;have eR:bE ((W4 bs.length).map (eG bs A)) = .lst (((W4 bs.length).map (eG bs A)).map iL):=rfl;rw[eR];generalize ((W4 bs.length).map (eG bs A)).map iL=Q at *;generalize tb (bs.map (·.1)) (M bs)=TB at *;generalize ay h w bs=ru at *;rw[bq (δ1:=[some (.pure ru),some (.pure TB),none,none,none,none,none]) (by simp[bQ,az,aI,aZ,bR,bK,aa,bo,gt,aT])];rw[bq (δ1:=[some (.pure ru),some (.pure TB),some (.pure (.int A)),none,none,none,none]) (by simp[az,ak,a0,aj,i0,i1,ml])];rw[bq (δ1:=t7 ru TB (.int A) [] none none) (by simp[az])];have iq:dY (aO bh (aj 1)) (t7 ru TB (.int A) [] none none) = .ok (cg 0 bs.length) (t7 ru TB (.int A) [] none none):=by
  simp[aj,ln,rn]
 refine(bq ((kg iq).trans e)).trans ?_;simp[j4]
theorem TM(s:ei)(c:Nat):dR (sD s.1) (.inl (c:Int))=(en s c).map iL:=by
 unfold dR sD en;rw[List.find?_map,Option.map_map,Option.map_map];have:((λkv:bc×D=>decide (kv.1 = .inl (c:Int))) ∘ λx:Nat×List Int=>((Sum.inl (x.1:Int):bc),iL x.2))=λx=>decide (x.1=c):=by
  funext x
  show decide ((Sum.inl (x.1:Int):bc) = .inl (c:Int))=decide (x.1=c);rw[Jk,decide_eq_true_eq,decide_eq_true_eq];exact⟨λz=>by injection z with z; omega,λz=>by rw[z]⟩
 rw[this];rfl
theorem TN(s:ei)(c:Nat):gL true (.int (c:Int)) (.aw (sD s.1))=some (.pure (.bl ((en s c).isNone))):=by
 show some (S.pure (.bl (!(dR (sD s.1) (.inl (c:Int))).isSome)))=_;rw[TM]
 cases en s c <;> rfl
theorem Gk(s:ei)(c:Nat):jB (cp (sD s.1)) (.int (c:Int))=(en s c).map iL:=by
 unfold jB cp sD en;rw[Wz,List.find?_map,Option.map_map,Option.map_map];have:((λq:D×D=>aA q.1 (.int (c:Int))) ∘ ((λp:bc×D=>(uH p.1,p.2)) ∘ λx:Nat×List Int=>((Sum.inl (x.1:Int):bc),iL x.2)))=λx=>decide (x.1=c):=by
  funext x
  show((x.1:Int) == (c:Int))=decide (x.1=c);rw[Jk,beq_iff_eq,decide_eq_true_eq];omega
 rw[this];rfl
theorem Gm(s:ei)(c:Nat):nQ (uO (.int (c:Int))) (cp (sD s.1)) (.int (c:Int))=true:=by
 have h0:uO (.int (c:Int))=false:=rfl;rw[h0];unfold nQ;have h1:(cp (sD s.1)).all (λq=>iY false q.1)=true:=by
  rw[WY];intro q hq;unfold cp sD at hq;rw[Wz] at hq;obtain⟨x,_,rfl⟩:=Wp.mp hq;rfl
 rw[h1];rfl
theorem TQ(s:ei)(c:Nat):nR false (.int (c:Int)) (.dic (cp (sD s.1)))=some (.pure (.bl ((en s c).isSome))):=by
 simp only[nR,Gm,if_true,Gk]
 cases en s c <;> rfl
theorem TR(h:en s c=some r):nS (.dic (cp (sD s.1))) (.int (c:Int))=some (.pure (iL r)):=by
 simp only[nS,Gm,if_true,Gk,h];rfl
def jI(t b:Int):D:=.tup [.int (t.fdiv (Q4 t b:Nat)),.int (b.fdiv (Q4 t b:Nat))]
theorem TU(hk:k<=7000)(t b:Int)(hb:0 < b)(hB:b.natAbs < 2 ^ k):ka [.pure (.int t),.pure (.int b)]=some (.pure (jI t b),[.pure (.int t),.pure (.int b)]):=by
 have g:=z5 t b hB (by omega);have gp:0 < Q4 t b:=Int.gcd_pos_of_ne_zero_right _ (by omega);have gl:Q4 t b<=b.natAbs:=Int.gcd_le_natAbs_right t (by omega);have hz:(((Q4 t b:Nat):Int)).natAbs < k6:=by
  have:2 ^ k<=2 ^ 8000:=WS (by decide) (by omega);show _ < 2 ^ 8000;omega
 have d1:=o9 t ((Q4 t b:Nat):Int) (by omega) hz;have d2:=o9 b ((Q4 t b:Nat):Int) (by omega) hz;rw[ka,yX];unfold jI;generalize t.fdiv ((Q4 t b:Nat):Int)=x1 at *;generalize b.fdiv ((Q4 t b:Nat):Int)=x2 at *;generalize ((Q4 t b:Nat):Int)=gi at *;refine rS (δ1:=[some (.pure (.int t)),some (.pure (.int b)),some (.pure (.int gi))]) ?_;rw[bq (δ1:=[some (.pure (.int t)),some (.pure (.int b)),some (.pure (.int gi))]) (by simp[bQ,az,aI,aZ,bR,bK,aa,bo,g,aT])];simp[ak,a0,aj,d1,d2]
abbrev fq(ru:D)(n:Nat)(sl fr:Option S)(w:Int)(o5 o6 o7 o8:Option S):Dl:=[some (.pure ru),some (.pure (.int (n:Int))),sl,fr,some (.pure (.int w)),o5,o6,o7,o8,none]
abbrev wB:DS:=az (aD gk (ak dE 4 (ao (aO mx (ao (ak ax 6 (aj 5)))))) (ao (aI iA [.val (aa 4),.val (ak ax 6 (aj 5))]))) (ag [] 4)
theorem Gn(hn:n<=6)(ru:D)(sl fr o7 o8:Option S):∀ (l:List (Nat×List Int)) (w e:Nat) (o5 o6:Option S),(∀ x ∈ l,x.1 < n/\x.2.length=n/\ah x.2 x.1≠0/\∀ y ∈ x.2,y.natAbs < 2 ^ 320)->0 < w->w<=2 ^ e->e + 320 * l.length<=6000->∃ q5 q6,
  forL (bV 2 (aY (ag [] 5) (aY (ag [] 6) bY))) wB (l.map λx=>D.tup [.int (x.1:Int),iL x.2]) (fq ru n sl fr (w:Int) o5 o6 o7 o8) = .ok .next (fq ru n sl fr ((wt l w:Nat):Int) q5 q6 o7 o8)
 | [],w,e,o5,o6,_,_,_,_=>⟨o5,o6,rfl⟩
 | x :: l,w,e,o5,o6,hl,hw,hwe,he=>by
  obtain⟨h1,h2,h3,h4⟩:=hl x Wh;have hx:(ah x.2 x.1).natAbs < 2 ^ 320:=h4 _ (uW (by omega));have lc:Nat.lcm w (ah x.2 x.1).natAbs<=2 ^ (e + 320):=by
   refine Wu (Jy _ _) ?_;rw[Nat.pow_add];exact Qo hwe (Jn hx)
  rw[WL] at he;obtain⟨q5,q6,e2⟩:=Gn hn ru sl fr o7 o8 l (Nat.lcm w (ah x.2 x.1).natAbs) (e + 320) (some (.pure (.int (x.1:Int)))) (some (.pure (iL x.2))) (λy hy=>hl y (W9 _ hy)) (Nat.lcm_pos hw (by omega)) lc (by omega);refine⟨q5,q6,?_⟩;have ix:=mP (r:=x.2) (c:=x.1) (by omega);have ab:mx (.int (ah x.2 x.1))=some (.pure (.int ((ah x.2 x.1).natAbs:Int))):=by
   show some (S.pure (.int (if ah x.2 x.1 < 0 then -(ah x.2 x.1) else ah x.2 x.1)))=_;congr 3
   split <;> omega
  have w6:((w:Int)).natAbs < 2 ^ 6001:=by
   have:2 ^ e < 2 ^ 6001:=Ja (by decide) (by omega);omega
  have x6:(((ah x.2 x.1).natAbs:Int)).natAbs < 2 ^ 6001:=by
   have:2 ^ 320<=2 ^ 6001:=WS (by decide) (by decide);omega
  have ml:=rT (w:Int) ((ah x.2 x.1).natAbs:Int) w6 x6 (by decide);have g:=z5 (w:Int) (ah x.2 x.1) hx (by decide);have gp:0 < Q4 (w:Int) (ah x.2 x.1):=Int.gcd_pos_of_ne_zero_right _ h3;have gl:Q4 (w:Int) (ah x.2 x.1)<=(ah x.2 x.1).natAbs:=Int.gcd_le_natAbs_right _ h3;have hz:(((Q4 (w:Int) (ah x.2 x.1):Nat):Int)).natAbs < k6:=by
   have:2 ^ 320<=2 ^ 8000:=WS (by decide) (by decide);show _ < 2 ^ 8000;omega
  have dv:=o9 ((w:Int) * ((ah x.2 x.1).natAbs:Int)) ((Q4 (w:Int) (ah x.2 x.1):Nat):Int) (by omega) hz;have el:((w:Int) * ((ah x.2 x.1).natAbs:Int)).fdiv ((Q4 (w:Int) (ah x.2 x.1):Nat):Int)=((Nat.lcm w (ah x.2 x.1).natAbs:Nat):Int):=by
   rw[<- Q8,<- Int.ofNat_fdiv];rfl
  rw[el] at dv;rw[Wo,u9 (δ1:=fq ru n sl fr (w:Int) (some (.pure (.int (x.1:Int)))) (some (.pure (iL x.2))) o7 o8) (δ2:=fq ru n sl fr ((Nat.lcm w (ah x.2 x.1).natAbs:Nat):Int) (some (.pure (.int (x.1:Int)))) (some (.pure (iL x.2))) o7 o8) rfl (by
   clear el e2 hz gl gp lc;generalize ((Nat.lcm w (ah x.2 x.1).natAbs:Nat):Int)=y1 at *;generalize (w:Int) * ((ah x.2 x.1).natAbs:Int)=y2 at *;generalize ((Q4 (w:Int) (ah x.2 x.1):Nat):Int)=y3 at *;generalize ((ah x.2 x.1).natAbs:Int)=y4 at *;generalize ah x.2 x.1=y5 at *;generalize iL x.2=Q at *;generalize (w:Int)=wi at *;simp[wB,az,ak,a0,aj,aa,S.d,ix,ab,ml,aI,aZ,bR,bK,bo,g,aT,dv])]
  exact e2
theorem TV(h:en s i=some r):(i,r) ∈ s.1:=by
 unfold en at h;obtain⟨x,h1,h2⟩:=WC.mp h;have h3:=List.mem_of_find?_eq_some h1;have h4:x.1=i:=by simpa using List.find?_some h1
 rw[<- h2,<- h4];exact h3
theorem TX:(en s i).isNone=true ↔ ¬ cK s i:=by
 constructor
 ·rintro h ⟨r,hr⟩;unfold en at h;rw[Option.isNone_iff_eq_none,Option.map_eq_none_iff] at h;have:=List.find?_eq_none.mp h _ hr;simp at this
 ·intro h;rw[Fz h]; rfl
def i5(bs:List (Nat×List Tx))(A:Int):List (List Int):=(W4 bs.length).map (eG bs A)
abbrev fZ(bs:List (Nat×List Tx))(A:Int):ei:=mL (i5 bs A) bs.length
section
variable {h w:Nat} {bs:List (Nat×List Tx)} (R:c_ h w bs) (h6:bs.length<=6)
include R
theorem Ac:Gj bs.length bs.length (mB bs.length) (i5 bs ((h:Int) * (w:Int))) (fZ bs ((h:Int) * (w:Int))):=by
 refine zR (λr hr=>?_) (λr hr=>?_) bs.length (Wf _)
 ·obtain⟨j,hj,rfl⟩:=Wp.mp hr;simp[eG]
 ·obtain⟨j,hj,rfl⟩:=Wp.mp hr;exact Gi R (WR.mp hj)
omit R in
theorem Ad(v:Nat->Int)(A:Int):(∀ r ∈ i5 bs A,dot bs.length (ah r) v=0) ↔ gm bs.length (bM bs) A v :=
 Se (by simp[i5]) (λj hj i hi=>by
  have e:(i5 bs A).getD j []=eG bs A j:=by
   unfold i5;rw[Wi,Wl,Qd hj]; rfl
  rw[e,Gg hi hj]) v
end
abbrev vB:DS:=(b_ (aB (aD (nR false) (aa 5) (aj 2))) (aC (az (ak nS 2 (aj 5)) (ag [] 6)) (dm 7 (aD gk (aD dE (aO oO (ao (ak ax 6 (ao (ak ax 3 (ao (eD (.int 0)))))))) (aj 4)) (ao (ak ax 6 (aj 5)))))) (dm 7 (aa 4)))
theorem TY:(2:Nat) ^ 320 < 2 ^ 2000/\(2:Nat) ^ 1920 < 2 ^ 2000:=⟨Ja (by decide) (by decide),Ja (by decide) (by decide)⟩
theorem TZ{n m:Nat}{eW:List (List Int)}{s:ei}(G:Gj n n m eW s)(hm:m < 2 ^ 320){f:Nat}(hf:f < n){w:Nat}(hw:w<=2 ^ 1920)(ru:D){i:Nat}(hi:i < n)(L:List D)(hL:L.length<=1000)(o6 o8:Option S):∃ q6,
  vB (fq ru n (some (.pure (.dic (cp (sD s.1))))) (some (.own (.lst [.int (f:Int)]))) (w:Int) (some (.pure (.int (i:Int)))) o6 (some (.own (.lst L))) o8) = .ok .next (fq ru n (some (.pure (.dic (cp (sD s.1))))) (some (.own (.lst [.int (f:Int)]))) (w:Int) (some (.pure (.int (i:Int)))) q6 (some (.own (.lst (L ++ [.int (vv s f w i)])))) o8):=by
 have ve:=TQ s i;have hz:L.length < Wc:=by rw[cU]; omega
 cases hr:en s i with
 | none =>
  rw[hr] at ve;have ev:vv s f w i=w:=by unfold vv; rw[hr]
  rw[ev];refine⟨o6,?_⟩;generalize D.dic (cp (sD s.1))=Q at *;generalize (w:Int)=wi at *;simp[vB,aB,aa,aj,S.d,ve,dm,gh,putL,hz]
 | some r =>
  rw[hr] at ve;have mq:=TV hr;have hl:=G.l1 _ mq;have h0:=G.pv _ mq;have hb:=G.b1 _ mq;have ev:vv s f w i=(-(ah r f) * w).fdiv (ah r i):=by unfold vv; rw[hr]
  have ix:=TR hr;have i6:=mP (r:=r) (c:=i) (by rw[hl]; exact hi);have T3:=mP (r:=r) (c:=f) (by rw[hl]; exact hf);have i3:ax (.lst [.int (f:Int)]) (.int 0)=some (.pure (.int (f:Int))):=rfl;have ng:oO (.int (ah r f))=some (.pure (.int (-(ah r f)))):=rfl;obtain⟨p1,p2⟩:=TY;have b1:(ah r f).natAbs < 2 ^ 2000:=Nat.lt_trans (WH (hb f) hm) p1;have ml:=rT (k:=2000) (-(ah r f)) (w:Int) (by rw[Int.natAbs_neg]; exact b1) (by rw[Jl]; exact WH hw p2) (by decide);have b2:(ah r i).natAbs < k6:=by
   have:2 ^ 320<=2 ^ 8000:=WS (by decide) (by decide);show _ < 2 ^ 8000;exact Ww (WH (hb i) hm) this
  have dv:=o9 (-(ah r f) * (w:Int)) (ah r i) h0 b2;refine⟨some (.pure (iL r)),?_⟩;rw[ev];clear ev b1 b2;generalize (-(ah r f) * (w:Int)).fdiv (ah r i)=y0 at *;generalize -(ah r f) * (w:Int)=y1 at *;generalize -(ah r f)=y2 at *;generalize ah r f=y3 at *;generalize ah r i=y4 at *;generalize iL r=Q6 at *;generalize D.dic (cp (sD s.1))=Q at *;generalize (w:Int)=wi at *;simp[vB,aB,az,aa,aj,ak,a0,S.d,ve,ix,i6,T3,i3,ng,ml,dv,dm,gh,putL,hz]
def eX(s:ei)(n:Nat):List Nat:=(W4 n).filter λc=>(en s c).isNone
theorem vf:c ∈ eX s n ↔ c < n/\¬ cK s c:=by
 unfold eX;rw[List.mem_filter,List.mem_range,TX]
theorem T4(s:ei)(hn:n<=26)(ru:D):cy [5] (ag [] 5) (aB (aD (gL true) (aa 5) (aj 2))) (aa 5) ((W4 n).map λk:Nat=>D.int (k:Int)) [some (.pure ru),some (.pure (.int (n:Int))),some (.own (.aw (sD s.1))),none,none,none,none,none,none,none] [] = .ok ((eX s n).map λk:Nat=>D.int (k:Int)) [some (.pure ru),some (.pure (.int (n:Int))),some (.own (.aw (sD s.1))),none,none,none,none,none,none,none]:=by
 have:=rP (cs:=[5]) (g:=ag [] 5) (t:=aB (aD (gL true) (aa 5) (aj 2))) (el:=aa 5) (λk:Nat=>D.int (k:Int)) (λk:Nat=>D.int (k:Int)) (λc=>(en s c).isNone) [some (.pure ru),some (.pure (.int (n:Int))),some (.own (.aw (sD s.1))),none,none,none,none,none,none,none] (W4 n) [] (by rw[cU]; simp; omega) (λc hc=>by
  have i1:=TN s c;refine⟨[some (.pure ru),some (.pure (.int (n:Int))),some (.own (.aw (sD s.1))),none,none,some (.pure (.int (c:Int))),none,none,none,none],[some (.pure ru),some (.pure (.int (n:Int))),some (.own (.aw (sD s.1))),none,none,some (.pure (.int (c:Int))),none,none,none,none],.pure (.int (c:Int)),[some (.pure ru),some (.pure (.int (n:Int))),some (.own (.aw (sD s.1))),none,none,some (.pure (.int (c:Int))),none,none,none,none],rfl,?_,rfl,?_,rfl,rfl⟩
  ·generalize D.aw (sD s.1)=Q at *;generalize (en s c).isNone=b at *;simp[aB,aa,aj,S.d,i1]
  ·simp[aa])
 exact this
theorem Ae(xs:List Int):jA (.lst (xs.map D.int))=some (.pure (.int xs.sum)):=by
 unfold jA;simp only[DV.ints_map]
theorem T5(h:∀ i,i < n->(v i).natAbs<=B):(sN n v).natAbs<=n * B:=by
 have h1:=zO v n;have h2:sN n (λi=>((v i).natAbs:Int))<=sN n (λ_=>(B:Int)):=zL λi hi=>by have:=h i hi; omega
 have h3:∀ n:Nat,sN n (λ_=>(B:Int))=((n * B:Nat):Int):=λn=>by
  induction n with
  | zero=>simp[sN]
  | succ n ih =>
   show sN n (λ_=>(B:Int)) + (B:Int)=_;rw[ih,Nat.add_mul]; omega
 rw[h3] at h2;omega
structure rX(bs:List (Nat×List Tx))(A:Int)(f:Nat)(v:Nat->Int):Prop where
 nn:∀ i,i < bs.length->0<=v i
 st:gm bs.length (bM bs) A v
 pos:0 < sN bs.length v
 le:∀ i,i < bs.length->(v i).natAbs<=2 ^ 2240
theorem Gp(R:c_ h w bs)(h6:bs.length<=6)(hf:f < bs.length)(dI:¬ cK (fZ bs ((h:Int) * (w:Int))) f)(only:∀ j,j < bs.length->j≠f->cK (fZ bs ((h:Int) * (w:Int))) j) :
  0 < wt (fZ bs ((h:Int) * (w:Int))).1 1/\wt (fZ bs ((h:Int) * (w:Int))).1 1<=2 ^ 1920/\(∀ x ∈ (fZ bs ((h:Int) * (w:Int))).1,ah x.2 x.1 ∣ ((wt (fZ bs ((h:Int) * (w:Int))).1 1:Nat):Int))/\rX bs ((h:Int) * (w:Int)) f (vv (fZ bs ((h:Int) * (w:Int))) f ((wt (fZ bs ((h:Int) * (w:Int))).1 1:Nat):Int)):=by
 have G:=Ac R;have hA:=(z_ R).2;have hr:∀ i,i < bs.length->sN bs.length (bM bs i)=(h:Int) * (w:Int):=λi hi=>Aa R hi
 have hk:=λv=>Ad (bs:=bs) v ((h:Int) * (w:Int))
 generalize (h:Int) * (w:Int)=A at *;generalize fZ bs A=s at *;have Gq:mB bs.length<=2 ^ 320:=Jn (WH (u_ h6) z7);have ls:s.1.length<=6:=by
  have:=jE G.nd (ts:=W4 bs.length) λx hx=>by
   obtain⟨y,hy,rfl⟩:=Wp.mp hx;exact WR.mpr (G.kc y hy)
  simp at this;omega
 have wp:=FG s.1 1 (λx hx=>G.pv x hx) (by decide);have wl:wt s.1 1<=2 ^ 1920:=by
  have h1:=FH (m:=2 ^ 320) s.1 1 λx hx=>Wu (G.b1 x hx x.1) Gq
  rw[Nat.one_mul,<- Nat.pow_mul] at h1;exact Wu h1 (WS (by decide) (by omega))
 have wd:∀ x ∈ s.1,ah x.2 x.1 ∣ ((wt s.1 1:Nat):Int):=λx hx=>by
  have:=(FE s.1 1).2 x hx;exact Int.natAbs_dvd_natAbs.mp (by rw[Jl]; exact this)
 have nn:=Sh G (vd bs) hA hr hk hf dI only wd (by omega);refine⟨wp,wl,wd,nn,(hk _).mp (FA G hf dI only wd),?_,λi hi=>?_⟩
 ·have h1:=zK nn;by_cases q:sN bs.length (vv s f ((wt s.1 1:Nat):Int))=0
  ·have:=zM nn q f hf;rw[rO dI] at this;omega
  ·omega
 ·by_cases q:i=f
  ·subst q;rw[rO dI,Jl];exact Wu wl (WS (by decide) (by decide))
  ·obtain⟨r,ke⟩:=only i hi q;have e:=zT G (f:=f) ke (wd _ ke);have:=Ft (G.pv _ ke) e;refine Wu this ?_;rw[QV,Int.natAbs_neg,Jl,show 2240=320 + 1920 by decide,Nat.pow_add];exact Qo (Wu (G.b1 _ ke f) Gq) wl
theorem Gr(h6:n<=6)(h:∀ i,i < n->(v i).natAbs<=2 ^ 2240):(sN n v).natAbs < 2 ^ 2250:=by
 have e:(2:Nat) ^ 2250=2 ^ 2240 * 2 ^ 10:=by rw[<- Nat.pow_add]
 have p:0 < (2:Nat) ^ 2240:=Nat.two_pow_pos _;rw[e];generalize (2:Nat) ^ 2240=X at *;have h1:=T5 (n:=n) (v:=v) h;have h2:n * X<=6 * X:=J9 _ h6;omega
abbrev Af:DS:=(aC (az (eD (.int 1)) (ag [] 4)) (aC (dZ (rB (rC 2)) (bV 2 (aY (ag [] 5) (aY (ag [] 6) bY))) wB) (aC (az (fU cP) (ag [] 7)) (aC (dZ (dY (aa 1)) (ag [] 5) vB) (aC (az (aO jA (aj 7)) (ag [] 8)) (bN (aO e_ (ao (bJ [9] (bL (aa 7)) (ag [] 9) a_ (aI ka [.val (aa 9),.val (aa 8)]))))))))))
def f_(n:Nat)(v:Nat->Int):D:=.tup ((W4 n).map λi=>jI (v i) (sN n v))
def Gs:Nat:=2 ^ 320
def Gu:Nat:=2 ^ 1920
def T6:Nat:=2 ^ 2240
theorem T7(G:Gj n n m eW s)(hm:m < Gs)(h6:n<=6)(hf:f < n)(wl:wt s.1 1<=Gu)(hV:vv s f ((wt s.1 1:Nat):Int)=v)(Kp:0 < sN n v)(Kl:∀ i,i < n->(v i).natAbs<=T6)(ru:D) :
  ∃ δ',Af [some (.pure ru),some (.pure (.int (n:Int))),some (.own (.aw (sD s.1))),some (.own (.lst [.int (f:Int)])),none,none,none,none,none,none] = .ok (.ret (.pure (f_ n v))) δ':=by
 have hx:∀ x ∈ s.1,x.1 < n/\x.2.length=n/\ah x.2 x.1≠0/\∀ y ∈ x.2,y.natAbs < 2 ^ 320:=λx hx=>⟨G.kc x hx,G.l1 x hx,G.pv x hx,λy hy=>by
   obtain⟨i,hi,rfl⟩:=Qe hy;have e:ah x.2 i=x.2[i]:=by unfold ah; rw[Wi,W5 hi]; rfl
   have h1:=G.b1 x hx i;rw[e] at h1;exact WH h1 hm⟩
 have ls:s.1.length<=6:=by
  have:=jE G.nd (ts:=W4 n) λx hx=>by
   obtain⟨y,hy,rfl⟩:=Wp.mp hx;exact WR.mpr (G.kc y hy)
  simp at this;omega
 obtain⟨q5,q6,e1⟩:=Gn (n:=n) (by omega) ru (some (.pure (.dic (cp (sD s.1))))) (some (.own (.lst [.int (f:Int)]))) none none s.1 1 0 none none hx (by decide) (by decide) (by omega);generalize hW:wt s.1 1=W at *;obtain⟨δ',e2,p5,p6,rfl⟩:=jy (g:=ag [] 5) (b:=vB) (λi δ=>∃ p5 p6,δ=fq ru n (some (.pure (.dic (cp (sD s.1))))) (some (.own (.lst [.int (f:Int)]))) (W:Int) p5 p6 (some (.own (.lst (((W4 i).map v).map D.int)))) none) ((W4 n).map λk:Nat=>D.int (k:Int)) 0 (fq ru n (some (.pure (.dic (cp (sD s.1))))) (some (.own (.lst [.int (f:Int)]))) (W:Int) q5 q6 (some (.own (.lst []))) none) ⟨q5,q6,rfl⟩ (λi d δ hd ⟨p5,p6,e⟩=>by
  subst e;have hi:i < n:=by
   have:=(W1.mp hd).1;simpa using this
  have pT:d = .int (i:Int):=by
   rw[Wl,Qd hi] at hd;simpa using hd.symm
  subst pT;rw[QD];obtain⟨z6,e⟩:=TZ G hm hf wl ru hi (((W4 i).map v).map D.int) (by simp; omega) p6 none;rw[hV] at e;refine⟨_,_,rfl,e,some (.pure (.int (i:Int))),z6,?_⟩;rw[List.range_succ,WV,WV];rfl)
 have hlen:0 + ((W4 n).map λk:Nat=>D.int (k:Int)).length=n:=by simp
 rw[hlen] at e2;have sm:=Ae ((W4 n).map v);rw[u3] at sm;have sb:=Gr h6 Kl;have fr:=ir (cs:=[9]) (g:=ag [] 9) (t:=a_) (el:=aI ka [.val (aa 9),.val (aa 8)]) (λi:Nat=>D.int (v i)) (λi:Nat=>jI (v i) (sN n v)) (fq ru n (some (.pure (.dic (cp (sD s.1))))) (some (.own (.lst [.int (f:Int)]))) (W:Int) p5 p6 (some (.pure (.lst (((W4 n).map v).map D.int)))) (some (.pure (.int (sN n v))))) (W4 n) [] (by rw[cU]; simp; omega) (λi hi=>by
  have g:=TU (k:=2250) (by decide) (v i) (sN n v) Kp sb;refine⟨[some (.pure ru),some (.pure (.int (n:Int))),some (.pure (.dic (cp (sD s.1)))),some (.own (.lst [.int (f:Int)])),some (.pure (.int (W:Int))),p5,p6,some (.pure (.lst (((W4 n).map v).map D.int))),some (.pure (.int (sN n v))),some (.pure (.int (v i)))],_,.pure (jI (v i) (sN n v)),[some (.pure ru),some (.pure (.int (n:Int))),some (.pure (.dic (cp (sD s.1)))),some (.own (.lst [.int (f:Int)])),some (.pure (.int (W:Int))),p5,p6,some (.pure (.lst (((W4 n).map v).map D.int))),some (.pure (.int (sN n v))),some (.pure (.int (v i)))],rfl,rfl,?_,rfl,rfl⟩;generalize jI (v i) (sN n v)=FR at *;generalize D.lst (((W4 n).map v).map D.int)=VL at *;generalize D.dic (cp (sD s.1))=Q at *;generalize sN n v=SS at *;generalize v i=vi at *;simp[aI,aZ,bR,bK,aa,bo,g,aT])
 have eM:((W4 n).map λi:Nat=>D.int (v i))=((W4 n).map v).map D.int:=by rw[Wz]; rfl
 rw[eM] at fr;have rn:=mr n (by omega);rw[show cg 0 n=(W4 n).map λk:Nat=>D.int (k:Int) from by unfold cg; simp] at rn;refine⟨fq ru n (some (.pure (.dic (cp (sD s.1))))) (some (.own (.lst [.int (f:Int)]))) (W:Int) p5 p6 (some (.pure (.lst (((W4 n).map v).map D.int)))) (some (.pure (.int (sN n v)))),?_⟩;unfold Af;rw[bq (δ1:=fq ru n (some (.own (.aw (sD s.1)))) (some (.own (.lst [.int (f:Int)]))) 1 none none none none) (by
  generalize D.lst [.int (f:Int)]=FF at *;generalize D.aw (sD s.1)=Q at *;simp[az])]
 have it:rB (rC 2) (fq ru n (some (.own (.aw (sD s.1)))) (some (.own (.lst [.int (f:Int)]))) 1 none none none none) = .ok (s.1.map λx=>D.tup [.int (x.1:Int),iL x.2]) (fq ru n (some (.pure (.dic (cp (sD s.1))))) (some (.own (.lst [.int (f:Int)]))) 1 none none none none):=by
  have e:ph (cp (sD s.1))=s.1.map λx=>D.tup [.int (x.1:Int),iL x.2]:=by
   unfold ph cp sD;rw[Wz,Wz]; rfl
  rw[<- e];rfl
 rw[bq ((kg it).trans e1)];rw[bq (δ1:=fq ru n (some (.pure (.dic (cp (sD s.1))))) (some (.own (.lst [.int (f:Int)]))) (W:Int) q5 q6 (some (.own (.lst []))) none) (by
  generalize D.lst [.int (f:Int)]=FF at *;generalize D.dic (cp (sD s.1))=Q at *;simp[az])]
 have i2:dY (aa 1) (fq ru n (some (.pure (.dic (cp (sD s.1))))) (some (.own (.lst [.int (f:Int)]))) (W:Int) q5 q6 (some (.own (.lst []))) none) = .ok ((W4 n).map λk:Nat=>D.int (k:Int)) (fq ru n (some (.pure (.dic (cp (sD s.1))))) (some (.own (.lst [.int (f:Int)]))) (W:Int) q5 q6 (some (.own (.lst []))) none):=by
  clear fr e2 e1 it;generalize D.lst [.int (f:Int)]=FF at *;generalize D.dic (cp (sD s.1))=Q at *;generalize ((W4 n).map λk:Nat=>D.int (k:Int))=LL at *;simp[aa,rn]
 rw[bq ((kg i2).trans e2)];rw[bq (δ1:=fq ru n (some (.pure (.dic (cp (sD s.1))))) (some (.own (.lst [.int (f:Int)]))) (W:Int) p5 p6 (some (.own (.lst (((W4 n).map v).map D.int)))) (some (.pure (.int (sN n v))))) (by
  clear fr e2 e1 it;generalize D.lst (((W4 n).map v).map D.int)=VL at *;generalize D.lst [.int (f:Int)]=FF at *;generalize D.dic (cp (sD s.1))=Q at *;generalize sN n v=SS at *;simp[az,aj,S.d,sm])]
 have i7:bL (aa 7) (fq ru n (some (.pure (.dic (cp (sD s.1))))) (some (.own (.lst [.int (f:Int)]))) (W:Int) p5 p6 (some (.own (.lst (((W4 n).map v).map D.int)))) (some (.pure (.int (sN n v))))) = .ok (((W4 n).map v).map D.int) (fq ru n (some (.pure (.dic (cp (sD s.1))))) (some (.own (.lst [.int (f:Int)]))) (W:Int) p5 p6 (some (.pure (.lst (((W4 n).map v).map D.int)))) (some (.pure (.int (sN n v))))):=by
  clear fr e2 e1 it;generalize D.lst [.int (f:Int)]=FF at *;generalize D.dic (cp (sD s.1))=Q at *;generalize sN n v=SS at *;generalize ((W4 n).map v).map D.int=VL at *;simp[gn,aa,S.d]
 have cm:=kh (cs:=[9]) (g:=ag [] 9) (t:=a_) (el:=aI ka [.val (aa 9),.val (aa 8)]) i7 rfl fr;rw[Em,uF,oU,cm];rfl
theorem T8{s:ei}{n:Nat}(h6:n<=6)(ru BD:D){RW:D}(x2:ax ru (.int 2)=some (.pure BD))(ln:bh BD=some (.pure (.int (n:Int))))(Ag:lg [.pure ru]=some (.own RW,[.pure ru]))(qX:lb [.pure RW]=some (.own (.aw (sD s.1)),[.pure RW]))(d:D)(δ':Dl)(q:(aC (b_ (aB (aD fT (aO bh (aj 3)) (ao (eD (.int 1))))) (bN (eD .aJ)) cA) Af)
   [some (.pure ru),some (.pure (.int (n:Int))),some (.own (.aw (sD s.1))),some (.own (.lst ((eX s n).map λk:Nat=>D.int (k:Int)))),none,none,none,none,none,none] = .ok (.ret (.pure d)) δ'):gQ [.pure ru]=some (.pure d,[.pure ru]):=by
 have fc:=T4 s (n:=n) (by omega) ru;have rn:=mr n (by omega);rw[show cg 0 n=(W4 n).map λk:Nat=>D.int (k:Int) from by unfold cg; simp] at rn;rw[gQ,yY];refine n9 (δ1:=δ') ?_;rw[bq (δ1:=[some (.pure ru),some (.pure (.int (n:Int))),none,none,none,none,none,none,none,none]) (by
  clear fc q;simp[bQ,az,ak,a0,aj,x2,ln])]
 rw[bq (δ1:=[some (.pure ru),some (.pure (.int (n:Int))),some (.own (.aw (sD s.1))),none,none,none,none,none,none,none]) (by
  clear fc q;generalize D.aw (sD s.1)=Q at *;simp[az,aI,aZ,bR,bK,aa,bo,Ag,qX,aT,S.d])]
 have iq:dY (aa 1) [some (.pure ru),some (.pure (.int (n:Int))),some (.own (.aw (sD s.1))),none,none,none,none,none,none,none] = .ok ((W4 n).map λk:Nat=>D.int (k:Int)) [some (.pure ru),some (.pure (.int (n:Int))),some (.own (.aw (sD s.1))),none,none,none,none,none,none,none]:=by
  clear fc q;generalize D.aw (sD s.1)=Q at *;generalize ((W4 n).map λk:Nat=>D.int (k:Int))=LL at *;simp[aa,rn]
 have cm:=kh (cs:=[5]) (g:=ag [] 5) (t:=aB (aD (gL true) (aa 5) (aj 2))) (el:=aa 5) iq rfl fc;rw[bq (δ1:=[some (.pure ru),some (.pure (.int (n:Int))),some (.own (.aw (sD s.1))),some (.own (.lst ((eX s n).map λk:Nat=>D.int (k:Int)))),none,none,none,none,none,none]) (by
  show(bJ _ _ _ _ _ _).bind _=_;rw[cm];rfl)]
 exact q
theorem T9{h w:Nat}{bs:List (Nat×List Tx)}(R:c_ h w bs)(h6:bs.length<=6) :
  (∃ f1 f2,f1 < bs.length/\f2 < bs.length/\f1≠f2/\¬ cK (fZ bs ((h:Int) * (w:Int))) f1/\¬ cK (fZ bs ((h:Int) * (w:Int))) f2/\gQ [.pure (ay h w bs)]=some (.pure .aJ,[.pure (ay h w bs)])) \/
  (∃ f v,f < bs.length/\¬ cK (fZ bs ((h:Int) * (w:Int))) f/\(∀ j,j < bs.length->j≠f->cK (fZ bs ((h:Int) * (w:Int))) j)/\rX bs ((h:Int) * (w:Int)) f v/\gQ [.pure (ay h w bs)]=some (.pure (f_ bs.length v),[.pure (ay h w bs)])):=by
 have G:=Ac R;have g1:=TK R;have g2:=Tz (n:=bs.length) h6 (rows:=i5 bs ((h:Int) * (w:Int))) (by simp[i5]) (λr hr=>by
  obtain⟨j,hj,rfl⟩:=Wp.mp hr;simp[eG]) (λr hr=>by
  obtain⟨j,hj,rfl⟩:=Wp.mp hr;exact Gi R (WR.mp hj))
 have sf:=Sg G R.n0 (λi hi=>Aa R hi) (λv=>Ad (bs:=bs) v ((h:Int) * (w:Int)));have sh:=λf hf dI only=>Gp R h6 (f:=f) hf dI only
 have x2:=(lp h w bs).2.2;have ln:bh (.tup (bs.map bT))=some (.pure (.int (bs.length:Int))):=by rw[u6]; simp
 have Ag:lg [.pure (ay h w bs)]=some (.own (bE (i5 bs ((h:Int) * (w:Int)))),[.pure (ay h w bs)]):=g1;have qX:lb [.pure (bE (i5 bs ((h:Int) * (w:Int))))]=some (.own (.aw (sD (fZ bs ((h:Int) * (w:Int))).1)),[.pure (bE (i5 bs ((h:Int) * (w:Int))))]):=g2;clear g1 g2;generalize (h:Int) * (w:Int)=A at *;generalize bE (i5 bs A)=RW at *;have hm:mB bs.length < Gs:=WH (u_ h6) z7;generalize fZ bs A=s at *;generalize hnn:bs.length=n at *;generalize D.tup (bs.map bT)=BD at *;have fw:=λd δ' q=>T8 (s:=s) (n:=n) h6 (ay h w bs) BD x2 ln Ag qX d δ' q
 have lf:bh (.lst ((eX s n).map λk:Nat=>D.int (k:Int)))=some (.pure (.int ((eX s n).length:Int))):=by simp[bh]
 have gt:=gt_int ((eX s n).length:Int) 1;by_cases h1:1 < (eX s n).length
 ·obtain⟨f1,f2,r,hF⟩:∃ f1 f2 r,eX s n=f1 :: f2 :: r:=by
   match eX s n,h1 with
   | a :: b :: r,_=>exact⟨a,b,r,rfl⟩
   | [_],h=>simp at h
   | [],h=>simp at h
  have m1:=vf.mp (show f1 ∈ eX s n by rw[hF]; simp);have m2:=vf.mp (show f2 ∈ eX s n by rw[hF]; simp);have nd:(eX s n).Nodup:=List.Pairwise.filter _ List.nodup_range;refine .inl ⟨f1,f2,m1.1,m2.1,λz=>?_,m1.2,m2.2,fw .aJ [some (.pure (ay h w bs)),some (.pure (.int (n:Int))),some (.own (.aw (sD s.1))),some (.own (.lst ((eX s n).map λk:Nat=>D.int (k:Int)))),none,none,none,none,none,none] (FO ?_)⟩
  ·rw[hF,z] at nd; simp at nd
  ·rw[decide_eq_true (by omega)] at gt;clear fw hF;generalize D.lst ((eX s n).map λk:Nat=>D.int (k:Int))=FF at *;generalize D.aw (sD s.1)=Q at *;generalize ay h w bs=ru at *;generalize ((eX s n).length:Int)=z at *;simp[aB,aj,S.d,lf,gt]
 ·obtain⟨f,hf,dI⟩:=sf;have fm:f ∈ eX s n:=vf.mpr ⟨hf,dI⟩;have hF:eX s n=[f]:=by
   match eX s n,h1,fm with
   | [a],_,m=>simp at m; rw[m]
   | [],_,m=>cases m
   | a :: b :: r,h,_=>simp at h
  have only:∀ j,j < n->j≠f->cK s j:=λj hj T_=>by
   by_cases z:cK s j
   ·exact z
   ·have:=vf.mpr ⟨hj,z⟩;rw[hF] at this;simp at this;exact absurd this T_
  obtain⟨_,wl0,_,K⟩:=sh f hf dI only;have wl:wt s.1 1<=Gu:=wl0;clear wl0;refine .inr ⟨f,vv s f ((wt s.1 1:Nat):Int),hf,dI,only,K,?_⟩;obtain⟨δ',e⟩:=T7 G hm h6 hf wl rfl (by have:=K.pos; rw[hnn] at this; exact this) (λi hi=>K.le i (by rw[hnn]; exact hi)) (ay h w bs);refine fw _ δ' ?_;rw[hF];have Ua:bh (.lst [.int (f:Int)])=some (.pure (.int 1)):=rfl;have Ub:=gt_int 1 1;clear fw sh K gt lf;rw[bq (δ1:=[some (.pure (ay h w bs)),some (.pure (.int (n:Int))),some (.own (.aw (sD s.1))),some (.own (.lst [.int (f:Int)])),none,none,none,none,none,none])]
  ·exact e
  ·show b_ _ _ _ [some (.pure (ay h w bs)),some (.pure (.int (n:Int))),some (.own (.aw (sD s.1))),some (.own (.lst [.int (f:Int)])),none,none,none,none,none,none]=_;clear e;generalize D.lst [.int (f:Int)]=FF at *;generalize D.aw (sD s.1)=Q at *;generalize ay h w bs=ru at *;simp[aB,aj,S.d,Ua,Ub]
def fS(bs:List (Nat×List Tx)):D:=.aw (bs.map λb=>(Sum.inr [b.1],du b.2))
theorem Gv:∀ bs:List (Nat×List Tx),iT (bs.map bT)=some (bs.map λb=>(Sum.inr [b.1],du b.2))
 | []=>rfl
 | b :: r=>by
  have:=Gv r;simp only[Wo];simp[iT,eU,this]
theorem Uc(R:c_ h w bs):jx (.tup (bs.map bT))=some (.own (fS bs)):=by
 unfold jx;simp only[Gv,Qs,Q5];have hz:Wc=16777216:=rfl;rw[if_pos (by have:=R.n1; omega),z9]
 ·rfl
 ·simp only[QO,Wz];rw[List.nodup_iff_pairwise_ne,List.pairwise_map];have:=R.up;rw[List.pairwise_map] at this;exact this.imp λ{a b} g_=>by simp; omega
theorem Ud(bs:List (Nat×List Tx))(n:Nat):dR (bs.map λb=>((Sum.inr [b.1]:bc),du b.2)) (.inr [n])=(bs.find? λb=>decide (b.1=n)).map λb=>du b.2:=by
 unfold dR;rw[List.find?_map];simp[Function.comp_def]
theorem Ue(h:n ∈ bs.map (·.1)):j3 (fS bs) (.str [n])=some (.pure (du (ip bs n))):=by
 obtain⟨b,hb,_,e,e2⟩:=n4 h;show((eU (.str [n])).bind λk=>(dR (bs.map λb=>((Sum.inr [b.1]:bc),du b.2)) k).map S.pure)=_;simp only[eU,Qs,Ud,e,WB,e2]
theorem Ug{ds:List (bc×D)}{k:bc}{v:D}(h:dR ds k=none):putD ds k v=ds ++ [(k,v)]:=by
 unfold putD;rw[if_neg];intro q;obtain⟨kv,h1,h2⟩:=List.any_eq_true.mp q;unfold dR at h;have:=List.find?_eq_none.mp (by
  cases e:ds.find? λkv=>decide (kv.1=k) with
  | none=>rfl
  | some p=>rw[e] at h; cases h) kv h1
 exact this h2
def kd(K:List Nat):List (bc×D):=K.map λn=>(.inr [n],.bl true)
theorem Gw(K:List Nat)(n:Nat):dR (kd K) (.inr [n])=if n ∈ K then some (.bl true) else none:=by
 induction K with
 | nil=>rfl
 | cons a r ih =>
  unfold dR kd at ih ⊢;rw[Wo,WU];by_cases e:a=n
  ·simp[e]
  ·have e':n≠a:=λz=>e z.symm
   have:decide ((Sum.inr [a]:bc)=Sum.inr [n])=false:=by simp[e]
   simp only[this,ih];simp[e']
theorem Uh(K:List Nat)(n:Nat):putD (kd K) (.inr [n]) (.bl true)=kd (if n ∈ K then K else K ++ [n]):=by
 by_cases h:n ∈ K
 ·rw[if_pos h];unfold putD;have:(kd K).any (λkv=>decide (kv.1 = .inr [n]))=true:=List.any_eq_true.mpr ⟨(.inr [n],.bl true),Wp.mpr ⟨n,h,rfl⟩,by simp⟩;rw[if_pos this];unfold kd;rw[Wz];refine QT λa _=>?_
  simp only[Function.comp];split
  ·rfl
  ·rfl
 ·rw[if_neg h,Ug (by rw[Gw,if_neg h])];unfold kd;rw[WV];rfl
theorem Gx:∀ {a b:List Nat},a.Pairwise (· < ·)->b.Pairwise (· < ·)->(∀ x,x ∈ a ↔ x ∈ b)->a=b
 | [],[],_,_,_=>rfl
 | [],y :: b,_,_,h=>by have:=(h y).mpr Wh; cases this
 | x :: a,[],_,_,h=>by have:=(h x).mp Wh; cases this
 | x :: a,y :: b,ha,hb,h=>by
  obtain⟨a1,a2⟩:=Qr.mp ha;obtain⟨b1,b2⟩:=Qr.mp hb;have e:x=y:=by
   rcases Wj.mp ((h x).mp Wh) with q | q
   ·exact q
   ·rcases Wj.mp ((h y).mpr Wh) with p | p
    ·exact p.symm
    ·have:=a1 y p;have:=b1 x q;omega
  subst e;congr 1
  refine Gx a2 b2 λz=>?_
  constructor
  ·intro hz;rcases Wj.mp ((h z).mp (W9 _ hz)) with q | q
   ·have:=a1 z hz; omega
   ·exact q
  ·intro hz;rcases Wj.mp ((h z).mpr (W9 _ hz)) with q | q
   ·have:=b1 z hz; omega
   ·exact q
inductive Rc (bs:List (Nat×List Tx)) (t:Nat):Nat->Prop
 | refl:Rc bs t t
 | step {y x:Nat}:Rc bs t y->x ∈ (ip bs y).flatten->Rc bs t x
abbrev c6(ru tt dd:D)(K F:List Nat)(o5:Option S):Dl:=[some (.pure ru),some (.pure tt),some (.own dd),some (.own (.aw (kd K))),some (.own (.lst (F.map λn=>D.str [n]))),o5]
abbrev cI:DS:=(b_ (aB (aD (gL true) (aa 5) (aj 3))) (aC (kU 3 (aa 5) (eD (.bl true))) (dm 4 (aa 5))) cA)
theorem Ui(K:List Nat)(a:Nat):gL true (.str [a]) (.aw (kd K))=some (.pure (.bl (decide (a ∉ K)))):=by
 show some (S.pure (.bl (!(dR (kd K) (.inr [a])).isSome)))=_;rw[Gw];by_cases h:a ∈ K <;> simp[h]
theorem Ah(ru tt dd:D):∀ (z:Tx) (K F:List Nat) (o5:Option S),K.length + z.length<=1000->F.length + z.length<=1000 ->
  ∃ N q5,forL (ag [] 5) cI (z.map λn=>D.str [n]) (c6 ru tt dd K F o5) = .ok .next (c6 ru tt dd (K ++ N) (F ++ N) q5)/\(∀ x ∈ N,x ∈ z/\x ∉ K)/\(∀ x ∈ z,x ∈ K ++ N)/\N.Nodup
 | [],K,F,o5,_,_=>⟨[],o5,by simp,by simp,by simp,List.nodup_nil⟩
 | a :: z,K,F,o5,hK,hF=>by
  rw[WL] at hK hF;have i1:=Ui K a;have e1:ag [] 5 (.pure (.str [a])) (c6 ru tt dd K F o5)=some (c6 ru tt dd K F (some (.pure (.str [a])))):=rfl;by_cases h:a ∈ K
  ·rw[decide_eq_false (by simpa using h)] at i1;have e2:cI (c6 ru tt dd K F (some (.pure (.str [a])))) = .ok .next (c6 ru tt dd K F (some (.pure (.str [a])))):=by
    unfold c6;generalize D.aw (kd K)=Q at *;generalize (F.map λn=>D.str [n])=FL at *;simp[cI,aB,aa,aj,S.d,i1]
   obtain⟨N,q5,e,h1,h2,h3⟩:=Ah ru tt dd z K F (some (.pure (.str [a]))) (by omega) (by omega);refine⟨N,q5,?_,λx hx=>⟨W9 _ (h1 x hx).1,(h1 x hx).2⟩,λx hx=>?_,h3⟩
   ·rw[Wo,u9 e1 e2]; exact e
   ·rcases Wj.mp hx with rfl | hx
    ·exact WK _ h
    ·exact h2 x hx
  ·rw[decide_eq_true h] at i1;have kp:=Uh K a;rw[if_neg h] at kp;have hz:(kd K).length < Wc:=by rw[cU]; simp[kd]; omega
   have hf:(F.map λn=>D.str [n]).length < Wc:=by rw[cU]; simp; omega
   have eF:((F ++ [a]).map λn=>D.str [n])=(F.map λn=>D.str [n]) ++ [.str [a]]:=by simp
   have e2:cI (c6 ru tt dd K F (some (.pure (.str [a])))) = .ok .next (c6 ru tt dd (K ++ [a]) (F ++ [a]) (some (.pure (.str [a])))):=by
    unfold c6;rw[eF,<- kp];generalize (F.map λn=>D.str [n])=FL at *;generalize kd K=KK at *;simp[cI,aB,aa,aj,S.d,i1,kU,mf,eU,hz,dm,gh,putL,hf]
   obtain⟨N,q5,e,h1,h2,h3⟩:=Ah ru tt dd z (K ++ [a]) (F ++ [a]) (some (.pure (.str [a]))) (by simp; omega) (by simp; omega);refine⟨a :: N,q5,?_,λx hx=>?_,λx hx=>?_,WT.mpr ⟨λz=>(h1 a z).2 (by simp),h3⟩⟩
   ·rw[Wo,u9 e1 e2,e];simp
   ·rcases Wj.mp hx with rfl | hx
    ·exact⟨Wh,h⟩
    ·exact⟨W9 _ (h1 x hx).1,λz=>(h1 x hx).2 (WK _ z)⟩
   ·rcases Wj.mp hx with rfl | hx
    ·simp
    ·have:=h2 x hx;simp at this ⊢;rcases this with h | h | h
     ·exact .inl h
     ·exact .inr (.inl h)
     ·exact .inr (.inr h)
abbrev cT:DT:=aB (ak cZ 4 (ao (fU cP)))
abbrev cB:DS:=dZ (bL (aO (dF []) (ao (ak j3 2 (ao (o_ 4)))))) (ag [] 5) cI
theorem Gy:∀ a:List Nat,fN 49 (a.map λn=>D.str [n])=true
 | []=>rfl
 | x :: a=>by
  show(flat 49 (.str [x]) && fN 49 (a.map λn=>D.str [n]))=true;rw[Gy a];rfl
theorem Gz(F:List Nat):cZ (.lst (F.map λn=>D.str [n])) (.lst [])=some (.pure (.bl (decide (F≠[])))):=by
 unfold cZ;have h1:flat 50 (.lst (F.map λn=>D.str [n]))=true:=Gy F;have h2:flat 50 (.lst [])=true:=rfl;rw[h1,h2]
 cases F <;> rfl
structure Cm(bs:List (Nat×List Tx))(t:Nat)(K F:List Nat):Prop where
 nd:K.Nodup
 ts:∀ x ∈ K,x ∈ bs.map (·.1)
 sub:∀ x ∈ F,x ∈ K
 t0:t ∈ K
 rc:∀ x ∈ K,Rc bs t x
 cl:∀ y ∈ K,y ∉ F->∀ x ∈ (ip bs y).flatten,x ∈ K
theorem GA(R:c_ h w bs)(ru tt:D):∀ (m:Nat) (K F:List Nat) (o5:Option S) (f:Nat),Cm bs t K F->F.length + (bs.length - K.length)<=m->m < f->m<=100 ->
  ∃ K' q5,Cm bs t K' []/\dq cT cB f (c6 ru tt (fS bs) K F o5) = .ok .next (c6 ru tt (fS bs) K' [] q5)
 | m,K,[],o5,f,C,_,hf,_=>by
  obtain⟨f,rfl⟩:∃ j,f=j + 1:=⟨f - 1,by omega⟩
  refine⟨K,o5,C,zX ?_⟩;have q:=Gz [];generalize fS bs=Q at *;generalize kd K=KK at *;have q:cZ (.lst []) (.lst [])=some (.pure (.bl false)):=q;simp[cT,aB,ak,a0,aj,q]
 | 0,K,y :: F,o5,f,C,hm,_,_=>by simp at hm
 | m + 1,K,y0 :: F1,o5,f,C,hm,hf,h100=>by
  have n1:=R.n1;obtain⟨f,rfl⟩:∃ j,f=j + 1:=⟨f - 1,by omega⟩
  obtain⟨F,y,hFy⟩:∃ F y,y0 :: F1=F ++ [y]:=⟨(y0 :: F1).dropLast,(y0 :: F1).getLast (by simp),(List.dropLast_concat_getLast (by simp)).symm⟩
  rw[hFy] at C hm ⊢;simp at hm;have GB:=C.sub y (by simp);have GC:=C.ts y GB;obtain⟨b,hb,e1,e2,e3⟩:=n4 GC;obtain⟨jt,jl,jm⟩:=u7 R hb;have VP:K.length<=bs.length:=by
   have:=jE C.nd C.ts;simpa using this
  have GD:=Ue GC;rw[e3] at GD;obtain⟨N,q5,el,h1,h2,h3⟩:=Ah ru tt (fS bs) b.2.flatten K F o5 (by omega) (by omega);have q:=Gz (F ++ [y]);rw[decide_eq_true (by simp)] at q;have hT:cT (c6 ru tt (fS bs) K (F ++ [y]) o5) = .ok true (c6 ru tt (fS bs) K (F ++ [y]) o5):=by
   unfold c6;generalize D.lst ((F ++ [y]).map λn=>D.str [n])=FL at *;generalize fS bs=Q at *;generalize kd K=KK at *;simp[cT,aB,ak,a0,aj,S.d,q]
  have hI:bL (aO (dF []) (ao (ak j3 2 (ao (o_ 4))))) (c6 ru tt (fS bs) K (F ++ [y]) o5) = .ok (b.2.flatten.map λn=>D.str [n]) (c6 ru tt (fS bs) K F o5):=by
   have eF:((F ++ [y]).map λn=>D.str [n])=(F.map λn=>D.str [n]) ++ [.str [y]]:=by simp
   unfold c6;rw[eF];generalize (F.map λn=>D.str [n])=FL at *;generalize du b.2=BB at *;generalize fS bs=Q at *;generalize kd K=KK at *;simp[gn,o_,ak,a0,aj,S.d,GD,jt]
  have hB:cB (c6 ru tt (fS bs) K (F ++ [y]) o5) = .ok .next (c6 ru tt (fS bs) (K ++ N) (F ++ N) q5):=(kg hI).trans el;have C':Cm bs t (K ++ N) (F ++ N):=by
   refine⟨List.nodup_append.mpr ⟨C.nd,h3,λa ha c hc z=>(h1 c hc).2 (by rw[<- z]; exact ha)⟩,λx hx=>?_,λx hx=>?_,WK _ C.t0,λx hx=>?_,λy' je hn x hx=>?_⟩
   ·rcases Wy.mp hx with hx | hx
    ·exact C.ts x hx
    ·exact jm x (h1 x hx).1
   ·rcases Wy.mp hx with hx | hx
    ·exact WK _ (C.sub x (WK _ hx))
    ·exact WA _ hx
   ·rcases Wy.mp hx with hx | hx
    ·exact C.rc x hx
    ·exact .step (C.rc y GB) (by rw[e3]; exact(h1 x hx).1)
   ·rcases Wy.mp je with je | je
    ·by_cases z:y'=y
     ·subst z;rw[e3] at hx;exact h2 x hx
     ·refine WK _ (C.cl y' je (λq=>?_) x hx);rcases Wy.mp q with q | q
      ·exact hn (WK _ q)
      ·exact z (by simpa using q)
    ·exact absurd (WA _ je) hn
  have hN:(K ++ N).length<=bs.length:=by
   have:=jE C'.nd C'.ts;simpa using this
  rw[Qb] at hN;obtain⟨K',q5',D1,e4⟩:=GA R ru tt m (K ++ N) (F ++ N) q5 f C' (by simp; omega) (by omega) (by omega);exact⟨K',q5',D1,by rw[zW hT hB]; exact e4⟩
theorem GF(R:c_ h w bs)(ht:t ∈ bs.map (·.1)):∃ C:List Nat,C.Pairwise (· < ·)/\(∀ x,x ∈ C ↔ Rc bs t x)/\(∀ x ∈ C,x ∈ bs.map (·.1))/\fX [.pure (ay h w bs),.pure (.str [t])]=some (.own (tD C),[.pure (ay h w bs),.pure (.str [t])]):=by
 have n1:=R.n1;have x2:=(lp h w bs).2.2;have hd:=Uc R;obtain⟨K,q5,C,e⟩:=GA R (ay h w bs) (.str [t]) (t:=t) (bs.length + 1) [t] [t] none 1000000 ⟨by simp,λx hx=>by simp at hx; rw[hx]; exact ht,λx hx=>hx,by simp,λx hx=>by simp at hx; rw[hx]; exact .refl,λy hy hn=>absurd hy hn⟩ (by simp; omega) (by omega) (by omega);have hl:K.length<=bs.length:=by
  have:=jE C.nd C.ts;simpa using this
 refine⟨fR K,xS C.nd,λx=>?_,λx hx=>C.ts x (rm.mp hx),?_⟩
 ·rw[rm];refine⟨C.rc x,λhr=>?_⟩;induction hr with
  | refl=>exact C.t0
  | step _ hx ih=>exact C.cl _ ih (by simp) _ hx
 ·have p1:uK (.aw (kd K))=some (.own (.lst (K.map λn=>.str [n]))):=by
   show some (S.own (D.lst ((kd K).map λp=>uJ p.1)))=_;unfold kd;rw[Wz];rfl
  have p2:=FJ K (by omega);have et:tD (fR K) = .lst ((fR K).map λn=>D.str [n]):=rfl;rw[fX,y9,et];have k1:kd [t]=[(.inr [t],.bl true)]:=rfl;have e':dq cT cB 1000000 [some (.pure (ay h w bs)),some (.pure (.str [t])),some (.own (fS bs)),some (.own (.aw [(.inr [t],.bl true)])),some (.own (.lst [.str [t]])),none] = .ok .next (c6 (ay h w bs) (.str [t]) (fS bs) K [] q5):=e;generalize ((fR K).map λn=>D.str [n])=Y at *;generalize (K.map λn=>D.str [n])=KL at *;generalize D.tup (bs.map bT)=bd at *;generalize ay h w bs=ru at *;generalize fS bs=dd at *;refine rS (δ1:=c6 ru (.str [t]) dd K [] q5) ?_;rw[bq (δ1:=[some (.pure ru),some (.pure (.str [t])),some (.own dd),none,none,none]) (by simp[bQ,az,ak,a0,aj,x2,hd])];rw[bq (δ1:=[some (.pure ru),some (.pure (.str [t])),some (.own dd),some (.own (.aw [(.inr [t],.bl true)])),none,none]) (by simp[az,uD,aa,eU])];rw[bq (δ1:=[some (.pure ru),some (.pure (.str [t])),some (.own dd),some (.own (.aw [(.inr [t],.bl true)])),some (.own (.lst [.str [t]])),none]) (by simp[az,aa])];rw[bq e'];unfold c6;generalize kd K=kk at *;simp[aj,p1,p2]
theorem Ai:∀ a b:List Nat,dM (a.map λn=>D.str [n]) (b.map λn=>D.str [n])=decide (a=b)
 | [],[]=>rfl
 | [],_ :: _=>rfl
 | _ :: _,[]=>rfl
 | x :: a,y :: b=>by
  rw[Wo,Wo];show(aA (.str [x]) (.str [y]) && dM (a.map λn=>D.str [n]) (b.map λn=>D.str [n]))=_;rw[Ai a b];show((([x]:Tx) == [y]) && decide (a=b))=_;by_cases h1:x=y <;> by_cases h2:a=b <;> simp[h1,h2]
theorem Aj:∀ a:List Nat,fN 49 (a.map λn=>D.str [n])=true
 | []=>rfl
 | x :: a=>by
  show(flat 49 (.str [x]) && fN 49 (a.map λn=>D.str [n]))=true;rw[Aj a];rfl
theorem Uj(a b:List Nat):bU (tD a) (tD b)=some (.pure (.bl (decide (a=b)))):=by
 unfold bU;have h1:flat 50 (tD a)=true:=Aj a;have h2:flat 50 (tD b)=true:=Aj b;have h3:aA (tD a) (tD b)=decide (a=b):=Ai a b;rw[h1,h2,h3];rfl
theorem GG:∀ a:List Nat,fN 48 (a.map λn=>D.str [n])=true
 | []=>rfl
 | x :: a=>by
  show(flat 48 (.str [x]) && fN 48 (a.map λn=>D.str [n]))=true;rw[GG a];rfl
theorem GH(a:List Nat):flat 49 (tD a)=true:=GG a
theorem GI(a b:List Nat):aA (tD a) (tD b)=decide (a=b):=Ai a b
theorem Uk(C:List Nat)(fs:List (List Nat)):mw true (tD C) (.lst (fs.map tD))=some (.pure (.bl (decide (C ∉ fs)))):=by
 have h1:(fs.map tD).all (flat 49)=true:=by
  rw[WY];intro e he;obtain⟨k,_,rfl⟩:=Wp.mp he;exact GH _
 simp only[mw,GH,h1,Bool.and_self,if_true];have:(fs.map tD).any (λe=>aA e (tD C))=decide (C ∈ fs):=by
  rw[Jk,List.any_eq_true,decide_eq_true_eq];constructor
  ·rintro ⟨e,he,q⟩;obtain⟨k,hk,rfl⟩:=Wp.mp he;rw[GI,decide_eq_true_eq] at q;rw[<- q]; exact hk
  ·exactλhm=>⟨tD C,Wp.mpr ⟨C,hm,rfl⟩,by rw[GI]; simp⟩
 rw[this];simp
structure vg(h w:Nat)(bs:List (Nat×List Tx))(cm:Nat->List Nat):Prop where
 up:∀ t ∈ bs.map (·.1),(cm t).Pairwise (· < ·)
 rc:∀ t ∈ bs.map (·.1),∀ x,x ∈ cm t ↔ Rc bs t x
 ts:∀ t ∈ bs.map (·.1),∀ x ∈ cm t,x ∈ bs.map (·.1)
 go:∀ t ∈ bs.map (·.1),fX [.pure (ay h w bs),.pure (.str [t])]=some (.own (tD (cm t)),[.pure (ay h w bs),.pure (.str [t])])
open Classical in
theorem Ul(R:c_ h w bs):∃ cm,vg h w bs cm:=by
 refine⟨λt=>if ht:t ∈ bs.map (·.1) then(GF R ht).choose else[],⟨λt ht=>?_,λt ht=>?_,λt ht=>?_,λt ht=>?_⟩⟩ <;> simp only[ht,dite_true] <;> have:=(GF R ht).choose_spec
 ·exact this.1
 ·exact this.2.1
 ·exact this.2.2.1
 ·exact this.2.2.2
def lr(cm:Nat->List Nat)(t:Nat):Prop:=∀ o ∈ cm t,cm o=cm t
abbrev z6(ru:D)(fs:List (List Nat))(o2 o3 o4:Option S):Dl:=[some (.pure ru),some (.own (.lst (fs.map tD))),o2,o3,o4,none]
abbrev zB:DS:=(aC (az (aI fX [.val (aa 0),.val (aa 2)]) (ag [] 4)) (b_ (kH (aB (aO kJ (ao (bJ [5] (bL (aa 4)) (ag [] 5) a_ (aD bU (aI fX [.val (aa 0),.val (aa 5)]) (aj 4)))))) (aB (aD (mw true) (aa 4) (aj 1)))) (dm 1 (aa 4)) cA))
theorem Um(bs:List Bool):kJ (.lst (bs.map D.bl))=some (.pure (.bl (bs.all λb=>b))):=by
 unfold kJ;simp only[Oy];rfl
theorem Uo(R:c_ h w bs)(C:vg h w bs cm)(ht:t ∈ bs.map (·.1))(fs:List (List Nat))(pM:fs.length<=1000)(o3 o4:Option S) :
  ∃ mQ q4,((mQ=fs/\(¬ lr cm t\/cm t ∈ fs))\/(mQ=fs ++ [cm t]/\lr cm t/\cm t ∉ fs))/\zB (z6 (ay h w bs) fs (some (.pure (.str [t]))) o3 o4) = .ok .next (z6 (ay h w bs) mQ (some (.pure (.str [t]))) o3 q4):=by
 have n1:=R.n1;have g:=C.go t ht;have hl:(cm t).length<=bs.length:=by
  have nd:(cm t).Nodup:=List.Pairwise.imp (λh=>WP h) (C.up t ht);have:=jE nd (C.ts t ht);simpa using this
 have c:=ir (cs:=[5]) (g:=ag [] 5) (t:=a_) (el:=aD bU (aI fX [.val (aa 0),.val (aa 5)]) (aj 4)) (λn=>D.str [n]) (λo=>D.bl (decide (cm o=cm t))) (z6 (ay h w bs) fs (some (.pure (.str [t]))) o3 (some (.pure (tD (cm t))))) (cm t) [] (by rw[cU]; simp; omega) (λo ho=>by
  have go:=C.go o (C.ts t ht o ho);have eq:=Uj (cm o) (cm t);refine⟨[some (.pure (ay h w bs)),some (.own (.lst (fs.map tD))),some (.pure (.str [t])),o3,some (.pure (tD (cm t))),some (.pure (.str [o]))],_,.pure (.bl (decide (cm o=cm t))),[some (.pure (ay h w bs)),some (.own (.lst (fs.map tD))),some (.pure (.str [t])),o3,some (.pure (tD (cm t))),some (.pure (.str [o]))],rfl,rfl,?_,rfl,rfl⟩;generalize decide (cm o=cm t)=b at *;generalize tD (cm o)=T1 at *;generalize tD (cm t)=T2 at *;generalize D.lst (fs.map tD)=FS at *;generalize ay h w bs=ru at *;simp[aI,aZ,bR,bK,aa,aj,bo,go,aT,S.d,eq])
 have k1:az (aI fX [.val (aa 0),.val (aa 2)]) (ag [] 4) (z6 (ay h w bs) fs (some (.pure (.str [t]))) o3 o4) = .ok .next (z6 (ay h w bs) fs (some (.pure (.str [t]))) o3 (some (.own (tD (cm t))))):=by
  clear c;unfold z6;generalize tD (cm t)=T2 at *;generalize D.lst (fs.map tD)=FS at *;generalize ay h w bs=ru at *;simp[az,aI,aZ,bR,bK,aa,bo,g,aT]
 have iq:bL (aa 4) (z6 (ay h w bs) fs (some (.pure (.str [t]))) o3 (some (.own (tD (cm t))))) = .ok ((cm t).map λn=>D.str [n]) (z6 (ay h w bs) fs (some (.pure (.str [t]))) o3 (some (.pure (tD (cm t))))):=by
  simp[gn,aa,S.d,tD]
 have cmp:=kh (cs:=[5]) (g:=ag [] 5) (t:=a_) (el:=aD bU (aI fX [.val (aa 0),.val (aa 5)]) (aj 4)) iq rfl c;have ep:([] ++ (cm t).map λo=>D.bl (decide (cm o=cm t)))=((cm t).map λo=>decide (cm o=cm t)).map D.bl:=by rw[Wz]; rfl
 rw[ep] at cmp;have al:=Um ((cm t).map λo=>decide (cm o=cm t));have hb:(((cm t).map λo=>decide (cm o=cm t)).all λb=>b)=true ↔ lr cm t:=by
  rw[WY];constructor
  ·intro h o ho;have:=h _ (Wp.mpr ⟨o,ho,rfl⟩);simpa using this
  ·intro h b hb;obtain⟨o,ho,rfl⟩:=Wp.mp hb;simpa using h o ho
 have t1:aB (aO kJ (ao (bJ [5] (bL (aa 4)) (ag [] 5) a_ (aD bU (aI fX [.val (aa 0),.val (aa 5)]) (aj 4))))) (z6 (ay h w bs) fs (some (.pure (.str [t]))) o3 (some (.own (tD (cm t))))) = .ok (((cm t).map λo=>decide (cm o=cm t)).all λb=>b) (z6 (ay h w bs) fs (some (.pure (.str [t]))) o3 (some (.pure (tD (cm t))))):=by
  have e:aO kJ (ao (bJ [5] (bL (aa 4)) (ag [] 5) a_ (aD bU (aI fX [.val (aa 0),.val (aa 5)]) (aj 4)))) (z6 (ay h w bs) fs (some (.pure (.str [t]))) o3 (some (.own (tD (cm t))))) = .ok (.pure (.bl (((cm t).map λo=>decide (cm o=cm t)).all λb=>b))) (z6 (ay h w bs) fs (some (.pure (.str [t]))) o3 (some (.pure (tD (cm t))))):=by
   rw[uF,oU,cmp];simp only[eV,xK,uE];rw[al];rfl
  unfold aB;rw[e];rfl
 have Up:=Uk (cm t) fs;have t2:aB (aD (mw true) (aa 4) (aj 1)) (z6 (ay h w bs) fs (some (.pure (.str [t]))) o3 (some (.pure (tD (cm t))))) = .ok (decide (cm t ∉ fs)) (z6 (ay h w bs) fs (some (.pure (.str [t]))) o3 (some (.pure (tD (cm t))))):=by
  clear c k1 iq cmp t1;unfold z6;generalize decide (cm t ∉ fs)=b at *;generalize tD (cm t)=T2 at *;generalize D.lst (fs.map tD)=FS at *;generalize ay h w bs=ru at *;simp[aB,aa,aj,S.d,Up]
 have run:∀ (A B:DT) (X Y:DS) (δ:Dl) (a:Bool) (δ1:Dl),A δ = .ok a δ1->b_ (kH A B) X Y δ=(if a then b_ B X Y δ1 else Y δ1):=λA B X Y δ a δ1 h=>by
  cases a <;> simp[h]
 have GJ:∀ (B:DT) (X Y:DS) (δ:Dl) (a:Bool) (δ1:Dl),B δ = .ok a δ1->b_ B X Y δ=(if a then X δ1 else Y δ1):=λB X Y δ a δ1 h=>by
  cases a <;> simp[h]
 by_cases h1:lr cm t
 ·rw[hb.mpr h1] at t1;by_cases h2:cm t ∈ fs
  ·rw[decide_eq_false (by simpa using h2)] at t2;refine⟨fs,some (.pure (tD (cm t))),.inl ⟨rfl,.inr h2⟩,?_⟩;rw[zB,bq k1,run _ _ _ _ _ _ _ t1,if_pos rfl,GJ _ _ _ _ _ _ t2];rfl
  ·rw[decide_eq_true h2] at t2;refine⟨fs ++ [cm t],some (.pure (tD (cm t))),.inr ⟨rfl,h1,h2⟩,?_⟩;rw[zB,bq k1,run _ _ _ _ _ _ _ t1,if_pos rfl,GJ _ _ _ _ _ _ t2,if_pos rfl];have hz:(fs.map tD).length < Wc:=by rw[cU]; simp; omega
   have eA:(fs ++ [cm t]).map tD=fs.map tD ++ [tD (cm t)]:=by simp
   unfold z6;rw[eA];generalize tD (cm t)=T2 at *;generalize fs.map tD=FS at *;generalize ay h w bs=ru at *;simp[dm,gh,putL,aa,S.d,hz]
 ·have hf:(((cm t).map λo=>decide (cm o=cm t)).all λb=>b)=false:=by
   cases q:(((cm t).map λo=>decide (cm o=cm t)).all λb=>b) with
   | false=>rfl
   | true=>exact absurd (hb.mp q) h1
  rw[hf] at t1;refine⟨fs,some (.pure (tD (cm t))),.inl ⟨rfl,.inl h1⟩,?_⟩;rw[zB,bq k1,run _ _ _ _ _ _ _ t1];rfl
structure Al(bs:List (Nat×List Tx))(cm:Nat->List Nat)(k:Nat)(fs:List (List Nat)):Prop where
 nd:fs.Nodup
 of:∀ C ∈ fs,∃ t ∈ bs.map (·.1),C=cm t/\lr cm t
 all:∀ t ∈ (bs.take k).map (·.1),lr cm t->cm t ∈ fs
 le:fs.length<=k
theorem Uq(R:c_ h w bs)(C:vg h w bs cm):∃ fs,Al bs cm bs.length fs/\mI [.pure (ay h w bs)]=some (.own (.lst (fs.map tD)),[.pure (ay h w bs)]):=by
 have n1:=R.n1;have x2:=(lp h w bs).2.2;obtain⟨δ',e,fs,o2,o3,o4,S1,rfl⟩:=jy (g:=bV 2 (aY (ag [] 2) (aY (ag [] 3) bY))) (b:=zB) (λk δ=>∃ fs o2 o3 o4,Al bs cm k fs/\δ=z6 (ay h w bs) fs o2 o3 o4) (bs.map bT) 0 (z6 (ay h w bs) [] none none none) ⟨[],none,none,none,⟨List.nodup_nil,by simp,by simp,by simp⟩,rfl⟩ (λi d δ hd ⟨fs,o2,o3,o4,S1,e⟩=>by
  subst e;rw[Wl] at hd;obtain⟨b,hb,rfl⟩:=WC.mp hd;have hi:i < bs.length:=(W1.mp hb).1;have Ur:b ∈ bs:=WE hb;have ht:b.1 ∈ bs.map (·.1):=Wp.mpr ⟨b,Ur,rfl⟩;rw[QD] at S1 ⊢;obtain⟨mQ,q4,hc,e⟩:=Uo R C ht fs (by have:=S1.le; omega) (some (.pure (du b.2))) o4;refine⟨z6 (ay h w bs) fs (some (.pure (.str [b.1]))) (some (.pure (du b.2))) o4,_,rfl,e,mQ,_,_,q4,?_,rfl⟩;have tk:bs.take (i + 1)=bs.take i ++ [b]:=by
   rw[List.take_succ,hb]; rfl
  rcases hc with ⟨rfl,hc⟩ | ⟨rfl,hs,hn⟩
  ·refine⟨S1.nd,S1.of,λt e8 hs=>?_,by have:=S1.le; omega⟩;rw[tk,WV] at e8;rcases Wy.mp e8 with e8 | e8
   ·exact S1.all t e8 hs
   ·have:t=b.1:=by simpa using e8
    subst this;rcases hc with hc | hc
    ·exact absurd hs hc
    ·exact hc
  ·refine⟨List.nodup_append.mpr ⟨S1.nd,by simp,λa ha c si z=>hn ?_⟩,λD hD=>?_,λt e8 jP=>?_,by have:=S1.le; simp; omega⟩
   ·have:c=cm b.1:=by simpa using si
    rw[<- this,<- z]; exact ha
   ·rcases Wy.mp hD with hD | hD
    ·exact S1.of D hD
    ·have:D=cm b.1:=by simpa using hD
     exact⟨b.1,ht,this,hs⟩
   ·rw[tk,WV] at e8;rcases Wy.mp e8 with e8 | e8
    ·exact WK _ (S1.all t e8 jP)
    ·have:t=b.1:=by simpa using e8
     subst this;exact WA _ (by simp))
 have hlen:0 + (bs.map bT).length=bs.length:=by simp
 rw[hlen] at S1;refine⟨fs,S1,?_⟩;rw[mI,y_];refine n9 (δ1:=[some (.pure (ay h w bs)),none,o2,o3,o4,none]) ?_;have e:forL (bV 2 (aY (ag [] 2) (aY (ag [] 3) bY))) zB (bs.map bT) [some (.pure (ay h w bs)),some (.own (.lst [])),none,none,none,none] = .ok .next [some (.pure (ay h w bs)),some (.own (.lst (fs.map tD))),o2,o3,o4,none]:=e;generalize fs.map tD=FS at *;generalize bs.map bT=BD at *;generalize ay h w bs=ru at *;rw[bq (δ1:=[some (.pure ru),some (.own (.lst [])),none,none,none,none]) (by simp[bQ,az])];have iq:bL (ak ax 0 (ao (eD (.int 2)))) [some (.pure ru),some (.own (.lst [])),none,none,none,none] = .ok BD [some (.pure ru),some (.own (.lst [])),none,none,none,none]:=by
  simp[gn,ak,a0,aj,x2]
 refine(bq ((kg iq).trans e)).trans ?_;simp[j4]
section
variable {h w:Nat} {bs:List (Nat×List Tx)} (R:c_ h w bs) {cm:Nat->List Nat} (C:vg h w bs cm)
theorem vh(hx:x ∈ bs.map (·.1)):∃ j,j < bs.length/\(bs.map (·.1)).getD j 0=x:=by
 obtain⟨j,hj,e⟩:=Qe hx;refine⟨j,by simpa using hj,?_⟩;rw[Wi,W5 hj];exact e
theorem GK:0 < bM bs i j ↔ (bs.map (·.1)).getD j 0 ∈ (ip bs ((bs.map (·.1)).getD i 0)).flatten:=by
 unfold bM M;rw[<- List.count_pos_iff];omega
include R in
theorem Us(ht:t ∈ bs.map (·.1))(hx:x ∈ (ip bs t).flatten):x ∈ bs.map (·.1):=by
 obtain⟨b,hb,e1,_,e2⟩:=n4 ht;rw[e2] at hx;obtain⟨r,hr,hn⟩:=List.mem_flatten.mp hx;exact((R.ip b hb).2 r hr).2 x hn
include R in
theorem GL{P:Nat->Prop}(cl:∀ i j,i < bs.length->j < bs.length->P i->0 < bM bs i j->P j){i:Nat}(hi:i < bs.length)(hp:P i){x:Nat}(hr:Rc bs ((bs.map (·.1)).getD i 0) x):∃ j,j < bs.length/\(bs.map (·.1)).getD j 0=x/\P j:=by
 induction hr with
 | refl=>exact⟨i,hi,rfl,hp⟩
 | @step y x _ hx ih =>
  obtain⟨k,hk,rfl,pk⟩:=ih;obtain⟨j,hj,e⟩:=vh (Us R (lq hk) hx);refine⟨j,hj,e,cl k j hk hj pk (GK.mpr ?_)⟩;rw[e]; exact hx
include C in
theorem Ut(ht:t ∈ bs.map (·.1))(ho:o ∈ cm t):∀ x ∈ cm o,x ∈ cm t:=λx hx=>by
 have h1:=(C.rc t ht o).mp ho;have h2:=(C.rc o (C.ts t ht o ho) x).mp hx;refine(C.rc t ht x).mpr ?_;induction h2 with
 | refl=>exact h1
 | @step y x r kn ih =>
  exact .step (ih ((C.rc o (C.ts t ht o ho) y).mpr r)) kn
include C in
theorem Am(P:Nat->Prop)(hP:∀ t,P t->t ∈ bs.map (·.1))(cl:∀ t,P t->∀ x ∈ cm t,P x):∀ (m t:Nat),P t->(cm t).length<=m->∃ t',P t'/\lr cm t'
 | 0,t,hp,hl=>by
  have:t ∈ cm t:=(C.rc t (hP t hp) t).mpr .refl;have:=List.length_pos_of_mem this;omega
 | m + 1,t,hp,hl=>by
  by_cases q:lr cm t
  ·exact⟨t,hp,q⟩
  ·obtain⟨o,ho,cC⟩:∃ o,o ∈ cm t/\cm o≠cm t:=by
    by_cases z:∃ o,o ∈ cm t/\cm o≠cm t
    ·exact z
    ·refine absurd (λo ho=>?_) q;by_cases y:cm o=cm t
     ·exact y
     ·exact absurd ⟨o,ho,y⟩ z
   have GN:=C.ts t (hP t hp) o ho;have sub:=Ut C (hP t hp) ho;have GO:(cm o).Nodup:=List.Pairwise.imp (λh=>WP h) (C.up o GN);have le:=jE GO sub;have lt:(cm o).length < (cm t).length:=by
    by_cases z:(cm o).length < (cm t).length
    ·exact z
    ·exfalso
     apply cC;refine Gx (C.up o GN) (C.up t (hP t hp)) λx=>⟨sub x,λhx=>?_⟩
     by_cases y:x ∈ cm o
     ·exact y
     ·exfalso
      have:=jE (l:=x :: cm o) (ts:=cm t) (WT.mpr ⟨y,GO⟩) λa ha=>by
       rcases Wj.mp ha with rfl | ha
       ·exact hx
       ·exact sub a ha
      simp at this;omega
   exact Am P hP cl m o (cl t hp o ho) (by omega)
variable (h6:bs.length<=6)
include R C h6
theorem Uu(S1:Al bs cm bs.length fs) :
  (1 < fs.length/\gQ [.pure (ay h w bs)]=some (.pure .aJ,[.pure (ay h w bs)])) \/
  (¬ 1 < fs.length/\∃ f v,rX bs ((h:Int) * (w:Int)) f v/\gQ [.pure (ay h w bs)]=some (.pure (f_ bs.length v),[.pure (ay h w bs)])):=by
 have G:=Ac R;have hA:=(z_ R).2;have hr:∀ i,i < bs.length->sN bs.length (bM bs i)=(h:Int) * (w:Int):=λi hi=>Aa R hi
 have hk:=λv=>Ad (bs:=bs) v ((h:Int) * (w:Int))
 have all:∀ t ∈ bs.map (·.1),lr cm t->cm t ∈ fs:=λt ht hs=>S1.all t (by rw[List.take_length]; exact ht) hs
 rcases T9 R h6 with ⟨f1,f2,l1,l2,pH,k1,k2,g⟩ | ⟨f,v,hf,dI,only,K,g⟩
 ·refine .inl ⟨?_,g⟩;by_cases q:1 < fs.length
  ·exact q
  ·exfalso
   -- one group at most: ae first tile is in all that is closed
   have h0:0 < bs.length:=R.n0;obtain⟨t0,ht0,hs0⟩:=Am C (λt=>t ∈ bs.map (·.1)) (λt h=>h) (λt ht x hx=>C.ts t ht x hx) ((cm ((bs.map (·.1)).getD 0 0)).length) _ (lq h0) (Wf _);have zU:=all t0 ht0 hs0;have pM:fs=[cm t0]:=by
    match fs,q,zU with
    | [a],_,m=>simp at m; rw[m]
    | [],_,m=>cases m
    | a :: b :: r,hq,_=>simp at hq
   obtain⟨c0,uZ,ec0⟩:=vh ht0;refine pH (Sn G (vd bs) hA hr hk uZ (λP ⟨i,hi,pi⟩ cl=>?_) l1 l2 k1 k2);-- P has a shut group,and that is cm t0
   obtain⟨t',⟨j,hj,ej,pj⟩,jP⟩:=Am C (λt=>∃ j,j < bs.length/\(bs.map (·.1)).getD j 0=t/\P j) (λt ⟨j,hj,e,_⟩=>by rw[<- e]; exact lq hj) (λt ⟨j,hj,e,pj⟩ x hx=>by
    have ht:t ∈ bs.map (·.1):=by rw[<- e]; exact lq hj
    have rY:=(C.rc t ht x).mp hx;rw[<- e] at rY;exact GL R cl hj pj rY) (cm ((bs.map (·.1)).getD i 0)).length _ ⟨i,hi,rfl,pi⟩ (Wf _)
   have e8:t' ∈ bs.map (·.1):=by rw[<- ej]; exact lq hj
   have mq:=all t' e8 jP;rw[pM] at mq;have e:cm t'=cm t0:=by simpa using mq
   have Uv:t0 ∈ cm t':=by rw[e]; exact(C.rc t0 ht0 t0).mpr .refl
   have rY:=(C.rc t' e8 t0).mp Uv;rw[<- ej] at rY;obtain⟨k,kC,ek,pk⟩:=GL R cl hj pj rY;have:k=c0:=by
    rw[<- ec0] at ek;have up:=List.pairwise_iff_getElem.mp R.up;have rL:k < (bs.map (·.1)).length:=by simpa using kC
    have rV:c0 < (bs.map (·.1)).length:=by simpa using uZ
    rw[Wi,Wi,W5 rL,W5 rV] at ek;have ek:(bs.map (·.1))[k]=(bs.map (·.1))[c0]:=ek;by_cases a1:k < c0
    ·have:=up k c0 rL rV a1; omega
    ·by_cases a2:c0 < k
     ·have:=up c0 k rV rL a2; omega
     ·omega
   rw[<- this]; exact pk
 ·refine .inr ⟨λq=>?_,f,v,K,g⟩;obtain⟨C1,C2,r,pM⟩:∃ C1 C2 r,fs=C1 :: C2 :: r:=by
   match fs,q with
   | a :: b :: r,_=>exact⟨a,b,r,rfl⟩
   | [_],h=>simp at h
   | [],h=>simp at h
  have cC:C1≠C2:=λz=>by
   have:=S1.nd;rw[pM,z] at this;simp at this
  obtain⟨t1,ht1,e1,s1⟩:=S1.of C1 (by rw[pM]; simp);obtain⟨t2,ht2,e2,s2⟩:=S1.of C2 (by rw[pM]; simp);obtain⟨wp,_,wd,_⟩:=Gp R h6 hf dI only;obtain⟨a,ha,ea⟩:=vh ht1;obtain⟨b,hb,eb⟩:=vh ht2;have m_:∀ t ∈ bs.map (·.1),∀ i j,i < bs.length->j < bs.length->(bs.map (·.1)).getD i 0 ∈ cm t->¬ (bs.map (·.1)).getD j 0 ∈ cm t->bM bs i j=0:=λt ht i j hi hj h1 h2=>by
   by_cases z:bM bs i j=0
   ·exact z
   ·have hp:0 < bM bs i j:=by have:=vd bs i j; omega
    exact absurd ((C.rc t ht _).mpr (.step ((C.rc t ht _).mp h1) (GK.mp hp))) h2
  exact Sq G hA hr hk (P1:=λi=>(bs.map (·.1)).getD i 0 ∈ cm t1) (P2:=λi=>(bs.map (·.1)).getD i 0 ∈ cm t2) ha hb (by rw[ea]; exact(C.rc t1 ht1 t1).mpr .refl) (by rw[eb]; exact(C.rc t2 ht2 t2).mpr .refl) (m_ t1 ht1) (m_ t2 ht2) (λi hi p1 p2=>cC (by
   rw[e1,e2,<- s1 _ p1,<- s2 _ p2])) hf dI only wd (by omega)
end
def aF(v:Nat->Int)(W:Int)(i:Nat):Nat:=(v i).toNat / Jb (v i).toNat W.toNat
def bF(v:Nat->Int)(W:Int)(i:Nat):Nat:=W.toNat / Jb (v i).toNat W.toNat
theorem Uw(h0:0<=v i)(hW:0 < W):jI (v i) W = .tup [.int (aF v W i:Nat),.int (bF v W i:Nat)]:=by
 obtain⟨a,ea⟩:=Int.eq_ofNat_of_zero_le h0;obtain⟨b,eb⟩:=Int.eq_ofNat_of_zero_le (show 0<=W by omega);unfold jI aF bF;rw[ea,eb];have e1:Q4 ((a:Nat):Int) ((b:Nat):Int)=Jb a b:=rfl;rw[e1];have f1:∀ x g:Nat,((x:Nat):Int).fdiv ((g:Nat):Int)=((x / g:Nat):Int):=λx g=>(Int.ofNat_fdiv x g).symm
 rw[f1,f1];simp only[QA]
structure GP(n:Nat)(X:Nat)(v:Nat->Int)(W:Int):Prop where
 one:∀ i,i < n->Jb (aF v W i) (bF v W i)=1
 pos:∀ i,i < n->0 < bF v W i
 ble:∀ i,i < n->bF v W i<=X
 GQ:∀ i,i < n->aF v W i<=X
 Ux:∀ i,i < n->aF v W i * W.toNat=(v i).toNat * bF v W i
theorem Uy(h0:∀ i,i < n->0<=v i)(hW:0 < W)(hX:W.toNat<=X)(hv:∀ i,i < n->(v i).toNat<=X):GP n X v W:=by
 have gp:∀ i,0 < Jb (v i).toNat W.toNat:=λi=>Nat.gcd_pos_of_pos_right _ (by omega)
 refine⟨λi hi=>?_,λi hi=>?_,λi hi=>?_,λi hi=>?_,λi hi=>?_⟩
 ·exact Nat.gcd_div_gcd_div_gcd_of_pos_right (by omega)
 ·exact Nat.div_pos (Nat.le_of_dvd (by omega) (Nat.gcd_dvd_right ..)) (gp i)
 ·exact Wu (Jy _ _) hX
 ·exact Wu (Jy _ _) (hv i hi)
 ·unfold aF bF;have g:=gp i;have d1:=Nat.gcd_dvd_left (v i).toNat W.toNat;have d2:=Nat.gcd_dvd_right (v i).toNat W.toNat;generalize Jb (v i).toNat W.toNat=d at *;obtain⟨x,hx⟩:=d1;obtain⟨y,hy⟩:=d2;rw[hx,hy,Nat.mul_div_cancel_left _ g,Nat.mul_div_cancel_left _ g,JD d x,Nat.mul_assoc,Nat.mul_left_comm]
def pB(b:Nat->Nat):Nat->Nat
 | 0=>1
 | k + 1=>pB b k * b k
theorem GR(b:Nat->Nat):∀ n,i < n->b i ∣ pB b n
 | 0,h=>by omega
 | n + 1,h=>by
  show b i ∣ pB b n * b n;by_cases q:i=n
  ·subst q; exact Nat.dvd_mul_left _ _
  ·exact Nat.dvd_trans (GR b n (by omega)) (Nat.dvd_mul_right _ _)
theorem GS(h:∀ i,i < n->b i<=X):∀ k,k<=n->pB b k<=X ^ k
 | 0,_=>Wf _
 | k + 1,hk=>by
  rw[JW];exact Qo (GS h k (by omega)) (h k (by omega))
def tF(v:Nat->Int)(W:Int)(n i:Nat):Nat:=aF v W i * pB (bF v W) n / bF v W i
theorem Uz(F:GP n X v W)(hi:i < n):tF v W n i * W.toNat=(v i).toNat * pB (bF v W) n:=by
 obtain⟨c,hc⟩:=GR (bF v W) n hi;have h1:=F.Ux i hi;have h2:=F.pos i hi;have e:tF v W n i=aF v W i * c:=by
  unfold tF;rw[hc,Nat.mul_left_comm,Nat.mul_div_cancel_left _ h2]
 rw[e,hc,Nat.mul_right_comm,h1,Nat.mul_assoc]
abbrev lT:DT:=aB (ak fT 3 (ao (eD (.int 0))))
abbrev lB:DS:=j8 [] 2 3 (bS (aa 3) (bS (ak e9 2 (aj 3)) cP))
abbrev l4(x y:D)(a b:Nat):Dl:=[some (.pure x),some (.pure y),some (.pure (.int (a:Int))),some (.pure (.int (b:Int)))]
theorem UA(a b:Nat)(h:0 < b):e9 (.int (a:Int)) (.int (b:Int))=some (.pure (.int ((a % b:Nat):Int))):=by
 show(if decide (0 < (b:Int)) then some (S.pure (.int ((a:Int) % (b:Int)))) else none)=_;rw[decide_eq_true (by omega)];rfl
theorem An(x y:D)(a b:Nat)(h:0 < b)(n:Nat):dq lT lB (n + 1) (l4 x y a b)=dq lT lB n (l4 x y b (a % b)):=by
 have q:=gt_int (b:Int) 0;rw[decide_eq_true (by omega)] at q;have md:=UA a b h;refine zW (δ1:=l4 x y a b) ?_ ?_
 ·simp[lT,aB,ak,a0,aj,q]
 ·unfold l4;generalize ((a % b:Nat):Int)=c at *;simp[lB,j8,aa,ak,a0,aj,md]
theorem Ao(x y:D)(a n:Nat):dq lT lB (n + 1) (l4 x y a 0) = .ok .next (l4 x y a 0):=by
 refine zX ?_;have q:=gt_int 0 0;simp[lT,aB,ak,a0,aj,q]
theorem GU(x y:D):∀ (k a b f:Nat),b < 2 ^ k->2 * k + 1<=f->dq lT lB f (l4 x y a b) = .ok .next (l4 x y (Jb a b) 0)
 | 0,a,b,f,h,hf=>by
  obtain⟨f,rfl⟩:∃ j,f=j + 1:=⟨f - 1,by omega⟩
  have:b=0:=by simp at h; exact h
  subst this;rw[Nat.gcd_zero_right];exact Ao x y a f
 | k + 1,a,b,f,h,hf=>by
  obtain⟨f,rfl⟩:∃ j,f=j + 1 + 1 + 1:=⟨f - 3,by omega⟩
  by_cases hb:b=0
  ·subst hb;rw[Nat.gcd_zero_right];exact Ao x y a _
  ·have g1:Jb a b=Jb b (a % b):=by rw[Nat.gcd_comm a b,Nat.gcd_rec b a,Nat.gcd_comm]
   by_cases hr:a % b=0
   ·rw[An x y a b (by omega),hr,Ao,g1,hr,Nat.gcd_zero_right]
   ·have a7:=Nat.mod_lt a (show 0 < b by omega);have g2:Jb b (a % b)=Jb (a % b) (b % (a % b)):=by rw[Nat.gcd_comm b,Nat.gcd_rec (a % b) b,Nat.gcd_comm]
    have h2:b % (a % b) < 2 ^ k:=by
     have m1:=Nat.mod_lt b (show 0 < a % b by omega);have m2:b % (a % b)<=b - a % b:=by
      rw[Nat.mod_eq_sub_mod (by omega)];exact Nat.mod_le _ _
     rw[JW] at h;omega
    rw[An x y a b (by omega),An x y b (a % b) (by omega),GU x y k (a % b) (b % (a % b)) (f + 1) h2 (by omega),g1,g2]
theorem UB(hk:k<=400000)(a b:Nat)(hb:b < 2 ^ k)(h1:Jb a b=1):mJ [.pure (.int (a:Int)),.pure (.int (b:Int))]=some (.pure (.bl true),[.pure (.int (a:Int)),.pure (.int (b:Int))]):=by
 have e:=GU (.int (a:Int)) (.int (b:Int)) k a b 1000000 hb (by omega);rw[h1] at e;rw[mJ,za];refine rS (δ1:=l4 (.int (a:Int)) (.int (b:Int)) 1 0) ?_;rw[bq (δ1:=l4 (.int (a:Int)) (.int (b:Int)) a b) (by
  simp[bQ,j8,aa])]
 rw[bq e];have q:=u5 1 1;simp[ak,a0,aj,q]
def cb:Nat:=2 ^ 16000
theorem mulC(a b:Nat)(ha:a < cb)(hb:b < cb):dE (.int (a:Int)) (.int (b:Int))=some (.pure (.int ((a * b:Nat):Int))):=by
 have:=rT (k:=16000) (a:Int) (b:Int) ha hb (by decide);rw[this,Q8]
theorem GV(a:Nat):kb [.pure (.int (a:Int))]=some (.pure (.bl true),[.pure (.int (a:Int))]):=SV a
abbrev da(ru sh:D)(bt:Nat)(o3 o4 o5 o6 o7:Option S):Dl:=[some (.pure ru),some (.pure sh),some (.pure (.int (bt:Int))),o3,o4,o5,o6,o7,none,none]
abbrev gA:DS:=(b_ (gz (gG (aB (kL "tuple" (aj 3)))) (gz (aB (aD cZ (aO bh (aj 3)) (ao (eD (.int 2))))) (gz (gG (aB (aI kb [.val (ak ax 3 (ao (eD (.int 0))))]))) (gG (aB (aI kb [.val (ak ax 3 (ao (eD (.int 1))))])))))) (bN (eD (.bl false))) cA)
abbrev gC:DS:=(b_ (gz (aB (aD kI (ak ax 3 (ao (eD (.int 0)))) (ao (eD (.int 0))))) (gz (aB (aD kI (ak ax 3 (ao (eD (.int 1)))) (ao (eD (.int 1))))) (gG (aB (aI mJ [.val (ak ax 3 (ao (eD (.int 0)))),.val (ak ax 3 (ao (eD (.int 1))))]))))) (bN (eD (.bl false))) cA)
abbrev gD:DS:=(az (ak dE 2 (ao (ak ax 3 (ao (eD (.int 1)))))) (ag [] 2))
theorem GW(i j:Int):kI (.int i) (.int j)=some (.pure (.bl (decide (i < j)))):=rfl
theorem UC(ha:a < cb)(hb:b < cb)(pI:bt < cb)(h0:0 < b)(h1:Jb a b=1)(ru sh:D)(o4 o5 o6 o7:Option S) :
  aC gA (aC gC gD) (da ru sh bt (some (.pure (.tup [.int (a:Int),.int (b:Int)]))) o4 o5 o6 o7) = .ok .next (da ru sh (bt * b) (some (.pure (.tup [.int (a:Int),.int (b:Int)]))) o4 o5 o6 o7):=by
 have i0:ax (.tup [.int (a:Int),.int (b:Int)]) (.int 0)=some (.pure (.int (a:Int))):=rfl;have i1:ax (.tup [.int (a:Int),.int (b:Int)]) (.int 1)=some (.pure (.int (b:Int))):=rfl;have ty:oI "tuple" (.tup [.int (a:Int),.int (b:Int)])=some true:=rfl;have ln:bh (.tup [.int (a:Int),.int (b:Int)])=some (.pure (.int 2)):=rfl;have ne:=pJ 2 2;have w1:=GV a;have w2:=GV b;have c1:=GW (a:Int) 0;rw[decide_eq_false (by omega)] at c1;have c2:=GW (b:Int) 1;rw[decide_eq_false (by omega)] at c2;have lw:=UB (k:=16000) (by decide) a b hb h1;have ml:=mulC bt b pI hb;unfold da;generalize D.tup [.int (a:Int),.int (b:Int)]=d at *;generalize ((bt * b:Nat):Int)=y at *;generalize (bt:Int)=bti at *;generalize (a:Int)=ai at *;generalize (b:Int)=bi at *;rw[bq (δ1:=[some (.pure ru),some (.pure sh),some (.pure (.int bti)),some (.pure d),o4,o5,o6,o7,none,none]) (by
  simp[gA,aB,kL,ty,aj,S.d,ln,ne,aI,aZ,bR,bK,bo,ak,a0,i0,i1,w1,w2,aT])]
 rw[bq (δ1:=[some (.pure ru),some (.pure sh),some (.pure (.int bti)),some (.pure d),o4,o5,o6,o7,none,none]) (by
  simp[gC,aB,aj,S.d,aI,aZ,bR,bK,bo,ak,a0,i0,i1,c1,c2,lw,aT])]
 simp[gD,az,ak,a0,aj,S.d,i1,ml]
theorem UD(ts:List Nat)(f:Nat->Nat)(h:i < ts.length):ax (.lst (cG ts f)) (.int (i:Int))=some (.pure (.int ((f (ts.getD i 0):Nat):Int))):=by
 simp only[ax];unfold cG;rw[il,Wl,Wi,W5 h];rfl
abbrev gE:DE:=ak dE 8 (ao (aD ax (ak j3 5 (ao (ak ax 9 (ao (eD (.int 0)))))) (aj 6)))
abbrev gF:DS:=aC (az (aO jA (ao (bJ [8,9] (iU (aa 4) (ak ax 0 (ao (eD (.int 2))))) (bV 2 (aY (ag [] 8) (aY (ag [] 9) bY))) a_ gE))) (ag [] 7)) (b_ (aB (ak cZ 7 (ao (aD dE (aD dE (ak ax 0 (ao (eD (.int 0)))) (ao (ak ax 0 (ao (eD (.int 1)))))) (ao (ak ax 4 (aj 6))))))) (bN (eD (.bl false))) cA)
theorem UE(bs:List (Nat×List Tx))(f:Nat->D):mj ((W4 bs.length).map f) (bs.map bT)=(W4 bs.length).map λi=>D.tup [f i,bT (bs.getD i (0,[]))]:=by
 unfold mj;apply Qz;intro i;rw[List.getElem?_zipWith,Wl,Wl,Wl];by_cases hi:i < bs.length
 ·have e:bs.getD i (0,[])=bs[i]:=by rw[Wi,W5 hi]; rfl
  rw[Qd hi,W5 hi];show some (D.tup [f i,bT bs[i]])=some (D.tup [f i,bT (bs.getD i (0,[]))]);rw[e]
 ·rw[WN (by simpa using hi)];rfl
theorem UG{h w:Nat}{bs:List (Nat×List Tx)}(R:c_ h w bs){t:Nat->Nat}(ht:∀ i,i < bs.length->t i < cb){j:Nat}(hj:j < bs.length)(hS:sN bs.length (λi=>((t i:Nat):Int) * bM bs i j)=((h * w * t j:Nat):Int))(sh:D)(bt:Nat)(o3:Option S)(s4:S)(h4:s4 = .own (.lst ((W4 bs.length).map λi=>D.int ((t i:Nat):Int)))\/s4 = .pure (.lst ((W4 bs.length).map λi=>D.int ((t i:Nat):Int))))(o7:Option S) :
  ∃ q7,gF (da (ay h w bs) sh bt o3 (some s4) (some (.own (dA bs))) (some (.pure (.int (j:Int)))) o7) = .ok .next (da (ay h w bs) sh bt o3 (some (.pure (.lst ((W4 bs.length).map λi=>D.int ((t i:Nat):Int))))) (some (.own (dA bs))) (some (.pure (.int (j:Int)))) q7):=by
 have n1:=R.n1;obtain⟨x0,x1,x2⟩:=lp h w bs;have hl:(bs.map (·.1)).length=bs.length:=by simp
 have iz:iU (aa 4) (ak ax 0 (ao (eD (.int 2)))) (da (ay h w bs) sh bt o3 (some s4) (some (.own (dA bs))) (some (.pure (.int (j:Int)))) o7) = .ok ((W4 bs.length).map λi=>D.tup [D.int ((t i:Nat):Int),bT (bs.getD i (0,[]))]) (da (ay h w bs) sh bt o3 (some (.pure (.lst ((W4 bs.length).map λi=>D.int ((t i:Nat):Int))))) (some (.own (dA bs))) (some (.pure (.int (j:Int)))) o7):=by
  rw[<- UE bs (λi=>D.int ((t i:Nat):Int))];unfold da;generalize ((W4 bs.length).map λi=>D.int ((t i:Nat):Int))=TL at *;generalize bs.map bT=BD at *;generalize dA bs=DT at *;generalize ay h w bs=ru at *;rcases h4 with rfl | rfl <;> simp[iU,aa,ak,a0,aj,S.d,x2,j6]
 have c:=ir (cs:=[8,9]) (g:=bV 2 (aY (ag [] 8) (aY (ag [] 9) bY))) (t:=a_) (el:=gE) (λi=>D.tup [D.int ((t i:Nat):Int),bT (bs.getD i (0,[]))]) (λi=>D.int (((t i:Nat):Int) * bM bs i j)) (da (ay h w bs) sh bt o3 (some (.pure (.lst ((W4 bs.length).map λi=>D.int ((t i:Nat):Int))))) (some (.own (dA bs))) (some (.pure (.int (j:Int)))) o7) (W4 bs.length) [] (by rw[cU]; simp; omega) (λi hi=>by
  have hi:=WR.mp hi;have eb:(bs.getD i (0,[])).1=(bs.map (·.1)).getD i 0:=by
   rw[Wi,Wi,Wl,W5 hi];rfl
  have p0:ax (bT (bs.getD i (0,[]))) (.int 0)=some (.pure (.str [(bs.map (·.1)).getD i 0])):=by
   rw[<- eb]; rfl
  have p1:=S8 R (lq hi);have p2:=UD (bs.map (·.1)) (M bs ((bs.map (·.1)).getD i 0)) (i:=j) (by omega);have hM:M bs ((bs.map (·.1)).getD i 0) ((bs.map (·.1)).getD j 0) < cb:=by
   have h1:=FT R (lq hi) ((bs.map (·.1)).getD j 0);have h2:16 < cb:=by
    show 16 < 2 ^ 16000;exact Ww (show 16 < 2 ^ 5 by decide) (WS (by decide) (by decide))
   omega
  have ml:=mulC (t i) (M bs ((bs.map (·.1)).getD i 0) ((bs.map (·.1)).getD j 0)) (ht i hi) hM;have em:((t i * M bs ((bs.map (·.1)).getD i 0) ((bs.map (·.1)).getD j 0):Nat):Int)=((t i:Nat):Int) * bM bs i j:=Q8 _ _;rw[em] at ml;refine⟨[some (.pure (ay h w bs)),some (.pure sh),some (.pure (.int (bt:Int))),o3,some (.pure (.lst ((W4 bs.length).map λi=>D.int ((t i:Nat):Int)))),some (.own (dA bs)),some (.pure (.int (j:Int))),o7,some (.pure (.int ((t i:Nat):Int))),some (.pure (bT (bs.getD i (0,[]))))],_,.pure (.int (((t i:Nat):Int) * bM bs i j)),[some (.pure (ay h w bs)),some (.pure sh),some (.pure (.int (bt:Int))),o3,some (.pure (.lst ((W4 bs.length).map λi=>D.int ((t i:Nat):Int)))),some (.own (dA bs)),some (.pure (.int (j:Int))),o7,some (.pure (.int ((t i:Nat):Int))),some (.pure (bT (bs.getD i (0,[]))))],rfl,rfl,?_,rfl,rfl⟩;clear em hM iz hS;generalize ((t i:Nat):Int) * bM bs i j=y1 at *;generalize ((M bs ((bs.map (·.1)).getD i 0) ((bs.map (·.1)).getD j 0):Nat):Int)=y2 at *;generalize D.lst (cG (bs.map (·.1)) (M bs ((bs.map (·.1)).getD i 0)))=Q1 at *;generalize (bs.map (·.1)).getD i 0=ti at *;generalize bT (bs.getD i (0,[]))=B1 at *;generalize D.lst ((W4 bs.length).map λi=>D.int ((t i:Nat):Int))=TL at *;generalize ((t i:Nat):Int)=y3 at *;generalize dA bs=DT at *;generalize ay h w bs=ru at *;simp[gE,ak,a0,aj,S.d,p0,p1,p2,ml])
 have cmp:=kh (cs:=[8,9]) (g:=bV 2 (aY (ag [] 8) (aY (ag [] 9) bY))) (t:=a_) (el:=gE) iz rfl c;have eL:([] ++ (W4 bs.length).map λi=>D.int (((t i:Nat):Int) * bM bs i j))=((W4 bs.length).map λi=>((t i:Nat):Int) * bM bs i j).map D.int:=by rw[Wz]; rfl
 rw[eL] at cmp;have sm:=Ae ((W4 bs.length).map λi=>((t i:Nat):Int) * bM bs i j);rw[u3,hS] at sm;have k1:az (aO jA (ao (bJ [8,9] (iU (aa 4) (ak ax 0 (ao (eD (.int 2))))) (bV 2 (aY (ag [] 8) (aY (ag [] 9) bY))) a_ gE))) (ag [] 7) (da (ay h w bs) sh bt o3 (some s4) (some (.own (dA bs))) (some (.pure (.int (j:Int)))) o7) = .ok .next (da (ay h w bs) sh bt o3 (some (.pure (.lst ((W4 bs.length).map λi=>D.int ((t i:Nat):Int))))) (some (.own (dA bs))) (some (.pure (.int (j:Int)))) (some (.pure (.int ((h * w * t j:Nat):Int))))):=by
  show(aO _ _ _).bind _=_;rw[uF,oU,cmp];simp only[eV,xK,uE];rw[sm];rfl
 refine⟨some (.pure (.int ((h * w * t j:Nat):Int))),?_⟩;rw[gF,bq k1];have UH:=R.h1;have UI:=R.w1;have VQ:16 < cb:=by
  show 16 < 2 ^ 16000;exact Ww (show 16 < 2 ^ 5 by decide) (WS (by decide) (by decide))
 have VR:h * w<=4 * 4:=Qo UH UI;have m1:=mulC h w (by omega) (by omega);have m2:=mulC (h * w) (t j) (by omega) (ht j hj);have ij:ax (.lst ((W4 bs.length).map λi=>D.int ((t i:Nat):Int))) (.int (j:Int))=some (.pure (.int ((t j:Nat):Int))):=by
  simp only[ax];rw[il,Wl,Qd hj];rfl
 have ne:=pJ ((h * w * t j:Nat):Int) ((h * w * t j:Nat):Int);rw[beq_self_eq_true] at ne;clear c cmp k1 iz sm hS;unfold da;generalize D.lst ((W4 bs.length).map λi=>D.int ((t i:Nat):Int))=TL at *;generalize ((h * w * t j:Nat):Int)=y1 at *;generalize ((h * w:Nat):Int)=y2 at *;generalize ((t j:Nat):Int)=y3 at *;generalize (h:Int)=hi at *;generalize (w:Int)=wi at *;generalize dA bs=DT at *;generalize ay h w bs=ru at *;simp[aB,ak,a0,aj,S.d,x0,x1,m1,m2,ij,ne]
def cX:Nat:=2 ^ 2250
theorem UJ:cX ^ 7 < cb:=by
 show(2 ^ 2250) ^ 7 < 2 ^ 16000;rw[<- Nat.pow_mul];exact Ja (by decide) (by decide)
theorem UK:cX < k6:=by
 show 2 ^ 2250 < 2 ^ 8000;exact Ja (by decide) (by decide)
theorem UL:0 < cX:=Nat.two_pow_pos 2250
theorem Ap(h:k<=7):cX ^ k < cb:=WH (WS UL h) UJ
structure Nm(h w:Nat)(bs:List (Nat×List Tx))(a b t:Nat->Nat)(P:Nat):Prop where
 al:∀ i,i < bs.length->a i < cb
 bl:∀ i,i < bs.length->b i < cb
 bz:∀ i,i < bs.length->b i < k6
 b0:∀ i,i < bs.length->0 < b i
 one:∀ i,i < bs.length->Jb (a i) (b i)=1
 pl:∀ i,i<=bs.length->pB b i < cb
 pe:pB b bs.length=P
 te:∀ i,i < bs.length->a i * P / b i=t i
 tl:∀ i,i < bs.length->t i < cb
 st:∀ j,j < bs.length->sN bs.length (λi=>((t i:Nat):Int) * bM bs i j)=((h * w * t j:Nat):Int)
 sm:sN bs.length (λi=>((t i:Nat):Int))=(P:Int)
theorem UM(R:c_ h w bs)(h6:bs.length<=6)(K:rX bs ((h:Int) * (w:Int)) f v):Nm h w bs (aF v (sN bs.length v)) (bF v (sN bs.length v)) (tF v (sN bs.length v) bs.length) (pB (bF v (sN bs.length v)) bs.length):=by
 have hW:=K.pos;have sb:(sN bs.length v).toNat<=cX:=by
  have h1:(sN bs.length v).natAbs < cX:=Gr h6 K.le;omega
 have vb:∀ i,i < bs.length->(v i).toNat<=cX:=λi hi=>by
  have h1:=K.le i hi;have h2:(2:Nat) ^ 2240<=cX:=WS (by decide) (by decide);have h3:(v i).toNat<=(v i).natAbs:=by omega
  exact Wu h3 (Wu h1 h2)
 have F:=Uy K.nn hW sb vb;have c1:cX < cb:=by have:=Ap (k:=1) (by decide); rwa [Nat.pow_one] at this
 have tk:∀ i,i < bs.length->((tF v (sN bs.length v) bs.length i:Nat):Int) * sN bs.length v=v i * ((pB (bF v (sN bs.length v)) bs.length:Nat):Int):=λi hi=>by
  have e:=Uz F hi;have h0:=K.nn i hi;have e':((tF v (sN bs.length v) bs.length i * (sN bs.length v).toNat:Nat):Int)=(((v i).toNat * pB (bF v (sN bs.length v)) bs.length:Nat):Int):=by rw[e]
  rw[Q8,Q8,Int.toNat_of_nonneg (by omega),Int.toNat_of_nonneg h0] at e';exact e'
 have pP:=λi hi=>GS (b:=bF v (sN bs.length v)) (X:=cX) F.ble i hi
 refine⟨λi hi=>WH (F.GQ i hi) c1,λi hi=>WH (F.ble i hi) c1,λi hi=>WH (F.ble i hi) UK,F.pos,F.one,λi hi=>WH (pP i hi) (Ap (by omega)),rfl,λi hi=>rfl,λi hi=>?_,λj hj=>?_,?_⟩
 ·refine WH (Jy _ _) (WH (Qo (F.GQ i hi) (pP bs.length (Wf _))) ?_);rw[<- Nat.pow_succ'];exact Ap (by omega)
 ·have st:=K.st j hj;generalize hWW:sN bs.length v=W at *;generalize hPP:pB (bF v W) bs.length=P at *;generalize tF v W bs.length=t at *;have e:W * sN bs.length (λi=>((t i:Nat):Int) * bM bs i j)=W * ((h * w * t j:Nat):Int):=by
   rw[<- fo];have e1:sN bs.length (λi=>W * (((t i:Nat):Int) * bM bs i j))=sN bs.length (λi=>(P:Int) * (v i * bM bs i j)):=fY λi hi=>by
    rw[<- WI,WF W,tk i hi,WF (v i),WI]
   rw[e1,fo,st,Q8,Q8];rw[WF W,WI ((h:Int) * (w:Int)),tk j hj,<- WI,<- WI,WF (P:Int)];simp only[WI,WF,Int.mul_left_comm]
  exact Int.eq_of_mul_eq_mul_left (by omega) e
 ·generalize hWW:sN bs.length v=W at *;generalize hPP:pB (bF v W) bs.length=P at *;generalize tF v W bs.length=t at *;have e:W * sN bs.length (λi=>((t i:Nat):Int))=W * (P:Int):=by
   rw[<- fo];have e1:sN bs.length (λi=>W * ((t i:Nat):Int))=sN bs.length (λi=>(P:Int) * v i):=fY λi hi=>by
    rw[WF W,tk i hi,WF]
   rw[e1,fo,hWW,WF]
  exact Int.eq_of_mul_eq_mul_left (by omega) e
theorem UN(h0:∀ i,i < n->0<=v i)(hW:0 < sN n v):f_ n v = .tup ((W4 n).map λi=>D.tup [.int (aF v (sN n v) i:Nat),.int (bF v (sN n v) i:Nat)]):=by
 unfold f_;congr 1
 exact QT λi hi=>Uw (h0 i (WR.mp hi)) hW
theorem UO(R:c_ h w bs)(N:Nm h w bs a b t P):lh [.pure (ay h w bs),.pure (.tup ((W4 bs.length).map λi=>D.tup [.int (a i:Nat),.int (b i:Nat)]))]=some (.pure (.bl true),[.pure (ay h w bs),.pure (.tup ((W4 bs.length).map λi=>D.tup [.int (a i:Nat),.int (b i:Nat)]))]):=by
 have n1:=R.n1;obtain⟨x0,x1,x2⟩:=lp h w bs;have UP:=S7 R;have l1:bh (.tup (bs.map bT))=some (.pure (.int (bs.length:Int))):=by rw[u6]; simp
 have l2:bh (.tup ((W4 bs.length).map λi=>D.tup [.int (a i:Nat),.int (b i:Nat)]))=some (.pure (.int (bs.length:Int))):=by rw[u6]; simp
 have ne:=pJ (bs.length:Int) (bs.length:Int);rw[beq_self_eq_true] at ne;have sq:∀ δ:Dl,δ[1]? = some (some (.pure (.tup ((W4 bs.length).map λi=>D.tup [.int (a i:Nat),.int (b i:Nat)]))))->bL (aa 1) δ = .ok ((W4 bs.length).map λi=>D.tup [.int (a i:Nat),.int (b i:Nat)]) δ:=λδ hδ=>by
  have Td:δ.set 1 (some (.pure (.tup ((W4 bs.length).map λi=>D.tup [.int (a i:Nat),.int (b i:Nat)]))))=δ:=by
   apply Qz;intro i;by_cases hi:1=i
   ·subst hi;rw[Wa (W1.mp hδ).1,hδ]
   ·rw[W6 hi]
  simp[gn,aa,hδ,S.d]
 -- the bottoms
 obtain⟨δ',e1,o3,xZ,rfl⟩:=jy (g:=ag [] 3) (b:=aC gA (aC gC gD)) (λi δ=>∃ o3,(∀ d,o3≠some (S.own d))/\δ=da (ay h w bs) (.tup ((W4 bs.length).map λi=>D.tup [.int (a i:Nat),.int (b i:Nat)])) (pB b i) o3 none none none none) ((W4 bs.length).map λi=>D.tup [.int (a i:Nat),.int (b i:Nat)]) 0 (da (ay h w bs) (.tup ((W4 bs.length).map λi=>D.tup [.int (a i:Nat),.int (b i:Nat)])) 1 none none none none none) ⟨none,(λd=>by simp),rfl⟩ (λi d δ hd ⟨o3,_,e⟩=>by
  subst e;have hi:i < bs.length:=by
   have:=(W1.mp hd).1;simpa using this
  have pT:d = .tup [.int (a i:Nat),.int (b i:Nat)]:=by
   rw[Wl,Qd hi] at hd;simpa using hd.symm
  subst pT;rw[QD];exact⟨_,_,rfl,UC (N.al i hi) (N.bl i hi) (N.pl i (by omega)) (N.b0 i hi) (N.one i hi) _ _ _ _ _ _,_,(λd=>by simp),rfl⟩)
 have hlen:0 + ((W4 bs.length).map λi=>D.tup [.int (a i:Nat),.int (b i:Nat)]).length=bs.length:=by simp
 rw[hlen,N.pe] at e1;-- the tops
 have c:=ir (cs:=[3]) (g:=ag [] 3) (t:=a_) (el:=aD gk (aD dE (ak ax 3 (ao (eD (.int 0)))) (aj 2)) (ao (ak ax 3 (ao (eD (.int 1)))))) (λi=>D.tup [.int (a i:Nat),.int (b i:Nat)]) (λi=>D.int (t i:Nat)) (da (ay h w bs) (.tup ((W4 bs.length).map λi=>D.tup [.int (a i:Nat),.int (b i:Nat)])) P none none none none none) (W4 bs.length) [] (by rw[cU]; simp; omega) (λi hi=>by
  have hi:=WR.mp hi;have i0:ax (.tup [.int (a i:Nat),.int (b i:Nat)]) (.int 0)=some (.pure (.int (a i:Nat))):=rfl;have i1:ax (.tup [.int (a i:Nat),.int (b i:Nat)]) (.int 1)=some (.pure (.int (b i:Nat))):=rfl;have hP:P < cb:=by rw[<- N.pe]; exact N.pl _ (Wf _)
  have ml:=mulC (a i) P (N.al i hi) hP;have b0:=N.b0 i hi;have dv:=o9 ((a i * P:Nat):Int) ((b i:Nat):Int) (by omega) (by rw[Jl]; exact N.bz i hi);have f1:((a i * P:Nat):Int).fdiv ((b i:Nat):Int)=((t i:Nat):Int):=by
   rw[<- Int.ofNat_fdiv,N.te i hi]
  rw[f1] at dv;refine⟨[some (.pure (ay h w bs)),some (.pure (.tup ((W4 bs.length).map λi=>D.tup [.int (a i:Nat),.int (b i:Nat)]))),some (.pure (.int (P:Int))),some (.pure (.tup [.int (a i:Nat),.int (b i:Nat)])),none,none,none,none,none,none],_,.pure (.int (t i:Nat)),[some (.pure (ay h w bs)),some (.pure (.tup ((W4 bs.length).map λi=>D.tup [.int (a i:Nat),.int (b i:Nat)]))),some (.pure (.int (P:Int))),some (.pure (.tup [.int (a i:Nat),.int (b i:Nat)])),none,none,none,none,none,none],rfl,rfl,?_,rfl,rfl⟩;clear f1 hP e1 sq;generalize D.tup ((W4 bs.length).map λi=>D.tup [.int (a i:Nat),.int (b i:Nat)])=SH at *;generalize D.tup [.int (a i:Nat),.int (b i:Nat)]=Q at *;generalize ((a i * P:Nat):Int)=y1 at *;generalize ((t i:Nat):Int)=y2 at *;generalize ((a i:Nat):Int)=y3 at *;generalize ((b i:Nat):Int)=y4 at *;generalize (P:Int)=y5 at *;generalize ay h w bs=ru at *;simp[ak,a0,aj,S.d,i0,i1,ml,dv])
 -- the places
 obtain⟨δ',e2,o6,o7,s4,h4,rfl⟩:=jy (g:=ag [] 6) (b:=gF) (λi δ=>∃ o6 o7 s4,(s4=S.own (.lst ((W4 bs.length).map λi=>D.int ((t i:Nat):Int)))\/s4=S.pure (.lst ((W4 bs.length).map λi=>D.int ((t i:Nat):Int))))/\δ=da (ay h w bs) (.tup ((W4 bs.length).map λi=>D.tup [.int (a i:Nat),.int (b i:Nat)])) P o3 (some s4) (some (.own (dA bs))) o6 o7) (cg 0 bs.length) 0 (da (ay h w bs) (.tup ((W4 bs.length).map λi=>D.tup [.int (a i:Nat),.int (b i:Nat)])) P o3 (some (.own (.lst ((W4 bs.length).map λi=>D.int ((t i:Nat):Int))))) (some (.own (dA bs))) none none) ⟨none,none,_,.inl rfl,rfl⟩ (λi d δ hd ⟨o6,o7,s4,h4,e⟩=>by
  subst e;obtain⟨hi,rfl⟩:=tU hd;rw[Int.zero_add];obtain⟨q7,e⟩:=UG R N.tl hi (N.st i hi) (.tup ((W4 bs.length).map λi=>D.tup [.int (a i:Nat),.int (b i:Nat)])) P o3 s4 h4 o7;exact⟨_,_,rfl,e,_,q7,_,.inr rfl,rfl⟩)
 have sm:=Ae ((W4 bs.length).map λi=>((t i:Nat):Int));rw[u3,N.sm] at sm;have eT:(((W4 bs.length).map λi=>((t i:Nat):Int)).map D.int)=(W4 bs.length).map λi=>D.int ((t i:Nat):Int):=by rw[Wz]; rfl
 rw[eT] at sm;have eq:=u5 (P:Int) (P:Int);rw[beq_self_eq_true] at eq;have lt:bh (.lst ((W4 bs.length).map λi=>D.int ((t i:Nat):Int)))=some (.pure (.int (bs.length:Int))):=by simp[bh]
 have rn:=mr bs.length (by omega);rw[lh,zd];refine rS (δ1:=da (ay h w bs) (.tup ((W4 bs.length).map λi=>D.tup [.int (a i:Nat),.int (b i:Nat)])) P o3 (some s4) (some (.own (dA bs))) o6 o7) ?_;have ty:oI "tuple" (.tup ((W4 bs.length).map λi=>D.tup [.int (a i:Nat),.int (b i:Nat)]))=some true:=rfl;rw[bq (δ1:=[some (.pure (ay h w bs)),some (.pure (.tup ((W4 bs.length).map λi=>D.tup [.int (a i:Nat),.int (b i:Nat)]))),none,none,none,none,none,none,none,none]) (by
  clear e1 c e2 sq;generalize D.tup ((W4 bs.length).map λi=>D.tup [.int (a i:Nat),.int (b i:Nat)])=SH at *;generalize D.tup (bs.map bT)=BD at *;generalize ay h w bs=ru at *;simp[bQ,aB,kL,ty,aj,ak,a0,S.d,x2,l1,l2,ne])]
 rw[bq (δ1:=da (ay h w bs) (.tup ((W4 bs.length).map λi=>D.tup [.int (a i:Nat),.int (b i:Nat)])) 1 none none none none none) (by
  clear e1 c e2 sq;generalize D.tup ((W4 bs.length).map λi=>D.tup [.int (a i:Nat),.int (b i:Nat)])=SH at *;generalize ay h w bs=ru at *;simp[az])]
 rw[bq ((kg (sq _ rfl)).trans e1)];have gI:([3]:List Nat).any (cj (da (ay h w bs) (.tup ((W4 bs.length).map λi=>D.tup [.int (a i:Nat),.int (b i:Nat)])) P o3 none none none none))=false:=by
  cases o3 with
  | none=>rfl
  | some s =>
   cases s with
   | pure d=>rfl
   | own d=>exact absurd rfl (xZ d)
 have cmp:=kh (cs:=[3]) (g:=ag [] 3) (t:=a_) (el:=aD gk (aD dE (ak ax 3 (ao (eD (.int 0)))) (aj 2)) (ao (ak ax 3 (ao (eD (.int 1)))))) (sq (da (ay h w bs) (.tup ((W4 bs.length).map λi=>D.tup [.int (a i:Nat),.int (b i:Nat)])) P o3 none none none none) rfl) gI c;rw[bq (δ1:=da (ay h w bs) (.tup ((W4 bs.length).map λi=>D.tup [.int (a i:Nat),.int (b i:Nat)])) P o3 (some (.own (.lst ((W4 bs.length).map λi=>D.int ((t i:Nat):Int))))) none none none) (by
  show(bJ _ _ _ _ _ _).bind _=_;rw[cmp];rfl)]
 rw[bq (δ1:=da (ay h w bs) (.tup ((W4 bs.length).map λi=>D.tup [.int (a i:Nat),.int (b i:Nat)])) P o3 (some (.own (.lst ((W4 bs.length).map λi=>D.int ((t i:Nat):Int))))) (some (.own (dA bs))) none none) (by
  clear e1 c e2 sq cmp;unfold da;generalize D.tup ((W4 bs.length).map λi=>D.tup [.int (a i:Nat),.int (b i:Nat)])=SH at *;generalize D.lst ((W4 bs.length).map λi=>D.int ((t i:Nat):Int))=TL at *;generalize dA bs=DT at *;generalize ay h w bs=ru at *;simp[az,aI,aZ,bR,bK,aa,bo,UP,aT])]
 have iq:dY (aO bh (aj 4)) (da (ay h w bs) (.tup ((W4 bs.length).map λi=>D.tup [.int (a i:Nat),.int (b i:Nat)])) P o3 (some (.own (.lst ((W4 bs.length).map λi=>D.int ((t i:Nat):Int))))) (some (.own (dA bs))) none none) = .ok (cg 0 bs.length) (da (ay h w bs) (.tup ((W4 bs.length).map λi=>D.tup [.int (a i:Nat),.int (b i:Nat)])) P o3 (some (.own (.lst ((W4 bs.length).map λi=>D.int ((t i:Nat):Int))))) (some (.own (dA bs))) none none):=by
  clear e1 c e2 sq cmp;unfold da;generalize D.tup ((W4 bs.length).map λi=>D.tup [.int (a i:Nat),.int (b i:Nat)])=SH at *;generalize D.lst ((W4 bs.length).map λi=>D.int ((t i:Nat):Int))=TL at *;generalize dA bs=DT at *;generalize ay h w bs=ru at *;simp[aj,S.d,lt,rn]
 refine(bq ((kg iq).trans e2)).trans ?_;clear e1 c e2 sq cmp iq;unfold da;generalize D.tup ((W4 bs.length).map λi=>D.tup [.int (a i:Nat),.int (b i:Nat)])=SH at *;generalize D.lst ((W4 bs.length).map λi=>D.int ((t i:Nat):Int))=TL at *;generalize dA bs=DT at *;generalize ay h w bs=ru at *;rcases h4 with rfl | rfl <;> simp[aj,S.d,sm,eq]
theorem UQ(R:c_ h w bs)(h6:bs.length<=6)(K:rX bs ((h:Int) * (w:Int)) f v):lh [.pure (ay h w bs),.pure (f_ bs.length v)]=some (.pure (.bl true),[.pure (ay h w bs),.pure (f_ bs.length v)]):=by
 rw[UN K.nn K.pos];exact UO R (UM R h6 K)
theorem GX(a b:Bool):cZ (.bl a) (.bl b)=some (.pure (.bl (a != b))):=by cases a <;> cases b <;> rfl
abbrev y4(ft:D)(a1 a2 a3:Option S):Dl:=[some (.pure ft),a1,a2,a3]
abbrev y0:DS:=(az (oP k_ (aI mG [.val (aa 1)]) [.val (eD (.int 6))]) (ag [] 2))
abbrev y1:DS:=(az (aI gQ [.val (aa 2)]) (ag [] 3))
abbrev y2:DS:=(b_ (aB (aD cZ (aD (gM false) (aa 3) (ao (eD .aJ))) (ao (aD fT (aO bh (ao (aI mI [.val (aa 2)]))) (ao (eD (.int 1))))))) (bN (eD (.bl false))) cA)
abbrev y3:DS:=(b_ (kH (aB (aD (gM true) (aa 3) (ao (eD .aJ)))) (gG (aB (aI lh [.val (aa 2),.val (aa 3)])))) (bN (eD (.bl false))) cA)
abbrev yE:DS:=(b_ (aB (aD cZ (aI gQ [.val (aa 2)]) (aj 3))) (bN (eD (.bl false))) cA)
theorem GY(g:Nat->D)(hg:∀ i,flat 49 (g i)=true):∀ l:List Nat,fN 49 (l.map g)=true
 | []=>rfl
 | x :: l=>by
  show(flat 49 (g x) && fN 49 (l.map g))=true;rw[hg x,GY g hg l]; rfl
theorem GZ:∀ (g:Nat->D),(∀ i,aA (g i) (g i)=true)->∀ l:List Nat,dM (l.map g) (l.map g)=true
 | g,hg,[]=>rfl
 | g,hg,x :: l=>by
  show(aA (g x) (g x) && dM (l.map g) (l.map g))=true;rw[hg x,GZ g hg l]; rfl
theorem UR(n:Nat)(v:Nat->Int):cZ (f_ n v) (f_ n v)=some (.pure (.bl false)):=by
 unfold cZ;have h1:flat 50 (f_ n v)=true:=GY (λi=>jI (v i) (sN n v)) (λi=>rfl) (W4 n);have h2:aA (f_ n v) (f_ n v)=true:=GZ (λi=>jI (v i) (sN n v)) (λi=>by
  unfold jI;show((_ == _) && ((_ == _) && true))=true;simp) (W4 n)
 rw[h1,h2];rfl
theorem US(ft:D)(c:Int)(o2 o3:Option S):∃ q2 q3,(aC y0 (aC y1 (aC y2 (aC y3 yE)))) (y4 ft (some (.pure (.int c))) o2 o3) = .ok .next (y4 ft (some (.pure (.int c))) q2 q3):=by
 obtain⟨d0,e0,p0⟩:=Su c;obtain⟨h,w,bs,d1,e1,R,h6,_⟩:=SJ p0 6 (by decide) (by decide);have e1:k_ [.own d0,.pure (.int 6)]=some (.pure (ay h w bs),[.own d1,.pure (.int 6)]):=e1;obtain⟨cm,C⟩:=Ul R;obtain⟨fs,S1,gs⟩:=Uq R C;have ln:bh (.lst (fs.map tD))=some (.pure (.int (fs.length:Int))):=by simp[bh]
 have gt:=gt_int (fs.length:Int) 1;have k0:y0 (y4 ft (some (.pure (.int c))) o2 o3) = .ok .next (y4 ft (some (.pure (.int c))) (some (.pure (ay h w bs))) o3):=by
  generalize ay h w bs=ru at *;simp[y0,az,oP,aI,aZ,bR,bK,aa,bo,e0,e1,aT]
 rcases Uu R C h6 S1 with ⟨hl,g⟩ | ⟨hl,f,v,K,g⟩
 ·refine⟨some (.pure (ay h w bs)),some (.pure .aJ),?_⟩;rw[decide_eq_true (by omega)] at gt;have nb:=GX true true;have i1:gM false .aJ .aJ=some (.pure (.bl true)):=rfl;have i2:gM true .aJ .aJ=some (.pure (.bl false)):=rfl;have n2:cZ .aJ .aJ=some (.pure (.bl false)):=rfl;rw[bq k0];clear k0;generalize D.lst (fs.map tD)=FS at *;generalize ay h w bs=ru at *;generalize (fs.length:Int)=fl at *;rw[bq (δ1:=y4 ft (some (.pure (.int c))) (some (.pure ru)) (some (.pure .aJ))) (by simp[y1,az,aI,aZ,bR,bK,aa,bo,g,aT])];rw[bq (δ1:=y4 ft (some (.pure (.int c))) (some (.pure ru)) (some (.pure .aJ))) (by simp[y2,aB,aI,aZ,bR,bK,aa,bo,gs,aT,S.d,i1,ln,gt,nb])];rw[bq (δ1:=y4 ft (some (.pure (.int c))) (some (.pure ru)) (some (.pure .aJ))) (by simp[y3,aB,aa,S.d,i2])];simp[yE,aB,aI,aZ,bR,bK,aa,aj,bo,g,aT,S.d,n2]
 ·refine⟨some (.pure (ay h w bs)),some (.pure (f_ bs.length v)),?_⟩;rw[decide_eq_false (by omega)] at gt;have nb:=GX false false;have i1:gM false (f_ bs.length v) .aJ=some (.pure (.bl false)):=rfl;have i2:gM true (f_ bs.length v) .aJ=some (.pure (.bl true)):=rfl;have n2:=UR bs.length v;have gg:=UQ R h6 K;rw[bq k0];clear k0;generalize f_ bs.length v=SH at *;generalize D.lst (fs.map tD)=FS at *;generalize ay h w bs=ru at *;generalize (fs.length:Int)=fl at *;rw[bq (δ1:=y4 ft (some (.pure (.int c))) (some (.pure ru)) (some (.pure SH))) (by simp[y1,az,aI,aZ,bR,bK,aa,bo,g,aT])];rw[bq (δ1:=y4 ft (some (.pure (.int c))) (some (.pure ru)) (some (.pure SH))) (by simp[y2,aB,aI,aZ,bR,bK,aa,bo,gs,aT,S.d,i1,ln,gt,nb])];rw[bq (δ1:=y4 ft (some (.pure (.int c))) (some (.pure ru)) (some (.pure SH))) (by simp[y3,aB,aa,S.d,i2,aI,aZ,bR,bK,bo,gg,aT])];simp[yE,aB,aI,aZ,bR,bK,aa,aj,bo,g,aT,S.d,n2]
theorem UT(ns:List Int)(hn:ns.length<=63):nZ [.pure (.lst (ns.map .int))]=some (.pure (.bl true),[.pure (.lst (ns.map .int))]):=by
 obtain⟨c0,e0⟩:=Sv ns;have UU:∀ (ns:List Int) (lo hi:Option Int),cY (ns.map D.int) lo hi=(cY ns lo hi).map D.int:=λns lo hi=>by
  unfold cY;simp[List.map_take,List.map_drop]
 have ha:bX (.lst [.int c0]) (.lst (cY (ns.map .int) (some 1) (some 5)))=some (.own (.lst ((c0 :: cY ns (some 1) (some 5)).map .int))):=by
  rw[UU];have hl:(cY ns (some 1) (some 5)).length<=63:=by
   unfold cY;simp;omega
  simp only[bX];rw[if_pos (by rw[cU]; simp; omega)];simp
 have hs:iK (some 1) (some 5) (.lst (ns.map .int))=some (.own (.lst (cY (ns.map .int) (some 1) (some 5)))):=rfl;generalize D.lst (ns.map .int)=ft at *;obtain⟨δ',e,o1,o2,o3,rfl⟩:=jy (g:=ag [] 1) (b:=(aC y0 (aC y1 (aC y2 (aC y3 yE)))))
  (λ_ δ=>∃ (o1 o2 o3:Option S),δ=y4 ft o1 o2 o3) ((c0 :: cY ns (some 1) (some 5)).map .int) 0 (y4 ft none none none) ⟨none,none,none,rfl⟩ (λi d δ hd ⟨o1,o2,o3,e⟩=>by
   subst e;simp only[Wl,WC] at hd;obtain⟨k,_,rfl⟩:=hd;obtain⟨q2,q3,e⟩:=US ft k o2 o3;exact⟨_,_,rfl,e,_,_,_,rfl⟩)
 generalize ((c0 :: cY ns (some 1) (some 5)).map D.int)=cs at *;generalize D.lst (cY (ns.map .int) (some 1) (some 5))=cl at *;rw[nZ];refine n9 (δ1:=y4 ft o1 o2 o3) ?_;rw[zg];have qi:bL (aD bX (fU (bS (aI mE [.val (aa 0),.val (eD (.int 0))]) cP)) (ao (kM 0 (jr (eD (.int 1))) (jr (eD (.int 5)))))) (y4 ft none none none) = .ok cs (y4 ft none none none):=by
  simp[gn,aI,aZ,bR,bK,aa,bo,e0,aT,kM,jr,aj,hs,ha]
 refine(bq ((kg qi).trans e)).trans ?_;rfl
theorem UW(ns:List Int)(h:ns.length<=63):∃ aW,nZ [.pure (.lst (ns.map .int))]=some (.pure (.bl true),aW):=⟨_,UT ns h⟩
end K21
open PySem PySem.W PyProof.Rows
namespace PySem.W.Fast
def tw216282699460549005:=0
def tw7482258844770456421:=0
def tw13046951092729694161:=0
def tw10738505775675100156:=0
def tw5962330297685869172:=0
def tw8185024030943478618:=0
def tw8363958188457846742:=0
def tw5755961342961791010:=0
def tw10351789620768879306:=0
def tw17412635296413520698:=0
def tw3471271188341450824:=0
def tw3326920843289987389:=0
def tw4990217448473137025:=0
def tw8775254702903209461:=0
def tw2184967942155437911:=0
def tw1589470989751473126:=0
def tw1269464446686998342:=0
def tw17520472441247856433:=0
def tw17454424634346517016:=0
end PySem.W.Fast
set_option maxRecDepth 100000 in
set_option maxHeartbeats 0 in
theorem PySem.Challenge.cw_tilegrow_k21_still_shares_holds : PySem.Challenge.rw_tilegrow_k21_still_shares.Holds := by
 w_on; o_law; k_head; (case hw=>w_witness2)
 k_fill
 refine DV.M8 (l:=PySem.Challenge.rw_tilegrow_k21_still_shares) (k:=6) (G:=K21.nZ) rfl rfl ⟨rfl,by decide,by decide⟩ (λw h Y=>PySem.W.kIn_of Y) ?L K21.UW ?F
 case L=>intro p; exact Eq.refl true
 case F =>
  intro w mg fa h KX G qt;refine' K21.all_mk KX G qt ?d0 ?d1 ?d2 ?d3 ?d4 ?d5 ?d6 ?d7 ?d8 ?d9 ?zo ?zq ?zt ?zu ?zv ?zw ?zx ?zy ?zz ?zA ?zC ?zD ?zE ?zF ?zG ?zH ?pq ?rD ?rE ?pw ?pA ?mD ?fH ?rF ?rG ?iw ?pC ?nT ?jC ?pD
  (case d0|d1|d2|d3|d4|d5|d6|d7|d8|d9|zo|zq|zt|zu|zv|zw|zx|zy|zz|zA|zC|zD=>exact⟨_,_,_,_,_,_,_,_,_,_,by k_is,by k_is,by k_is,by k_is⟩)
  (case zE|zF|zG|zH|pq|rD|rE|pw|pA|mD|fH|rF|rG|iw|pC|nT|jC|pD=>k_is)
