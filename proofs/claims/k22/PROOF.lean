import PyProof.Rows.All
import Wide.All
import OpenK.AllK
import Wide.FinOn
import Lean
import PyProof.EqAt
import PyProof.EqKinds
import PyProof.TupleCall
import PyProof.NeKinds
import PyProof.StrWalks
import PyProof.ListStr
import PyProof.StrOps2
import PyProof.StrLawsIn
import KE.KDictOf
import PyProof.AttrMissHeap
import PyProof.Draws
import PyProof.EnumMake
import PyProof.Rows.EnumRows
import PyProof.LongRange
import PyProof.NoPylong
import PyProof.SeqI3
import PyProof.Rows.SeqCalls
import PyProof.StrLawsChain
import PyProof.StrCalls2
import KE.KIntText
import PyProof.Rows.CallKwBuiltin
import OpenK.KOwn
import OpenK.KRaise
import PyProof.ExcBaseAll.ValueError
import PyProof.Rows.CatchOwn
import KE.KIsAll
import PyProof.ExcArgsOwn
import PyProof.ExcAttrAll.ValueError
import PyProof.Rows.SeqMore2
import PyProof.ListMulAny
import PyProof.ListMulRoad
import PyProof.ZipIter
import PyProof.Rows.FactsT2
import PyProof.ExcInit
import PyProof.InstStoreFacts
import PyProof.StrCalls
import PyProof.FactsAll.dict_1
import PyProof.FactsAll.subtypes_3
import PyProof.FactsAll.subtypes_4
import PyProof.Dict
import PyProof.MinMaxWalk
import PyProof.WalkInts
import PyProof.WalksMore
import PyProof.FactsAll.tuple_2
import KE.KSortTup
import PyProof.Rows.SortWalk
import PyProof.Rows.SetFrom
import PyProof.DictKinds
import PyProof.DictStraight
import PyProof.SetRoads
import PyProof.CollectWalk
import PyProof.CollectStr
import PyProof.DictIter
import PyProof.Rows.SortShell
import KE.KItemsList
import PyProof.Rows.SortStr
import PyProof.DictItemsLoops
import PyProof.ListNew
import PyProof.Rows.SumAny
import KE.IntBitsLaws
import KE.KLam
import KE.KDictList
import KE.KNestM
import PyProof.DictRoadsH
import PyProof.Rows.TupDisplay
import PyProof.DictTruth
import PyProof.DictWalks
import PySem.Challenge.RW_tilegrow_k22_shares_by_anybody
open PySem renaming wpAny_bind→W0,Shared→W2,wpAny_pure→W7,Spec→W9,sizeLine→We,wpAny→Wf,starEach→Wk,Program→Wm,World→Wr,Around→Wt,mem_of_lookup→WD,mainGlobals→WE,compareOp→WL,cLine→WT,wpAny_field→WU,binaryOp→WV,wpAny_call_entry→WW,wpAny_callSpecial?_slot→WY,wpAny_newObj_type→WZ,wpAny_setField_rec→Q2,assignEach→Qb,FuncData→Qj,wpAny_holding→Ql,wpAny_truthy_bool→Qo,behindInMarks→Qu,bootBuiltins→QB,sysModules→QE,wpAny_mono→QF,typeIs_int→QG,cellsFrom→QH,wpAny_seqItems→QI,call_meets→QO,wpAny_typeNameOfWhole_itemiter→QQ,foldedSetIterable→QS,attributeBase→QT,backTo→QW,wpAny_passesOwn→J2,wpAny_loadPart'→J3,pyNext→J8,wpAny_rule→Ja,wpAny_binaryOp_repeat_ref→Jc,wpAny_typeNameOf_itemiter→Jd,codeAny→Jn,swapsWith→Jp,swapsWithSole→Jq,swappedStores→Jr,sliceBounds→Jt,wpAny_typeOf→JC,tupleKind_room_in1→JD,pushCells→JE,getattributeRaised→JI,getItem→JL,wpAny_pyIter_list→JO,wpAny_dictEntries→JR
open PySem.W renaming Frag→W1,mg_none_of→WM,kia_one→Qf,fnOf→QN,kitOne→QY,keepIn→JK
open List renaming range→W3,getElem?_eq_getElem→W4,getElem?_set_ne→W5,getElem?_eq_some_iff→W6,mem_cons_of_mem→Wa,getElem?_set_self→Wb,replicate→Wc,getElem?_map→Wh,getD_eq_getElem?_getD→Wi,mem_cons_self→Wj,mem_cons→Wl,size_toArray→Wo,mem_map→Wq,map_cons→Wu,map_map→Wy,mem_range→WA,getElem?_eq_none→WB,mem_append→WC,mem_append_right→WK,mem_of_getElem?→WO,length_cons→WP,getElem?_range→WR,getElem_mem→WX,length_set→Q3,find?_cons→Q4,all_eq_true→Q5,replicate_succ→Q7,getElem?_set→Q8,length_map→Q9,ext_getElem?→Qc,any_cons→Qd,map_append→Qh,length_append→Qi,lookup_cons→Qk,zipWith→Qm,getElem_of_mem→Qp,drop_eq_getElem_cons→Qr,flatten_cons→Qx,mem_filter→Qz,nodup_cons→QM,nil_append→J4,mem_append_left→J9,mem_map_of_mem→Ji,foldl_cons→Jl,take_of_length_le→Jm,length→Js,map_congr_left→Jw,append_nil→Jy,of_mem_zip→Jz,all_map→JF,pairwise_cons→JG,any_eq_false→JN,all_cons→JU,length_take→JW,range'_succ→JX,forIn_cons→JZ
open Option.some renaming injEq→W8,inj→Wz
open PySem.Heap renaming get?_push_of_some→Wd,get?_push_size→Wn,lt_size→Wp,size_push→Qv,SameBut→QK
open Nat renaming le_refl→Wg,le_trans→Ws,lt_of_lt_of_le→Wv,lt_of_le_of_lt→Wx,pow_le_pow_right→WJ,ne_of_lt→WS,gcd→Qa,mul_le_mul→Qe,zero_le→Qg,lt_irrefl→Qt,le_of_lt→QC,zero_add→QD,mul_le_mul_right→QR,mul_div_cancel_left→QV,lt_trans→J1,div_le_self→J5,pow_lt_pow_right→Je,ne_of_gt→Jf,lcm→Jv,mul_comm→JH,pow_add→JT,mul_assoc→JV,pow_succ→U0,two_pow_pos→U1
open Bool renaming and_eq_true→Ww,false_ne_true→WH,eq_iff_iff→Qq
open Option renaming map_some→WF,map_eq_some_iff→WG,bind_some→QZ,isSome_iff_exists→Jg,bind_eq_some_iff→Jj
open Int renaming gcd→WI,mul_comm→WN,natCast_mul→WQ,mul_assoc→Qn,natAbs_natCast→Qs,toNat_natCast→Qy,natAbs_mul→J0,eq_ofNat_of_zero_le→Jk,neg_mul→Ju,mul_eq_zero→JA,emod_nonneg→JB,emod_lt_of_pos→JJ,ofNat_fdiv→JM,gcd_dvd_right→JS,gcd_dvd_left→JY
open PySem.Builtin.SmallTypes renaming nextOf→Q0,ownedTupleIsFree→Qw
open PySem.Builtin.Str renaming strSliceIndices→QA
open PyProof.Rows renaming slot_tuple_getitem→QJ
open PySem.F renaming slot_int_rmul→QP,slot_dict_itemiterator_next→QU,slot_tuple_iterator_next→J7,args_int_rmul_2→JP,slot_dict_items→JQ
open Array renaming length_toList→QX,getElem?_toList→Jo
open PySem.Builtin.Slice renaming slicePlaces→Jb
open PySem.Builtin.Tuple renaming tupleExact→Jh
open PySem.Builtin.Int renaming intBits→Jx
set_option Elab.async false
set_option linter.all false
set_option maxRecDepth 100000
namespace L2
open PySem PySem.Spec PyProof.Rows
abbrev Key:=Sum Int Str
def iC:Key->Value->Bool
 | .inl k,v=>Value.isInt k v
 | .inr x,v=>Value.isStrOf x v
def sQ(w:Wr):Key->Int
 | .inl k=>hashInt k
 | .inr x=>hashStr w x
theorem jb:∀ {k:Key} {v:Value},iC k v=true->(∃ i t,k=Sum.inl i/\v=Value.int i t)\/(∃ x t,k=Sum.inr x/\v=Value.str x t)
 | .inl i,v,h=>by
  obtain⟨t,e⟩:=Value.isInt_shape (k:=i) (v:=v) h;exact .inl ⟨i,t,rfl,e⟩
 | .inr x,v,h=>by
  obtain⟨t,e⟩:=Value.isStrOf_shape (x:=x) (v:=v) h;exact .inr ⟨x,t,rfl,e⟩
theorem HL(i:Int)(t:Tok):iC (.inl i) (.int i t)=true:=by simp[iC,Value.isInt]
theorem HM(x:Str)(t:Tok):iC (.inr x) (.str x t)=true:=by simp[iC,Value.isStrOf]
theorem HN(a b:Int):decide ((Sum.inl a:Key)=Sum.inl b)=(a == b):=by
 by_cases e:a=b
 ·subst e; simp
 ·have h:¬ (Sum.inl a:Key)=Sum.inl b:=λq=>e (Sum.inl.inj q)
  rw[decide_eq_false h];exact(beq_eq_false_iff_ne.mpr e).symm
theorem HP(a b:Str):decide ((Sum.inr a:Key)=Sum.inr b)=decide (a=b):=by
 by_cases e:a=b
 ·subst e; simp
 ·have h:¬ (Sum.inr a:Key)=Sum.inr b:=λq=>e (Sum.inr.inj q)
  rw[decide_eq_false h,decide_eq_false e]
theorem HQ(a:Int)(b:Str):decide ((Sum.inl a:Key)=Sum.inr b)=false:=decide_eq_false (λq=>nomatch q)
theorem HR(a:Str)(b:Int):decide ((Sum.inr a:Key)=Sum.inl b)=false:=decide_eq_false (λq=>nomatch q)
def dA(prog:Wm)(w:Wr):PySem.KeyKind prog w Key where
 is:=iC
 hash:=sQ w
 inj:=λv a b ha hb=>by
  rcases jb ha with ⟨i,t,rfl,rfl⟩ | ⟨x,t,rfl,rfl⟩
  ·rcases jb hb with ⟨j,u,rfl,e⟩ | ⟨y,u,rfl,e⟩
   ·injection e with e1 _; rw[e1]
   ·exact nomatch e
  ·rcases jb hb with ⟨j,u,rfl,e⟩ | ⟨y,u,rfl,e⟩
   ·exact nomatch e
   ·injection e with e1 _; rw[e1]
 byValue:=λk v h=>by
  rcases jb h with ⟨i,t,rfl,rfl⟩ | ⟨x,t,rfl,rfl⟩ <;> rfl
 pyHash:=λhv h=>by
  rcases jb hv with ⟨i,t,rfl,rfl⟩ | ⟨x,t,rfl,rfl⟩
  ·exact wpAny_pyHash_int h
  ·exact wpAny_pyHash_str h
 eqBool:=λhu hv h=>by
  rcases jb hu with ⟨i,t,rfl,rfl⟩ | ⟨x,t,rfl,rfl⟩
  ·rcases jb hv with ⟨j,u,rfl,rfl⟩ | ⟨y,u,rfl,rfl⟩
   ·rw[HN] at h; exact wpAny_eqBool_int h
   ·rw[HQ] at h; exact SeqAt.EqAt.int_str i t y u _ _ _ _ h
  ·rcases jb hv with ⟨j,u,rfl,rfl⟩ | ⟨y,u,rfl,rfl⟩
   ·rw[HR] at h; exact SeqAt.EqAt.str_int x t j u _ _ _ _ h
   ·rw[HP] at h; exact wpAny_eqBool_str h
 «strs»:=λk x t v h=>by
  rcases jb h with ⟨i,u,rfl,e⟩ | ⟨y,u,rfl,e⟩
  ·exact nomatch e
  ·injection e with e1 _
   subst e1
   cases v <;> rfl
theorem Br(prog:Wm)(w:Wr)(k:Key)(v:Value):(dA prog w).is k v=iC k v:=rfl
theorem HS(prog:Wm)(w:Wr)(i:Int)(t:Tok):(dA prog w).is (.inl i) (.int i t)=true:=HL i t
theorem HU(prog:Wm)(w:Wr)(x:Str)(t:Tok):(dA prog w).is (.inr x) (.str x t)=true:=HM x t
inductive V where
 | aI | bl (b:Bool) | int (i:Int) | str (x:Str) | byt (b:Array UInt8) | flt (b:UInt64) | ref (a:Addr) | ty (n:String)
 deriving DecidableEq
def RelV:V->Value->Prop
 | .aI,u=>u=Value.none
 | .bl b,u=>u=Value.bool b
 | .int i,u=>∃ t,u=Value.int i t
 | .str x,u=>∃ t,u=Value.str x t
 | .byt b,u=>∃ t,u=Value.bytes b t
 | .flt b,u=>∃ t,u=Value.float b t
 | .ref a,u=>u=Value.ref a
 | .ty n,u=>u=Value.type n
abbrev Vals:List V->List Value->Prop:=Paired RelV
theorem Vals.length(r:Vals xs us):xs.length=us.length:=Paired.length r
theorem Vals.get:∀ {xs:List V} {us:List Value} {i:Nat} {x:V},Vals xs us->xs[i]? = some x->∃ u,us[i]? = some u/\RelV x u
 | _,_,_,_,.nil,e=>by simp at e
 | _,_,0,_,.cons r _,e=>by simp at e; subst e; exact⟨_,rfl,r⟩
 | _,_,i + 1,x,.cons _ t,e=>by
  obtain⟨u,h1,h2⟩:=Vals.get (i:=i) (x:=x) t (by simpa using e);exact⟨u,by simpa using h1,h2⟩
theorem Vals.set(r:RelV x u):∀ {xs:List V} {us:List Value} (i:Nat),Vals xs us->Vals (xs.set i x) (us.set i u)
 | _,_,_,.nil=>.nil
 | _,_,0,.cons _ t=>.cons r t
 | _,_,i + 1,.cons q t=>.cons q (Vals.set r i t)
theorem Vals.append:∀ {xs ys:List V} {us ws:List Value},Vals xs us->Vals ys ws->Vals (xs ++ ys) (us ++ ws)
 | _,_,_,_,.nil,s=>s
 | _,_,_,_,.cons r t,s=>.cons r (Vals.append t s)
theorem Vals.take:∀ {xs:List V} {us:List Value} (n:Nat),Vals xs us->Vals (xs.take n) (us.take n)
 | _,_,0,_=>.nil
 | _,_,_ + 1,.nil=>.nil
 | _,_,n + 1,.cons r t=>.cons r (Vals.take n t)
theorem Vals.drop:∀ {xs:List V} {us:List Value} (n:Nat),Vals xs us->Vals (xs.drop n) (us.drop n)
 | _,_,0,r=>r
 | _,_,_ + 1,.nil=>.nil
 | _,_,n + 1,.cons _ t=>Vals.drop n t
def fJ:Option V->Option Value->Prop
 | some v,some u=>RelV v u
 | none,none=>True
 | _,_=>False
def KV{κ:Type}:List (κ×V)->List (κ×Value)->Prop:=Paired λ(p:κ×V) (q:κ×Value)=>p.1=q.1/\RelV p.2 q.2
def kV:Key->V
 | .inl i=>.int i
 | .inr x=>.str x
inductive NK where
 | i (z:Int) | s (x:Str) | t (ks:List NK)
noncomputable instance nkDec:DecidableEq NK:=λa b=>Classical.propDecidable (a=b)
mutual
def fT(w:Wr):NK->Int
 | .i z=>sQ w (.inl z)
 | .s x=>sQ w (.inr x)
 | .t ks=>reduceHash (Builtin.Tuple.tupleHashOf (sR w ks))
def sR(w:Wr):List NK->List Int
 | []=>[]
 | k :: ks=>fT w k :: sR w ks
end
inductive HO where
  | lst (xs:List V)
  | tup (xs:List V)
  | dK (kvs:List (Key×V)) | dT (kvs:List (List Key×V))
  | set (S:Int->Bool) (n:Nat)
  | ins (C dx:Addr) (fs:List (Str×V))
  | own (x:Addr)
  | xd (fs:List (Str×V))
  | met (f x:Addr)
  | kQ (lo hi:Int)
  | frz (o:Obj) (u:HO)
  | tbl (ps:Array Value)
  | ctab (pos:Pos) (q:Str)
  | dN (ep:Nat) (kvs:List (NK×V×V))
  | ext (φ:Heap->Prop)
abbrev Hp:=Addr->Option HO
def upd(H:Hp)(a:Addr)(o:HO):Hp:=λb=>if b=a then some o else H b
theorem dH:upd H a o a=some o:=by unfold upd; rw[if_pos rfl]
theorem bh(h:b≠a):upd H a o b=H b:=by unfold upd; rw[if_neg h]
theorem HV:upd (upd H a o) a u=upd H a u:=by
 funext b; unfold upd; split <;> rfl
theorem HX{H:Hp}{a b:Addr}{o u:HO}(h:H a=some o)(h':H b=some u)(d:o≠u):a≠b:=by
 intro e; subst e; rw[h] at h'; exact d (Wz h')
theorem gK{H:Hp}{a b:Addr}{o:HO}(h:H a=some o)(h':H b=none):a≠b:=by
 intro e; subst e; rw[h] at h'; cases h'
def iD (h:Heap) (a:Addr) (aj:Array Value):Prop:=∃ n,h.get? a=some { cls:=.type "tuple",dict:=none,data:=.seq aj n,slots:=#[] }
theorem iD.tup(x:iD h a aj):IsTup h a aj:=let ⟨n,e⟩:=x; ⟨_,e,rfl,n,rfl⟩
theorem iD.new (h:Heap) (aj:Array Value):iD (h.push { cls:=.type "tuple",data:=.seq aj }) h.objs.size aj:=⟨_,Wn _ rfl⟩
theorem iD.lt(x:iD h a aj):a < h.objs.size:=let ⟨_,e⟩:=x; Wp e
section
variable (P:Wm) (w:Wr)
def cn(H:Hp)(h:Heap)(a:Addr):HO->Prop
 | .lst xs=>xs.length<=We/\∃ (aj:List Value) (n:Nat),Vals xs aj/\h.get? a=some { cls:=.type "list",data:=.seq aj.toArray n }
 | .tup xs=>xs.length<=We/\∃ aj:List Value,Vals xs aj/\iD h a aj.toArray
 | .dK kvs=>kvs.length<=We/\(a == QE)=false/\∃ vs,KV kvs vs/\h.DictOf (dA P w) a vs
 | .dT kvs=>kvs.length<=We/\(a == QE)=false/\∃ xs:List (List Key×Addr×Value),
   Paired (λ(p:List Key×V) (q:List Key×Addr×Value)=>p.1=q.1/\H q.2.1=some (.tup (p.1.map kV))/\RelV p.2 q.2.2) kvs xs /\
   ∃ o es ep,h.get? a=some o/\o.ExactDict/\o.data = .dict es ep/\es.toList=xs.map (entryOfKey (tupleKind (dA P w)))/\(xs.map (·.1)).Nodup
 | .set S n=>h.SetOf (intKind P w) a S n
 | .ins C dx fs=>H dx=some (.own a)/\fs.length<=1000/\dx≠a/\h.get? a=some (PySem.W.instObj C dx) /\
   ∃ mA,h.Ns1 dx mA/\(∀ f,fJ (fs.lookup f) (mA f))/\PySem.Within mA (fs.map (·.1))
 | .own _=>∃ o,h.get? a=some o
 | .xd fs=>∃ mA,h.Ns1 a mA/\∀ f,fJ (fs.lookup f) (mA f)
 | .kQ lo hi=>∃ t u v,h.get? a=some { cls:=.type "range",data:=.fields #[.int lo t,.int hi u,.int 1 v] }
 | .frz o u=>h.get? a=some o/\cn H h a u
 | .tbl ps=>h.get? a=some { cls:=.none,data:=.fields ps }
 | .dN ep kvs=>kvs.length<=We/\(a == QE)=false/\∃ o es,h.get? a=some o/\o.ExactDict/\o.data = .dict es ep/\Paired (λ(p:NK×V×V) (e:DictEntry)=>e.hash=fT w p.1/\RelV p.2.1 e.key/\RelV p.2.2 e.val) kvs es.toList/\(kvs.map (·.1)).Nodup
 | .ctab pos q=>∃ ps,h.get? a=some { cls:=.none,data:=.fields ps }/\TriplesOk ps.toList/\∀ cv,codeAmong pos ps.toList=some cv->∃ c' oc,cv = .ref c'/\H c'=some (.frz oc (.ext λ_=>True))/\∃ vs tq,oc.data = .fields vs/\vs[1]? = some (.str q tq)
 | .met f x=>h.get? a=some (PySem.W.methodObj (.ref f) (.ref x))
 | .ext φ=>φ h/\(∃ o,h.get? a=some o)/\∀ h1 h2:Heap,φ h1->(∀ o,h1.get? a=some o->h2.get? a=some o)->φ h2
def cQ(H:Hp)(h:Heap):Prop:=∀ a o,H a=some o->cn P w H h a o
end
section
variable {P:Wm} {w:Wr} {H H':Hp} {h h':Heap} {a:Addr} {o:HO}
theorem cn.lt(x:cn P w H h a o):a < h.objs.size:=by
 cases o with
 | lst xs=>obtain⟨_,_,_,_,e⟩:=x; exact Wp e
 | tup xs=>obtain⟨_,_,_,p⟩:=x; exact p.lt
 | dK kvs=>obtain⟨_,_,_,_,o,_,_,e,_⟩:=x; exact Wp e
 | dT kvs=>obtain⟨_,_,_,_,o,_,_,e,_⟩:=x; exact Wp e
 | set S n=>obtain⟨o,_,_,_,e,_⟩:=x; exact Wp e
 | ins C dx fs=>obtain⟨_,_,_,e,_⟩:=x; exact Wp e
 | own y=>obtain⟨_,e⟩:=x; exact Wp e
 | xd fs=>obtain⟨_,⟨_,_,_,e,_⟩,_⟩:=x; exact Wp e
 | kQ lo hi=>obtain⟨_,_,_,e⟩:=x; exact Wp e
 | frz ob u=>obtain⟨e,_⟩:=x; exact Wp e
 | tbl ps=>exact Wp (show h.get? a=some _ from x)
 | ctab pos q=>obtain⟨_,e,_⟩:=x; exact Wp e
 | dN ep kvs=>obtain⟨_,_,_,_,e,_⟩:=x; exact Wp e
 | met f y=>exact Wp (show h.get? a=some _ from x)
 | ext φ=>obtain⟨_,⟨_,e⟩,_⟩:=x; exact Wp e
theorem Paired.vI:∀ {l₁:List α} {l₂:List β},Paired F l₁ l₂->(∀ a b,F a b->G a b)->Paired G l₁ l₂
 | _,_,.nil,_=>.nil
 | _,_,.cons r t,f=>.cons (f _ _ r) (Paired.vI t f)
theorem cn.oY(x:cn P w H h a o)(k:∀ b u,(b=a\/H b=some (.own a))->h.get? b=some u->h'.get? b=some u)
  (ho:∀ b,H b=some (.own a)->H' b=some (.own a)) (ht:∀ b xs,H b=some (.tup xs)->H' b=some (.tup xs)) (hf:∀ b o u,H b=some (.frz o u)->H' b=some (.frz o u)):cn P w H' h' a o:=by
 induction o with
 | lst xs=>obtain⟨z,aj,n,r,e⟩:=x; exact⟨z,aj,n,r,k _ _ (.inl rfl) e⟩
 | tup xs=>obtain⟨z,aj,r,n,e⟩:=x; exact⟨z,aj,r,n,k _ _ (.inl rfl) e⟩
 | dK kvs=>obtain⟨z,y,vs,r,ob,es,ep,e,c⟩:=x; exact⟨z,y,vs,r,ob,es,ep,k _ _ (.inl rfl) e,c⟩
 | dT kvs =>
  obtain⟨z,y,xs,r,ob,es,ep,e,c⟩:=x;exact⟨z,y,xs,Paired.vI r λp q z=>⟨z.1,ht _ _ z.2.1,z.2.2⟩,ob,es,ep,k _ _ (.inl rfl) e,c⟩
 | set S n=>obtain⟨ob,es,ep,t,e,c⟩:=x; exact⟨ob,es,ep,t,k _ _ (.inl rfl) e,c⟩
 | ins C dx fs =>
  obtain⟨d,z,ne,e,mA,⟨od,es,ep,e2,c⟩,r⟩:=x;exact⟨ho _ d,z,ne,k _ _ (.inl rfl) e,mA,⟨od,es,ep,k _ _ (.inr d) e2,c⟩,r⟩
 | own y=>obtain⟨ob,e⟩:=x; exact⟨ob,k _ _ (.inl rfl) e⟩
 | xd fs=>obtain⟨mA,⟨od,es,ep,e,c⟩,r⟩:=x; exact⟨mA,⟨od,es,ep,k _ _ (.inl rfl) e,c⟩,r⟩
 | kQ lo hi=>obtain⟨t,u,v,e⟩:=x; exact⟨t,u,v,k _ _ (.inl rfl) e⟩
 | frz ob u ih=>obtain⟨e,q⟩:=x; exact⟨k _ _ (.inl rfl) e,ih q⟩
 | dN ep kvs=>obtain⟨z,y,ob,es,e,c⟩:=x; exact⟨z,y,ob,es,k _ _ (.inl rfl) e,c⟩
 | ctab pos q=>obtain⟨ps,e,t,r⟩:=x; exact⟨ps,k _ _ (.inl rfl) e,t,λcv z=>let ⟨c',oc,z1,z2,z3⟩:=r cv z; ⟨c',oc,z1,hf _ _ _ z2,z3⟩⟩
 | tbl ps =>
  have e:h.get? a=some { cls:=.none,data:=.fields ps }:=x;show h'.get? a=some { cls:=.none,data:=.fields ps };exact k a _ (.inl rfl) e
 | met f y =>
  have e:h.get? a=some (PySem.W.methodObj (.ref f) (.ref y)):=x;show h'.get? a=some (PySem.W.methodObj (.ref f) (.ref y));exact k a _ (.inl rfl) e
 | ext φ=>obtain⟨p,⟨o,e⟩,st⟩:=x; exact⟨st _ _ p λo q=>k _ _ (.inl rfl) q,⟨o,k _ _ (.inl rfl) e⟩,st⟩
theorem cQ.lt(x:cQ P w H h)(e:H a=some o):a < h.objs.size:=(x a o e).lt
theorem cQ.fresh(x:cQ P w H h)(e:h.objs.size<=a):H a=none:=by
 cases q:H a with
 | none=>rfl
 | some u=>exact absurd (Wv (x.lt q) e) (Qt _)
theorem cQ.kept(x:cQ P w H h)(k:∀ b u,h.get? b=some u->h'.get? b=some u):cQ P w H h':=λa o e =>
 (x a o e).oY (λb u _ q=>k b u q) (λ_ q=>q) (λ_ _ q=>q) λ_ _ _ q=>q
theorem cQ.laid(x:cQ P w H h)(k:∀ b u,h.get? b=some u->h'.get? b=some u)(hp:h.objs.size<=a)(new:cn P w (upd H a o) h' a o):cQ P w (upd H a o) h':=λb u e=>by
 have hn:=x.fresh hp;by_cases hb:b=a
 ·subst hb; rw[dH] at e; cases e; exact new
 ·rw[bh hb] at e;exact(x b u e).oY (λc v _ q=>k c v q) (λc q=>by rw[bh (gK q hn)]; exact q) (λc xs q=>by rw[bh (gK q hn)]; exact q) λc o u q=>by rw[bh (gK q hn)]; exact q
end
def Rd(H:Hp)(a:Addr)(u:HO):Prop:=H a=some u\/∃ o,H a=some (.frz o u)
theorem Rd.ok(r:Rd H a u)(x:cQ P w H h):cn P w H h a u:=by
 rcases r with r | ⟨o,r⟩
 ·exact x a u r
 ·obtain⟨_,q⟩:=x a _ r;exact q
def qq:Option HO->Prop
 | some (.lst _)=>True
 | some (.dK _)=>True
 | some (.dT _)=>True
 | some (.dN _ _)=>True
 | some (.set _ _)=>True
 | some (.ins _ _ _)=>True
 | some (.ext _)=>True
 | _=>False
section
variable {P:Wm} {w:Wr} {H:Hp} {h h':Heap} {x e:Addr} {o':HO}
theorem cQ.write(ok:cQ P w H h)(mu:qq (H x))(he:e=x\/H e=some (.own x))(k:∀ b u,b≠e->h.get? b=some u->h'.get? b=some u)(oZ:∃ u,h'.get? e=some u)
  (new:cn P w (upd H x o') h' x o'):cQ P w (upd H x o') h':=λb u q=>by
 have qr:∀ c y,H c=some (.own y)->c≠x:=λc y r z=>by subst z; rw[r] at mu; exact mu
 have HY:∀ c xs,H c=some (.tup xs)->c≠x:=λc xs r z=>by subst z; rw[r] at mu; exact mu
 have HZ:∀ c o u,H c=some (.frz o u)->c≠x:=λc o u r z=>by subst z; rw[r] at mu; exact mu
 by_cases hb:b=x
 ·subst hb; rw[dH] at q; cases q; exact new
 ·rw[bh hb] at q;by_cases hbe:b=e
  ·have q':H b=some (.own x):=by
    rcases he with z | z
    ·exact absurd (hbe.trans z) hb
    ·rw[hbe]; exact z
   rw[q] at q'; cases q'
   obtain⟨v,hv⟩:=oZ;exact⟨v,by rw[hbe]; exact hv⟩
  ·refine(ok b u q).oY (λc v hc r=>k c v ?_ r) (λc r=>by rw[bh (qr c b r)]; exact r) (λc xs r=>by rw[bh (HY c xs r)]; exact r) λc o u r=>by rw[bh (HZ c o u r)]; exact r
   rcases hc with rfl | hc
   ·exact hbe
   ·rintro rfl;rcases he with z | z
    ·exact qr c b hc z
    ·rw[hc] at z; cases z; exact hb rfl
end
structure Un(fs ex:List Addr)(H H':Hp)(h h':Heap):Prop where
 keep:∀ b o,h.get? b=some o->H b=none->b ∉ fs->b ∉ ex->h'.get? b=some o
 slot:∀ b o,h.get? b=some o->H b=none->b ∈ fs->b ∉ ex->∃ sl,h'.get? b=some { o with slots:=sl }
 free:∀ b o,h.get? b=some o->H b=none->b ∉ ex->H' b=none
 there:∀ b o,h.get? b=some o->b ∉ ex->∃ o',h'.get? b=some o'
 lM:∀ b xs,H b=some (.tup xs)->H' b=some (.tup xs)
 kR:∀ b o u,H b=some (.frz o u)->H' b=some (.frz o u)
 lN:∀ b ps,H b=some (.tbl ps)->∃ more,H' b=some (.tbl (ps ++ more))
section
variable {fs H_ ex VJ:List Addr} {H H1 H2:Hp} {h h1 h2 h':Heap} {a x e:Addr} {o:HO}
theorem Un.any(u:Un fs ex H H1 h h1)(q:h.get? b=some ob)(n:H b=none)(hx:b ∉ ex):∃ sl,h1.get? b=some { ob with slots:=sl }:=by
 by_cases hb:b ∈ fs
 ·exact u.slot b ob q n hb hx
 ·exact⟨ob.slots,u.keep b ob q n hb hx⟩
theorem Un.kept(k:∀ b u,h.get? b=some u->h'.get? b=some u):Un fs ex H H h h' :=
 ⟨λb ob q _ _ _=>k b ob q,λb ob q _ _ _=>⟨ob.slots,k b ob q⟩,λ_ _ _ n _=>n,λb ob q _=>⟨ob,k b ob q⟩,λ_ _ q=>q,λ_ _ _ q=>q,λ_ ps q=>⟨#[],by rw[q]; simp⟩⟩
theorem Un.refl:Un fs ex H H h h:=Un.kept λ_ _ q=>q
theorem Un.laid(k:∀ b u,h.get? b=some u->h'.get? b=some u)(hp:h.objs.size<=a)(hn:H a=none):Un fs ex H (upd H a o) h h' where
 keep:=λb u q _ _ _=>k b u q
 slot:=λb u q _ _ _=>⟨u.slots,k b u q⟩
 free:=λb u q n _=>by rw[bh (WS (Wv (Wp q) hp))]; exact n
 there:=λb u q _=>⟨u,k b u q⟩
 lM:=λb xs q=>by rw[bh (gK q hn)]; exact q
 kR:=λb u xs q=>by rw[bh (gK q hn)]; exact q
 lN:=λb ps q=>⟨#[],by rw[bh (gK q hn),q]; simp⟩
theorem Un.write(mu:qq (H x))(he:e=x\/H e=some (.own x))(k:∀ b u,b≠e->h.get? b=some u->h'.get? b=some u)(oZ:∃ u,h'.get? e=some u):Un fs ex H (upd H x o) h h':=by
 have hx:∀ b,H b=none->b≠x:=λb n z=>by subst z; rw[n] at mu; exact mu
 have hb:∀ b,H b=none->b≠e:=λb n z=>by
  subst z;rcases he with r | r
  ·exact hx b n r
  ·rw[n] at r; cases r
 have hm:∀ b u,H b=some u->¬ qq (some u)->b≠x:=λb u q nm z=>by subst z; rw[q] at mu; exact nm mu
 refine⟨λb u q n _ _=>k b u (hb b n) q,λb u q n _ _=>⟨u.slots,k b u (hb b n) q⟩,λb u q n _=>by rw[bh (hx b n)]; exact n,λb u q _=>?_,
  λb xs q=>by rw[bh (hm b _ q λz=>z)]; exact q,λb u xs q=>by rw[bh (hm b _ q λz=>z)]; exact q,λb ps q=>⟨#[],by rw[bh (hm b _ q λz=>z),q]; simp⟩⟩
 by_cases hbe:b=e
 ·subst hbe; exact oZ
 ·exact⟨u,k b u hbe q⟩
end
def sS(h:Heap)(H:Hp):List Addr:=(W3 h.objs.size).filter λa=>(H a).isSome
def kS(h:Heap)(H:Hp):Heap:=PySem.W.hideAll h (sS h H)
theorem Ia(h:Heap)(H:Hp):(kS h H).objs.size=h.objs.size:=PySem.W.hideAll_size _ _
theorem Ib(e:h.get? b=some o)(n:H b=none):(kS h H).get? b=some o :=
 PySem.W.hideAll_get _ e λhm=>by
  have q:(H b).isSome=true:=(Qz.mp hm).2;rw[n] at q; simp at q
theorem Ic(e:(kS h H).get? b=some o):h.get? b=some o/\H b=none:=by
 have e':h.get? b=some o:=PySem.W.of_hideAll (sS h H) e;refine⟨e',?_⟩
 cases q:H b with
 | none=>rfl
 | some x =>
  have hm:b ∈ sS h H:=List.mem_filter.mpr ⟨WA.mpr (Wp e'),by simp[q]⟩;have z:(kS h H).get? b=none:=PySem.W.hideAll_none (sS h H) hm;rw[z] at e; cases e
def Ie(g h:Heap)(L:Addr):List (Addr×Obj):=(W3 h.objs.size).filterMap λa=>if a=L\/(g.get? a).isSome=true then none else(h.get? a).map λo=>(a,o)
def rest(g h:Heap)(L d:Addr):List (Addr×Obj):=(Ie g h L).filter λp=>decide (p.1≠d)
structure Mod(K:W1)(mg:Str->Option Value)(base:Heap):Prop where
 vJ:K.In base
 glob:base.Ns WE mg
 blt:∃ mb,base.Ns builtinsNs mb/\∀ x:Str,x≠"__name__"->mb x=QB x
 nolimit:base.NoLimit
structure Cx where
 prog:Wm
 w:Wr
 K:W1
 mg:Str->Option Value
 base:Heap
 A:Wt
 N:List Str
 s₀:W2
 H₀:Hp
 env:Env
 outer:List Env
 stack:List Env
 ex:List Addr
 fn:Str->Bool
 calm:Bool
 pn:List (Addr×Obj)
 xe:Value->W2->Prop
def iE(l:List Env):List Addr:=l.filterMap (·.frame)
abbrev Cx.fs(X:Cx):List Addr:=iE X.outer
def sU(sc:Scope)(x:Str):Prop:=sc.names.lookup x=some .local\/sc.names.lookup x=some .cell\/sc.names.lookup x=some .free
def Loc(sc:Scope)(x:Str):Prop:=sc.names.lookup x=some .local\/sc.names.lookup x=some .cell
def Look(env:Env)(h:Heap)(m:Str->Option Value)(x:Str)(u:Value):Prop :=
 (env.kindOf x=some .local/\m x=some u)\/((env.kindOf x=some .cell\/env.kindOf x=some .free)/\∃ c,env.cells.lookup x=some c/\h.IsCell c (some u))
structure Cx.Ok(X:Cx):Prop where
 mod:Mod X.K X.mg X.base
 kind:X.env.scope.kind = .function
 glob:X.env.globals=WE
 blt:X.env.builtins=builtinsNs
 above:X.s₀.heap.objs.size<=X.env.locals
 inj:∀ x y c,X.env.cells.lookup x=some c->X.env.cells.lookup y=some c->x=y
 has:∀ x,(X.env.kindOf x=some .cell\/X.env.kindOf x=some .free)->∃ c,X.env.cells.lookup x=some c
 qt:∀ x c,X.fn x=true->X.env.cells.lookup x=some c->X.s₀.heap.objs.size<=c
 hd:X.calm=true->X.A.handled=none
 frames:X.A.frames=some X.stack
 sV:X.stack=X.outer\/(X.stack=X.env :: X.outer/\X.env.frame=some X.env.locals)
 sW:∀ b ∈ X.ex,b≠X.env.locals/\∀ x c,X.env.cells.lookup x=some c->c≠b
 bs:∀ b o,X.base.get? b=some o->X.s₀.heap.get? b=some o/\X.H₀ b=none
 lO:X.base.objs.size<=X.s₀.heap.objs.size
 qu:∀ b o,X.base.get? b=some o->b ∉ X.ex
 qw:∀ b ∈ X.ex,b ∉ X.fs
 jF:X.s₀.heap.FunFrames X.base X.outer
 o_:∀ b ∈ X.fs,X.H₀ b=none
structure Inv(X:Cx)(pins:List (Addr×Obj))(σ:List (Option V))(H:Hp)(s:W2):Prop where
 ok:X.Ok
 os:s.os=X.s₀.os
 bare:AllBare s.gens
 base:Un X.fs X.ex X.H₀ H X.s₀.heap s.heap
 loc:∃ m,s.heap.Ns X.env.locals m/\∀ (i:Nat) (x:Str) (v:V),X.N[i]? = some x->σ[i]? = some (some v)->sU X.env.scope x->∃ u,RelV v u/\Look X.env s.heap m x u
 cell:∀ x c,X.env.cells.lookup x=some c->∃ v,s.heap.IsCell c v
 free:H X.env.locals=none
 jG:∀ x c,X.env.cells.lookup x=some c->H c=none
 pin:∀ p ∈ X.pn ++ pins,s.heap.get? p.1=some p.2/\H p.1=none/\p.1≠X.env.locals/\p.1 ∉ X.fs/\∀ v,p.2.data≠.cell v
 aM:cQ X.prog X.w H s.heap
 len:σ.length=X.N.length
section
variable {X:Cx} {pins:List (Addr×Obj)} {σ:List (Option V)} {H H':Hp} {s:W2} {h':Heap}
theorem Cx.Ok.Ig(ok:X.Ok)(e:X.base.get? b=some o):b ∉ X.fs:=λhb=>by
 have:=(ok.jF.mem hb).1;rw[e] at this; cases this
theorem Inv.bs(I:Inv X pins σ H s):∀ b o,X.base.get? b=some o->s.heap.get? b=some o/\H b=none:=λb o e =>
 ⟨I.base.keep b o (I.ok.bs b o e).1 (I.ok.bs b o e).2 (I.ok.Ig e) (I.ok.qu b o e),I.base.free b o (I.ok.bs b o e).1 (I.ok.bs b o e).2 (I.ok.qu b o e)⟩
theorem Inv.bk(I:Inv X pins σ H s):∀ b o,X.base.get? b=some o->s.heap.get? b=some o:=λb o e=>(I.bs b o e).1
theorem Inv.mod(I:Inv X pins σ H s):Mod X.K X.mg X.base:=I.ok.mod
theorem Inv.gb(I:Inv X pins σ H s):X.K.In s.heap:=I.ok.mod.vJ.keeps I.bk
theorem Inv.fr(I:Inv X pins σ H s):∃ m,Fr X.base X.env.locals s.heap m :=
 let ⟨m,hn,_⟩:=I.loc
 ⟨m,hn,I.bk,Ws I.ok.lO I.ok.above⟩
theorem Inv.lt(I:Inv X pins σ H s):X.env.locals < s.heap.objs.size:=let ⟨_,hn,_⟩:=I.loc; hn.lt
theorem Inv.sz(I:Inv X pins σ H s):X.s₀.heap.objs.size<=s.heap.objs.size:=Ws I.ok.above (QC I.lt)
theorem Inv.Ih(I:Inv X pins σ H s)(h:s.heap.objs.size<=a):a ∉ X.fs:=λhb=>by
 obtain⟨_,o,ho,_⟩:=I.ok.jF.mem hb;exact absurd (Wv (Wp ho) (Ws I.sz h)) (Qt _)
theorem Inv.ny(I:Inv X pins σ H s):∀ x c,X.env.cells.lookup x=some c->c≠X.env.locals:=λx c e z=>by
 obtain⟨v,o,ho,hd⟩:=I.cell x c e;obtain⟨m,⟨o',es,ep,ho',vK,_⟩,_⟩:=I.loc;rw[z,ho'] at ho; cases ho; rw[vK] at hd; cases hd
theorem Inv.jF(I:Inv X pins σ H s):s.heap.FunFrames X.base X.outer:=by
 have all:∀ (l:List Env),(∀ b ∈ iE l,b ∈ X.fs)->X.s₀.heap.FunFrames X.base l->s.heap.FunFrames X.base l:=by
  intro l;induction l with
  | nil=>intro _ _; trivial
  | cons env r ih =>
   intro hs hl;obtain⟨hk,⟨L,o,hf,hn,ho,hd⟩,hr⟩:=hl;have hL:L ∈ X.fs:=hs L (by unfold iE; rw[List.filterMap_cons,hf]; exact Wj);obtain⟨sl,e⟩:=I.base.slot L o ho (I.ok.o_ L hL) hL λz=>I.ok.qw L z hL
   exact⟨hk,⟨L,_,hf,hn,e,hd⟩,ih (λb hb=>hs b (by unfold iE; rw[List.filterMap_cons,hf]; exact Wa _ hb)) hr⟩
 exact all X.outer (λ_ hb=>hb) I.ok.jF
theorem Inv.stack(I:Inv X pins σ H s):s.heap.FunFrames X.base X.stack:=by
 rcases I.ok.sV with e | ⟨e,hf⟩
 ·rw[e]; exact I.jF
 ·rw[e];obtain⟨m,hn,_⟩:=I.loc;refine .cons (by rw[I.ok.kind]; decide) hf hn ?_ I.jF;exact Heap.get?_none_of_le (Ws I.ok.lO I.ok.above)
theorem Inv.vL(I:Inv X pins σ H s):∀ b ∈ iE X.stack,b ∈ X.env.locals :: X.fs:=λb hb=>by
 rcases I.ok.sV with e | ⟨e,hf⟩
 ·rw[e] at hb; exact Wa _ hb
 ·rw[e] at hb;unfold iE at hb;rw[List.filterMap_cons,hf] at hb;exact hb
theorem Inv.Bs(I:Inv X pins σ H s):∀ b ∈ iE X.stack,H b=none:=λb hb=>by
 rcases Wl.mp (I.vL b hb) with e | hb
 ·rw[e]; exact I.free
 ·obtain⟨_,o,ho,_⟩:=I.ok.jF.mem hb;exact I.base.free b o ho (I.ok.o_ b hb) λz=>I.ok.qw b z hb
theorem Inv.step{g':Array GenState}{t':Nat}{d':Drawn}{ch:List Addr}(I:Inv X pins σ H s)
  (kf:∀ b ∈ ch,(b ∈ X.ex\/X.s₀.heap.objs.size<=b)/\b≠X.env.locals/\(∀ x c,X.env.cells.lookup x=some c->c≠b)/\∀ p ∈ X.pn ++ pins,p.1≠b)
  (keep:∀ b o,b≠X.env.locals->b ∉ X.fs->b ∉ ch->s.heap.get? b=some o->H b=none->h'.get? b=some o)
  (slot:∀ b o,b≠X.env.locals->b ∈ X.fs->b ∉ ch->s.heap.get? b=some o->H b=none->∃ sl,h'.get? b=some { o with slots:=sl }) (free:∀ b o,b ∉ ch->s.heap.get? b=some o->H b=none->H' b=none)
  (there:∀ b o,b ∉ ch->s.heap.get? b=some o->∃ o',h'.get? b=some o')
  (lM:∀ b xs,H b=some (.tup xs)->H' b=some (.tup xs)) (kR:∀ b o u,H b=some (.frz o u)->H' b=some (.frz o u)) (lN:∀ b ps,H b=some (.tbl ps)->∃ more,H' b=some (.tbl (ps ++ more)))
  (ns:∀ m,s.heap.Ns X.env.locals m->h'.Ns X.env.locals m) (aM:cQ X.prog X.w H' h') (hg:AllBare g') :
  Inv X pins σ H' { s with heap:=h',gens:=g',drawn:=d',toks:=t' }:=by
 have Bt:∀ b o,X.s₀.heap.get? b=some o->b≠X.env.locals:=λb o e=>WS (Wv (Wp e) I.ok.above)
 have sX:∀ b o,X.s₀.heap.get? b=some o->b ∉ X.ex->b ∉ ch:=λb o e hx hb=>by
  rcases (kf b hb).1 with z | z
  ·exact hx z
  ·exact absurd (Wv (Wp e) z) (Qt _)
 have cellK:∀ x c,X.env.cells.lookup x=some c->∀ v,s.heap.IsCell c v->h'.IsCell c v:=λx c e v ⟨o,ho,hd⟩=>by
  have qx:c ∉ ch:=λz=>(kf c z).2.2.1 x c e rfl
  by_cases hc:c ∈ X.fs
  ·obtain⟨sl,q⟩:=slot c o (I.ny x c e) hc qx ho (I.jG x c e);exact⟨_,q,hd⟩
  ·exact⟨o,keep c o (I.ny x c e) hc qx ho (I.jG x c e),hd⟩
 refine⟨I.ok,I.os,hg,⟨λb o e n hb hx=>?_,λb o e n hb hx=>?_,λb o e n hx=>?_,λb o e hx=>?_,λb xs e=>lM b xs (I.base.lM b xs e),λb o xs e=>kR b o xs (I.base.kR b o xs e),λb ps e=>?_⟩,?_,λx c e=>?_,?_,λx c e=>?_,λp hp=>?_,aM,I.len⟩
 ·exact keep b o (Bt b o e) hb (sX b o e hx) (I.base.keep b o e n hb hx) (I.base.free b o e n hx)
 ·obtain⟨sl,e1⟩:=I.base.slot b o e n hb hx;obtain⟨sl',e2⟩:=slot b _ (Bt b o e) hb (sX b o e hx) e1 (I.base.free b o e n hx);exact⟨sl',e2⟩
 ·obtain⟨o',e1⟩:=I.base.there b o e hx;exact free b o' (sX b o e hx) e1 (I.base.free b o e n hx)
 ·obtain⟨o',e1⟩:=I.base.there b o e hx;exact there b o' (sX b o e hx) e1
 ·obtain⟨m1,e1⟩:=I.base.lN b ps e;obtain⟨m2,e2⟩:=lN b _ e1;exact⟨m1 ++ m2,by rw[e2,Array.append_assoc]⟩
 ·obtain⟨m,hn,hl⟩:=I.loc;refine⟨m,ns m hn,λi x v e1 e2 e3=>?_⟩;obtain⟨u,r,l⟩:=hl i x v e1 e2 e3;refine⟨u,r,?_⟩;rcases l with l | ⟨k,c,e,z⟩
  ·exact .inl l
  ·exact .inr ⟨k,c,e,cellK x c e _ z⟩
 ·obtain⟨v,z⟩:=I.cell x c e;exact⟨v,cellK x c e v z⟩
 ·obtain⟨m,⟨o,_,_,ho,_⟩,_⟩:=I.loc;exact free _ o (λz=>(kf _ z).2.1 rfl) ho I.free
 ·obtain⟨v,o,ho,hd⟩:=I.cell x c e;exact free c o (λz=>(kf c z).2.2.1 x c e rfl) ho (I.jG x c e)
 ·obtain⟨e,n,ne,nf,d⟩:=I.pin p hp;have qx:p.1 ∉ ch:=λz=>(kf p.1 z).2.2.2 p hp rfl
  exact⟨keep p.1 p.2 ne nf qx e n,free p.1 p.2 qx e n,ne,nf,d⟩
theorem Inv.un{t':Nat}(I:Inv X pins σ H s)(u:Un X.fs [] H H' s.heap h')(aM:cQ X.prog X.w H' h'):Inv X pins σ H' { s with heap:=h',toks:=t' }:=by
 obtain⟨m,⟨o,es,ep,ho,r⟩,_⟩:=id I.loc;obtain⟨sl,hL⟩:=u.any ho I.free (by simp);exact I.step (g':=s.gens) (d':=s.drawn) (ch:=[]) (λ_ z=>nomatch z) (λb o _ hb _ e n=>u.keep b o e n hb (by simp)) (λb o _ hb _ e n=>u.slot b o e n hb (by simp)) (λb o _ e n=>u.free b o e n (by simp)) (λb o _ e=>u.there b o e (by simp)) u.lM u.kR u.lN (λm' hm=>by
  obtain⟨o',es',ep',ho',r'⟩:=hm;rw[ho] at ho'; cases ho'
  exact⟨_,es',ep',hL,r'⟩) aM I.bare
theorem Inv.call{g':Array GenState}{t':Nat}{d':Drawn}{ch:List Addr}(I:Inv X pins σ H s)(u:Un (iE X.stack) ch H H' s.heap h')(aM:cQ X.prog X.w H' h')(hg:AllBare g')
  (kf:∀ b ∈ ch,(b ∈ X.ex\/X.s₀.heap.objs.size<=b)/\b≠X.env.locals/\(∀ x c,X.env.cells.lookup x=some c->c≠b)/\∀ p ∈ X.pn ++ pins,p.1≠b) :
  Inv X pins σ H' { s with heap:=h',gens:=g',drawn:=d',toks:=t' }:=by
 obtain⟨m,⟨o,es,ep,ho,r⟩,_⟩:=id I.loc;obtain⟨sl,hL⟩:=u.any ho I.free λz=>(kf _ z).2.1 rfl
 exact I.step (ch:=ch) kf (λb o hL hb hc e n=>u.keep b o e n (λz=>(Wl.mp (I.vL b z)).elim hL hb) hc) (λb o _ _ hc e n=>u.any e n hc) (λb o hc e n=>u.free b o e n hc) (λb o hc e=>u.there b o e hc) u.lM u.kR u.lN (λm' hm=>by
  obtain⟨o',es',ep',ho',r'⟩:=hm;rw[ho] at ho'; cases ho'
  exact⟨_,es',ep',hL,r'⟩) aM hg
theorem Inv.turned{t':Nat}{it:Addr}(I:Inv X pins σ H s)(k:∀ b o,b≠it->s.heap.get? b=some o->h'.get? b=some o)(hn:H it=none)(hL:it≠X.env.locals)
  (h1:it ∈ X.ex\/X.s₀.heap.objs.size<=it) (h2:∀ x c,X.env.cells.lookup x=some c->c≠it) (h3:∀ p ∈ X.pn ++ pins,p.1≠it):Inv X pins σ H { s with heap:=h',toks:=t' }:=by
 have lP:∀ b u,H b=some u->b≠it:=λb u e z=>by rw[z,hn] at e; cases e
 refine I.step (g':=s.gens) (d':=s.drawn) (ch:=[it]) (λb hb=>?_) (λb o _ _ hc e _=>k b o (λz=>hc (by simp[z])) e) (λb o _ _ hc e _=>⟨o.slots,k b o (λz=>hc (by simp[z])) e⟩) (λ_ _ _ _ n=>n)
  (λb o hc e=>⟨o,k b o (λz=>hc (by simp[z])) e⟩) (λ_ _ e=>e) (λ_ _ _ e=>e) (λb ps e=>⟨#[],by rw[e]; simp⟩) (λm hm=>?_) (λb u e=>?_) I.bare
 ·have e:b=it:=by simpa using hb
  subst e;exact⟨h1,hL,h2,h3⟩
 ·obtain⟨o,es,ep,ho,r⟩:=hm;exact⟨o,es,ep,k _ o (Ne.symm hL) ho,r⟩
 ·refine(I.aM b u e).oY (λc v hc q=>k c v ?_ q) (λ_ q=>q) (λ_ _ q=>q) λ_ _ _ q=>q
  rcases hc with z | z
  ·rw[z]; exact lP b u e
  ·exact lP c _ z
theorem Inv.tok(I:Inv X pins σ H s)(t:Nat):Inv X pins σ H { s with toks:=t }:=I.un (h':=s.heap) (t':=t) Un.refl I.aM
theorem Inv.kept(I:Inv X pins σ H s)(k:∀ b u,s.heap.get? b=some u->h'.get? b=some u):Inv X pins σ H { s with heap:=h',toks:=t' }:=I.un (Un.kept k) (I.aM.kept k)
theorem Inv.laid(I:Inv X pins σ H s)(k:∀ b u,s.heap.get? b=some u->h'.get? b=some u)(hp:s.heap.objs.size<=a)(new:cn X.prog X.w (upd H a o) h' a o) :
  Inv X pins σ (upd H a o) { s with heap:=h',toks:=t' }:=I.un (Un.laid k hp (I.aM.fresh hp)) (I.aM.laid k hp new)
theorem Inv.write(I:Inv X pins σ H s)(mu:qq (H x))(he:e=x\/H e=some (.own x))(k:∀ b u,b≠e->s.heap.get? b=some u->h'.get? b=some u)(oZ:∃ u,h'.get? e=some u)
  (new:cn X.prog X.w (upd H x o) h' x o):Inv X pins σ (upd H x o) { s with heap:=h',toks:=t' }:=I.un (Un.write mu he k oZ) (I.aM.write mu he k oZ new)
theorem Inv.weak(I:Inv X pins σ H s)(hl:σ'.length=σ.length)(w:∀ (i:Nat) v,σ'[i]? = some (some v)->σ[i]? = some (some v)):Inv X pins σ' H s :=
 ⟨I.ok,I.os,I.bare,I.base,let ⟨m,hn,gL⟩:=I.loc; ⟨m,hn,λi x v e1 e2 e3=>gL i x v e1 (w i v e2) e3⟩,I.cell,I.free,I.jG,I.pin,I.aM,hl.trans I.len⟩
theorem Inv.Bu(I:Inv X pins σ H s)(h:∀ p ∈ pins',s.heap.get? p.1=some p.2/\H p.1=none/\p.1≠X.env.locals/\p.1 ∉ X.fs/\∀ v,p.2.data≠.cell v):Inv X pins' σ H s :=
 ⟨I.ok,I.os,I.bare,I.base,I.loc,I.cell,I.free,I.jG,λp hp=>(WC.mp hp).elim (λz=>I.pin p (J9 _ z)) (h p),I.aM,I.len⟩
theorem Bv{N:List Str}(hN:N.Nodup){i j:Nat}{x:Str}(a:N[i]? = some x)(b:N[j]? = some x):i=j:=by
 obtain⟨h1,e1⟩:=W6.mp a;obtain⟨h2,e2⟩:=W6.mp b;exact(List.getElem_inj hN).mp (e1.trans e2.symm)
theorem Bw{M:Model}{A:Wt}{E:Value->W2->Prop}{i:Nat}{x:Str}{v:V}{u:Value}{Q:Unit->W2->Prop}(I:Inv X pins σ H s)(hN:X.N.Nodup)(hi:X.N[i]? = some x)(hx:Loc X.env.scope x)(r:RelV v u)
  (h:∀ s',Inv X pins (σ.set i (some v)) H s'->(∃ a,QK a s.heap s'.heap/\(a=X.env.locals\/X.env.cells.lookup x=some a))->Q () s') (hf:X.fn x=true\/X.env.scope.names.lookup x=some .local:=by first | exact .inl rfl | exact .inr rfl | assumption):Wf M A (storeName X.env x u) Q E s:=by
 obtain⟨m,hn,hl⟩:=id I.loc;have Ii:(X.env.scope.kind == .class || (X.env.scope.kind == .module && X.env.locals != X.env.globals))=false:=by rw[I.ok.kind]; rfl
 have Bx:i < σ.length:=by rw[I.len]; exact(W6.mp hi).1
 have ny:=I.ny;have tracked:∀ {a:Addr} {h':Heap},(∃ o,s.heap.get? a=some o/\H a=none)->QK a s.heap h'->cQ X.prog X.w H h':=λ{a h'} ha hs b ob e=>by
  obtain⟨_,_,nC⟩:=ha;refine(I.aM b ob e).oY (λc w' hc q=>(hs.2 c ?_).trans q) (λ_ q=>q) (λ_ _ q=>q) λ_ _ _ q=>q
  rintro rfl;rcases hc with rfl | hc
  ·rw[nC] at e; cases e
  ·rw[nC] at hc; cases hc
 rcases hx with hk | hk
 ·refine wpAny_storeName_local hk hn (λh' qy hs=>?_) Ii;obtain⟨oL,_,_,hoL,_⟩:=id hn;refine h _ ⟨I.ok,I.os,I.bare,⟨λb o e n hb hx=>?_,λb o e n hb hx=>?_,I.base.free,λb o e hx=>?_,I.base.lM,I.base.kR,I.base.lN⟩,⟨_,qy,λj y v' e1 e2 e3=>?_⟩,λy c e=>?_,I.free,I.jG,λp hp=>?_,tracked ⟨oL,hoL,I.free⟩ hs,by simpa using I.len⟩ ⟨_,hs,.inl rfl⟩
  ·exact(hs.2 b (WS (Wv (Wp e) I.ok.above))).trans (I.base.keep b o e n hb hx)
  ·obtain⟨sl,e1⟩:=I.base.slot b o e n hb hx;exact⟨sl,(hs.2 b (WS (Wv (Wp e) I.ok.above))).trans e1⟩
  ·obtain⟨o',e1⟩:=I.base.there b o e hx;exact⟨o',(hs.2 b (WS (Wv (Wp e) I.ok.above))).trans e1⟩
  ·by_cases hj:j=i
   ·subst hj;rw[hi] at e1; cases e1
    rw[Wb Bx] at e2
    cases e2;exact⟨u,r,.inl ⟨hk,by simp⟩⟩
   ·rw[W5 (Ne.symm hj)] at e2;obtain⟨u',r',q⟩:=hl j y v' e1 e2 e3;refine⟨u',r',?_⟩;rcases q with ⟨k,e⟩ | ⟨k,c,e,z⟩
    ·refine .inl ⟨k,?_⟩;have:y≠x:=λe=>hj (Bv hN e1 (e ▸ hi))
     simp[this,e]
    ·exact .inr ⟨k,c,e,z.sameBut hs (ny y c e)⟩
  ·obtain⟨w',z⟩:=I.cell y c e;exact⟨w',z.sameBut hs (ny y c e)⟩
  ·obtain⟨e,n,ne,nf,d⟩:=I.pin p hp;exact⟨(hs.2 p.1 ne).trans e,n,ne,nf,d⟩
 ·have qz:X.fn x=true:=by
   rcases hf with z | z
   ·exact z
   ·rw[z] at hk; cases hk
  obtain⟨c,hc⟩:=I.ok.has x (.inl hk);obtain⟨w',z⟩:=I.cell x c hc;refine wpAny_storeName_cell I.ok.kind hk hc z (λh' jH hs=>?_);obtain⟨oc,hoc,hocd⟩:=id z;refine h { s with heap:=h' } ⟨I.ok,I.os,I.bare,⟨λb o e n hb hx=>?_,λb o e n hb hx=>?_,I.base.free,λb o e hx=>?_,I.base.lM,I.base.kR,I.base.lN⟩,⟨m,hn.sameBut hs (Ne.symm (ny x c hc)),λj y v' e1 e2 e3=>?_⟩,λy c' e=>?_,I.free,I.jG,λp hp=>?_,tracked ⟨oc,hoc,I.jG x c hc⟩ hs,by simpa using I.len⟩ ⟨c,hs,.inr hc⟩
  ·exact(hs.2 b (WS (Wv (Wp e) (I.ok.qt x c qz hc)))).trans (I.base.keep b o e n hb hx)
  ·obtain⟨sl,e1⟩:=I.base.slot b o e n hb hx;exact⟨sl,(hs.2 b (WS (Wv (Wp e) (I.ok.qt x c qz hc)))).trans e1⟩
  ·obtain⟨o',e1⟩:=I.base.there b o e hx;exact⟨o',(hs.2 b (WS (Wv (Wp e) (I.ok.qt x c qz hc)))).trans e1⟩
  ·by_cases hj:j=i
   ·subst hj;rw[hi] at e1; cases e1
    rw[Wb Bx] at e2
    cases e2;exact⟨u,r,.inr ⟨.inl hk,c,hc,jH⟩⟩
   ·rw[W5 (Ne.symm hj)] at e2;obtain⟨u',r',q⟩:=hl j y v' e1 e2 e3;refine⟨u',r',?_⟩;rcases q with q | ⟨k,c',e,z'⟩
    ·exact .inl q
    ·refine .inr ⟨k,c',e,z'.sameBut hs ?_⟩;rintro rfl;exact hj (Bv hN e1 (I.ok.inj _ _ _ e hc ▸ hi))
  ·by_cases hcc:c'=c
   ·subst hcc; exact⟨_,jH⟩
   ·obtain⟨w2,z2⟩:=I.cell y c' e;exact⟨w2,z2.sameBut hs hcc⟩
  ·obtain⟨e,n,ne,nf,d⟩:=I.pin p hp;refine⟨(hs.2 p.1 ?_).trans e,n,ne,nf,d⟩;intro q;rw[q,hoc] at e;have q':oc=p.2:=Wz e;exact d w' (by rw[<- q']; exact hocd)
theorem sY(I:Inv X pins σ H s)(hN:X.N.Nodup)(hi:X.N[i]? = some x)(hx:Loc X.env.scope x)(r:RelV v u)
  (h:∀ s',Inv X pins (σ.set i (some v)) H s'->Q () s') (hf:X.fn x=true\/X.env.scope.names.lookup x=some .local:=by first | exact .inl rfl | exact .inr rfl | assumption):Wf M A (storeName X.env x u) Q E s :=
 Bw I hN hi hx r (λs' I' _=>h s' I') hf
theorem Inv.Ij(I:Inv X pins σ H s)(ho:s'.os=s.os)(u:Un (iE X.stack) ch H H' s.heap s'.heap)(aM:cQ X.prog X.w H' s'.heap)(hg:AllBare s'.gens)
  (kf:∀ b ∈ ch,(b ∈ X.ex\/X.s₀.heap.objs.size<=b)/\b≠X.env.locals/\(∀ x c,X.env.cells.lookup x=some c->c≠b)/\∀ p ∈ X.pn ++ pins,p.1≠b):Inv X pins σ H' s':=by
 obtain⟨h',g',d',t',o'⟩:=s';have e:o'=s.os:=ho;subst e;exact I.call (g':=g') (t':=t') (d':=d') u aM hg kf
end
abbrev XK:=Value->Option Addr->Hp->Prop
abbrev St:=List (Option V)
abbrev VK:=V->Hp->Prop
abbrev TE:=St->Hp->VK->Prop
abbrev TT:=St->Hp->(Bool->Hp->Prop)->Prop
abbrev TA:=St->Hp->(List V->Hp->Prop)->Prop
structure Ends where
 nx:St->Hp->Prop
 rt:VK
 bk:St->Hp->Prop:=λ_ _=>False
 ct:St->Hp->Prop:=λ_ _=>False
abbrev TS:=Ends->St->Hp->Prop
def EP(X:Cx)(pins:List (Addr×Obj))(σ:St)(Q:VK)(u:Value)(s':W2):Prop:=∃ v H',Inv X pins σ H' s'/\RelV v u/\Q v H'
def TP(X:Cx)(pins:List (Addr×Obj))(σ:St)(Q:Bool->Hp->Prop)(b:Bool)(s':W2):Prop:=∃ H',Inv X pins σ H' s'/\Q b H'
def AP(X:Cx)(pins:List (Addr×Obj))(σ:St)(Q:List V->Hp->Prop)(us:List Value)(s':W2):Prop:=∃ vs H',Inv X pins σ H' s'/\Vals vs us/\Q vs H'
def SP(X:Cx)(pins:List (Addr×Obj))(D:Ends)(f:Flow)(s':W2):Prop :=
 match f with
 | .next=>∃ σ' H',Inv X pins σ' H' s'/\D.nx σ' H'
 | .brk=>∃ σ' H',Inv X pins σ' H' s'/\D.bk σ' H'
 | .cont=>∃ σ' H',Inv X pins σ' H' s'/\D.ct σ' H'
 | .ret u=>∃ v σ' H',Inv X pins σ' H' s'/\RelV v u/\D.rt v H'
def PE(X:Cx)(e:Expr)(t:TE):Prop :=
 ∀ (pins:List (Addr×Obj)) (s:W2) (σ:St) (H:Hp) (Q:VK),Inv X pins σ H s->t σ H Q->Wf (model X.prog X.w) X.A (eval e X.env) (EP X pins σ Q) X.xe s
def PT(X:Cx)(e:Expr)(t:TT):Prop :=
 ∀ (pins:List (Addr×Obj)) (s:W2) (σ:St) (H:Hp) (Q:Bool->Hp->Prop),Inv X pins σ H s->t σ H Q->Wf (model X.prog X.w) X.A (isTrue e X.env (eval e X.env)) (TP X pins σ Q) X.xe s
def PW(X:Cx)(e:Expr)(t:TT):Prop :=
 ∀ (whole:Sem Value) (pins:List (Addr×Obj)) (s:W2) (σ:St) (H:Hp) (Q:Bool->Hp->Prop),Inv X pins σ H s->t σ H Q->Wf (model X.prog X.w) X.A (isTrue e X.env whole) (TP X pins σ Q) X.xe s
theorem PW.pt(h:PW X e t):PT X e t:=h _
def PA(X:Cx)(es:List Expr)(t:TA):Prop :=
 ∀ (pos:Pos) (pins:List (Addr×Obj)) (s:W2) (σ:St) (H:Hp) (Q:List V->Hp->Prop),Inv X pins σ H s->t σ H Q->Wf (model X.prog X.w) X.A (spliced (QW pos (Wk es X.env))) (AP X pins σ Q) X.xe s
def PS(X:Cx)(st:Stmt)(t:TS):Prop :=
 ∀ (pins:List (Addr×Obj)) (s:W2) (σ:St) (H:Hp) (D:Ends),Inv X pins σ H s->t D σ H->Wf (model X.prog X.w) X.A (exec st X.env) (SP X pins D) X.xe s
def fg(X:Cx)(st:List Stmt)(t:TS):Prop :=
 ∀ (pins:List (Addr×Obj)) (s:W2) (σ:St) (H:Hp) (D:Ends),Inv X pins σ H s->t D σ H->Wf (model X.prog X.w) X.A (execs st X.env) (SP X pins D) X.xe s
theorem a0(h:Wf M A t Q E s)(hQ:∀ a s,Q a s->Q' a s):Wf M A t Q' E s:=QF h hQ λ_ _ x=>x
section
variable {X:Cx}
theorem bin{a b:Expr}{ta tb:TE}(ha:PE X a ta)(hb:PE X b tb){pins:List (Addr×Obj)}{s:W2}{σ:St}{H:Hp}{R:V->V->Hp->Prop}(I:Inv X pins σ H s)(h:ta σ H λx H1=>tb σ H1 λy H2=>R x y H2)
  {α:Type} {Q:α->W2->Prop} {f:Value->Value->Sem α}
  (hf:∀ v u s2 x y H2,Inv X pins σ H2 s2->RelV x v->RelV y u->R x y H2->Wf (model X.prog X.w) X.A (f v u) Q X.xe s2) :
  Wf (model X.prog X.w) X.A (eval a X.env) (λv s₁=>Wf (model X.prog X.w) X.A (eval b X.env) (λu s₂=>Wf (model X.prog X.w) X.A (f v u) Q X.xe s₂) X.xe s₁) X.xe s:=by
 refine a0 (ha pins s σ H _ I h) λv s1 ⟨x,H1,I1,r1,q1⟩=>?_
 refine a0 (hb pins s1 σ H1 _ I1 q1) λu s2 ⟨y,H2,I2,r2,q2⟩=>?_
 exact hf v u s2 x y H2 I2 r1 r2 q2
def cJ(i:Nat):TE:=λσ H Q=>∃ v,σ[i]? = some (some v)/\Q v H
def tC(v:V):TE:=λ_ H Q=>Q v H
theorem Ik (hN:X.N[i]? = some x) (hv:sU X.env.scope x) (hd:(x == ("__debug__" : Str))=false:=by decide) (jI:(x == ("__classdict__" : Str))=false:=by decide):PE X (.Name x pos) (cJ i):=by
 intro pins s σ H Q I h;obtain⟨v,e,h⟩:=h;obtain⟨m,hn,hl⟩:=I.loc;obtain⟨u,r,l⟩:=hl i x v hN e hv;have fin:EP X pins σ Q u s:=⟨v,H,I,r,h⟩
 rcases l with ⟨hk,hm⟩ | ⟨hk,c,hc,hcell⟩
 ·exact wpAny_Name (wpAny_loadName_local I.ok.kind hk hn hm fin) hd
 ·rcases hk with hk | hk
  ·exact wpAny_Name (wpAny_loadName_cell I.ok.kind hk hc hcell fin) hd
  ·exact wpAny_Name (wpAny_loadName_free I.ok.kind hk hc hcell fin jI) hd
theorem By{i j pos}:PE X (.Constant (.int i) j pos) (tC (.int i)):=λ_ _ _ H _ I h=>wpAny_Constant_int ⟨.int i,H,I.tok _,⟨_,rfl⟩,h⟩
theorem Il{b j pos}:PE X (.Constant (.bool b) j pos) (tC (.bl b)):=λ_ _ _ H _ I h=>Constant_bool ⟨.bl b,H,I,rfl,h⟩
theorem Im{j pos}:PE X (.Constant .none j pos) (tC .aI):=λ_ _ _ H _ I h=>Constant_none ⟨.aI,H,I,rfl,h⟩
theorem Bz{x j pos}:PE X (.Constant (.str x) j pos) (tC (.str x)):=λ_ _ _ H _ I h=>Calls.Constant_str ⟨.str x,H,I.tok _,⟨_,rfl⟩,h⟩
def Gl(X:Cx)(x:Str):Prop:=X.env.kindOf x=some .globalImplicit
theorem Io(I:Inv X pins σ H s)(hg:Gl X x)(hm:X.mg x=some u)(h:Q u s)
  (hd:(x == ("__debug__" : Str))=false:=by decide):Wf (model X.prog X.w) X.A (eval (.Name x pos) X.env) Q E s :=
 Calls.Name_function_global I.ok.kind hg (Calls.loadGlobal_global (by rw[I.ok.glob]; exact I.mod.glob.keeps I.bk) hm h) hd
theorem qA(I:Inv X pins σ H s)(hg:Gl X x)(hm:X.mg x=none)(hv:QB x=some u)(h:Q u s)
  (hn:x≠"__name__":=by decide) (hd:(x == ("__debug__" : Str))=false:=by decide):Wf (model X.prog X.w) X.A (eval (.Name x pos) X.env) Q E s:=by
 obtain⟨mb,h1,h2⟩:=I.mod.blt;exact Calls.Name_function_global I.ok.kind hg (Calls.loadGlobal_builtin (by rw[I.ok.glob]; exact I.mod.glob.keeps I.bk) hm (by rw[I.ok.blt]; exact h1.keeps I.bk) ((h2 x hn).trans hv) h) hd
theorem Ip (hg:Gl X x) (hm:X.mg x=none) (hv:QB x=some u) (r:RelV v u) (hn:x≠"__name__":=by decide) (hd:(x == ("__debug__" : Str))=false:=by decide):PE X (.Name x pos) (tC v) :=
 λ_ _ _ H _ I h=>qA I hg hm hv ⟨v,H,I,r,h⟩ hn hd
variable {a b:Expr} {ta tb:TE} {pos:Pos}
def PC(X:Cx)(op:CmpOp)(a b:Expr)(t:TE):Prop :=
 ∀ (pins:List (Addr×Obj)) (s:W2) (σ:St) (H:Hp) (Q:VK),Inv X pins σ H s->t σ H Q ->
  Wf (model X.prog X.w) X.A (eval a X.env) (λv s₁=>Wf (model X.prog X.w) X.A (eval b X.env) (λu s₂=>Wf (model X.prog X.w) X.A (WL op v u) (EP X pins σ Q) X.xe s₂) X.xe s₁) X.xe s
theorem Iq(b:Expr)(h:op≠.In)(h2:op≠.NotIn):Qu op b=false:=by
 have e1:(op == CmpOp.In)=false:=by cases op <;> first | rfl | exact absurd rfl h
 have e2:(op == CmpOp.NotIn)=false:=by cases op <;> first | rfl | exact absurd rfl h2
 cases b <;> simp[Qu,e1,e2]
def tB(t:TE):TT:=λσ H Q=>t σ H λx H1=>∃ c,x = .bl c/\Q c H1
theorem VM(h:PC X op a b t)(h1:Qu op b=false:=by first | exact Iq _ (by decide) (by decide) | rfl):PT X (.Compare a [op] [b] pos) (tB t):=by
 intro pins s σ H Q I hw;refine wpAny_isTrue_Compare1 (a0 (h pins s σ H _ I hw) λv s1 h1=>a0 h1 λu s2 h2=>a0 h2 λc s3 ⟨x,H1,I1,r1,q1⟩=>?_) h1;obtain⟨d,rfl,q⟩:=q1
 cases r1;exact Qo ⟨H1,I1,q⟩
theorem Ir(h:PE X e t)(he:∀ whole,isTrue e X.env whole=(do let v <- whole; standAt e.pos; holding [v] (truthy v)):=by intro _; rfl):PT X e (tB t):=by
 intro pins s σ H Q I hw;refine isTrue_plain (a0 (h pins s σ H _ I hw) λv s1 ⟨x,H1,I1,r1,q1⟩=>?_) (he _);obtain⟨d,rfl,q⟩:=q1
 cases r1;exact Qo ⟨H1,I1,q⟩
variable {tA sZ:TT} {rest:List Expr}
def Iu(t u:TT):TT:=λσ H Q=>t σ H λc H1=>if c=true then u σ H1 Q else Q false H1
def Iv(t u:TT):TT:=λσ H Q=>t σ H λc H1=>if c=true then Q true H1 else u σ H1 Q
def Iw(t:TT):TT:=λσ H Q=>t σ H λc H1=>Q (!c) H1
theorem Iy(ha:PT X a tA):PW X (.BoolOp .And [a] pos) tA:=by
 intro wh pins s σ H Q I h;refine isTrue_and (a0 (ha pins s σ H Q I h) λc s1 e=>?_)
 cases c with
 | true=>exact isTrue_and_nil e
 | false=>exact e
theorem Iz(ha:PT X a tA):PW X (.BoolOp .Or [a] pos) tA:=by
 intro wh pins s σ H Q I h;refine isTrue_or (a0 (ha pins s σ H Q I h) λc s1 e=>?_)
 cases c with
 | false=>exact isTrue_or_nil e
 | true=>exact e
theorem IA(ha:PT X a tA)(hb:PW X (.BoolOp .And (b :: rest) pos) sZ):PW X (.BoolOp .And (a :: b :: rest) pos) (Iu tA sZ):=by
 intro wh pins s σ H Q I h;refine isTrue_and (a0 (ha pins s σ H _ I h) λc s1 ⟨H1,I1,q1⟩=>?_)
 cases c with
 | true=>exact hb wh pins s1 σ H1 Q I1 q1
 | false=>exact⟨H1,I1,q1⟩
theorem pw_or(ha:PT X a tA)(hb:PW X (.BoolOp .Or (b :: rest) pos) sZ):PW X (.BoolOp .Or (a :: b :: rest) pos) (Iv tA sZ):=by
 intro wh pins s σ H Q I h;refine isTrue_or (a0 (ha pins s σ H _ I h) λc s1 ⟨H1,I1,q1⟩=>?_)
 cases c with
 | true=>exact⟨H1,I1,q1⟩
 | false=>exact hb wh pins s1 σ H1 Q I1 q1
theorem IB(ha:PT X a tA):PT X (.UnaryOp .Not a pos) (Iw tA):=by
 intro pins s σ H Q I h;exact isTrue_not (ha pins s σ H (λc H1=>Q (!c) H1) I h)
def IC(ta tb:TE):TE:=λσ H Q=>ta σ H λx H1=>∃ c,x = .bl c/\if c=true then tb σ H1 Q else Q (.bl false) H1
def ID(ta:TE):TE:=λσ H Q=>ta σ H λx H1=>∃ c,x = .bl c/\Q (.bl (!c)) H1
theorem IE{op}(h:PE X a t):PE X (.BoolOp op [a] pos) t:=λpins s σ H Q I hw=>BoolOp_one (h pins s σ H Q I hw)
theorem IF(ha:PE X a ta)(hb:PE X (.BoolOp .And (b :: rest) pos) tb):PE X (.BoolOp .And (a :: b :: rest) pos) (IC ta tb):=by
 intro pins s σ H Q I h;refine BoolOp_and (a0 (ha pins s σ H _ I h) λv s1 ⟨x,H1,I1,r1,q1⟩=>?_);obtain⟨c,rfl,q1⟩:=q1
 cases r1;refine Qo ?_
 cases c with
 | true=>exact hb pins s1 σ H1 Q I1 q1
 | false=>exact⟨.bl false,H1,I1,rfl,q1⟩
theorem IG(ha:PE X a ta):PE X (.UnaryOp .Not a pos) (ID ta):=by
 intro pins s σ H Q I h;refine UnaryOp_ (a0 (ha pins s σ H _ I h) λv s1 ⟨x,H1,I1,r1,q1⟩=>?_);obtain⟨c,rfl,q1⟩:=q1
 cases r1;exact not_of (Qo ⟨.bl (!c),H1,I1,rfl,q1⟩)
def IH(t:TT)(ta tb:TE):TE:=λσ H Q=>t σ H λc H1=>if c=true then ta σ H1 Q else tb σ H1 Q
theorem II(hc:PT X c tA)(ha:PE X a ta)(hb:PE X b tb):PE X (.IfExp c a b pos) (IH tA ta tb):=by
 intro pins s σ H Q I h;refine wpAny_IfExp (a0 (hc pins s σ H _ I h) λd s1 ⟨H1,I1,q1⟩=>?_)
 cases d with
 | true=>exact ha pins s1 σ H1 Q I1 q1
 | false=>exact hb pins s1 σ H1 Q I1 q1
end
def cK(K:W1)(H:Hp)(a:Addr)(xs:List V):Prop :=
 Rd H a (.lst xs) \/
  ∃ (o:Obj) (aj:Array Value) (n:Nat),K.lookup a=some o/\o.cls = .type "list"/\o.dict=none/\o.data = .seq aj n/\aj.size<=We/\Vals xs aj.toList
def cR(K:W1)(H:Hp)(a:Addr)(xs:List V):Prop :=
 Rd H a (.tup xs) \/
  ∃ (o:Obj) (aj:Array Value) (n:Nat),K.lookup a=some o/\o.cls = .type "tuple"/\o.data = .seq aj n/\aj.size<=We/\Vals xs aj.toList
def IJ:Value->Option V
 | .none=>some .aI
 | .bool b=>some (.bl b)
 | .int i _=>some (.int i)
 | .str x _=>some (.str x)
 | .bytes b _=>some (.byt b)
 | .float b _=>some (.flt b)
 | .ref a=>some (.ref a)
 | .type n=>some (.ty n)
 | _=>none
theorem RelV.abs(r:RelV x u):IJ u=some x:=by
 cases x with
 | aI=>cases r; rfl
 | bl _=>cases r; rfl
 | int _=>obtain⟨t,rfl⟩:=r; rfl
 | str _=>obtain⟨t,rfl⟩:=r; rfl
 | byt _=>obtain⟨t,rfl⟩:=r; rfl
 | flt _=>obtain⟨t,rfl⟩:=r; rfl
 | ref _=>cases r; rfl
 | ty _=>cases r; rfl
theorem RelV.inj(r:RelV x u)(q:RelV y u):x=y:=Wz (r.abs.symm.trans q.abs)
theorem Vals.inj:∀ {xs ys:List V} {us:List Value},Vals xs us->Vals ys us->xs=ys
 | _,_,_,.nil,.nil=>rfl
 | _,_,_,.cons r t,.cons r' t'=>by rw[r.inj r',Vals.inj t t']
section
variable {X:Cx} {pins:List (Addr×Obj)} {σ:St} {H:Hp} {s:W2} {a:Addr} {xs ys:List V}
theorem cK.of{K:W1}(h:H a=some (.lst xs)):cK K H a xs:=.inl (.inl h)
theorem cR.of{K:W1}(h:H a=some (.tup xs)):cR K H a xs:=.inl (.inl h)
theorem Inv.list(I:Inv X pins σ H s)(h:cK X.K H a xs):∃ aj:List Value,Vals xs aj/\PlainL s.heap a aj.toArray/\xs.length<=We:=by
 rcases h with h | ⟨o,aj,n,hk,hc,hd,hs,hz,r⟩
 ·obtain⟨z,aj,n,r,e⟩:=h.ok I.aM;exact⟨aj,r,⟨_,n,e,rfl,rfl,rfl⟩,z⟩
 ·refine⟨aj.toList,r,⟨o,n,I.gb a o hk,hc,hd,by simpa using hs⟩,?_⟩;have e:=r.length;simp only[QX] at e;omega
theorem Inv.tuple(I:Inv X pins σ H s)(h:cR X.K H a xs):∃ aj:List Value,Vals xs aj/\IsTup s.heap a aj.toArray/\xs.length<=We:=by
 rcases h with h | ⟨o,aj,n,hk,hc,hs,hz,r⟩
 ·obtain⟨z,aj,r,p⟩:=h.ok I.aM;exact⟨aj,r,p.tup,z⟩
 ·refine⟨aj.toList,r,⟨o,I.gb a o hk,hc,n,by simpa using hs⟩,?_⟩;have e:=r.length;simp only[QX] at e;omega
theorem Inv.BA(I:Inv X pins σ H s)(h:cK X.K H a xs)(h':cK X.K H a ys):xs=ys:=by
 obtain⟨aj,r,⟨o,n,e,_,_,d⟩,_⟩:=I.list h;obtain⟨its',r',⟨o',n',e',_,_,d'⟩,_⟩:=I.list h';rw[e] at e'; cases e'
 rw[d] at d';injection d' with d1 _
 have:aj=its':=by simpa using congrArg Array.toList d1
 subst this;exact r.inj r'
theorem Inv.BB(I:Inv X pins σ H s)(h:cR X.K H a xs)(h':cR X.K H a ys):xs=ys:=by
 obtain⟨aj,r,⟨o,e,_,n,d⟩,_⟩:=I.tuple h;obtain⟨its',r',⟨o',e',_,n',d'⟩,_⟩:=I.tuple h';rw[e] at e'; cases e'
 rw[d] at d';injection d' with d1 _
 have:aj=its':=by simpa using congrArg Array.toList d1
 subst this;exact r.inj r'
end
abbrev Cx.kg(X:Cx)(E:Value->W2->Prop):Cx:={ X with xe:=E }
abbrev Cx.pe(X:Cx):Cx:=X.kg λ_ _=>False
theorem Cx.Ok.kg{X:Cx}(ok:X.Ok)(E:Value->W2->Prop):(X.kg E).Ok :=
 ⟨ok.mod,ok.kind,ok.glob,ok.blt,ok.above,ok.inj,ok.has,ok.qt,ok.hd,ok.frames,ok.sV,ok.sW,ok.bs,ok.lO,ok.qu,ok.qw,ok.jF,ok.o_⟩
theorem Cx.Ok.lQ{X:Cx}{E:Value->W2->Prop}(ok:(X.kg E).Ok):X.Ok :=
 ⟨ok.mod,ok.kind,ok.glob,ok.blt,ok.above,ok.inj,ok.has,ok.qt,ok.hd,ok.frames,ok.sV,ok.sW,ok.bs,ok.lO,ok.qu,ok.qw,ok.jF,ok.o_⟩
section
variable {X:Cx} {pins:List (Addr×Obj)} {σ:St} {H:Hp} {s:W2} {E:Value->W2->Prop}
theorem Inv.kg(I:Inv X pins σ H s)(E:Value->W2->Prop):Inv (X.kg E) pins σ H s:=⟨I.ok.kg E,I.os,I.bare,I.base,I.loc,I.cell,I.free,I.jG,I.pin,I.aM,I.len⟩
theorem Inv.lQ(I:Inv (X.kg E) pins σ H s):Inv X pins σ H s:=⟨I.ok.lQ,I.os,I.bare,I.base,I.loc,I.cell,I.free,I.jG,I.pin,I.aM,I.len⟩
theorem SP.lQ(h:SP (X.kg E) pins D f s'):SP X pins D f s':=by
 cases f with
 | next=>obtain⟨σ',H',I,q⟩:=h; exact⟨σ',H',I.lQ,q⟩
 | brk=>obtain⟨σ',H',I,q⟩:=h; exact⟨σ',H',I.lQ,q⟩
 | cont=>obtain⟨σ',H',I,q⟩:=h; exact⟨σ',H',I.lQ,q⟩
 | ret u=>obtain⟨v,σ',H',I,r,q⟩:=h; exact⟨v,σ',H',I.lQ,r,q⟩
theorem fg.pe{st:List Stmt}{t:TS}(h:fg X.pe st t):fg X st t:=λpins s σ H D I hw =>
 QF (h pins s σ H D (I.kg _) hw) (λ_ _ q=>q.lQ) λ_ _ z=>False.elim z
end
section
variable {X:Cx} {st:Stmt} {rest:List Stmt} {t u:TS} {e:Expr} {te:TE} {pos:Pos}
def IK:TS:=λD σ H=>D.nx σ H
def IL(t u:TS):TS:=λD σ H=>t { D with nx:=u D } σ H
theorem IM:fg X [] IK:=λ_ _ σ H _ I h=>wpAny_execs_nil ⟨σ,H,I,h⟩
theorem s_(h1:PS X st t)(h2:fg X rest u):fg X (st :: rest) (IL t u):=by
 intro pins s σ H D I h;refine wpAny_execs_cons (a0 (h1 pins s σ H { D with nx:=u D } I h) λf s1 q=>?_)
 cases f with
 | next =>
  obtain⟨σ',H',I',q⟩:=q;exact h2 pins s1 σ' H' D I' q
 | ret v=>exact q
 | brk=>exact q
 | cont=>exact q
theorem BC(h1:PS X st t):fg X [st] t:=by
 intro pins s σ H D I h;refine wpAny_execs_cons (a0 (h1 pins s σ H D I h) λf s1 q=>?_)
 cases f with
 | next=>exact wpAny_execs_nil q
 | ret v=>exact q
 | brk=>exact q
 | cont=>exact q
theorem Inv.quiet(I:Inv X pins σ H s):interactive X.env=false:=by simp[interactive,I.ok.kind]
def BF(te:TE):TS:=λD σ H=>te σ H λ_ H1=>D.nx σ H1
theorem IP(he:PE X e te)(hs:Jp e none pos.line X.env=pure false:=by rfl):PS X (.Expr e pos) (BF te):=by
 intro pins s σ H D I h;exact wpAny_Expr_any (a0 (he pins s σ H _ I h) λv s1 ⟨x,H1,I1,r1,q1⟩=>⟨σ,H1,I1,q1⟩) I.quiet hs
def IQ(te:TE):TS:=λD σ H=>te σ H D.rt
theorem BG(he:PE X e te):PS X (.Return (some e) pos) (IQ te):=by
 intro pins s σ H D I h;exact wpAny_Return_some (a0 (he pins s σ H _ I h) λv s1 ⟨x,H1,I1,r1,q1⟩=>⟨x,σ,H1,I1,r1,q1⟩)
def IS(c:TT)(t u:TS):TS:=λD σ H=>c σ H λb H1=>if b=true then t D σ H1 else u D σ H1
theorem IT(hc:PT X c tc)(ha:fg X a t)(hb:fg X b u):PS X (.If c a b pos) (IS tc t u):=by
 intro pins s σ H D I h;refine wpAny_If (a0 (hc pins s σ H _ I h) λd s1 ⟨H1,I1,q1⟩=>?_)
 cases d with
 | true=>exact ha pins s1 σ H1 D I1 q1
 | false=>exact hb pins s1 σ H1 D I1 q1
end
abbrev TG:=V->St->Hp->(St->Hp->Prop)->Prop
abbrev lR:=List V->St->Hp->(St->Hp->Prop)->Prop
def PG(X:Cx)(target:Expr)(t:TG):Prop :=
 ∀ (pins:List (Addr×Obj)) (s:W2) (σ:St) (H:Hp) (v:V) (u:Value) (Q:St->Hp->Prop),Inv X pins σ H s->RelV v u->t v σ H Q ->
  Wf (model X.prog X.w) X.A (assign target X.env u) (λ_ s'=>∃ σ' H',Inv X pins σ' H' s'/\Q σ' H') X.xe s
def iF(X:Cx)(ts:List Expr)(t:lR):Prop :=
 ∀ (pins:List (Addr×Obj)) (s:W2) (σ:St) (H:Hp) (vs:List V) (us:List Value) (Q:St->Hp->Prop),Inv X pins σ H s->Vals vs us->t vs σ H Q ->
  Wf (model X.prog X.w) X.A (assignInOrder ((Qb ts X.env).map (·.2)) us) (λ_ s'=>∃ σ' H',Inv X pins σ' H' s'/\Q σ' H') X.xe s
abbrev BH:=V->V->V->Hp->(Hp->Prop)->Prop
def BI(X:Cx)(t:BH):Prop :=
 ∀ (pins:List (Addr×Obj)) (s:W2) (σ:St) (H:Hp) (o i v:V) (ov iv u:Value) (Q:Hp->Prop),Inv X pins σ H s->RelV o ov->RelV i iv->RelV v u->t o i v H Q ->
  Wf (model X.prog X.w) X.A (setItem ov iv u) (λ_ s'=>∃ H',Inv X pins σ H' s'/\Q H') X.xe s
section
variable {X:Cx} {pos:Pos}
def tf(i:Nat):TG:=λv σ H Q=>Q (σ.set i (some v)) H
theorem BJ(hN:X.N.Nodup)(hi:X.N[i]? = some x)(hx:Loc X.env.scope x)(hf:X.fn x=true\/X.env.scope.names.lookup x=some .local:=by first | exact .inl rfl | exact .inr rfl | assumption):PG X (.Name x pos) (tf i):=by
 intro pins s σ H v u Q I r h;exact wpAny_assign_Name (sY I hN hi hx r (λs' I'=>⟨_,H,I',h⟩) hf)
def IU:lR:=λvs σ H Q=>vs=[]/\Q σ H
def IV(t:TG)(u:lR):lR:=λvs σ H Q=>∃ v r,vs=v :: r/\t v σ H λσ' H'=>u r σ' H' Q
theorem BK:iF X [] IU:=by
 intro pins s σ H vs us Q I r h;obtain⟨e,h⟩:=h;subst e
 cases r;exact assignInOrder_nil ⟨σ,H,I,h⟩
theorem BL(h1:PG X e t)(h2:iF X es u)
  (hs:(Qb (e :: es) X.env).map (·.2)=assign e X.env :: (Qb es X.env).map (·.2):=by rfl):iF X (e :: es) (IV t u):=by
 intro pins s σ H vs us Q I r h;obtain⟨v,vr,e1,h⟩:=h;subst e1
 cases r with
 | cons r rr =>
  rw[hs];refine assignInOrder_cons (a0 (h1 pins s σ H _ _ _ I r h) λ_ s1 ⟨σ1,H1,I1,q1⟩=>?_);exact h2 pins s1 σ1 H1 _ _ Q I1 rr q1
def IW(K:W1)(n:Nat)(t:lR):TG:=λv σ H Q=>∃ a xs,v = .ref a/\cR K H a xs/\xs.length=n/\t xs σ H Q
theorem BM(hc:X.calm=true)(h:iF X es t)
  (hn:(Qb es X.env).length=n:=by rfl) (kh:(Qb es X.env).findIdx? (·.1)=none:=by rfl):PG X (.Tuple es k pos) (IW X.K n t):=by
 intro pins s σ H v u Q I r hw;obtain⟨a,xs,e1,hq,hl,hw⟩:=hw;subst e1
 cases r;obtain⟨aj,rv,ht,hz⟩:=I.tuple hq;refine assign_Tuple_tuple (I.ok.hd hc) ht (by simp[hn,<- hl,rv.length]) kh λh' hx=>?_
 have I1:Inv X pins σ H { s with heap:=h' }:=I.kept (t':=s.toks) λb o e=>hx b o (WS (Wp e)) e
 exact h pins _ σ H xs _ Q I1 (by simpa using rv) hw
def BN(to ti:TE)(t:BH):TG:=λv σ H Q=>to σ H λo H1=>ti σ H1 λi H2=>t o i v H2 λH3=>Q σ H3
theorem BO(ho:PE X o to)(hi:PE X i ti)(hs:BI X t)
  (ha:∀ v,assign (.Subscript o i pos) X.env v=(do
   let ov <- holding [v] (eval o X.env)
   let iv <- holding [v,ov] (eval i X.env)
   standAt pos
   holding [v,ov,iv] (setItem ov iv v)
   release [v,ov,iv] []):=by intro _; rfl):PG X (.Subscript o i pos) (BN to ti t):=by
 intro pins s σ H v u Q I r h;rw[ha];refine W0 (Ql (a0 (ho pins s σ H _ I h) λov s1 ⟨x,H1,I1,r1,q1⟩=>?_));refine W0 (Ql (a0 (hi pins s1 σ H1 _ I1 q1) λiv s2 ⟨y,H2,I2,r2,q2⟩=>?_));refine W0 (wpAny_standAt (W0 (Ql (a0 (hs pins s2 σ H2 x y v ov iv u _ I2 r1 r2 r q2) λ_ s3 ⟨H3,I3,q3⟩=>?_))));exact wpAny_release ⟨σ,H3,I3,q3⟩
def qB(te:TE)(g:TG):TS:=λD σ H=>te σ H λx H1=>g x σ H1 D.nx
theorem vM(he:PE X e te)(hg:PG X tg g)(hs:Jq [tg] e pos.line X.env=pure false:=by rfl)(hw:Jr [tg] e X.env=pure none:=by rfl)
  (h1:(Qb [tg] X.env).map (·.2)=[assign tg X.env]:=by rfl):PS X (.Assign [tg] e pos) (qB te g):=by
 intro pins s σ H D I h;refine wpAny_Assign_stores (a0 (he pins s σ H _ I h) λv s1 ⟨x,H1,I1,r1,q1⟩=>?_) hs hw;rw[h1];exact a0 (hg pins s1 σ H1 x v _ I1 r1 q1) λ_ s2 q=>q
theorem IX(hN:X.N.Nodup)(hi:X.N[i]? = some x)(hx:Loc X.env.scope x)(he:PE X e te)(hs:Jp e (some (.Name x pos')) pos.line X.env=pure false:=by rfl)(hf:X.fn x=true\/X.env.scope.names.lookup x=some .local:=by first | exact .inl rfl | exact .inr rfl | assumption) :
  PS X (.Assign [.Name x pos'] e pos) (qB te (tf i)):=by
 intro pins s σ H D I h;refine wpAny_Assign_Name (a0 (he pins s σ H _ I h) λv s1 ⟨y,H1,I1,r1,q1⟩=>?_) hs;exact sY I1 hN hi hx r1 (λs2 I2=>⟨_,H1,I2,q1⟩) hf
def IY(i j:Nat)(ta:TA):TS:=λD σ H=>ta σ H λvs H1=>∃ v w,vs=[v,w]/\D.nx ((σ.set i (some v)).set j (some w)) H1
theorem IZ{kt k2 pt2}(hc:X.calm=true)(hN:X.N.Nodup)(hi:X.N[i]? = some x)(hj:X.N[j]? = some y)(qC:i≠j)
  (hx:X.env.scope.names.lookup x=some .local) (hy:X.env.scope.names.lookup y=some .local) (ha:PA X [a,b] ta)
  (hw:Jr [.Tuple [.Name x px,.Name y py] kt pt] (.Tuple [a,b] k2 pt2) X.env=pure (some [x,y]))
  (hs:Jq [.Tuple [.Name x px,.Name y py] kt pt] (.Tuple [a,b] k2 pt2) pos.line X.env=pure false:=by rfl) :
  PS X (.Assign [.Tuple [.Name x px,.Name y py] kt pt] (.Tuple [a,b] k2 pt2) pos) (IY i j ta):=by
 intro pins s σ H D I h;rw[exec_Assign_arm];refine W0 (wpAny_standAt ?_);rw[hs];refine W0 (W7 ?_);rw[if_neg (by decide)];refine W0 (Tuple_ (a0 (ha _ pins s σ H _ I h) λus s1 ⟨vs,H1,I1,r1,q1⟩=>?_));obtain⟨v,w,e1,q1⟩:=q1;subst e1;obtain⟨u1,u2,rfl,rv,aP⟩:∃ u1 u2,us=[u1,u2]/\RelV v u1/\RelV w u2:=by
  cases r1 with
  | cons p q =>
   cases q with
   | cons p' q' =>
    cases q';exact⟨_,_,rfl,p,p'⟩
 refine WZ ?_ (by show 2<=We; decide);have I2:Inv X pins σ H1 { s1 with heap:=s1.heap.push { cls:=.type "tuple",data:=.seq [u1,u2].toArray } }:=I1.kept (t':=s1.toks) λb o e=>Wd _ e
 rw[hw];refine W0 (W7 ?_);show Wf (model X.prog X.w) X.A (do rule "assign.swapped-stores"; let items <- unpackItems (.ref s1.heap.objs.size) 2 none; assignInOrder [λv=>bindName X.env y v,λv=>bindName X.env x v] items.reverse; pure Flow.next) _ _ _;refine W0 (Ja (W0 (unpackItems_tuple (items:=#[u1,u2]) (I.ok.hd hc) (IsTup.new s1.heap _) λh' gM=>?_)));have I3:=I2.kept (h':=h') (t':=s1.toks) λb o e=>gM b o (WS (Wp e)) e
 show Wf _ _ (assignInOrder [λv=>bindName X.env y v,λv=>bindName X.env x v] [u2,u1] >>= λ_=>pure Flow.next) _ _ _;refine W0 (assignInOrder_cons (wpAny_bindName (sY I3 hN hj (.inl hy) aP (λs2 I4=>?_) (.inr hy))));refine assignInOrder_cons (wpAny_bindName (sY I4 hN hi (.inl hx) rv (λs3 I5=>assignInOrder_nil (W7 ?_)) (.inr hx)));rw[List.set_comm _ _ (Ne.symm qC)] at I5;exact⟨_,H1,I5,q1⟩
end
section
variable {X:Cx} {pos:Pos}
def BP(c:TT)(tb:TS):TS:=λD σ H=>∃ W:Nat->St->Hp->Prop,(∃ m,W m σ H)/\∀ m σ H,W m σ H ->
 c σ H λb H1=>if b=true then ∃ N:St->Hp->Prop,(∀ σ' H',N σ' H'->∃ m',m' < m/\W m' σ' H')/\tb { D with nx:=N,ct:=N,bk:=D.nx } σ H1 else D.nx σ H1
theorem BQ(hp:PassesOwn (model X.prog X.w) X.A X.env X.xe)(hc:PT X c tc)(hb:fg X body tb):PS X (.While c body [] pos) (BP tc tb):=by
 intro pins s σ H D I h;obtain⟨W,⟨m0,w0⟩,turn⟩:=h;refine wpAny_While (codeAny_whileLoop (λn s'=>∃ σ' H',Inv X pins σ' H' s'/\W n σ' H') ?_ m0 ⟨σ,H,I,w0⟩);rintro n s1 ⟨σ1,H1,I1,w1⟩;refine J2 hp (a0 (hc pins s1 σ1 H1 _ I1 (turn n σ1 H1 w1)) λb s2 ⟨H2,I2,q2⟩=>?_)
 cases b with
 | true =>
  obtain⟨N,hN,q2⟩:=q2;rw[if_pos rfl];refine J2 hp (a0 (hb pins s2 σ1 H2 _ I2 q2) λf s3 q3=>?_)
  cases f with
  | next =>
   obtain⟨σ3,H3,I3,n3⟩:=q3;obtain⟨m',hm,w3⟩:=hN σ3 H3 n3;exact⟨m',hm,σ3,H3,I3,w3⟩
  | cont =>
   obtain⟨σ3,H3,I3,n3⟩:=q3;obtain⟨m',hm,w3⟩:=hN σ3 H3 n3;exact⟨m',hm,σ3,H3,I3,w3⟩
  | brk=>exact q3
  | ret v=>exact q3
 | false =>
  rw[if_neg WH];exact wpAny_execs_nil ⟨σ1,H2,I2,q2⟩
end
structure It where
 go:Nat->Hp->Prop
 qD:Nat->Hp->V->Hp->Prop
 stop:Nat->Hp->Prop
def gN(X:Cx)(pins:List (Addr×Obj))(H:Hp)(b:Addr):Prop :=
 H b=none/\b≠X.env.locals/\b ∉ X.fs/\(b ∈ X.ex\/X.s₀.heap.objs.size<=b)/\(∀ x c,X.env.cells.lookup x=some c->c≠b)/\∀ p ∈ X.pn ++ pins,p.1≠b
theorem Inv.ki(I:Inv X pins σ H s)(hb:s.heap.objs.size<=b)(hn:H' b=none):gN X pins H' b:=by
 refine⟨hn,Jf (Wv I.lt hb),I.Ih hb,.inr (Ws I.sz hb),λx c e z=>?_,λp hp z=>?_⟩
 ·obtain⟨v,q⟩:=I.cell x c e;exact absurd (Wv q.lt (by rw[z]; exact hb)) (Qt _)
 ·exact absurd (Wv (Wp (I.pin p hp).1) (by rw[z]; exact hb)) (Qt _)
structure Turn(P:Wm)(w:Wr)(K:W1)(tg:Expr)(J:It)(fp:List Addr)(it:Addr)(tn:Nat->Heap->Prop):Prop where
 mem:it ∈ fp
 obj:∀ i h,tn i h->∀ b ∈ fp,∃ o,h.get? b=some o/\∀ v,o.data≠.cell v
 keep:∀ i h h',tn i h->(∀ b ∈ fp,∀ o,h.get? b=some o->h'.get? b=some o)->tn i h'
 item:∀ (X:Cx),X.prog=P->X.w=w->X.K=K->X.calm=true->∀ (i:Nat) (pins:List (Addr×Obj)) (s:W2) (σ:St) (H:Hp) (E:Value->W2->Prop),Inv X pins σ H s->(∀ b ∈ fp,gN X pins H b)->tn i s.heap->J.go i H ->
  Wf (model P w) X.A (J8 (.ref it)) (λr s1=>∃ u,r=some u /\
   Wf (model P w) X.A (letOwnedTupleGo tg (.ref it) u) (λ_ s2=>∃ x H',Inv X pins σ H' s2/\RelV x u/\J.qD i H x H'/\tn (i + 1) s2.heap/\∀ b ∈ fp,H' b=none) E s1) E s
 done:∀ (X:Cx),X.prog=P->X.w=w->X.K=K->X.calm=true->∀ (i:Nat) (pins:List (Addr×Obj)) (s:W2) (σ:St) (H:Hp) (E:Value->W2->Prop),Inv X pins σ H s->(∀ b ∈ fp,gN X pins H b)->tn i s.heap->J.stop i H ->
  Wf (model P w) X.A (J8 (.ref it)) (λr s1=>r=none/\Inv X pins σ H s1) E s
 self:∀ (A:Wt) (i:Nat) (s:W2) (Q:Value->W2->Prop) (E:Value->W2->Prop),tn i s.heap->Q (.ref it) s->Wf (model P w) A (pyIter (.ref it)) Q E s
abbrev TI:=St->Hp->(It->Hp->Prop)->Prop
def BR(X:Cx)(pins:List (Addr×Obj))(σ:St)(tg:Expr)(R:It->Hp->Prop)(tj:Value)(s2:W2):Prop :=
 ∃ (it:Addr) (fp:List Addr) (tn:Nat->Heap->Prop) (J:It) (H':Hp),tj = .ref it/\Inv X pins σ H' s2/\Turn X.prog X.w X.K tg J fp it tn/\tn 0 s2.heap/\(∀ b ∈ fp,gN X pins H' b)/\R J H'
def PI(X:Cx)(tg iter:Expr)(wi:TI):Prop :=
 ∀ (pins:List (Addr×Obj)) (s:W2) (σ:St) (H:Hp) (R:It->Hp->Prop),Inv X pins σ H s->wi σ H R ->
  Wf (model X.prog X.w) X.A (eval iter X.env) (λv s1=>Wf (model X.prog X.w) X.A (pyIter v) (BR X pins σ tg R) X.xe s1) X.xe s
theorem tm(ho:s.heap.get? it=some o)(hc:o.cls = .type n)(hd:o.data = .fields vs)
  (hn:["enumerate","zip","dict_itemiterator","dict_reverseitemiterator","odict_iterator","itertools.zip_longest","itertools.pairwise"].contains n=false) (hQ:Q () s):Wf M A (letOwnedTupleGo tg (.ref it) u) Q E s:=by
 unfold letOwnedTupleGo
 cases tg <;> first
  | exact W7 hQ
  | (cases u <;> first
    | exact W7 hQ
    | (refine W0 (wpAny_load ho ?_); rw[hc,hd]; show Wf M A (if (["enumerate","zip","dict_itemiterator","dict_reverseitemiterator","odict_iterator","itertools.zip_longest","itertools.pairwise"].contains n && vs[0]? == some (rawInt _))=true then _ else _) Q E s; rw[if_neg (by intro h; rw[hn,Bool.false_and] at h; cases h)]; exact W7 hQ))
def BS(K:W1)(a:Addr):It :=
 ⟨λi H=>∃ xs x,cK K H a xs/\xs[i]? = some x,λi H x H'=>H'=H/\∀ xs,cK K H a xs->xs[i]? = some x,λi H=>∃ xs,cK K H a xs/\xs.length<=i⟩
def vN(K:W1)(a:Addr):It :=
 ⟨λi H=>∃ xs x,cR K H a xs/\xs[i]? = some x,λi H x H'=>H'=H/\∀ xs,cR K H a xs->xs[i]? = some x,λi H=>∃ xs,cR K H a xs/\xs.length<=i⟩
def tE(lo:Int)(n:Nat):It:=⟨λi _=>i < n,λi H x H'=>H'=H/\x = .int (lo + i),λi _=>n<=i⟩
theorem I0{P:Wm}{w:Wr}{K:W1}{tg:Expr}(a it:Addr):Turn P w K tg (BS K a) [it] it (λi h=>h.IsListIter it a i) where
 mem:=by simp
 obj:=λi h st b hb=>by
  have e:b=it:=by simpa using hb
  subst e;obtain⟨o,e,c,d⟩:=st;exact⟨o,e,λv z=>by rw[d] at z; cases z⟩
 keep:=λi h h' st k=>st.at λo e=>k it (by simp) o e
 item:=by
  intro X hP hw hK hc i pins s σ H E I hf st hg;subst hP hw hK;obtain⟨xs,x,hq,hx⟩:=hg;obtain⟨aj,rv,p,hz⟩:=I.list hq;obtain⟨u,hu,ru⟩:=rv.get hx;obtain⟨f0,f1,f2,f3,f4,f5⟩:=hf it (by simp);refine wpAny_pyNext_list_item st p.isList (x:=u) (by simpa using hu) λh' hJ sb=>?_
  have I1:Inv X pins σ H { s with heap:=h' }:=I.turned (t':=s.toks) (λb o hb e=>(sb.2 b hb).trans e) f0 f1 f3 f4 f5;obtain⟨o,e,c,d⟩:=id hJ;exact⟨u,rfl,tm (s:={ s with heap:=h' }) e c d (by decide) ⟨x,H,I1,ru,⟨rfl,λys hy=>by rw[I.BA hy hq]; exact hx⟩,hJ,λb hb=>(hf b hb).1⟩⟩
 done:=by
  intro X hP hw hK hc i pins s σ H E I hf st hg;subst hP hw hK;obtain⟨xs,hq,hx⟩:=hg;obtain⟨aj,rv,p,hz⟩:=I.list hq;obtain⟨f0,f1,f2,f3,f4,f5⟩:=hf it (by simp);have hl:=rv.length;exact wpAny_pyNext_list_end (I.ok.hd hc) st p.isList (by simp; omega) λh' eb=>⟨rfl,I.turned (t':=s.toks) (λb o hb e=>eb b o hb e) f0 f1 f3 f4 f5⟩
 self:=λ_ _ _ _ _ st h=>wpAny_pyIter_listiter st h
theorem I_{P:Wm}{w:Wr}{K:W1}{tg:Expr}(a it:Addr):Turn P w K tg (vN K a) [it] it (λi h=>h.IsTupleIter it a i) where
 mem:=by simp
 obj:=λi h st b hb=>by
  have e:b=it:=by simpa using hb
  subst e;obtain⟨o,e,c,d⟩:=st;exact⟨o,e,λv z=>by rw[d] at z; cases z⟩
 keep:=λi h h' st k=>st.at λo e=>k it (by simp) o e
 item:=by
  intro X hP hw hK hc i pins s σ H E I hf st hg;subst hP hw hK;obtain⟨xs,x,hq,hx⟩:=hg;obtain⟨aj,rv,p,hz⟩:=I.tuple hq;obtain⟨u,hu,ru⟩:=rv.get hx;obtain⟨f0,f1,f2,f3,f4,f5⟩:=hf it (by simp);refine wpAny_pyNext_tuple_item st (show s.heap.IsTuple a aj.toArray from p) (x:=u) (by simpa using hu) λh' hJ sb=>?_
  have I1:Inv X pins σ H { s with heap:=h' }:=I.turned (t':=s.toks) (λb o hb e=>(sb.2 b hb).trans e) f0 f1 f3 f4 f5;obtain⟨o,e,c,d⟩:=id hJ;exact⟨u,rfl,tm (s:={ s with heap:=h' }) e c d (by decide) ⟨x,H,I1,ru,⟨rfl,λys hy=>by rw[I.BB hy hq]; exact hx⟩,hJ,λb hb=>(hf b hb).1⟩⟩
 done:=by
  intro X hP hw hK hc i pins s σ H E I hf st hg;subst hP hw hK;obtain⟨xs,hq,hx⟩:=hg;obtain⟨aj,rv,p,hz⟩:=I.tuple hq;obtain⟨f0,f1,f2,f3,f4,f5⟩:=hf it (by simp);have hl:=rv.length;exact wpAny_pyNext_tuple_end (I.ok.hd hc) st (show s.heap.IsTuple a aj.toArray from p) (by simp; omega) λh' eb=>⟨rfl,I.turned (t':=s.toks) (λb o hb e=>eb b o hb e) f0 f1 f3 f4 f5⟩
 self:=λ_ _ _ _ _ st h=>wpAny_pyIter_tupleiter st h
theorem J_{P:Wm}{w:Wr}{K:W1}{tg:Expr}(it:Addr)(lo:Int)(n:Nat):Turn P w K tg (tE lo n) [it] it (λi h=>IsRangeIter h it (lo + (i:Nat) * 1) ((n:Int) - (i:Nat)) 1) where
 mem:=by simp
 obj:=λi h st b hb=>by
  have e:b=it:=by simpa using hb
  subst e;exact⟨_,st,λv z=>by
   have z':Data.fields _=Data.cell v:=z
   cases z'⟩
 keep:=λi h h' st k=>k it (by simp) _ st
 item:=by
  intro X hP hw hK hc i pins s σ H E I hf st hg;subst hP hw hK;obtain⟨f0,f1,f2,f3,f4,f5⟩:=hf it (by simp);have W:=Walks.range (prog:=X.prog) (w:=X.w) (I.ok.hd hc) it lo 1 n;refine W.item i s _ _ hg st λv h' tk hv hJ kk=>?_
  obtain⟨t,rfl⟩:=hv;have I1:Inv X pins σ H { s with heap:=h',toks:=tk }:=I.turned (λb o hb e=>kk b o (by simpa using hb) e) f0 f1 f3 f4 f5;refine⟨_,rfl,tm (s:={ s with heap:=h',toks:=tk }) (n:="range_iterator") hJ rfl rfl (by decide) ⟨.int (lo + i),H,I1,⟨t,?_⟩,⟨rfl,rfl⟩,hJ,λb hb=>(hf b hb).1⟩⟩;rw[Int.mul_one]
 done:=by
  intro X hP hw hK hc i pins s σ H E I hf st hg;subst hP hw hK;obtain⟨f0,f1,f2,f3,f4,f5⟩:=hf it (by simp);exact wpAny_pyNext_range_end (I.ok.hd hc) st (by have:n<=i:=hg; omega) λh' eb=>⟨rfl,I.turned (t':=s.toks) (λb o hb e=>eb b o hb e) f0 f1 f3 f4 f5⟩
 self:=λ_ _ _ _ _ st h=>wpAny_pyIter_rangeiter st h
section
variable {X:Cx} {tg:Expr}
theorem Ka{pins:List (Addr×Obj)}{σ:St}{H:Hp}{s:W2}{R:It->Hp->Prop}{E:Value->W2->Prop}{lo hi:Int}{t u v:Tok}{tk:Nat}(I:Inv X pins σ H s)(h1 : -(2 ^ 62)<=lo)(h2:lo < 2 ^ 62)(h3 : -(2 ^ 62)<=hi)(h4:hi < 2 ^ 62)
  (q:R (tE lo (hi - lo).toNat) H):Wf (model X.prog X.w) X.A (pyIter (.ref s.heap.objs.size)) (BR X pins σ tg R) E { s with heap:=s.heap.push { cls:=.type "range",data:=.fields #[.int lo t,.int hi u,.int 1 v] },toks:=tk }:=by
 refine wpAny_pyIter_range (IsRange.new ..) (small_one h1 h2 h3 h4) ?_;have I1:Inv X pins σ H { s with heap:=s.heap.push { cls:=.type "range",data:=.fields #[.int lo t,.int hi u,.int 1 v] },toks:=tk }:=I.kept λb o e=>Wd _ e
 refine⟨(s.heap.push { cls:=.type "range",data:=.fields #[.int lo t,.int hi u,.int 1 v] }).objs.size,[(s.heap.push { cls:=.type "range",data:=.fields #[.int lo t,.int hi u,.int 1 v] }).objs.size],_,_,H,rfl,
  I1.kept (t':=tk) λb o e=>Wd _ e,J_ _ lo (hi - lo).toNat,?_,λb hb=>?_,q⟩
 ·have e1:lo + ((0:Nat):Int) * 1=lo:=by simp
  have e2:(((hi - lo).toNat:Nat):Int) - ((0:Nat):Int)=Builtin.Range.rangeSize lo hi 1:=by rw[rangeSize_one]; split <;> omega
  show IsRangeIter _ _ (lo + ((0:Nat):Int) * 1) ((((hi - lo).toNat:Nat):Int) - ((0:Nat):Int)) 1;rw[e1,e2];exact Wn _ rfl
 ·have e:b=(s.heap.push { cls:=.type "range",data:=.fields #[.int lo t,.int hi u,.int 1 v] }).objs.size:=by simpa using hb
  subst e;exact I1.ki (Wg _) (I1.aM.fresh (Wg _))
def Kb(ta:TA):TI:=λσ H R=>ta σ H λvs H1=>∃ j:Int,vs=[.int j]/\-(2 ^ 62)<=j/\j < 2 ^ 62/\R (tE 0 j.toNat) H1
theorem Kc {a:Expr} {ta:TA} {p pos:Pos} (hg:Gl X "range") (hm:X.mg "range" = none) (ha:PA X [a] ta) (hs:Wk [a] X.env=[(false,eval a X.env)]:=by rfl):PI X tg (.Call (.Name "range" p) [a] [] pos) (Kb ta):=by
 intro pins s σ H R I h;refine Call_ (qA I hg hm boot_range (PyProof.Rows.callWith_type1 (a0 (ha pos pins s σ H _ I h) λus s1 ⟨vs,H1,I1,r1,q1⟩=>?_) hs rfl));obtain⟨j,e,q1,q2,q⟩:=q1;subst e
 cases r1 with
 | cons r rr =>
  cases rr;obtain⟨t,rfl⟩:=r;exact call_range_1 (Ka I1 (by omega) (by omega) q1 q2 (by simpa using q))
def Kd(wi:TI)(g:TG)(tb:TS):TS:=λD σ H=>wi σ H λJ H1=>∃ W:Nat->Nat->St->Hp->Prop,(∃ m,W 0 m σ H1)/\∀ i m σ H,W i m σ H ->
 (J.stop i H/\D.nx σ H)\/(J.go i H/\∃ N:St->Hp->Prop,(∀ σ' H',N σ' H'->∃ m',m' < m/\W (i + 1) m' σ' H')/\∀ x H',J.qD i H x H'->g x σ H' λσ2 H2=>tb { D with nx:=N,ct:=N,bk:=D.nx } σ2 H2)
def qE(fp:List Addr)(h:Heap):List (Addr×Obj):=fp.filterMap λb=>(h.get? b).map λo=>(b,o)
theorem tF(hb:b ∈ fp)(e:h.get? b=some o):(b,o) ∈ qE fp h:=List.mem_filterMap.mpr ⟨b,hb,by rw[e]; rfl⟩
theorem Ke(hp:p ∈ qE fp h):p.1 ∈ fp/\h.get? p.1=some p.2:=by
 obtain⟨b,hb,e⟩:=List.mem_filterMap.mp hp
 cases q:h.get? b with
 | none=>rw[q] at e; cases e
 | some o =>
  rw[q] at e;have e':(b,o)=p:=Wz e;subst e';exact⟨hb,q⟩
theorem Inv.pinned(I:Inv X pins σ H s)(hf:∀ b ∈ fp,gN X pins H b)(ho:∀ b ∈ fp,∃ o,s.heap.get? b=some o/\∀ v,o.data≠.cell v):Inv X (pins ++ qE fp s.heap) σ H s :=
 I.Bu λp hp=>(WC.mp hp).elim (λz=>I.pin p (WK _ z)) λz=>by
  obtain⟨hb,e⟩:=Ke z;obtain⟨f0,f1,f2,_⟩:=hf p.1 hb;obtain⟨o,e',d⟩:=ho p.1 hb;rw[e] at e'; cases e'
  exact⟨e,f0,f1,f2,d⟩
theorem Inv.tG(I:Inv X (pins ++ pl) σ H s):Inv X pins σ H s:=I.Bu λp hp=>I.pin p (WK _ (J9 _ hp))
theorem BU(hp:PassesOwn (model X.prog X.w) X.A X.env X.xe)(hc:X.calm=true)(hi:PI X tg iter wi)(hg:PG X tg g)(hb:fg X body tb)
  (hs:∀ x,QS iter X.env x=pure x:=by intro _; rfl):PS X (.For tg iter body [] pos) (Kd wi g tb):=by
 intro pins s σ H D I h;refine wpAny_For (a0 (hi pins s σ H _ I h) λv s1 h1=>a0 h1 λtj s2 h2=>?_) hs;obtain⟨it,fp,tn,J,H2,e,I2,T,st2,f2,W,⟨m0,w0⟩,turn⟩:=h2;subst e;-- what stays true of the iterator's objects through the loop
 have vO:∀ {H':Hp},(∀ b ∈ fp,H' b=none)->∀ b ∈ fp,gN X pins H' b:=λhn b hb=>⟨hn b hb,(f2 b hb).2⟩
 refine codeAny_forLoop_any (λn s'=>∃ i σ' H',Inv X pins σ' H' s'/\tn i s'.heap/\(∀ b ∈ fp,H' b=none)/\W i n σ' H') ?_ m0 ⟨0,σ,H2,I2,st2,λb hb=>(f2 b hb).1,w0⟩;rintro n s3 ⟨i,σ3,H3,I3,lS,fr3,w3⟩;rcases turn i n σ3 H3 w3 with ⟨stop,qn⟩ | ⟨go,N,hN,step⟩
 ·refine J2 hp (a0 (T.done X rfl rfl rfl hc i pins s3 σ3 H3 X.xe I3 (vO fr3) lS stop) λr s4 ⟨hr,I4⟩=>?_);subst hr;exact wpAny_execs_nil ⟨σ3,H3,I4,qn⟩
 ·refine J2 hp (a0 (T.item X rfl rfl rfl hc i pins s3 σ3 H3 X.xe I3 (vO fr3) lS go) λr s4 ⟨u,hr,h4⟩=>?_);subst hr;refine J2 hp (a0 h4 λ_ s5 ⟨x,H5,I5,r5,y5,st5,fr5⟩=>?_);have Kf:=I5.pinned (vO fr5) (T.obj _ _ st5);refine J2 hp (a0 (hg _ s5 σ3 H5 x u _ Kf r5 (step x H5 y5)) λ_ s6 ⟨σ6,H6,I6,q6⟩=>?_);refine J2 hp (a0 (hb _ s6 σ6 H6 _ I6 q6) λf s7 q7=>?_);have again:∀ {σ7:St} {H7:Hp},Inv X (pins ++ qE fp s5.heap) σ7 H7 s7->N σ7 H7->∃ m,m < n/\∃ i σ' H',Inv X pins σ' H' s7/\tn i s7.heap/\(∀ b ∈ fp,H' b=none)/\W i m σ' H':=λ{σ7 H7} I7 n7=>by
   obtain⟨m',hm,w7⟩:=hN σ7 H7 n7;refine⟨m',hm,i + 1,σ7,H7,I7.tG,T.keep _ _ _ st5 λb hb o e=>(I7.pin (b,o) (WK _ (WK _ (tF hb e)))).1,λb hb=>?_,w7⟩;obtain⟨o,e,d⟩:=T.obj _ _ st5 b hb;exact(I7.pin (b,o) (WK _ (WK _ (tF hb e)))).2.1
  cases f with
  | next=>obtain⟨σ7,H7,I7,n7⟩:=q7; exact again I7 n7
  | cont=>obtain⟨σ7,H7,I7,n7⟩:=q7; exact again I7 n7
  | brk=>obtain⟨σ7,H7,I7,q7⟩:=q7; exact⟨σ7,H7,I7.tG,q7⟩
  | ret v=>obtain⟨x7,σ7,H7,I7,r7,q7⟩:=q7; exact⟨x7,σ7,H7,I7.tG,r7,q7⟩
end
abbrev R2:=V->V->Hp->VK->Prop
def bP(X:Cx)(f:Value->Value->Sem Value)(r:R2):Prop :=
 ∀ (pins:List (Addr×Obj)) (s:W2) (σ:St) (H:Hp) (x y:V) (v u:Value) (Q:VK),Inv X pins σ H s->RelV x v->RelV y u->r x y H Q ->
  Wf (model X.prog X.w) X.A (f v u) (EP X pins σ Q) X.xe s
def vP(X:Cx)(f:Value->Sem Value)(r:V->Hp->VK->Prop):Prop :=
 ∀ (pins:List (Addr×Obj)) (s:W2) (σ:St) (H:Hp) (x:V) (v:Value) (Q:VK),Inv X pins σ H s->RelV x v->r x H Q ->
  Wf (model X.prog X.w) X.A (f v) (EP X pins σ Q) X.xe s
def eK(X:Cx)(f:Value)(r:List V->Hp->VK->Prop):Prop :=
 ∀ (pins:List (Addr×Obj)) (s:W2) (σ:St) (H:Hp) (xs:List V) (us:List Value) (Q:VK),Inv X pins σ H s->Vals xs us->r xs H Q ->
  Wf (model X.prog X.w) X.A (call f us) (EP X pins σ Q) X.xe s
def jJ(r:R2)(ta tb:TE):TE:=λσ H Q=>ta σ H λx H1=>tb σ H1 λy H2=>r x y H2 Q
def BV(r:V->Hp->VK->Prop)(ta:TE):TE:=λσ H Q=>ta σ H λx H1=>r x H1 Q
def rI(C:Int->Int->Prop)(g:Int->Int->V):R2:=λx y H Q=>∃ i j,x = .int i/\y = .int j/\C i j/\Q (g i j) H
def iG(g:Int->Int->V):R2:=λx y H Q=>∃ i j,x = .int i/\y = .int j/\Q (g i j) H
def rU(g:Int->V):V->Hp->VK->Prop:=λx H Q=>∃ i,x = .int i/\Q (g i) H
section
variable {X:Cx} {a b c:Expr} {ta tb tc:TE} {pos:Pos}
theorem vQ(ha:PE X a ta)(hb:PE X b tb){pins:List (Addr×Obj)}{s:W2}{σ:St}{H:Hp}{R:V->V->Hp->Prop}(I:Inv X pins σ H s)
  (h:ta σ H λx H1=>tb σ H1 λy H2=>R x y H2) {Q:Value->W2->Prop} {f:Value->Value->Sem Value}
  (hf:∀ v u s2 x y H2,Inv X pins σ H2 s2->RelV x v->RelV y u->R x y H2->Wf (model X.prog X.w) X.A (f v u) Q X.xe s2) :
  Wf (model X.prog X.w) X.A (eval a X.env) (λv s₁=>Wf (model X.prog X.w) X.A (eval b X.env) (λu s₂=>Wf (model X.prog X.w) X.A (f v u) Q X.xe s₂) X.xe s₁) X.xe s:=by
 refine a0 (ha pins s σ H _ I h) λv s1 ⟨x,H1,I1,r1,q1⟩=>?_
 refine a0 (hb pins s1 σ H1 _ I1 q1) λu s2 ⟨y,H2,I2,r2,q2⟩=>?_
 exact hf v u s2 x y H2 I2 r1 r2 q2
theorem vR{op:Operator}{r:R2}(ho:bP X (WV op) r)(ha:PE X a ta)(hb:PE X b tb):PE X (.BinOp a op b pos) (jJ r ta tb):=by
 intro pins s σ H Q I h;exact wpAny_BinOp (vQ ha hb I h λv u s2 x y H2 I2 rx ry q=>ho pins s2 σ H2 x y v u Q I2 rx ry q)
theorem Kg(ho:vP X (unaryOp op) r)(ha:PE X a ta):PE X (.UnaryOp op a pos) (BV r ta):=by
 intro pins s σ H Q I h;exact UnaryOp_ (a0 (ha pins s σ H _ I h) λv s1 ⟨x,H1,I1,r1,q1⟩=>ho pins s1 σ H1 x v Q I1 r1 q1)
theorem nD{f:Value->Value->Sem Value}{C:Int->Int->Prop}{g:Int->Int->Int}
  (rule:∀ (i j:Int) (t u:Tok) (s:W2) (Q:Value->W2->Prop) (E:Value->W2->Prop),C i j->Q (.int (g i j) s.toks) { s with toks:=s.toks + 1 }->Wf (model X.prog X.w) X.A (f (.int i t) (.int j u)) Q E s) :
  bP X f (rI C λi j=>.int (g i j)):=by
 intro pins s σ H x y v u Q I rx ry h;obtain⟨i,j,rfl,rfl,hc,q⟩:=h;obtain⟨t,rfl⟩:=rx;obtain⟨t',rfl⟩:=ry;exact rule i j t t' s _ _ hc ⟨.int (g i j),H,I.tok _,⟨_,rfl⟩,q⟩
theorem BW{f:Value->Value->Sem Value}{g:Int->Int->Int}
  (rule:∀ (i j:Int) (t u:Tok) (s:W2) (Q:Value->W2->Prop) (E:Value->W2->Prop),Q (.int (g i j) s.toks) { s with toks:=s.toks + 1 }->Wf (model X.prog X.w) X.A (f (.int i t) (.int j u)) Q E s) :
  bP X f (iG λi j=>.int (g i j)):=by
 intro pins s σ H x y v u Q I rx ry h;obtain⟨i,j,rfl,rfl,q⟩:=h;obtain⟨t,rfl⟩:=rx;obtain⟨t',rfl⟩:=ry;exact rule i j t t' s _ _ ⟨.int (g i j),H,I.tok _,⟨_,rfl⟩,q⟩
theorem tH{f:Value->Value->Sem Value}{g:Int->Int->Bool}
  (rule:∀ (i j:Int) (t u:Tok) (s:W2) (Q:Value->W2->Prop) (E:Value->W2->Prop),Q (.bool (g i j)) s->Wf (model X.prog X.w) X.A (f (.int i t) (.int j u)) Q E s) :
  bP X f (iG λi j=>.bl (g i j)):=by
 intro pins s σ H x y v u Q I rx ry h;obtain⟨i,j,rfl,rfl,q⟩:=h;obtain⟨t,rfl⟩:=rx;obtain⟨t',rfl⟩:=ry;exact rule i j t t' s _ _ ⟨.bl (g i j),H,I,rfl,q⟩
def BX(i j:Int):Prop:=0 < j/\j < 1073741824
def BY(i j:Int):Prop:=0<=j/\j<=1000000/\i.natAbs < 2 ^ 64
def qF(i j:Int):Prop:=(-(2 ^ 64) < i/\i < 2 ^ 64)\/(-(2 ^ 64) < j/\j < 2 ^ 64)
theorem qF.ok(h:qF i j):IntMulOk i j:=by
 rcases h with ⟨h1,h2⟩ | ⟨h1,h2⟩
 ·exact .of_left (intBits_le_64 h1 h2)
 ·exact .of_right (intBits_le_64 h1 h2)
theorem BZ:bP X (WV .Add) (iG λi j=>.int (i + j)):=BW λ_ _ _ _ _ _ _ q=>add_int q
theorem qG:bP X (WV .Sub) (iG λi j=>.int (i - j)):=BW λ_ _ _ _ _ _ _ q=>sub_int q
theorem Kh:bP X (WV .Mult) (rI qF λi j=>.int (i * j)):=nD λ_ _ _ _ _ _ _ hc q=>mul_int q hc.ok
theorem B0:bP X (WV .FloorDiv) (rI BX λi j=>.int (i / j)):=nD λi j _ _ _ _ _ hc q=>by
 have h1:(0:Int) < j:=hc.1;have h2:j < 1073741824:=hc.2;exact floordiv_int (by omega) (by rw[Int.fdiv_eq_ediv_of_nonneg i (by omega)]; exact q) (.inl (PyProof.noPylong_small (by omega)))
theorem lU:bP X (WV .Mod) (rI (λ_ j=>0 < j) λi j=>.int (i % j)):=nD λi j _ _ _ _ _ hc q=>by
 have h1:(0:Int) < j:=hc;exact mod_int' (by omega) (by rw[Int.fmod_eq_emod_of_nonneg i (by omega)]; exact q)
theorem Ki:bP X (WV .Mod) (rI (λ_ j=>j≠0) λi j=>.int (i.fmod j)):=nD λ_ _ _ _ _ _ _ hc q=>mod_int' hc q
theorem Kj:bP X (WV .Pow) (rI BY λi j=>.int (i ^ j.toNat)):=nD λ_ _ _ _ _ _ _ hc q=>pow_int_small hc.1 hc.2.1 hc.2.2 q
theorem Kk{f:Value->Sem Value}{g:Int->Int}
  (rule:∀ (i:Int) (t:Tok) (s:W2) (Q:Value->W2->Prop) (E:Value->W2->Prop),Q (.int (g i) s.toks) { s with toks:=s.toks + 1 }->Wf (model X.prog X.w) X.A (f (.int i t)) Q E s) :
  vP X f (rU λi=>.int (g i)):=by
 intro pins s σ H x v Q I rx h;obtain⟨i,rfl,q⟩:=h;obtain⟨t,rfl⟩:=rx;exact rule i t s _ _ ⟨.int (g i),H,I.tok _,⟨_,rfl⟩,q⟩
theorem Km:vP X (unaryOp .USub) (rU λi=>.int (-i)):=Kk λ_ _ _ _ _ q=>neg_int q
end
section
variable {X:Cx} {a b c:Expr} {ta tb tc:TE} {pos:Pos}
theorem vS(I:Inv X pins σ H s)(q:Q (.bl k) H)(e:k=k'):EP X pins σ Q (.bool k') s:=by
 subst e;exact⟨.bl k,H,I,rfl,q⟩
theorem Kn:bP X (WL .Lt) (iG λi j=>.bl (decide (i < j))):=tH λ_ _ _ _ _ _ _ q=>lt_int q
theorem Ko:bP X (WL .LtE) (iG λi j=>.bl (decide (i<=j))):=tH λ_ _ _ _ _ _ _ q=>le_int q
theorem Kq:bP X (WL .Gt) (iG λi j=>.bl (decide (j < i))):=tH λ_ _ _ _ _ _ _ q=>gt_int q
theorem Kr:bP X (WL .GtE) (iG λi j=>.bl (decide (j<=i))):=tH λ_ _ _ _ _ _ _ q=>ge_int q
theorem Ks:bP X (WL .Lt) (λx y H Q=>∃ i j,x = .str i/\y = .str j/\Q (.bl (decide (i.cps.toList < j.cps.toList))) H):=by
 intro pins s σ H x y v u Q I rx ry h;obtain⟨i,j,rfl,rfl,q⟩:=h;obtain⟨t,rfl⟩:=rx;obtain⟨t',rfl⟩:=ry;exact lt_str (vS I q rfl)
theorem Kt:bP X (WL .IsNot) (λx y H Q=>y = .aI/\Q (.bl (!decide (x = .aI))) H):=by
 intro pins s σ H x y v u Q I rx ry h;obtain⟨rfl,q⟩:=h
 cases ry;refine isnot_none_gen (vS I q ?_)
 cases x <;> first
  | (cases rx; rfl)
  | (obtain⟨t,rfl⟩:=rx; rfl)
theorem Ku:bP X (WL .NotIn) (λx y H Q=>∃ i j,x = .str i/\y = .str j/\Q (.bl (!(!(Builtin.Str.occurrences j i 0 j.length 1).isEmpty))) H):=by
 intro pins s σ H x y v u Q I rx ry h;obtain⟨i,j,rfl,rfl,q⟩:=h;obtain⟨t,rfl⟩:=rx;obtain⟨t',rfl⟩:=ry;exact notIn_str (vS I q rfl)
theorem bP.or(h:bP X f r)(h':bP X f r'):bP X f (λx y H Q=>r x y H Q\/r' x y H Q):=by
 intro pins s σ H x y v u Q I rx ry q;rcases q with q | q
 ·exact h pins s σ H x y v u Q I rx ry q
 ·exact h' pins s σ H x y v u Q I rx ry q
theorem cO(b:Expr)(h:op≠.In:=by decide)(h2:op≠.NotIn:=by decide):Qu op b=false:=by
 have e1:(op == CmpOp.In)=false:=by cases op <;> first | rfl | exact absurd rfl h
 have e2:(op == CmpOp.NotIn)=false:=by cases op <;> first | rfl | exact absurd rfl h2
 cases b <;> simp[Qu,e1,e2]
theorem B2{op:CmpOp}{r:R2}(ho:bP X (WL op) r)(ha:PE X a ta)(hb:PE X b tb)(hm:Qu op b=false):PE X (.Compare a [op] [b] pos) (jJ r ta tb):=by
 intro pins s σ H Q I h;exact wpAny_Compare1 (vQ ha hb I h λv u s2 x y H2 I2 rx ry q=>ho pins s2 σ H2 x y v u Q I2 rx ry q) hm
def Kv(t:TE):TT:=λσ H Q=>t σ H λx H'=>∃ k,x = .bl k/\Q k H'
theorem B3(ho:bP X (WL op) r)(ha:PE X a ta)(hb:PE X b tb)(hm:Qu op b=false):PT X (.Compare a [op] [b] pos) (Kv (jJ r ta tb)):=by
 intro pins s σ H Q I h;refine wpAny_isTrue_Compare1 (a0 (ha pins s σ H _ I h) λv s1 ⟨x,H1,I1,r1,q1⟩=>a0 (hb pins s1 σ H1 _ I1 q1) λu s2 ⟨y,H2,I2,r2,q2⟩ =>
  a0 (ho pins s2 σ H2 x y v u _ I2 r1 r2 q2) λc s3 ⟨z,H3,I3,r3,k,e,q3⟩=>?_) hm
 subst e
 cases r3;exact Qo ⟨H3,I3,q3⟩
theorem pf:(We:Nat) < 2 ^ 63:=by rw[sizeLine_eq]; decide
theorem Kw:bP X (WV .Add) (λx y H Q=>∃ i j,x = .str i/\y = .str j/\i.length + j.length<=We/\Q (.str (i ++ j)) H):=by
 intro pins s σ H x y v u Q I rx ry h;obtain⟨i,j,rfl,rfl,hz,q⟩:=h;obtain⟨t,rfl⟩:=rx;obtain⟨t',rfl⟩:=ry;exact add_str (λt' tk=>⟨.str (i ++ j),H,I.tok _,⟨_,rfl⟩,q⟩) hz
theorem gO(r:Vals [x] us):∃ u,us=[u]/\RelV x u:=by
 cases r with
 | cons r1 r2=>cases r2; exact⟨_,rfl,r1⟩
theorem B4(r:Vals [x,y] us):∃ u w',us=[u,w']/\RelV x u/\RelV y w':=by
 cases r with
 | cons r1 r2 =>
  cases r2 with
  | cons r3 r4=>cases r4; exact⟨_,_,rfl,r1,r3⟩
theorem Kx:eK X (.builtin "abs") (λxs H Q=>∃ i,xs=[.int i]/\Q (.int (if i < 0 then -i else i)) H):=by
 intro pins s σ H xs us Q I r h;obtain⟨i,rfl,q⟩:=h;obtain⟨u,rfl,t,rfl⟩:=gO r;exact call_abs_int λu tk=>⟨.int (if i < 0 then -i else i),H,I.tok _,⟨_,rfl⟩,q⟩
theorem Ky (hc:X.calm=true):eK X (.builtin "max") (λxs H Q=>∃ i j,xs=[.int i,.int j]/\Q (.int (if j > i then j else i)) H):=by
 intro pins s σ H xs us Q I r h;obtain⟨i,j,rfl,q⟩:=h;obtain⟨u,w',rfl,⟨t,rfl⟩,⟨t',rfl⟩⟩:=B4 r;refine max_two_ints (I.ok.hd hc) λh' tk k=>⟨_,H,I.kept k,?_,q⟩
 by_cases hj:j > i
 ·rw[if_pos hj,if_pos hj]; exact⟨_,rfl⟩
 ·rw[if_neg hj,if_neg hj]; exact⟨_,rfl⟩
theorem Kz:eK X (.type "int") (λxs H Q=>(∃ i,xs=[.int i]/\Q (.int i) H)\/∃ k,xs=[.bl k]/\Q (.int (if k then 1 else 0)) H):=by
 intro pins s σ H xs us Q I r h;rcases h with ⟨i,rfl,q⟩ | ⟨k,rfl,q⟩
 ·obtain⟨u,rfl,t,rfl⟩:=gO r;exact call_int_int ⟨.int i,H,I,⟨_,rfl⟩,q⟩
 ·obtain⟨u,rfl,r1⟩:=gO r
  cases r1;exact call_int_bool ⟨.int (if k then 1 else 0),H,I.tok _,⟨_,rfl⟩,q⟩
theorem KA:eK X (.type "str") (λxs H Q=>∃ i,xs=[.int i]/\i.natAbs.log2 < 1920/\Q (.str (toString i)) H):=by
 intro pins s σ H xs us Q I r h;obtain⟨i,rfl,hz,q⟩:=h;obtain⟨u,rfl,t,rfl⟩:=gO r;exact PySem.P.str_of_int hz ⟨.str _,H,I.tok _,⟨_,rfl⟩,q⟩
end
structure vT(h:Heap)(x dx C:Addr)(mA:Str->Option Value):Prop where
 obj:h.get? x=some (PySem.W.instObj C dx)
 ns:h.Ns1 dx mA
 ne:dx≠x
theorem KC{h:Heap}{dx:Addr}{mA:Str->Option Value}(n:h.Ns1 dx mA):∃ od,h.get? dx=some od/\∀ name,PySem.W.lookIn name od=some (mA name):=by
 obtain⟨o,es,ep,ho,hd,hk,_,hm⟩:=n;refine⟨o,ho,λname=>?_⟩;have e:=hm name;unfold nsFind findBy at e;rw[<- Array.find?_toList] at e;unfold PySem.W.lookIn;rw[hd];dsimp only;split
 ·rename_i y q;rw[q] at e;exact congrArg some e
 ·rename_i q;rw[q] at e;have a:es.toList.any (·.refKey)=false:=by
   rw[JN];intro y hy;obtain⟨z,t,vU⟩:=hk y (Array.mem_toList_iff.mp hy);simp[DictEntry.refKey,vU]
  have a':¬ es.toList.any (·.refKey)=true:=by rw[a]; exact WH
  rw[if_neg a'];exact congrArg some e
theorem vT.look(I:vT h x dx C mA):∃ od,PySem.W.InstAt h x (PySem.W.instObj C dx) C (some od)/\∀ name,PySem.W.lookIn name od=some (mA name) :=
 let ⟨od,ho,hl⟩:=KC I.ns
 ⟨od,⟨I.obj,rfl,rfl,ho⟩,hl⟩
section
variable {prog:Wm} {w:Wr} {A:Wt} {E:Value->W2->Prop} {s:W2} {K:W1} {x dx C f:Addr} {mA:Str->Option Value} {name:Str} {v:Value}
end
theorem fJ.some_of(r:fJ (some v) o):∃ u,o=some u/\RelV v u:=by
 cases o with
 | none=>exact(show False from r).elim
 | some u=>exact⟨u,rfl,r⟩
theorem fJ.none_of(r:fJ none o):o=none:=by
 cases o with
 | none=>rfl
 | some u=>exact(show False from r).elim
section
variable {P:Wm} {w:Wr} {H H':Hp} {h h':Heap} {a C dx:Addr} {fs H_:List (Str×V)}
theorem KD(aM:cQ P w H h)(e:H a=some (.ins C dx fs)):∃ mA,vT h a dx C mA/\(∀ f,fJ (fs.lookup f) (mA f))/\PySem.Within mA (fs.map (·.1))/\fs.length<=1000/\H dx=some (.own a):=by
 obtain⟨d,z,ne,ob,mA,n,r,q⟩:=(show cn P w H h a (.ins C dx fs) from aM a _ e)
 exact⟨mA,⟨ob,n,ne⟩,r,q,z,d⟩
end
structure vV(K:W1)(C:Addr):Prop where
 pg:PySem.W.plainGet K C Str.empty=true
 hd:PySem.W.hasDictIn K C=true
 po:PySem.W.plainOver K C=true
 sa:PySem.W.findIn K (.ref C) "__setattr__" = some (some (.builtin "object.__setattr__"))
theorem vV.get{K:W1}{C:Addr}(c:vV K C)(f:Str):PySem.W.plainGet K C f=true:=c.pg
section
variable {X:Cx} {pins:List (Addr×Obj)} {σ:St} {H:Hp} {s:W2} {a C dx:Addr} {fs:List (Str×V)} {f:Str} {v:V} {A:Wt} {E:Value->W2->Prop}
end
section
variable {X:Cx} {o e value:Expr} {f:Str} {pos pos' KG:Pos} {ta tv:TE}
end
section
variable {X:Cx} {pins:List (Addr×Obj)} {σ:St} {H:Hp} {s:W2} {A:Wt} {E:Value->W2->Prop} {Q:Value->W2->Prop} {c:Value} {b:Bool}
inductive jc (K:W1) (H:Hp):V->Value->Prop where
 | aI:jc K H .aI (.type "NoneType")
 | bl (x:Bool):jc K H (.bl x) (.type "bool")
 | int (i:Int):jc K H (.int i) (.type "int")
 | str (x:Str):jc K H (.str x) (.type "str")
 | flt (x:UInt64):jc K H (.flt x) (.type "float")
 | lst {a:Addr} {xs:List V} (e:H a=some (.lst xs)):jc K H (.ref a) (.type "list")
 | frz {a:Addr} {o:Obj} {xs:List V} (e:H a=some (.frz o (.lst xs))):jc K H (.ref a) (.type "list")
 | tup {a:Addr} {xs:List V} (e:H a=some (.tup xs)):jc K H (.ref a) (.type "tuple")
 | dK {a:Addr} {kvs:List (Key×V)} (e:H a=some (.dK kvs)):jc K H (.ref a) (.type "dict")
 | dT {a:Addr} {kvs:List (List Key×V)} (e:H a=some (.dT kvs)):jc K H (.ref a) (.type "dict")
 | ins {a C dx:Addr} {fs:List (Str×V)} (e:H a=some (.ins C dx fs)) (cl:vV K C) (ha:PySem.W.findIn K (.ref C) "__class__" = some (some (.builtin "object.__class__")))
   (hn:PySem.W.specialIn K (.builtin "object.__class__") "__get__" = some (some (.builtin "getset_descriptor.__get__"))) (B5:PySem.W.takesIn K (.builtin "object.__class__")=some true)
   (hm:PySem.W.mroIn K C (.type "object")=some true):jc K H (.ref a) (.ref C)
theorem lV(I:Inv X pins σ H s)(rx:RelV x u)(ty:jc X.K H x t)(e:QY X.K t c=some b)(h:∀ tk,Q (.bool b) { s with toks:=tk }) :
  Wf (model X.prog X.w) A (call (.builtin "isinstance") [u,c]) Q E s:=by
 cases ty with
 | aI=>cases (show u=Value.none from rx); exact Qf PySem.W.kitx_none I.gb True.intro e (λz=>nomatch z) h
 | bl y=>cases (show u=Value.bool y from rx); exact Qf PySem.W.kitx_bool I.gb True.intro e (λz=>nomatch z) h
 | int i=>obtain⟨t,q⟩:=(show ∃ t,u=Value.int i t from rx); cases q; exact Qf PySem.W.kitx_int I.gb True.intro e (λz=>nomatch z) h
 | str y=>obtain⟨t,q⟩:=(show ∃ t,u=Value.str y t from rx); cases q; exact Qf PySem.W.kitx_str I.gb True.intro e (λz=>nomatch z) h
 | flt y=>obtain⟨t,q⟩:=(show ∃ t,u=Value.float y t from rx); cases q; exact Qf PySem.W.kitx_float I.gb True.intro e (λz=>nomatch z) h
 | @lst a xs ea =>
  cases (show u=Value.ref a from rx);obtain⟨_,_,n,_,h1⟩:=(show cn X.prog X.w H s.heap a (.lst xs) from I.aM a _ ea)
  exact Qf PySem.W.kitx_list I.gb ⟨_,h1,rfl⟩ e (λz=>nomatch z) h
 | @frz a ob xs ea =>
  cases (show u=Value.ref a from rx);obtain⟨_,_,_,n,_,h1⟩:=(show cn X.prog X.w H s.heap a (.frz ob (.lst xs)) from I.aM a _ ea)
  exact Qf PySem.W.kitx_list I.gb ⟨_,h1,rfl⟩ e (λz=>nomatch z) h
 | @tup a xs ea =>
  cases (show u=Value.ref a from rx);obtain⟨_,_,_,p⟩:=(show cn X.prog X.w H s.heap a (.tup xs) from I.aM a _ ea)
  obtain⟨o,h1,h2,_⟩:=p.tup;exact Qf PySem.W.kitx_tuple I.gb ⟨o,h1,h2⟩ e (λz=>nomatch z) h
 | @dK a kvs ea =>
  cases (show u=Value.ref a from rx);obtain⟨_,_,vs,_,p⟩:=(show cn X.prog X.w H s.heap a (.dK kvs) from I.aM a _ ea)
  obtain⟨o,es,ep,h1,h2,_⟩:=p;exact Qf PySem.W.kitx_dict I.gb ⟨o,h1,h2.1⟩ e (λz=>nomatch z) h
 | @dT a kvs ea =>
  cases (show u=Value.ref a from rx);obtain⟨_,_,xs,_,o,es,ep,h1,h2,_⟩:=(show cn X.prog X.w H s.heap a (.dT kvs) from I.aM a _ ea)
  exact Qf PySem.W.kitx_dict I.gb ⟨o,h1,h2.1⟩ e (λz=>nomatch z) h
 | @ins a C dx fs ea cl ha hn B5 hm =>
  cases (show u=Value.ref a from rx);obtain⟨mA,O,_⟩:=KD I.aM ea;obtain⟨od,J,_⟩:=O.look;exact Qf (PySem.W.kitx_own (cl.get _) cl.hd ha hn B5 hm) I.gb J e (λz=>nomatch z) h
end
structure fB(k:Nat)(A:Wt):Prop where
 hd:A.handled=none
 dp:A.depth + 3 * k + 5 < recursionLimit
 un:A.units + 16 * k + 200 < WT
theorem fB.mono(r:fB k A)(h:j<=k):fB j A:=⟨r.hd,by have:=r.dp; omega,by have:=r.un; omega⟩
theorem fB.deeper(r:fB (k + 1) A)(env:Env):fB k (A.deeper env) :=
 ⟨r.hd,by have:=r.dp; show A.depth + 1 + 3 * k + 5 < _; omega,by have:=r.un; show A.units + 3 + 16 * k + 200 < _; omega⟩
theorem fB.depth(r:fB k A):A.depth < recursionLimit:=by have:=r.dp; omega
def B6:TA:=λ_ H Q=>Q [] H
def B7(ta:TE)(tr:TA):TA:=λσ H Q=>ta σ H λx H1=>tr σ H1 λxs H2=>Q (x :: xs) H2
section
variable {X:Cx} {e:Expr} {es:List Expr} {te:TE} {t:TA} {pos:Pos}
theorem jd:PA X [] B6:=λ_ _ _ _ H Q I h=>Calls.spliced_nil ⟨[],H,I,.nil,h⟩
theorem gv(ha:PE X e te)(hr:PA X es t)(hs:Wk (e :: es) X.env=(false,eval e X.env) :: Wk es X.env:=by rfl):PA X (e :: es) (B7 te t):=by
 intro pos pins s σ H Q I h;rw[hs];show Wf _ _ (spliced ((false,eval e X.env) :: QW pos (Wk es X.env))) _ _ s;refine Calls.spliced_cons (a0 (ha pins s σ H _ I h) λu s1 ⟨x,H1,I1,r1,q1⟩=>?_);exact a0 (hr pos pins s1 σ H1 _ I1 q1) λus s2 ⟨xs,H2,I2,r2,q2⟩=>⟨x :: xs,H2,I2,.cons r1 r2,q2⟩
def KH(t:TA):TE:=λσ H Q=>t σ H λxs H1=>xs.length<=We/\∀ p,H1 p=none->Q (.ref p) (upd H1 p (.tup xs))
def KI(t:TA):TE:=λσ H Q=>t σ H λxs H1=>xs.length<=We/\∀ p,H1 p=none->Q (.ref p) (upd H1 p (.lst xs))
theorem KJ{x1}(h:PA X es t):PE X (.Tuple es x1 pos) (KH t):=by
 intro pins s σ H Q I hq;refine wpAny_Tuple_spliced (a0 (h pos pins s σ H _ I hq) λus s1 ⟨xs,H1,I1,r,z,q⟩=>⟨by rw[<- r.length]; exact z,?_⟩);have hf:H1 s1.heap.objs.size=none:=I1.aM.fresh (Wg _);refine⟨.ref s1.heap.objs.size,upd H1 s1.heap.objs.size (.tup xs),I1.laid (t':=s1.toks) (λb u e=>Wd _ e) (Wg _) ?_,rfl,q _ hf⟩;exact⟨z,us,r,⟨_,Wn _ rfl⟩⟩
theorem KL(h:PA X es t):PE X (.List es pos) (KI t):=by
 intro pins s σ H Q I hq;refine wpAny_List_spliced (a0 (h pos pins s σ H _ I hq) λus s1 ⟨xs,H1,I1,r,z,q⟩=>⟨by rw[<- r.length]; exact z,?_⟩);have hf:H1 s1.heap.objs.size=none:=I1.aM.fresh (Wg _);refine⟨.ref s1.heap.objs.size,upd H1 s1.heap.objs.size (.lst xs),I1.laid (t':=s1.toks) (λb u e=>Wd _ e) (Wg _) ?_,rfl,q _ hf⟩;exact⟨z,us,0,r,Wn _ rfl⟩
end
abbrev Sp:=List V->Hp->VK->XK->Prop
abbrev jK:=List Env->Hp->W2->XK->Value->W2->Prop
structure tJ(P:Wm)(w:Wr)(K:W1)(mg:Str->Option Value)(base:Heap)(A:Wt)(outer:List Env)(s:W2)(H:Hp):Prop where
 frames:A.frames=some outer
 mod:Mod K mg base
 bs:∀ b o,base.get? b=some o->s.heap.get? b=some o/\H b=none
 lO:base.objs.size<=s.heap.objs.size
 jF:s.heap.FunFrames base outer
 o_:∀ b ∈ iE outer,H b=none
 aM:cQ P w H s.heap
 bare:AllBare s.gens
def CE(outer:List Env)(P:Wm)(w:Wr)(H:Hp)(s:W2)(Q:VK)(u:Value)(s':W2):Prop :=
 ∃ v H',s'.os=s.os/\AllBare s'.gens/\Un (iE outer) [] H H' s.heap s'.heap/\cQ P w H' s'.heap/\RelV v u/\Q v H'
def CR(CX:jK)(outer:List Env)(P:Wm)(w:Wr)(H:Hp)(s:W2)(Q:VK)(E:XK)(r:Result)(s':W2):Prop :=
 match r with
 | .ok (.ret u)=>CE outer P w H s Q u s'
 | .ok _=>False
 | .error e=>CX outer H s E e s'
structure jL(P:Wm)(w:Wr)(K:W1)(mg:Str->Option Value)(base:Heap)(CX:jK)(k:Nat)(f:Addr)(fd:Qj)(ps:List Str)(sp:Sp):Prop where
 len:∀ vs H Q E,sp vs H Q E->vs.length=ps.length
 run:∀ (A:Wt) (outer:List Env) (s:W2) (H:Hp) (args:Args) (us:List Value) (vs:List V) (Q:VK) (E:XK),fB k A->tJ P w K mg base A outer s H->BindsTo s fd args (ps.zip us)->Vals vs us->sp vs H Q E ->
  Jn (model P w) A (.call (.ref f) args) (CR CX outer P w H s Q E) s
section
variable {X:Cx} {pins:List (Addr×Obj)} {σ:St} {H:Hp} {s s':W2}
theorem Inv.KN(I:Inv X pins σ H s):tJ X.prog X.w X.K X.mg X.base X.A X.stack s H :=
 ⟨I.ok.frames,I.ok.mod,I.bs,Ws I.ok.lO I.sz,I.stack,I.Bs,I.aM,I.bare⟩
theorem Inv.after(I:Inv X pins σ H s)(h:CE X.stack X.prog X.w H s Q u s'):EP X pins σ Q u s':=by
 obtain⟨v,H',os,bare,un,aM,r,q⟩:=h;obtain⟨hh,g,d,t,os'⟩:=s';obtain rfl:os'=s.os:=os;exact⟨v,H',I.call (h':=hh) (g':=g) (d':=d) (t':=t) (ch:=[]) un aM bare (λb z=>absurd z (by simp)),r,q⟩
end
def B8(sp:Sp)(lW:List V)(E:XK)(t:TA):TE:=λσ H Q=>t σ H λvs H1=>sp (vs ++ lW) H1 Q E
def Binds(K:W1)(fd:Qj)(ps:List Str)(ds:List Value):Prop :=
 ∀ (s:W2) (us:List Value),K.In s.heap->(us ++ ds).length=ps.length->BindsTo s fd ⟨us,[]⟩ (ps.zip (us ++ ds))
theorem Binds.all{K:W1}{fd:Qj}{ps:List Str}(h:∀ us:List Value,us.length=ps.length->bindArgs fd ⟨us,[]⟩=pure (ps.zip us)):Binds K fd ps []:=λs us _ hl=>by
 rw[Jy] at hl ⊢;exact .of_eq (h us hl)
def vW(CX:jK)(X:Cx)(E:XK):Prop:=∀ (pins:List (Addr×Obj)) (σ:St) (H:Hp) (s:W2) (e:Value) (s':W2),Inv X pins σ H s->CX X.stack H s E e s'->X.xe e s'
section
variable {X:Cx} {CX:jK} {k:Nat} {f C:Addr} {fd:Qj} {ps:List Str} {sp:Sp} {lW:List V} {ds:List Value} {E:XK} {x m:Str} {p pos apos:Pos} {e o:Expr} {es:List Expr} {ta:TE} {t:TA}
theorem KO(F:jL X.prog X.w X.K X.mg X.base CX k f fd ps sp)(hr:fB k X.A)(hb:Binds X.K fd ps ds)(hd:Vals lW ds)(hx:vW CX X E)
  (I:Inv X pins σ H s) (r:Vals vs us) (h:sp (vs ++ lW) H Q E):Wf (model X.prog X.w) X.A (call (.ref f) us) (EP X pins σ Q) X.xe s:=by
 have r2:Vals (vs ++ lW) (us ++ ds):=r.append hd;have hl:(us ++ ds).length=ps.length:=by rw[<- r2.length]; exact F.len _ _ _ _ h
 refine wpAny_call (codeAny_mono (F.run X.A X.stack s H ⟨us,[]⟩ (us ++ ds) (vs ++ lW) Q E hr I.KN (hb s us I.gb hl) r2 h) λr s' hq=>?_)
 cases r with
 | error e=>exact hx pins σ H s e s' I hq
 | ok fl =>
  cases fl with
  | ret u=>exact I.after hq
  | next=>exact False.elim hq
  | brk=>exact False.elim hq
  | cont=>exact False.elim hq
theorem KP(F:jL X.prog X.w X.K X.mg X.base CX k f fd ps sp)(hr:fB k X.A)(hg:Gl X x)(hm:X.mg x=some (.ref f))(hk:JK X.K (.ref f)=true)(hb:Binds X.K fd ps ds)(hd:Vals lW ds)(hx:vW CX X E)
  (ha:PA X (e :: es) t) (jM:(x == ("__debug__" : Str))=false:=by decide) (he:Wk (e :: es) X.env=(false,eval e X.env) :: Wk es X.env:=by rfl) (eE:(QW pos (Wk es X.env)).any (·.1)=false:=by rfl) :
  PE X (.Call (.Name x p) (e :: es) [] pos) (B8 sp lW E t):=by
 intro pins s σ H Q I h;refine wpAny_Call_Name_kw (Io I hg hm ?_ jM);refine PySem.W.callWith_K (h₀:=X.base) I.ok.mod.vJ hk (a0 (ha pos pins s σ H _ I h) λus s1 ⟨vs,H1,I1,r,q⟩=>⟨I1.gb,?_⟩) he eE;exact KO F hr hb hd hx I1 r q
end
section
variable {X:Cx} {CX:jK} {k:Nat} {f C:Addr} {fd:Qj} {ps ks:List Str} {sp:Sp} {E:XK} {x m:Str} {p pos apos VN:Pos} {e o:Expr} {es:List Expr} {VO:List Keyword} {te ta:TE} {t tk:TA} {nm:Option Str}
variable {g:List Value->List Value->List Value} {gV:List V->List V->List V}
end
structure cY(N P:List Str)(sc:Scope):Prop where
 kind:sc.kind = .function
 co:sc.isCoroutine=false
 gen:sc.isGenerator=false
 nd:N.Nodup
 pre:N.take P.length=P
 par:∀ x ∈ P,sc.names.lookup x=some .local\/sc.names.lookup x=some .cell
 vX:∀ y ∈ sc.names,y.2≠.free
theorem scc{N P:List Str}{sc:Scope}(kind:sc.kind = .function:=by rfl)(co:sc.isCoroutine=false:=by rfl)(gen:sc.isGenerator=false:=by rfl)(nd:N.Nodup:=by decide +kernel)(pre:N.take P.length=P:=by rfl)(par:∀ x ∈ P,sc.names.lookup x=some .local\/sc.names.lookup x=some .cell:=by decide +kernel)(vX:∀ y ∈ sc.names,y.2≠.free:=by decide +kernel):cY N P sc:=⟨kind,co,gen,nd,pre,par,vX⟩
theorem B9{kindOf:Str->Option NameKind}{x:Str}:∀ {binds:List (Str×Value)} {m:Str->Option Value},(∀ v,(x,v) ∉ binds)->bindL kindOf binds m x=m x
 | [],_,_=>rfl
 | (n,v) :: r,m,h=>by
  unfold bindL;rw[B9 λw hw=>h w (Wa _ hw)];split
  ·have:x≠n:=by rintro rfl; exact h v Wj
   simp[this]
  ·rfl
theorem B_{kindOf:Str->Option NameKind}{x:Str}:∀ {binds:List (Str×Value)} {m:Str->Option Value},(∀ v,(x,v) ∉ binds)->bindC kindOf binds m x=m x
 | [],_,_=>rfl
 | (n,v) :: r,m,h=>by
  unfold bindC;rw[B_ λw hw=>h w (Wa _ hw)];split
  ·rfl
  ·have:x≠n:=by rintro rfl; exact h v Wj
   simp[this]
theorem Ca{kindOf:Str->Option NameKind}{x:Str}{v:Value}:∀ {P:List Str} {vs:List Value} {i:Nat} {m:Str->Option Value},P.Nodup->P[i]? = some x->vs[i]? = some v->kindOf x=some .local ->
  bindL kindOf (P.zip vs) m x=some v
 | [],_,_,_,_,h,_,_=>by simp at h
 | _ :: _,[],_,_,_,_,h,_=>by simp at h
 | p :: P,w :: vs,0,m,nd,h1,h2,hk=>by
  simp at h1 h2; subst h1; subst h2
  show bindL kindOf ((p,w) :: P.zip vs) m p=_;unfold bindL;rw[B9 λv hv=>(QM.mp nd).1 (Jz hv).1,if_pos hk];simp
 | p :: P,w :: vs,i + 1,m,nd,h1,h2,hk=>by
  show bindL kindOf ((p,w) :: P.zip vs) m x=_;unfold bindL;exact Ca (i:=i) (QM.mp nd).2 (by simpa using h1) (by simpa using h2) hk
theorem Cb{kindOf:Str->Option NameKind}{x:Str}{v:Value}:∀ {P:List Str} {vs:List Value} {i:Nat} {m:Str->Option Value},P.Nodup->P[i]? = some x->vs[i]? = some v->kindOf x≠some .local ->
  bindC kindOf (P.zip vs) m x=some v
 | [],_,_,_,_,h,_,_=>by simp at h
 | _ :: _,[],_,_,_,_,h,_=>by simp at h
 | p :: P,w :: vs,0,m,nd,h1,h2,hk=>by
  simp at h1 h2; subst h1; subst h2
  show bindC kindOf ((p,w) :: P.zip vs) m p=_;unfold bindC;rw[B_ λv hv=>(QM.mp nd).1 (Jz hv).1,if_neg hk];simp
 | p :: P,w :: vs,i + 1,m,nd,h1,h2,hk=>by
  show bindC kindOf ((p,w) :: P.zip vs) m x=_;unfold bindC;exact Cb (i:=i) (QM.mp nd).2 (by simpa using h1) (by simpa using h2) hk
def dB(N:List Str)(vs:List V):St:=vs.map some ++ Wc (N.length - vs.length) none
def lX(CX:jK)(P:Wm)(w:Wr)(K:W1)(mg:Str->Option Value)(base:Heap)(N:List Str)(qual:Str)(scope:Scope)(f:Addr)(cd:Value)(A:Wt)(outer:List Env)(s:W2)(H:Hp)(E:XK):Cx where
 prog:=P
 w:=w
 K:=K
 mg:=mg
 base:=base
 A:=A.deeper (envOfC qual scope s.heap.objs.size f cd)
 N:=N
 s₀:=s
 H₀:=H
 env:=envOfC qual scope s.heap.objs.size f cd
 outer:=outer
 stack:=envOfC qual scope s.heap.objs.size f cd :: outer
 ex:=[]
 calm:=true
 fn:=λ_=>true
 pn:=[]
 xe:=λe s'=>Wf (model P w) (A.deeper (envOfC qual scope s.heap.objs.size f cd)) (leaving (envOfC qual scope s.heap.objs.size f cd) e) (λ_ qH=>CX outer H s E e qH) (λe' qH=>CX outer H s E e' qH) s'
theorem Cc{sc:Scope}{n:Nat}{x:Str}(h:sc.names.lookup x=some .cell):∃ c,(QH n sc.names []).lookup x=some c:=by
 have q:=PySem.W.cellsFrom_some sc.names n [] (.inl h);exact Jg.mp q
theorem KQ{CX:jK}{P:Wm}{w:Wr}{K:W1}{mg:Str->Option Value}{base:Heap}{N ps:List Str}{qual:Str}{scope:Scope}{f:Addr}{cd:Value}{A:Wt}{outer:List Env}{s s1:W2}{H:Hp}{E:XK}{us:List Value}{vs:List V}
  (S:cY N ps scope) (hd:A.handled=none) (e0:tJ P w K mg base A outer s H) (hl:vs.length=ps.length) (r:Vals vs us)
  (x:InCallC s s.heap.objs.size (bindL (envOfC qual scope s.heap.objs.size f cd).kindOf (ps.zip us) λ_=>none) (QH (s.heap.objs.size + 1) scope.names []) (bindC (envOfC qual scope s.heap.objs.size f cd).kindOf (ps.zip us) λ_=>none) s1) :
  Inv (lX CX P w K mg base N qual scope f cd A outer s H E) [] (dB N vs) H s1:=by
 have eE:ps.length<=N.length:=by have:=congrArg Js S.pre; rw[JW] at this; omega
 obtain⟨h1,tk,rfl,hk⟩:=x.done;have qI:∀ b:Addr,b ∉ (lX CX P w K mg base N qual scope f cd A outer s H E).ex:=λb z=>absurd (show b ∈ ([]:List Addr) from z) (by simp)
 refine⟨⟨e0.mod,S.kind,rfl,rfl,Wg _,λy z c h1 h2=>?_,λy hy=>?_,λy c _ h=>?_,λ_=>hd,Around.frames_deeper e0.frames,.inr ⟨rfl,rfl⟩,λb z=>absurd z (qI b),e0.bs,e0.lO,λb _ _=>qI b,λb z=>absurd z (qI b),e0.jF,e0.o_⟩,
  rfl,e0.bare,Un.kept hk,⟨_,x.toInCall.ns,λi y v h1 h2 h3=>?_⟩,λy c h=>⟨_,x.cell y c h⟩,e0.aM.fresh (Wg _),λy c h=>?_,λp hp=>absurd (show p ∈ ([]:List (Addr×Obj)) from hp) (by simp),e0.aM.kept hk,?_⟩
 ·exact name_of_addr x.apart (WD h1) (WD h2)
 ·have hy:scope.names.lookup y=some .cell\/scope.names.lookup y=some .free:=hy;rcases hy with hy | hy
  ·exact Cc hy
  ·exact absurd rfl (S.vX _ (WD hy))
 ·exact QC (x.above y c (WD h))
 ·have hi:i < vs.length:=by
   unfold dB at h2;by_cases hi:i < vs.length
   ·exact hi
   ·rw[List.getElem?_append_right (by simpa using hi)] at h2;rw[List.getElem?_replicate] at h2;split at h2 <;> cases h2
  have ha:vs[i]? = some v:=by
   unfold dB at h2;rw[List.getElem?_append_left (by simpa using hi),Wh] at h2
   cases e:vs[i]? with
   | none=>rw[e] at h2; cases h2
   | some a=>rw[e] at h2; cases h2; rfl
  obtain⟨u,hu,rv⟩:=r.get ha;have hp:ps[i]? = some y:=by
   rw[<- S.pre,List.getElem?_take_of_lt (by omega)]; exact h1
  have Cd:ps.Nodup:=by rw[<- S.pre]; exact S.nd.sublist (List.take_sublist _ _)
  refine⟨u,rv,?_⟩;rcases S.par y (WO hp) with k | k
  ·exact .inl ⟨k,Ca Cd hp hu k⟩
  ·obtain⟨c,e⟩:=Cc (n:=s.heap.objs.size + 1) k;refine .inr ⟨.inl k,c,e,?_⟩;have q:=x.cell y c e;rw[Cb Cd hp hu (by show scope.names.lookup y≠_; rw[k]; decide)] at q;exact q
 ·exact e0.aM.fresh (QC (x.above y c (WD h)))
 ·unfold dB;show _=N.length;rw[Qi,Q9,List.length_replicate];omega
theorem KR{CX:jK}{P:Wm}{w:Wr}{K:W1}{mg:Str->Option Value}{base:Heap}{k:Nat}{f:Addr}{name qual:Str}{params:Arguments}{body:List Stmt}{scope:Scope}{dV kV doc pm bE ct oc:Value}{an od:Option Addr}
  {lY:Array (Option Value)} {N ps:List Str} {sp:Sp} (lk:K.lookup f=some ⟨oc,od,.func (QN name qual params body scope dV kV doc pm an bE ct),lY⟩) (jI:PySem.W.codeIn K bE qual=true) (S:cY N ps scope)
  (len:∀ vs H Q E,sp vs H Q E->vs.length=ps.length)
  (nE:∀ (A:Wt) (outer:List Env) (s:W2) (H:Hp) (vs:List V) (Q:VK) (E:XK),fB k (A.deeper (envOfC qual scope s.heap.objs.size f bE))->sp vs H Q E ->
   ∃ t,fg (lX CX P w K mg base N qual scope f bE A outer s H E) body t/\t { nx:=λ_ H'=>Q .aI H',rt:=Q } (dB N vs) H) :
  jL P w K mg base CX (k + 1) f (QN name qual params body scope dV kV doc pm an bE ct) ps sp:=by
 refine⟨len,λA outer s H args us vs Q E hr e0 hb r lZ=>?_⟩;have hl:=len _ _ _ _ lZ;have KX:K.In s.heap:=e0.mod.vJ.keeps λb o e=>(e0.bs b o e).1
 have lim:s.heap.NoLimit:=e0.mod.nolimit.keeps λb o e=>(e0.bs b o e).1
 have KS:∀ y ∈ ps.zip us,scope.names.lookup y.1=some .local\/(scope.names.lookup y.1=some .cell/\((QH (s.heap.objs.size + 1) scope.names []).lookup y.1).isSome=true):=λ⟨n,v⟩ hy=>by
  rcases S.par n (Jz hy).1 with q | q
  ·exact .inl q
  ·exact .inr ⟨q,PySem.W.cellsFrom_some _ _ _ (.inl q)⟩
 refine codeAny_call_function hr.depth (KX _ _ lk) rfl S.co S.gen rfl (PySem.W.codeRec_of KX jI) (hb _ _ _ _ ?_);refine wpAny_newFunctionEnv_cells S.kind KS λenv he s1 x=>?_
 subst he;refine⟨lim.keeps x.toInCall.keep,codeAny_func ?_⟩;obtain⟨t,ht,hq⟩:=nE A outer s H vs Q E (hr.deeper _) lZ;have I:Inv (lX CX P w K mg base N qual scope f bE A outer s H E) [] (dB N vs) H s1:=KQ S hr.hd e0 hl r x;refine QF (ht [] s1 (dB N vs) H _ I hq) (λfl s' hs=>?_) λe s' hs=>hs
 have fin:∀ {σ':St} {H':Hp} {v:V} {u:Value},Inv (lX CX P w K mg base N qual scope f bE A outer s H E) [] σ' H' s'->RelV v u->Q v H'->CE outer P w H s Q u s' :=
  λ{σ' H' v u} J rv q=>⟨v,H',J.os,J.bare,J.base,J.aM,rv,q⟩
 cases fl with
 | ret u =>
  obtain⟨v,σ',H',J,rv,q⟩:=hs;exact fin J rv q
 | next =>
  obtain⟨σ',H',J,q⟩:=hs;exact fin (v:=V.aI) (u:=Value.none) J rfl q
 | brk =>
  obtain⟨_,_,_,q⟩:=hs;exact False.elim q
 | cont =>
  obtain⟨_,_,_,q⟩:=hs;exact False.elim q
section
variable {X:Cx} {x:Str} {p pos:Pos} {e:Expr} {es:List Expr} {t:TA} {id T:String} {r:List V->Hp->VK->Prop}
def Ce(r:List V->Hp->VK->Prop)(t:TA):TE:=λσ H Q=>t σ H λvs H1=>r vs H1 Q
theorem vY (hc:eK X (.builtin id) r) (hg:Gl X x) (hm:X.mg x=none) (hv:QB x=some (.builtin id)) (ha:PA X (e :: es) t) (hn:x≠"__name__":=by decide) (jM:(x == ("__debug__" : Str))=false:=by decide)
  (he:Wk (e :: es) X.env=(false,eval e X.env) :: Wk es X.env:=by rfl) (eE:(QW pos (Wk es X.env)).any (·.1)=false:=by rfl):PE X (.Call (.Name x p) (e :: es) [] pos) (Ce r t):=by
 intro pins s σ H Q I h;refine wpAny_Call_Name_kw (qA I hg hm hv ?_ hn jM);exact PyProof.Rows.callWith_builtin1 (a0 (ha pos pins s σ H _ I h) λus s1 ⟨vs,H1,I1,r1,q1⟩=>hc pins s1 σ H1 vs us Q I1 r1 q1) he eE
theorem KU (hc:eK X (.type T) r) (hg:Gl X x) (hm:X.mg x=none) (hv:QB x=some (.type T)) (ha:PA X (e :: es) t) (hn:x≠"__name__":=by decide) (jM:(x == ("__debug__" : Str))=false:=by decide)
  (he:Wk (e :: es) X.env=(false,eval e X.env) :: Wk es X.env:=by rfl) (eE:(QW pos (Wk es X.env)).any (·.1)=false:=by rfl):PE X (.Call (.Name x p) (e :: es) [] pos) (Ce r t):=by
 intro pins s σ H Q I h;refine wpAny_Call_Name_kw (qA I hg hm hv ?_ hn jM);exact PyProof.Rows.callWith_type1 (a0 (ha pos pins s σ H _ I h) λus s1 ⟨vs,H1,I1,r1,q1⟩=>hc pins s1 σ H1 vs us Q I1 r1 q1) he eE
end
end L2
namespace HT
open PySem PyProof.Rows
section
open PySem.SeqAt
open PySem.AutoSeq1 (wpAny_loadPart')
open PySem.MeetsSeq PySem.MeetsSeq2 PySem.MeetsSeq3
end
section
variable {prog:Wm} {w:Wr} {A:Wt} {E:Value->W2->Prop} {s:W2}
theorem KW(ht:IsTup s.heap t vs.toArray)(hb:IsTup s.heap b ws.toArray)(hv:vs≠[])
  (h1:ws=[]->Q (.ref t) s) (h2:ws≠[]->Q (.ref s.heap.objs.size) { s with heap:=s.heap.push { cls:=.type "tuple",data:=.seq (vs ++ ws).toArray } })
  (hsz:vs.length + ws.length<=We):Wf (model prog w) A (WV .Add (.ref t) (.ref b)) Q E s:=by
 obtain⟨⟨cls,dd,data,sl⟩,ho,hc,n,hd⟩:=id ht;obtain⟨⟨cls2,nF,data2,l5⟩,kT,hc2,n2,hd2⟩:=id hb;simp only at hc hd hc2 hd2;subst hc hd hc2 hd2;have e:vs.toArray ++ ws.toArray=(vs ++ ws).toArray:=by simp
 by_cases hw:ws=[]
 ·exact concat_meets ⟨_,ho,rfl⟩ ⟨_,kT,rfl⟩ noFill_tuple_add seq_tuple_add PySem.F.slot_tuple_add PySem.F.entry_tuple_add (PySem.F.args_tuple_add_2 _ _)
   (tuple_addW1 t b vs.toArray ws.toArray n n2 dd nF sl l5 (by simpa using hv) (by simp[hw])) ⟨ho,kT,h1 hw⟩
 ·refine concat_meets ⟨_,ho,rfl⟩ ⟨_,kT,rfl⟩ noFill_tuple_add seq_tuple_add PySem.F.slot_tuple_add PySem.F.entry_tuple_add (PySem.F.args_tuple_add_2 _ _)
   (tuple_addW2 t b vs.toArray ws.toArray n n2 dd nF sl l5 (by simpa using hv) (by simpa using hw) (by rw[Wo,Wo]; exact hsz)) ⟨ho,kT,?_⟩
  rw[e];exact h2 hw
def aX(n d:Nat):Option Int->Nat
 | none=>d
 | some v=>if v < 0 then(v + (n:Int)).toNat else min v.toNat n
theorem vZ(n d:Nat)(hd:d<=n)(o:Option Int):aX n d o<=n:=by
 cases o with
 | none=>exact hd
 | some v =>
  show(if v < 0 then(v + (n:Int)).toNat else min v.toNat n)<=n;by_cases hv:v < 0
  ·rw[if_pos hv]; omega
  ·rw[if_neg hv]; exact Nat.min_le_right _ _
theorem Cf(v:Int)(n d:Nat):(if v < 0 then max (v + (n:Int)) 0 else min v (n:Int))=((aX n d (some v):Nat):Int):=by
 show(if v < 0 then max (v + (n:Int)) 0 else min v (n:Int))=(((if v < 0 then(v + (n:Int)).toNat else min v.toNat n):Nat):Int);by_cases hv:v < 0
 ·simp only[if_pos hv]; omega
 ·simp only[if_neg hv]; omega
theorem KY(lo hi:Option Int)(n:Nat):Builtin.Slice.sliceAdjust lo hi 1 (n:Int)=(((aX n 0 lo:Nat):Int),((aX n n hi:Nat):Int)):=by
 have h1:¬ ((1:Int) < 0):=by omega
 unfold Builtin.Slice.sliceAdjust;simp only[h1,if_false];refine Prod.ext ?_ ?_
 ·cases lo with
  | none=>rfl
  | some v=>exact Cf v n 0
 ·cases hi with
  | none=>rfl
  | some v=>exact Cf v n n
theorem KZ(i j:Nat):Jb (i:Int) (j:Int) 1=j - i:=by
 unfold Jb;have h1:(1:Int) > 0:=by omega
 simp only[h1,if_true,Int.ediv_one];split <;> omega
theorem Cg(p:IsPart v o)(h:Q o s):Wf (model prog w) A (Builtin.Slice.slicePartIndex v) Q E s:=by
 cases p with
 | none=>exact slicePart_none h
 | int i t=>exact slicePart_int h
theorem Ci{sl:Addr}{vl vu:Value}{lo hi:Option Int}{n:Nat}{Q:Int×Int×Nat->W2->Prop}(hs:s.heap.IsSliceOf sl vl vu .none)(pl:IsPart vl lo)(pu:IsPart vu hi)
  (h:Q (((aX n 0 lo:Nat):Int),1,aX n n hi - aX n 0 lo) s):Wf (model prog w) A (Builtin.Slice.sliceApplied (.ref sl) (pure (n:Int))) Q E s:=by
 obtain⟨os,hos,hcs,hds⟩:=id hs;unfold Builtin.Slice.sliceApplied Builtin.Slice.sliceFields;refine W0 (W0 (WU hos hds (x:=vl) rfl (W0 (WU hos hds (x:=vu) rfl (W0 (WU hos hds (x:=.none) rfl (W7 ?_)))))));refine W0 (slicePart_none ?_);show Wf _ _ (if ((1:Int) == 0)=true then _ else _) _ _ s;rw[if_neg (by decide)];refine W0 (Cg pl (W0 (Cg pu (W0 (W7 ?_)))));show Wf _ _ (match Builtin.Slice.sliceAdjust lo hi 1 (n:Int) with | (lo,hi)=>pure (lo,(1:Int),Jb lo hi 1)) _ _ s;rw[KY lo hi n];show Wf _ _ (pure (((aX n 0 lo:Nat):Int),(1:Int),Jb ((aX n 0 lo:Nat):Int) ((aX n n hi:Nat):Int) 1)) _ _ s;rw[KZ];exact W7 h
theorem K0(xs:Array Value)(i k:Nat):((W3 k).filterMap λ(m:Nat)=>xs[((i:Int) + (m:Int) * 1).toNat]?).toArray=((xs.toList.drop i).take k).toArray:=by
 have e:(λ(m:Nat)=>xs[((i:Int) + (m:Int) * 1).toNat]?)=λm=>xs[i + m]?:=by
  funext m
  have:((i:Int) + (m:Int) * 1).toNat=i + m:=by omega
  rw[this]
 rw[e];have:=pick_run xs i k;rw[List.filterMap_map] at this;have e2:((λx=>xs[x]?) ∘ λx=>i + x)=λm=>xs[i + m]?:=rfl
 rw[e2] at this;rw[this]
theorem K1{t sl:Addr}{items:Array Value}{vl vu:Value}{lo hi:Option Int}{Q:Value->W2->Prop}(ht:IsTup s.heap t items)(hs:s.heap.IsSliceOf sl vl vu .none)(pl:IsPart vl lo)(pu:IsPart vu hi)
  (hw:¬ (aX items.size 0 lo=0/\aX items.size items.size hi=items.size))
  (h:Q (.ref s.heap.objs.size) { s with heap:=s.heap.push { cls:=.type "tuple",data:=.seq ((items.toList.drop (aX items.size 0 lo)).take (aX items.size items.size hi - aX items.size 0 lo)).toArray } })
  (hsz:items.size<=We):Wf (model prog w) A (JL (.ref t) (.ref sl)) Q E s:=by
 have tK:sizeOk (.seq ((items.toList.drop (aX items.size 0 lo)).take (aX items.size items.size hi - aX items.size 0 lo)).toArray):=by
  show((items.toList.drop (aX items.size 0 lo)).take (aX items.size items.size hi - aX items.size 0 lo)).toArray.size<=We;rw[Wo,JW,List.length_drop,QX];omega
 have hj:aX items.size items.size hi<=items.size:=vZ _ _ (Wg _) hi;obtain⟨os,hos,hcs,hds⟩:=id hs;have v9:s.TypeIs (.ref sl) "slice":=⟨os,hos,hcs⟩
 unfold JL;try with_reducible refine Ql ?_
 first | refine W0 (W7 ?_) | skip
 refine W0 (wpAny_sequenceKey ht.typeIs (by decide) ?_);refine W0 (WY (name:=Str.ofString "__getitem__") ht.typeIs QJ
  (WW QJ ht.typeIs entry_tuple_getitem ?_ (args_tuple_getitem _ _)))
 show Wf _ _ (Builtin.Tuple.tupleItemsOf (.ref t) >>= _) _ _ s;refine W0 (tupleItemsOf_ ht ?_);refine W0 (JC v9 ?_);rw[if_pos (by decide)];refine W0 (Ci hs pl pu ?_);have kU:¬ ((((aX items.size 0 lo:Nat):Int) == 0 && (1:Int) == 1 && (aX items.size items.size hi - aX items.size 0 lo) == items.size)=true):=by
  intro q;rw[Ww,Ww] at q;have q1:((aX items.size 0 lo:Nat):Int)=0:=eq_of_beq q.1.1;have q2:aX items.size items.size hi - aX items.size 0 lo=items.size:=eq_of_beq q.2;exact hw ⟨by omega,by omega⟩
 show Wf _ _ (if (((aX items.size 0 lo:Nat):Int) == 0 && (1:Int) == 1 && (aX items.size items.size hi - aX items.size 0 lo) == items.size)=true then _ else _) _ _ s;rw[if_neg kU,K0];first
  | exact W0 (m:=Jh _) (WZ (W7 ⟨_,rfl,W7 h⟩) tK)
  | exact W0 (m:=Jh _) (WZ (W0 (W7 (W7 ⟨_,rfl,W7 h⟩))) tK)
  | exact W0 (W0 (m:=Jh _) (WZ (W7 (W7 ⟨_,rfl,W7 h⟩)) tK))
  | exact W0 (W0 (m:=Jh _) (WZ (W7 ⟨_,rfl,W7 h⟩) tK))
end
end HT
namespace L2
open PySem PySem.Spec PyProof.Rows
abbrev TO:=St->Hp->(Option Int->Hp->Prop)->Prop
def PO(X:Cx)(e:Option Expr)(t:TO):Prop :=
 ∀ (pins:List (Addr×Obj)) (s:W2) (σ:St) (H:Hp) (Q:Option Int->Hp->Prop),Inv X pins σ H s->t σ H Q ->
  Wf (model X.prog X.w) X.A (evalPart e X.env) (λu s'=>∃ o H',Inv X pins σ H' s'/\IsPart u o/\Q o H') X.xe s
def K2:TO:=λ_ H Q=>Q none H
def K3(t:TE):TO:=λσ H Q=>t σ H λx H1=>∃ i,x = .int i/\Q (some i) H1
section
variable {X:Cx} {e:Expr} {te:TE} {lo hi:Option Expr} {tl th:TO} {pos p2:Pos}
theorem K4:PO X none K2:=by
 intro pins s σ H Q I h;rw[evalPart_none];exact W7 ⟨none,H,I,.none,h⟩
theorem K5(h:PE X e te):PO X (some e) (K3 te):=by
 intro pins s σ H Q I hw;rw[evalPart_some];refine a0 (h pins s σ H _ I hw) λu s1 ⟨x,H1,I1,r1,q1⟩=>?_
 obtain⟨i,rfl,q⟩:=q1;obtain⟨t,rfl⟩:=r1;exact⟨some i,H1,I1,.int i t,q⟩
def kj(X:Cx)(r:V->Option Int->Option Int->Hp->VK->Prop):Prop :=
 ∀ (pins:List (Addr×Obj)) (s:W2) (σ:St) (H:Hp) (x:V) (v vl vu:Value) (lo hi:Option Int) (sl:Addr) (Q:VK),Inv X pins σ H s->RelV x v->s.heap.IsSliceOf sl vl vu .none->IsPart vl lo->IsPart vu hi->r x lo hi H Q ->
  ∃ T id,typeLookup (.type T) "__getitem__" = pure (some (.builtin id))/\s.TypeIs v T/\Wf (model X.prog X.w) X.A (JL v (.ref sl)) (EP X pins σ Q) X.xe s
theorem kj.or(h:kj X r)(h':kj X r'):kj X (λx lo hi H Q=>r x lo hi H Q\/r' x lo hi H Q):=by
 intro pins s σ H x v vl vu lo hi sl Q I rx hs pl pu q;rcases q with q | q
 ·exact h pins s σ H x v vl vu lo hi sl Q I rx hs pl pu q
 ·exact h' pins s σ H x v vl vu lo hi sl Q I rx hs pl pu q
def K6(r:V->Option Int->Option Int->Hp->VK->Prop)(te:TE)(tl th:TO):TE:=λσ H Q=>te σ H λx H1=>tl σ H1 λl H2=>th σ H2 λu H3=>r x l u H3 Q
theorem K7(hr:kj X r)(he:PE X e te)(hl:PO X lo tl)(hu:PO X hi th):PE X (.Subscript e (.Slice lo hi none p2) pos) (K6 r te tl th):=by
 intro pins s σ H Q I h;refine Subscript_ (a0 (he pins s σ H _ I h) λv s1 ⟨x,H1,I1,r1,q1⟩=>?_);refine wpAny_Slice (a0 (hl pins s1 σ H1 _ I1 q1) λvl s2 ⟨l,H2,I2,pl,q2⟩=>a0 (hu pins s2 σ H2 _ I2 q2) λvu s3 ⟨u,H3,I3,pu,q3⟩=>?_);rw[evalPart_none];refine W7 ?_;have I4:Inv X pins σ H3 { s3 with heap:=s3.heap.push { cls:=.type "slice",data:=.fields #[vl,vu,.none] } }:=I3.kept (t':=s3.toks) λb ob q=>Wd _ q
 obtain⟨T,id,hT,ht,hg⟩:=hr pins { s3 with heap:=s3.heap.push { cls:=.type "slice",data:=.fields #[vl,vu,.none] } } σ H3 x v vl vu l u s3.heap.objs.size Q I4 r1 (Heap.IsSliceOf.new ..) pl pu q3;show Wf (model X.prog X.w) X.A (subscriptTail e (.Slice lo hi none p2) v (.ref s3.heap.objs.size)) (EP X pins σ Q) X.xe { s3 with heap:=s3.heap.push { cls:=.type "slice",data:=.fields #[vl,vu,.none] } };exact tail_any (ops:=[.ref s3.heap.objs.size,v]) ht hT hg (by with_unfolding_all rfl)
def l6(xs:List V)(lo hi:Option Int):List V:=(xs.drop (HT.aX xs.length 0 lo)).take (HT.aX xs.length xs.length hi - HT.aX xs.length 0 lo)
theorem Cj(xs:List V)(lo hi:Option Int):(l6 xs lo hi).length<=xs.length:=by
 unfold l6;rw[JW,List.length_drop];omega
def K8(K:W1):V->Option Int->Option Int->Hp->VK->Prop:=λx lo hi H Q=>∃ a xs,x = .ref a/\cR K H a xs /\
 ¬ (HT.aX xs.length 0 lo=0/\HT.aX xs.length xs.length hi=xs.length)/\∀ p,H p=none->Q (.ref p) (upd H p (.tup (l6 xs lo hi)))
theorem K9:kj X (K8 X.K):=by
 intro pins s σ H x v vl vu lo hi sl Q I rx hs pl pu h;obtain⟨a,xs,rfl,hx,hw,q⟩:=h
 cases rx;obtain⟨aj,r,ht,hz⟩:=I.tuple hx;have hlen:aj.toArray.size=xs.length:=by rw[Wo]; exact r.length.symm
 refine⟨"tuple",_,PyProof.Rows.slot_tuple_getitem.lookup,ht.typeIs,?_⟩;refine HT.K1 ht hs pl pu (by rw[hlen]; exact hw) ?_ (by rw[hlen]; exact hz);rw[hlen];refine⟨.ref s.heap.objs.size,_,I.laid (t':=s.toks) (o:=.tup (l6 xs lo hi)) (λb ob q=>Wd _ q) (Wg _) ?_,rfl,q _ (I.aM.fresh (Wg _))⟩;exact⟨Ws (Cj xs lo hi) hz,_,(r.drop (HT.aX xs.length 0 lo)).take (HT.aX xs.length xs.length hi - HT.aX xs.length 0 lo),iD.new _ _⟩
def Ck(K:W1):R2:=λx y H Q=>∃ a b xs ys,x = .ref a/\y = .ref b/\cR K H a xs/\cR K H b ys/\xs≠[]/\xs.length + ys.length<=We /\
 (ys=[]->Q (.ref a) H)/\(ys≠[]->∀ p,H p=none->Q (.ref p) (upd H p (.tup (xs ++ ys))))
theorem Vals.ph(r:Vals xs us):us=[] ↔ xs=[]:=by
 cases r with
 | nil=>simp
 | cons _ _=>simp
theorem K_:bP X (WV .Add) (Ck X.K):=by
 intro pins s σ H x y v u Q I rx ry h;obtain⟨a,b,xs,ys,rfl,rfl,ha,hb,hx,hz,q1,q2⟩:=h
 cases rx
 cases ry;obtain⟨aj,r1,p1,_⟩:=I.tuple ha;obtain⟨its2,r2,p2,_⟩:=I.tuple hb;refine HT.KW p1 p2 (λz=>hx (r1.ph.mp z)) (λz=>⟨.ref a,H,I,rfl,q1 (r2.ph.mp z)⟩) (λz=>?_) (by rw[<- r1.length,<- r2.length]; exact hz);refine⟨.ref s.heap.objs.size,_,I.laid (t':=s.toks) (o:=.tup (xs ++ ys)) (λb ob q=>Wd _ q) (Wg _) ?_,rfl,q2 (λw=>z (r2.ph.mpr w)) _ (I.aM.fresh (Wg _))⟩;exact⟨by rw[Qi]; exact hz,_,r1.append r2,iD.new _ _⟩
end
def dS(n:Nat)(i:Int):Option Nat:=if 0<=i then(if i < n then some i.toNat else none) else if -(n:Int)<=i then some (i + n).toNat else none
def dC{α:Type}(xs:List α)(i:Int):Option α:=(dS xs.length i).bind λj=>xs[j]?
theorem Cm(h:dS n i=some j):seqIndex? i n=some j/\j < n/\-(n:Int)<=i/\i < n:=by
 unfold dS at h;by_cases h0:0<=i
 ·rw[if_pos h0] at h;by_cases h1:i < n
  ·rw[if_pos h1] at h;have e:i.toNat=j:=Wz h;exact⟨by rw[seqIndex_of h0 h1,e],by omega,by omega,h1⟩
  ·rw[if_neg h1] at h; cases h
 ·rw[if_neg h0] at h;by_cases h1 : -(n:Int)<=i
  ·rw[if_pos h1] at h;have e:(i + n).toNat=j:=Wz h;exact⟨by rw[seqIndex_neg (by omega) h1,e],by omega,h1,by omega⟩
  ·rw[if_neg h1] at h; cases h
theorem v_(h:dC xs i=some v):∃ j,seqIndex? i xs.length=some j/\xs[j]? = some v/\j < xs.length/\-(xs.length:Int)<=i/\i < xs.length:=by
 unfold dC at h
 cases e:dS xs.length i with
 | none=>rw[e] at h; cases h
 | some j =>
  rw[e] at h;obtain⟨h1,h2,h3,h4⟩:=Cm e;exact⟨j,h1,h,h2,h3,h4⟩
def pj(b:Expr):Prop:=∀ o i,subscripted b false o i=operate [o,i] (JL o i)
def hU(X:Cx)(r:R2):Prop :=
 ∀ (value slice:Expr) (pins:List (Addr×Obj)) (s:W2) (σ:St) (H:Hp) (x y:V) (v u:Value) (Q:VK),Inv X pins σ H s->RelV x v->RelV y u->r x y H Q ->
  subscripted slice false v u=operate [v,u] (JL v u)->Wf (model X.prog X.w) X.A (subscriptTail value slice v u) (EP X pins σ Q) X.xe s
def tL(X:Cx)(id:String)(r:V->List V->Hp->VK->Prop):Prop :=
 ∀ (pins:List (Addr×Obj)) (s:W2) (σ:St) (H:Hp) (x:V) (xs:List V) (v:Value) (us:List Value) (Q:VK),Inv X pins σ H s->RelV x v->Vals xs us->r x xs H Q ->
  Wf (model X.prog X.w) X.A (call (.builtin id) (v :: us)) (EP X pins σ Q) X.xe s
section
variable {X:Cx} {a b:Expr} {ta tb:TE} {pos:Pos}
theorem hU.or(h:hU X r)(h':hU X r'):hU X (λx y H Q=>r x y H Q\/r' x y H Q):=by
 intro value slice pins s σ H x y v u Q I rx ry q hs;rcases q with q | q
 ·exact h value slice pins s σ H x y v u Q I rx ry q hs
 ·exact h' value slice pins s σ H x y v u Q I rx ry q hs
theorem qJ(hr:hU X r)(ha:PE X a ta)(hb:PE X b tb)(hs:pj b):PE X (.Subscript a b pos) (jJ r ta tb):=by
 intro pins s σ H Q I h;exact Subscript_ (vQ ha hb I h λv u s2 x y H2 I2 rx ry q=>hr a b pins s2 σ H2 x y v u Q I2 rx ry q (hs _ _))
def Cn(K:W1):R2:=λx y H Q=>∃ p xs i v,x = .ref p/\y = .int i/\cK K H p xs/\dC xs i=some v/\Q v H
def Co(K:W1):R2:=λx y H Q=>∃ p xs i v,x = .ref p/\y = .int i/\cR K H p xs/\dC xs i=some v/\Q v H
def Cp:R2:=λx y H Q=>∃ z i c,x = .str z/\y = .int i/\z.length<=We/\dC z.cps.toList i=some c/\Q (.str ⟨#[c]⟩) H
theorem La:hU X (Cn X.K):=by
 intro value slice pins s σ H x y v u Q I rx ry h hs;obtain⟨p,xs,i,z,rfl,rfl,hq,he,q⟩:=h
 cases rx;obtain⟨t,rfl⟩:=ry;obtain⟨aj,r,pl,hz⟩:=I.list hq;obtain⟨j,h1,h2,h3,h4,h5⟩:=v_ he;obtain⟨w,ew,aP⟩:=r.get h2;have hl:=r.length;have hn:=pf;have fin:EP X pins σ Q w s:=⟨z,H,I,aP,q⟩
 by_cases h0:0<=i
 ·have hj:i.toNat=j:=by
   rw[seqIndex_of h0 h5] at h1;exact Wz h1
  exact item_listR pl.isList h0 (by omega) (by rw[hj]; simpa using ew) fin hs
 ·have hj:(i + (aj.toArray.size:Int)).toNat=j:=by
   rw[seqIndex_neg (by omega) h4] at h1;rw[Wo,<- hl];exact Wz h1
  exact subscriptTail_builtinR (x:=w) pl.isList.typeIs slot_list_getitem.lookup
   (wpAny_getItem_list_neg (Q:=λr s'=>r=w/\EP X pins σ Q r s') pl.isList (by omega) (by rw[Wo] <;> omega) (by omega) (by rw[hj]; simpa using ew) ⟨rfl,fin⟩) hs
theorem Lb:hU X (Co X.K):=by
 intro value slice pins s σ H x y v u Q I rx ry h hs;obtain⟨p,xs,i,z,rfl,rfl,hq,he,q⟩:=h
 cases rx;obtain⟨t,rfl⟩:=ry;obtain⟨aj,r,pl,hz⟩:=I.tuple hq;obtain⟨j,h1,h2,h3,h4,h5⟩:=v_ he;obtain⟨w,ew,aP⟩:=r.get h2;have hl:=r.length;have hn:=pf;have fin:EP X pins σ Q w s:=⟨z,H,I,aP,q⟩
 exact subscriptTail_builtinR (x:=w) pl.typeIs slot_tuple_getitem.lookup
  (getItem_tuple (j:=j) (Q:=λr s'=>r=w/\EP X pins σ Q r s') pl (by omega) (by omega) (by rw[Wo,<- hl]; exact h1) (by simpa using ew) ⟨rfl,fin⟩) hs
theorem Lc:hU X Cp:=by
 intro value slice pins s σ H x y v u Q I rx ry h hs;obtain⟨z,i,c,rfl,rfl,hz,he,q⟩:=h;obtain⟨t,rfl⟩:=rx;obtain⟨t',rfl⟩:=ry;obtain⟨j,h1,h2,h3,h4,h5⟩:=v_ he;have hl:z.cps.toList.length=z.length:=by simp[Str.length]
 rw[hl] at h1 h4 h5;have hn:=pf;exact tail_any (typeIs_str s z t) slot_str_getitem.lookup (getItem_str (c:=c) (by
  have e1:decide (i < -(2 ^ 63:Int))=false:=decide_eq_false (by omega);have e2:decide (i ≥ 2 ^ 63)=false:=decide_eq_false (by omega);rw[e1,e2,Bool.or_false]) (by rw[h1]; simpa using h2) ⟨.str ⟨#[c]⟩,H,I.tok _,⟨_,rfl⟩,q⟩) hs
def qK(K:W1):R2:=λx y H Q=>Cn K x y H Q\/Co K x y H Q\/Cp x y H Q
theorem bH:hU X (qK X.K):=La.or (Lb.or Lc)
theorem Ld (aj:List Value) (n j:Nat) (u:Value):Obj.mapSeq (·.setIfInBounds j u) { cls:=.type "list",data:=.seq aj.toArray n } = { cls:=.type "list",data:=.seq (aj.set j u).toArray n }:=by
 simp[Obj.mapSeq]
theorem Inv.lst(I:Inv X pins σ H s)(h:H p=some (.lst xs)) :
  ∃ (aj:List Value) (n:Nat),Vals xs aj/\s.heap.get? p=some { cls:=.type "list",data:=.seq aj.toArray n }/\xs.length<=We:=by
 obtain⟨z,aj,n,r,e⟩:=I.aM p _ h;exact⟨aj,n,r,e,z⟩
theorem Inv.Lf{pins:List (Addr×Obj)}{σ:St}{H:Hp}{s:W2}{p:Addr}{xs ys:List V}{aj its':List Value}{n n':Nat}{f:Obj->Obj}(I:Inv X pins σ H s)(h:H p=some (.lst xs))
  (ho:s.heap.get? p=some { cls:=.type "list",data:=.seq aj.toArray n }) (hf:f { cls:=.type "list",data:=.seq aj.toArray n } = { cls:=.type "list",data:=.seq its'.toArray n' }) (r:Vals ys its') (hz:ys.length<=We) (t:Nat) :
  Inv X pins σ (upd H p (.lst ys)) { s with heap:=s.heap.update p f,toks:=t }:=by
 have e:(s.heap.update p f).get? p=some { cls:=.type "list",data:=.seq its'.toArray n' }:=by
  rw[Heap.get?_update_self f ho (by rw[hf] <;> rfl),hf]
 refine I.write (x:=p) (e:=p) (by rw[h]; trivial) (.inl rfl) (λb u hb q=>(Heap.get?_update_other _ _ (Ne.symm hb)).trans q) ⟨_,e⟩ ?_;exact⟨hz,its',n',r,e⟩
def Cq:V->V->V->Hp->(Hp->Prop)->Prop:=λo i v H Q=>∃ p xs k j,o = .ref p/\i = .int k/\H p=some (.lst xs)/\dS xs.length k=some j/\Q (upd H p (.lst (xs.set j v)))
theorem Cr:BI X Cq:=by
 intro pins s σ H o i v ov iv u Q I ro ri rv h;obtain⟨p,xs,k,j,rfl,rfl,hp,hj,q⟩:=h
 cases ro;obtain⟨t,rfl⟩:=ri;obtain⟨aj,n,r,ho,hz⟩:=I.lst hp;obtain⟨h1,h2,h3,h4⟩:=Cm hj;have hl:=r.length;have hn:=pf;have I':Inv X pins σ (upd H p (.lst (xs.set j v))) { s with heap:=s.heap.update p (Obj.mapSeq (·.setIfInBounds j u)) } :=
  I.Lf hp ho (Ld aj n j u) (r.set rv j) (by rw[Q3]; exact hz) s.toks
 by_cases h0:0<=k
 ·have hk:k.toNat=j:=by
   rw[seqIndex_of h0 h4] at h1;exact Wz h1
  exact PySem.W.ki_setAt ho h0 (by omega) (by rw[Wo,<- hl]; exact h4) (by rw[hk]; exact⟨_,I',q⟩)
 ·have hk:(k + (aj.toArray.size:Int)).toNat=j:=by
   rw[seqIndex_neg (by omega) h3] at h1;rw[Wo,<- hl];exact Wz h1
  exact PySem.W.ki_setBack ho (by omega) (by rw[Wo,<- hl]; exact h3) (by omega) (by rw[hk]; exact⟨_,I',q⟩)
theorem Lg(lo hi:Option Int)(n:Nat):(Jt lo hi none n).1=((HT.aX n 0 lo:Nat):Int)/\(Jt lo hi none n).2.1=((HT.aX n n hi:Nat):Int)/\(Jt lo hi none n).2.2=1:=by
 refine⟨?_,?_,rfl⟩
 ·cases lo with
  | none=>simp[Jt,HT.aX]
  | some i =>
   simp only[Jt,HT.aX,Option.getD_none,show(1:Int) > 0 by decide,if_true];by_cases h:i < 0
   ·simp only[h,if_true] <;> omega
   ·simp only[h,if_false] <;> omega
 ·cases hi with
  | none=>simp[Jt,HT.aX]
  | some i =>
   simp only[Jt,HT.aX,Option.getD_none,show(1:Int) > 0 by decide,if_true];by_cases h:i < 0
   ·simp only[h,if_true] <;> omega
   ·simp only[h,if_false] <;> omega
theorem Lh(aj:List Value)(lo hi:Option Int):slicePick aj.toArray lo hi none=((aj.drop (HT.aX aj.length 0 lo)).take (HT.aX aj.length aj.length hi - HT.aX aj.length 0 lo)).toArray:=by
 obtain⟨h1,h2,h3⟩:=Lg lo hi aj.toArray.size;unfold slicePick;rw[h1,h2,h3];simp only[sliceRange_one,pick_run,Wo] <;> rfl
def Cs(K:W1):V->Option Int->Option Int->Hp->VK->Prop:=λx lo hi H Q=>∃ a xs,x = .ref a/\cK K H a xs/\∀ p,H p=none->Q (.ref p) (upd H p (.lst (l6 xs lo hi)))
theorem Li:kj X (Cs X.K):=by
 intro pins s σ H x v vl vu lo hi sl Q I rx hs pl pu h;obtain⟨a,xs,rfl,hx,q⟩:=h
 cases rx;obtain⟨aj,r,ht,hz⟩:=I.list hx;have hlen:=r.length;refine⟨"list",_,slot_list_getitem.lookup,ht.isList.typeIs,?_⟩;refine wpAny_getItem_list_slice ht.isList hs pl pu .none (by simp) ?_ (by rw[Wo] <;> omega);rw[Lh,<- hlen];refine⟨.ref s.heap.objs.size,_,I.laid (t':=s.toks) (o:=.lst (l6 xs lo hi)) (λb ob q=>Wd _ q) (Wg _) ?_,rfl,q _ (I.aM.fresh (Wg _))⟩;exact⟨Ws (Cj xs lo hi) hz,_,0,(r.drop (HT.aX xs.length 0 lo)).take (HT.aX xs.length xs.length hi - HT.aX xs.length 0 lo),Wn _ rfl⟩
def kW:V->Bool
 | .aI=>true
 | .bl _=>true
 | .int _=>true
 | .str _=>true
 | _=>false
def l7:V->V->Bool
 | .aI,.aI=>true
 | .bl a,.bl b=>a == b
 | .bl a,.int b=>(if a then 1 else 0) == b
 | .int a,.bl b=>a == (if b then 1 else 0)
 | .int a,.int b=>a == b
 | .str a,.str b=>a == b
 | _,_=>false
theorem Lj(ry:RelV y u)(rx:RelV x v)(fy:kW y=true)(fx:kW x=true):SeqAt.EqAt A s u v (l7 y x):=by
 cases y with
 | aI =>
  cases ry
  cases x with
  | aI=>cases rx; exact SeqAt.EqAt.same _
  | bl b=>cases rx; exact SeqAt.EqAt.none_bool b
  | int b=>obtain⟨t,rfl⟩:=rx; exact SeqAt.EqAt.none_int b t
  | str b=>obtain⟨t,rfl⟩:=rx; exact SeqAt.EqAt.none_str b t
  | _=>exact absurd (show false=true from fx) WH
 | bl a =>
  cases ry
  cases x with
  | aI=>cases rx; exact SeqAt.EqAt.bool_none a
  | bl b=>cases rx; exact SeqAt.EqAt.bool_bool a b
  | int b=>obtain⟨t,rfl⟩:=rx; exact SeqAt.EqAt.bool_int a b t
  | str b=>obtain⟨t,rfl⟩:=rx; exact SeqAt.EqAt.bool_str a b t
  | _=>exact absurd (show false=true from fx) WH
 | int a =>
  obtain⟨t',rfl⟩:=ry
  cases x with
  | aI=>cases rx; exact SeqAt.EqAt.int_none a t'
  | bl b=>cases rx; exact SeqAt.EqAt.int_bool a t' b
  | int b=>obtain⟨t,rfl⟩:=rx; exact SeqAt.EqAt.int_int a t' b t
  | str b=>obtain⟨t,rfl⟩:=rx; exact SeqAt.EqAt.int_str a t' b t
  | _=>exact absurd (show false=true from fx) WH
 | str a =>
  obtain⟨t',rfl⟩:=ry
  cases x with
  | aI=>cases rx; exact SeqAt.EqAt.str_none a t'
  | bl b=>cases rx; exact SeqAt.EqAt.str_bool a t' b
  | int b=>obtain⟨t,rfl⟩:=rx; exact SeqAt.EqAt.str_int a t' b t
  | str b=>obtain⟨t,rfl⟩:=rx; exact SeqAt.EqAt.str_str a t' b t
  | _=>exact absurd (show false=true from fx) WH
 | _=>exact absurd (show false=true from fy) WH
def kX(x:V)(u:Value):Bool:=match u with
 | .none=>l7 .aI x
 | .bool b=>l7 (.bl b) x
 | .int i _=>l7 (.int i) x
 | .str z _=>l7 (.str z) x
 | _=>false
theorem Ct(r:RelV y u)(f:kW y=true):kX x u=l7 y x:=by
 cases y with
 | aI=>cases r; rfl
 | bl b=>cases r; rfl
 | int i=>obtain⟨t,rfl⟩:=r; rfl
 | str z=>obtain⟨t,rfl⟩:=r; rfl
 | _=>exact absurd (show false=true from f) WH
theorem wa:∀ {xs:List V} {us:List Value},Vals xs us->xs.all kW=true->us.any (kX x)=xs.any λy=>l7 y x
 | _,_,.nil,_=>rfl
 | y :: xs,u :: us,.cons r t,f=>by
  rw[JU,Ww] at f;rw[Qd,Qd,Ct r f.1,wa t f.2]
theorem wb(rx:RelV x v)(fx:kW x=true):∀ {xs:List V} {us:List Value},Vals xs us->xs.all kW=true->∀ u ∈ us,SeqAt.EqAt A s u v (kX x u)
 | _,_,.nil,_=>λu hu=>by cases hu
 | y :: xs,u :: us,.cons r t,f=>λu' hu=>by
  rw[JU,Ww] at f;rcases Wl.mp hu with rfl | hu
  ·rw[Ct r f.1]; exact Lj r rx f.1 fx
  ·exact wb rx fx t f.2 u' hu
def tM(x:V)(xs:List V):Bool:=xs.any λy=>l7 y x
def Cu(K:W1)(neg:Bool):R2:=λx y H Q=>∃ p xs,y = .ref p/\(cK K H p xs\/cR K H p xs)/\kW x=true/\xs.all kW=true/\Q (.bl (if neg then !tM x xs else tM x xs)) H
theorem Lk:bP X (WL .NotIn) (Cu X.K true):=by
 intro pins s σ H x y v u Q I rx ry h;obtain⟨p,xs,rfl,hq,fx,fs,q⟩:=h
 cases ry;rcases hq with hq | hq
 ·obtain⟨aj,r,pl,hz⟩:=I.list hq;refine SeqAt.notIn_listAt (kX x) pl.isList (λw hw=>wb rx fx r fs w (by simpa using hw)) ⟨.bl _,H,I,rfl,?_⟩;rw[show aj.toArray.any (kX x)=aj.any (kX x) by simp,wa r fs];exact q
 ·obtain⟨aj,r,pl,hz⟩:=I.tuple hq;refine SeqAt.notIn_tupleAt (kX x) pl (λw hw=>wb rx fx r fs w (by simpa using hw)) ⟨.bl _,H,I,rfl,?_⟩;rw[show aj.toArray.any (kX x)=aj.any (kX x) by simp,wa r fs];exact q
theorem Ll:eK X (.builtin "len") (λxs H Q=>∃ p ys,xs=[.ref p]/\(cK X.K H p ys\/cR X.K H p ys)/\Q (.int ys.length) H):=by
 intro pins s σ H xs us Q I r h;obtain⟨p,ys,rfl,hq,q⟩:=h;obtain⟨u,rfl,rx⟩:=gO r
 cases rx;have hn:=pf;rcases hq with hq | hq
 ·obtain⟨aj,r',pl,hz⟩:=I.list hq;have hlen:=r'.length;exact Calls.call_len_list pl.isList (by simp only[Wo] <;> omega) ⟨.int ys.length,H,I.tok _,⟨s.toks + 1,by rw[Wo,hlen]⟩,q⟩
 ·obtain⟨aj,r',pl,hz⟩:=I.tuple hq;have hlen:=r'.length;exact len_tuple pl (by simp only[Wo] <;> omega) ⟨.int ys.length,H,I.tok _,⟨s.toks + 1,by rw[Wo,hlen]⟩,q⟩
theorem Lm:eK X (.builtin "len") (λxs H Q=>∃ z,xs=[.str z]/\z.length<=We/\Q (.int z.length) H):=by
 intro pins s σ H xs us Q I r h;obtain⟨z,rfl,hz,q⟩:=h;obtain⟨u,rfl,t,rfl⟩:=gO r;have hn:=pf;exact len_str (by omega) ⟨.int z.length,H,I.tok _,⟨_,rfl⟩,q⟩
theorem eK.or(h:eK X f r)(h':eK X f r'):eK X f (λxs H Q=>r xs H Q\/r' xs H Q):=by
 intro pins s σ H xs us Q I rs q;rcases q with q | q
 ·exact h pins s σ H xs us Q I rs q
 ·exact h' pins s σ H xs us Q I rs q
theorem Ln:eK X (.type "list") (λxs H Q=>∃ p ys,xs=[.ref p]/\(cK X.K H p ys\/cR X.K H p ys)/\∀ l,H l=none->Q (.ref l) (upd H l (.lst ys))):=by
 intro pins s σ H xs us Q I r h;obtain⟨p,ys,rfl,hq,q⟩:=h;obtain⟨u,rfl,rx⟩:=gO r
 cases rx;have fin:∀ (aj:List Value),Vals ys aj->ys.length<=We->∀ (h':Heap) (c':Nat),(∀ b o',s.heap.get? b=some o'->h'.get? b=some o') ->
   h'.get? s.heap.objs.size=some { cls:=.type "list",dict:=none,data:=.seq aj.toArray c',slots:=#[] }->EP X pins σ Q (.ref s.heap.objs.size) { s with heap:=h' }:=λaj r' hz h' c' kp e =>
  ⟨.ref s.heap.objs.size,_,I.laid (t':=s.toks) kp (Wg _) (show cn X.prog X.w _ h' _ (.lst ys) from⟨hz,aj,c',r',e⟩),rfl,q _ (I.aM.fresh (Wg _))⟩
 rcases hq with hq | hq
 ·obtain⟨aj,r',pl,hz⟩:=I.list hq;have hlen:=r'.length;obtain⟨o,ho,hc,n,hd⟩:=pl.isList;exact call_list_seq p (.inl rfl) ho hc hd (λh' c' kp e=>fin aj r' hz h' c' kp e) (by simp only[Wo] <;> omega)
 ·obtain⟨aj,r',pl,hz⟩:=I.tuple hq;have hlen:=r'.length;obtain⟨o,ho,hc,n,hd⟩:=pl;exact call_list_seq p (.inr rfl) ho hc hd (λh' c' kp e=>fin aj r' hz h' c' kp e) (by simp only[Wo] <;> omega)
theorem Lo:eK X (.type "tuple") (λxs H Q=>∃ p ys,xs=[.ref p]/\((cK X.K H p ys/\∀ l,H l=none->Q (.ref l) (upd H l (.tup ys)))\/(cR X.K H p ys/\Q (.ref p) H))):=by
 intro pins s σ H xs us Q I r h;obtain⟨p,ys,rfl,h⟩:=h;obtain⟨u,rfl,rx⟩:=gO r
 cases rx;rcases h with ⟨hq,q⟩ | ⟨hq,q⟩
 ·obtain⟨aj,r',pl,hz⟩:=I.list hq;have hlen:=r'.length;refine call_tuple_list pl.isList (λh' kp=>?_) (by simp only[Wo] <;> omega);have I1:Inv X pins σ H { s with heap:=h' }:=I.kept (t':=s.toks) kp;have I2:Inv X pins σ (upd H h'.objs.size (.tup ys)) { s with heap:=h'.push { cls:=.type "tuple",data:=.seq aj.toArray } } :=
   I1.laid (t':=s.toks) (λb o e=>Wd _ e) (Wg _) (show cn X.prog X.w _ _ _ (.tup ys) from⟨hz,aj,r',iD.new _ _⟩)
  exact⟨.ref h'.objs.size,_,I2,rfl,q _ (I1.aM.fresh (Wg _))⟩
 ·obtain⟨aj,r',pl,hz⟩:=I.tuple hq;exact call_tuple_same pl ⟨.ref p,H,I,rfl,q⟩
def wc(K:W1)(T:String)(x:V)(H:Hp):Prop:=match x with
 | .str _=>T = "str"
 | .int _=>T = "int"
 | .ref p=>(T = "list"/\∃ xs,cK K H p xs)\/(T = "tuple"/\∃ o,K.lookup p=some o/\o.cls = .type "tuple"/\o.dict=none) \/
   (T = "dict"/\((∃ kvs,H p=some (.dK kvs))\/∃ kvs,H p=some (.dT kvs)))\/(T = "set"/\∃ S n,H p=some (.set S n))
 | _=>False
theorem Lp(I:Inv X pins σ H s)(r:RelV x v)(ty:wc X.K T x H) :
  s.TypeIs v T/\∀ a,v = .ref a->∃ ob,s.heap.get? a=some ob/\ob.dict=none:=by
 cases x with
 | str z =>
  obtain⟨t,rfl⟩:=r
  cases (show T = "str" from ty);exact⟨typeIs_str s z t,λ_ e=>nomatch e⟩
 | int i =>
  obtain⟨t,rfl⟩:=r
  cases (show T = "int" from ty);exact⟨QG s i t,λ_ e=>nomatch e⟩
 | ref p =>
  cases r;rcases ty with ⟨rfl,xs,hq⟩ | ⟨rfl,o,hk,hc,hd⟩ | ⟨rfl,hk⟩ | ⟨rfl,S,n,hk⟩
  ·obtain⟨aj,_,pl,_⟩:=I.list hq;refine⟨pl.isList.typeIs,λa e=>?_⟩
   cases e;obtain⟨o,n,e,c,hd,_⟩:=pl;exact⟨o,e,hd⟩
  ·refine⟨⟨o,I.gb p o hk,hc⟩,λa e=>?_⟩
   cases e;exact⟨o,I.gb _ o hk,hd⟩
  ·have z:∃ o,s.heap.get? p=some o/\o.ExactDict:=by
    rcases hk with ⟨kvs,hk⟩ | ⟨kvs,hk⟩
    ·obtain⟨_,_,_,_,o,_,_,e,ex,_⟩:=I.aM p _ hk;exact⟨o,e,ex⟩
    ·obtain⟨_,_,_,_,o,_,_,e,ex,_⟩:=I.aM p _ hk;exact⟨o,e,ex⟩
   obtain⟨o,e,ex⟩:=z;refine⟨⟨o,e,ex.1⟩,λa e2=>?_⟩
   cases e2;exact⟨o,e,ex.2.1⟩
  ·obtain⟨o,_,_,_,e,ex,_⟩:=I.aM p _ hk;refine⟨⟨o,e,ex.1⟩,λa e2=>?_⟩
   cases e2;exact⟨o,e,ex.2.1⟩
 | _=>exact False.elim ty
def Cv(K:W1)(T:String)(r:V->List V->Hp->VK->Prop)(to:TE)(t:TA):TE:=λσ H Q=>to σ H λx H1=>wc K T x H1/\t σ H1 λxs H2=>r x xs H2 Q
variable {o e:Expr} {es:List Expr} {to:TE} {t:TA} {name:Str} {apos cg:Pos} {T id:String} {r:V->List V->Hp->VK->Prop}
theorem tN (pa:PlainAttrs T) (slot:Slot T name id) (Lq:typeOf (.builtin id)=pure (.type "method_descriptor")) (hm:tL X id r) (ho:PE X o to) (ha:PA X (e :: es) t)
  (kY:QT o name X.env (eval o X.env)=eval o X.env:=by rfl)
  (kZ:((QW cg (Wk (e :: es) X.env)).all (λx=>!x.1) && (backToKw cg (keywordEach [] X.env)).all (λx=>x.1.isSome)
   && decide ((e :: es).length + ([]:List Keyword).length + (if ([]:List Keyword).isEmpty then 0 else 1) < 30))=true:=by rfl)
  (fU:(apos.endLine == cg.line)=true:=by rfl) (hs:Wk (e :: es) X.env=(false,eval e X.env) :: Wk es X.env:=by rfl) (Lr:(QW cg (Wk es X.env)).any (·.1)=false:=by rfl) :
  PE X (.Call (.Attribute o name apos) (e :: es) [] cg) (Cv X.K T r to t):=by
 intro pins s σ H Q I h;refine wpAny_Call_method_late kY kZ fU rfl (a0 (ho pins s σ H _ I h) λv s1 ⟨x,H1,I1,r1,ty,q1⟩=>?_);obtain⟨h1,h2⟩:=Lp I1 r1 ty;refine⟨T,id,pa,slot,Lq,h1,h2,?_⟩;have hA:=ha cg pins s1 σ H1 _ I1 q1;rw[hs] at hA ⊢;refine Calls.callWith_builtin (by show(false || (QW cg (Wk es X.env)).any (·.1))=false; rw[Lr] <;> rfl) (Calls.evalArgs_plain ?_);exact a0 hA λus s2 ⟨vs,H2,I2,r2,q2⟩=>hm pins s2 σ H2 x vs v us Q I2 r1 r2 q2
end
def Ls(X:Cx)(id:String)(r:V->List V->Hp->VK->Prop):Prop :=
 ∀ (pins:List (Addr×Obj)) (s:W2) (σ:St) (H:Hp) (x:V) (xs:List V) (v:Value) (us:List Value) (Q:VK),Inv X pins σ H s->RelV x v->Vals xs us->r x xs H Q ->
  Wf (model X.prog X.w) X.A (call (.builtin id) (v :: us)) (EP X pins σ Q) X.xe s
theorem Vals.one:∀ {x:V} {us:List Value},Vals [x] us->∃ u,us=[u]/\RelV x u
 | _,_,.cons r .nil=>⟨_,rfl,r⟩
theorem Vals.two:∀ {x y:V} {us:List Value},Vals [x,y] us->∃ u v,us=[u,v]/\RelV x u/\RelV y v
 | _,_,_,.cons r (.cons q .nil)=>⟨_,_,rfl,r,q⟩
theorem Vals.rep(h:Vals xs us):∀ k:Nat,Vals (Wc k xs).flatten (Wc k us).flatten
 | 0=>.nil
 | k + 1=>by
  rw[Q7,Q7,Qx,Qx];exact Vals.append h (Vals.rep h k)
theorem we(aj:List Value):∀ (k:Nat) (acc:List Value),
  List.foldl (λx1 x2=>x1 ++ x2) acc.toArray (Wc k aj.toArray)=(acc ++ (Wc k aj).flatten).toArray
 | 0,acc=>by simp
 | k + 1,acc=>by
  have e:acc.toArray ++ aj.toArray=(acc ++ aj).toArray:=by simp
  have e2:(acc ++ aj) ++ (Wc k aj).flatten=acc ++ (Wc (k + 1) aj).flatten:=by
   rw[Q7,Qx,List.append_assoc]
  rw[<- e2,<- we aj k (acc ++ aj),<- e,Q7,Jl]
section
variable {X:Cx} {pins:List (Addr×Obj)} {σ:St} {H:Hp} {s:W2} {l b:Addr} {xs ys zs:List V}
theorem Inv.Lu{aj its':List Value}{n:Nat}{f:Array Value->Array Value}{t':Nat}(I:Inv X pins σ H s)(hH:H l=some (.lst xs))
  (e:s.heap.get? l=some { cls:=.type "list",data:=.seq aj.toArray n }) (hf:f aj.toArray=its'.toArray) (hv:Vals ys its') (hz:ys.length<=We) :
  Inv X pins σ (upd H l (.lst ys)) { s with heap:=s.heap.update l (Obj.mapSeq f),toks:=t' }:=by
 have q:=PySem.IsL.update e f;rw[hf] at q;refine I.write (x:=l) (e:=l) (by rw[hH]; exact trivial) (.inl rfl) (λb' u hb hu=>(Heap.get?_update_other s.heap (Obj.mapSeq f) (Ne.symm hb)).trans hu) ⟨_,q⟩ ?_;exact⟨hz,its',_,hv,q⟩
theorem Inv.Lv(I:Inv X pins σ H s)(hv:Vals ys aj)(hz:ys.length<=We) :
  Inv X pins σ (upd H s.heap.objs.size (.lst ys)) { s with heap:=s.heap.push { cls:=.type "list",data:=.seq aj.toArray },toks:=t' } :=
 I.laid (λ_ _ q=>Wd _ q) (Wg _) ⟨hz,aj,0,hv,Wn _ rfl⟩
theorem Inv.fresh(I:Inv X pins σ H s):H s.heap.objs.size=none:=I.aM.fresh (Wg _)
theorem Inv.Lw (I:Inv X pins σ H s) (hH:H l=some (.lst xs)):xs.length<=We/\∃ (aj:List Value) (n:Nat),Vals xs aj/\xs.length=aj.length/\s.heap.get? l=some { cls:=.type "list",data:=.seq aj.toArray n }:=by
 obtain⟨z,aj,n,r,e⟩:=I.aM l _ hH;exact⟨z,aj,n,r,r.length,e⟩
end
section
variable {X:Cx}
def Cw:V->List V->Hp->VK->Prop:=λx vs H Q=>∃ l xs y,x = .ref l/\vs=[y]/\H l=some (.lst xs)/\xs.length < We/\Q .aI (upd H l (.lst (xs ++ [y])))
theorem Cy:Ls X "list.append" Cw:=by
 intro pins s σ H x vs v us Q I rx rv h;obtain⟨l,xs,y,rfl,rfl,hH,hz,q⟩:=h
 cases rx;obtain⟨u,rfl,ru⟩:=rv.one;obtain⟨z,aj,n,r,hl,e⟩:=I.Lw hH;refine QO F.slot_list_append ⟨_,e,rfl⟩ F.entry_list_append (F.args_list_append_2 _ _) (PySem.list_append l aj.toArray n u (by rw[Wo]; omega)) ⟨e,?_⟩;refine⟨.aI,_,I.Lu (its':=aj ++ [u]) hH e (by simp) (r.append (.cons ru .nil)) ?_,rfl,q⟩;rw[Qi,List.length_singleton];omega
theorem tO(xs:List α)(k:Nat):(Wc k xs).flatten.length=k * xs.length:=by
 induction k with
 | zero=>simp
 | succ k ih=>rw[Q7,Qx,Qi,ih,Nat.succ_mul,Nat.add_comm]
end
section
variable {prog:Wm} {w:Wr} {A:Wt} {E:Value->W2->Prop} {s:W2}
set_option maxRecDepth 100000 in
end
section
variable {X:Cx}
end
section
variable {κ:Type} [DecidableEq κ]
def dI(kvs:List (κ×V))(k:κ):Option V:=(kvs.find? λkv=>decide (kv.1=k)).map (·.2)
def putK(kvs:List (κ×V))(k:κ)(v:V):List (κ×V) :=
 if (kvs.any λkv=>decide (kv.1=k))=true then kvs.map (λkv=>if kv.1=k then(kv.1,v) else kv) else kvs ++ [(k,v)]
theorem je{p:κ×V}{r:List (κ×V)}{k:κ}(e:p.1=k):dI (p :: r) k=some p.2:=by simp[dI,Q4,e]
theorem jf{p:κ×V}{r:List (κ×V)}{k:κ}(e:¬ p.1=k):dI (p :: r) k=dI r k:=by simp[dI,Q4,e]
theorem tP(k:κ):∀ kvs:List (κ×V),(kvs.any λkv=>decide (kv.1=k))=(dI kvs k).isSome
 | []=>rfl
 | p :: r=>by
  rw[Qd];by_cases e:p.1=k
  ·simp only[je e,decide_eq_true e,Bool.true_or,Option.isSome_some]
  ·rw[jf e,decide_eq_false e,Bool.false_or]; exact tP k r
theorem Cz(k j:κ)(y:V):∀ kvs:List (κ×V),dI (kvs.map λkv=>if kv.1=k then(kv.1,y) else kv) j=(dI kvs j).map λx=>if j=k then y else x
 | []=>rfl
 | p :: r=>by
  have ih:=Cz k j y r;rw[Wu];by_cases h:p.1=k
  ·rw[if_pos h];by_cases e:p.1=j
   ·rw[je (p:=(p.1,y)) e,je e,WF,if_pos (e.symm.trans h)]
   ·rw[jf (p:=(p.1,y)) e,jf e,ih]
  ·rw[if_neg h];by_cases e:p.1=j
   ·rw[je (p:=p) e,je e,WF,if_neg (λz=>h (e.trans z))]
   ·rw[jf (p:=p) e,jf e,ih]
theorem CA(k j:κ)(y:V):∀ kvs:List (κ×V),dI kvs k=none->dI (kvs ++ [(k,y)]) j=if j=k then some y else dI kvs j
 | [],_=>by
  by_cases e:k=j
  ·rw[if_pos e.symm]; exact je (p:=(k,y)) e
  ·rw[if_neg (λz=>e z.symm)]; exact jf (p:=(k,y)) e
 | p :: r,hn=>by
  rw[List.cons_append];have hk:¬ p.1=k:=λz=>by rw[je z] at hn; cases hn
  rw[jf hk] at hn;have ih:=CA k j y r hn;by_cases e:p.1=j
  ·rw[je e,je e,if_neg (λz=>hk (e.trans z))]
  ·rw[jf e,jf e,ih]
theorem Lx(kvs:List (κ×V))(k j:κ)(y:V):dI (putK kvs k y) j=if j=k then some y else dI kvs j:=by
 unfold putK;by_cases a:(kvs.any λkv=>decide (kv.1=k))=true
 ·rw[if_pos a,Cz];rw[tP] at a;by_cases e:j=k
  ·obtain⟨x,hx⟩:=Jg.mp a;rw[if_pos e,e,hx,WF,if_pos rfl]
  ·rw[if_neg e]
   cases dI kvs j with
   | none=>rfl
   | some x=>rw[WF,if_neg e]
 ·rw[if_neg a];refine CA k j y kvs ?_;rw[tP] at a
  cases q:dI kvs k with
  | none=>rfl
  | some x=>rw[q] at a; exact(a rfl).elim
theorem tQ(kvs:List (κ×V))(k:κ)(v:V):(putK kvs k v).length<=kvs.length + 1:=by
 unfold putK;split
 ·rw[Q9]; omega
 ·rw[Qi,WP,List.length_nil]; omega
theorem fJ.qL(r:fJ o u):o.isSome=u.isSome:=by
 cases o with
 | none=>cases u with
  | none=>rfl
  | some _=>exact(show False from r).elim
 | some _=>cases u with
  | none=>exact(show False from r).elim
  | some _=>rfl
theorem KV.val{kvs:List (κ×V)}{vs:List (κ×Value)}(r:KV kvs vs)(k:κ):fJ (dI kvs k) (valueAt vs k):=by
 unfold KV at r;induction r with
 | nil=>exact True.intro
 | @cons p q ps qs h t ih =>
  obtain⟨h1,h2⟩:=h;by_cases e:p.1=k
  ·have e':q.1=k:=h1.symm.trans e;have b:valueAt (q :: qs) k=some q.2:=by simp[valueAt,Q4,e']
   rw[je e,b]; exact h2
  ·have e':¬ q.1=k:=λz=>e (h1.trans z)
   have b:valueAt (q :: qs) k=valueAt qs k:=by simp[valueAt,Q4,e']
   rw[jf e,b]; exact ih
theorem KV.any(r:KV kvs vs)(k:κ):(kvs.any λkv=>decide (kv.1=k))=vs.any λkv=>decide (kv.1=k):=by
 unfold KV at r;induction r with
 | nil=>rfl
 | cons h t ih=>rw[Qd,Qd,ih,h.1]
theorem KV.wg(r:KV kvs vs)(k:κ)(ry:RelV y u) :
  KV (kvs.map λkv=>if kv.1=k then(kv.1,y) else kv) (vs.map λkv=>if kv.1=k then(kv.1,u) else kv):=by
 unfold KV at r ⊢;induction r with
 | nil=>exact .nil
 | @cons p q ps qs h t ih =>
  rw[Wu,Wu];refine .cons ?_ ih;obtain⟨h1,h2⟩:=h;by_cases e:p.1=k
  ·rw[if_pos e,if_pos (h1.symm.trans e)]; exact⟨h1,ry⟩
  ·rw[if_neg e,if_neg (λz=>e (h1.trans z))]; exact⟨h1,h2⟩
theorem KV.put(r:KV kvs vs)(k:κ)(ry:RelV y u):KV (putK kvs k y) (stored vs k u):=by
 unfold putK stored;rw[r.any k];by_cases e:(vs.any λkv=>decide (kv.1=k))=true
 ·rw[if_pos e,if_pos e]; exact r.wg k ry
 ·rw[if_neg e,if_neg e]; exact Paired.snoc r ⟨rfl,ry⟩
theorem KV.length(r:KV kvs vs):kvs.length=vs.length:=Paired.length r
end
theorem nG(r:RelV (kV k) u):(dA P w).is k u=true:=by
 cases k with
 | inl i=>obtain⟨t,e⟩:=(show ∃ t,u=Value.int i t from r); subst e; exact HS P w i t
 | inr x=>obtain⟨t,e⟩:=(show ∃ t,u=Value.str x t from r); subst e; exact HU P w x t
theorem CB:∀ {ks:List Key} {us:List Value},Vals (ks.map kV) us->ItemsAre (dA P w) ks us
 | [],_,r=>by rw[List.map_nil] at r; cases r; exact .nil
 | k :: ks,_,r=>by
  rw[Wu] at r
  cases r with
  | cons h t=>exact .cons (nG h) (CB t)
abbrev KT(H:Hp):List (List Key×V)->List (List Key×Addr×Value)->Prop:=Paired λp q=>p.1=q.1/\H q.2.1=some (.tup (p.1.map kV))/\RelV p.2 q.2.2
theorem KT.val{H:Hp}{kvs:List (List Key×V)}{xs:List (List Key×Addr×Value)}(r:KT H kvs xs)(k:List Key):fJ (dI kvs k) ((atKey xs k).map (·.2)):=by
 induction r with
 | nil=>exact True.intro
 | @cons p q ps qs h t ih =>
  obtain⟨h1,_,h2⟩:=h;by_cases e:p.1=k
  ·have e':q.1=k:=h1.symm.trans e;have b:atKey (q :: qs) k=some q.2:=by simp[atKey,Q4,e']
   rw[je e,b]; exact h2
  ·have e':¬ q.1=k:=λz=>e (h1.trans z)
   have b:atKey (q :: qs) k=atKey qs k:=by simp[atKey,Q4,e']
   rw[jf e,b]; exact ih
theorem KT.wg(r:KT H kvs xs)(k:List Key)(ry:RelV y u) :
  KT H (kvs.map λkv=>if kv.1=k then(kv.1,y) else kv) (xs.map (putAt k u)):=by
 induction r with
 | nil=>exact .nil
 | @cons p q ps qs h t ih =>
  rw[Wu,Wu];refine .cons ?_ ih;obtain⟨h1,h2,h3⟩:=h;unfold putAt;by_cases e:p.1=k
  ·rw[if_pos e,if_pos (h1.symm.trans e)]; exact⟨h1,h2,ry⟩
  ·rw[if_neg e,if_neg (λz=>e (h1.trans z))]; exact⟨h1,h2,h3⟩
theorem KT.put(r:KT H kvs xs)(k:List Key)(hb:H b=some (.tup (k.map kV)))(ry:RelV y u) :
  KT H (putK kvs k y) (storedH xs k b u):=by
 have e:(kvs.any λkv=>decide (kv.1=k))=(atKey xs k).isSome:=by
  rw[tP,(r.val k).qL,Option.isSome_map]
 unfold putK storedH;rw[e];by_cases q:(atKey xs k).isSome=true
 ·rw[if_pos q,if_pos q]; exact r.wg k ry
 ·rw[if_neg q,if_neg q]; exact Paired.snoc r ⟨rfl,hb,ry⟩
theorem KT.keeps(r:KT H kvs xs)(ht:∀ b ys,H b=some (.tup ys)->H' b=some (.tup ys)):KT H' kvs xs :=
 Paired.vI r λ_ _ z=>⟨z.1,ht _ _ z.2.1,z.2.2⟩
section
variable {P:Wm} {w:Wr} {H:Hp} {h:Heap} {a:Addr}
theorem CD(ok:cQ P w H h)(e:Rd H a u):cn P w H h a u:=e.ok ok
theorem qM(ok:cQ P w H h)(e:Rd H a (.dK kvs)):kvs.length<=We/\(a == QE)=false/\∃ vs,KV kvs vs/\h.DictOf (dA P w) a vs :=
 show cn P w H h a (.dK kvs) from CD ok e
theorem tR(ok:cQ P w H h)(e:H a=some (.dK kvs)):kvs.length<=We/\(a == QE)=false/\∃ vs,KV kvs vs/\h.DictOf (dA P w) a vs:=qM ok (.inl e)
theorem qN(ok:cQ P w H h)(e:H a=some (.tup (ks.map kV))):(tupleKind (dA P w)).is h ks a:=by
 obtain⟨_,aj,r,p⟩:=(show cn P w H h a (.tup (ks.map kV)) from ok a _ e)
 obtain⟨o,h1,h2,n,h3⟩:=p.tup;exact⟨o,aj.toArray,n,h1,h2,h3,by simpa using CB r⟩
theorem tS(ok:cQ P w H h)(e:Rd H a (.dT kvs)):kvs.length<=We/\(a == QE)=false /\
  ∃ xs,KT H kvs xs/\h.DictOfH (tupleKind (dA P w)) a xs:=by
 obtain⟨z,y,xs,r,o,es,ep,h1,h2,h3,h4,h5⟩:=(show cn P w H h a (.dT kvs) from CD ok e)
 refine⟨z,y,xs,r,o,es,ep,h1,h2,h3,h4,λx hx=>?_,h5⟩;have all:∀ {l:List (List Key×V)} {m:List (List Key×Addr×Value)},KT H l m->∀ x ∈ m,(tupleKind (dA P w)).is h x.1 x.2.1:=by
  intro l m q;induction q with
  | nil=>intro x hx; exact nomatch hx
  | @cons p q ps qs hq t ih =>
   intro x hx;rcases Wl.mp hx with e | hx
   ·subst e;exact qN ok (by rw[<- hq.1]; exact hq.2.1)
   ·exact ih x hx
 exact all r x hx
theorem Ly(ok:cQ P w H h)(e:H a=some (.dT kvs)):kvs.length<=We/\(a == QE)=false /\
  ∃ xs,KT H kvs xs/\h.DictOfH (tupleKind (dA P w)) a xs:=tS ok (.inl e)
end
def l8(H:Hp)(a:Addr)(y:V)(r:Option V):Prop :=
 (∃ kvs k,Rd H a (.dK kvs)/\y=kV k/\r=dI kvs k)\/∃ kvs k b,Rd H a (.dT kvs)/\y = .ref b/\H b=some (.tup (k.map kV))/\r=dI kvs k
def pq(H:Hp)(a:Addr)(y v:V)(H':Hp):Prop :=
 (∃ kvs k,H a=some (.dK kvs)/\y=kV k/\kvs.length < We/\H'=upd H a (.dK (putK kvs k v))) \/
 ∃ kvs k b,H a=some (.dT kvs)/\y = .ref b/\H b=some (.tup (k.map kV))/\kvs.length < We/\H'=upd H a (.dT (putK kvs k v))
theorem l8.k{H:Hp}{a:Addr}{kvs:List (Key×V)}{k:Key}(e:H a=some (.dK kvs)):l8 H a (kV k) (dI kvs k):=.inl ⟨kvs,k,.inl e,rfl,rfl⟩
theorem pq.k{H:Hp}{a:Addr}{kvs:List (Key×V)}{k:Key}{v:V}(e:H a=some (.dK kvs))(hl:kvs.length < We):pq H a (kV k) v (upd H a (.dK (putK kvs k v))):=.inl ⟨kvs,k,e,rfl,hl,rfl⟩
section
variable {X:Cx} {pins:List (Addr×Obj)} {σ:St} {H:Hp} {s:W2} {a:Addr} {y v:V} {u r:Value} {o:Option V} {A:Wt} {E:Value->W2->Prop}
theorem Inv.big(I:Inv X pins σ H s):QE < s.heap.objs.size:=by
 have h:WE < s.heap.objs.size:=(I.mod.glob.keeps I.bk).lt;exact J1 (by decide) h
theorem Lz(hu:A.units + 1 < WT)(I:Inv X pins σ H s)(g:l8 H a y (some v))(ry:RelV y u)(h:∀ w' s',Inv X pins σ H s'->RelV v w'->Q w' s') :
  Wf (model X.prog X.w) A (JL (.ref a) u) Q E s:=by
 rcases g with ⟨kvs,k,e,ey,l⟩ | ⟨kvs,k,b,e,ey,eb,l⟩
 ·subst ey;obtain⟨z,hd,vs,rel,dd⟩:=qM I.aM e;obtain⟨w',hw,aP⟩:=fJ.some_of (v:=v) (o:=valueAt vs k) (by rw[l]; exact rel.val k);exact wpAny_getItem_of (nG ry) dd.mapOf hw (h w' _ (I.tok _) aP)
 ·subst ey
  cases (show u=Value.ref b from ry);obtain⟨z,hd,xs,rel,dd⟩:=tS I.aM e;obtain⟨w',hw,aP⟩:=fJ.some_of (v:=v) (o:=(atKey xs k).map (·.2)) (by rw[l]; exact rel.val k);obtain⟨p,hp,hp2⟩:=WG.mp hw;refine wpAny_getItem_heap (JD hu) (qN I.aM eb) dd hp ?_;rw[hp2];exact h w' _ (I.tok _) aP
theorem LA(hu:A.units + 1 < WT)(I:Inv X pins σ H s)(g:l8 H a y o)(ry:RelV y u)(h:∀ s',Inv X pins σ H s'->Q (.bool o.isSome) s') :
  Wf (model X.prog X.w) A (WL .In u (.ref a)) Q E s:=by
 rcases g with ⟨kvs,k,e,ey,l⟩ | ⟨kvs,k,b,e,ey,eb,l⟩
 ·subst ey;obtain⟨z,hd,vs,rel,dd⟩:=qM I.aM e;refine wpAny_in_of (nG ry) hd dd.mapOf ?_;rw[<- (rel.val k).qL,<- l];exact h _ (I.tok _)
 ·subst ey
  cases (show u=Value.ref b from ry);obtain⟨z,hd,xs,rel,dd⟩:=tS I.aM e;refine wpAny_in_heap (JD hu) (qN I.aM eb) hd dd ?_;have q:=(rel.val k).qL;rw[Option.isSome_map] at q;rw[<- q,<- l];exact h _ (I.tok _)
theorem LB(hu:A.units + 1 < WT)(I:Inv X pins σ H s)(g:l8 H a y o)(ry:RelV y u)(h:∀ s',Inv X pins σ H s'->Q (.bool (!o.isSome)) s') :
  Wf (model X.prog X.w) A (WL .NotIn u (.ref a)) Q E s:=by
 rcases g with ⟨kvs,k,e,ey,l⟩ | ⟨kvs,k,b,e,ey,eb,l⟩
 ·subst ey;obtain⟨z,hd,vs,rel,dd⟩:=qM I.aM e;refine wpAny_notIn_of (nG ry) hd dd.mapOf ?_;rw[<- (rel.val k).qL,<- l];exact h _ (I.tok _)
 ·subst ey
  cases (show u=Value.ref b from ry);obtain⟨z,hd,xs,rel,dd⟩:=tS I.aM e;refine wpAny_notIn_heap (JD hu) (qN I.aM eb) hd dd ?_;have q:=(rel.val k).qL;rw[Option.isSome_map] at q;rw[<- q,<- l];exact h _ (I.tok _)
theorem wj(I:Inv X pins σ H s)(mu:qq (H a))(hs:QK a s.heap h')(he:∃ q,h'.get? a=some q)(new:cn X.prog X.w (upd H a ob) h' a ob) :
  Inv X pins σ (upd H a ob) { s with heap:=h',toks:=t' } :=
 I.write (x:=a) (e:=a) mu (.inl rfl) (λb q hb z=>(hs.2 b hb).trans z) he new
theorem CF(z:kvs.length<=We)(hd:(a == QE)=false)(rel:KV kvs vs)(dd:h'.DictOf (dA P w) a vs) :
  cn P w H' h' a (.dK kvs):=⟨z,hd,vs,rel,dd⟩
theorem LC(hu:A.units + 1 < WT)(I:Inv X pins σ H s)(g:pq H a y v H')(ry:RelV y u)(rv:RelV v r)(h:∀ s',Inv X pins σ H' s'->Q () s') :
  Wf (model X.prog X.w) A (setItem (.ref a) u r) Q E s:=by
 rcases g with ⟨kvs,k,e,ey,l,eH⟩ | ⟨kvs,k,b,e,ey,eb,l,eH⟩
 ·subst ey eH;obtain⟨z,hd,vs,rel,dd⟩:=tR I.aM e;have hz:vs.length<=We:=by rw[<- rel.length]; exact z
  have hl:(putK kvs k v).length<=We:=by have:=tQ kvs k v; omega
  refine wpAny_setItem_pairs (hsz:=hz) (nG ry) dd λh' nH hs=>h _ ?_
  have he:∃ q,h'.get? a=some q:=let ⟨q,_,_,hq,_⟩:=nH; ⟨q,hq⟩
  exact wj I (by rw[e]; exact True.intro) hs he (CF hl hd (rel.put k rv) nH)
 ·subst ey eH
  cases (show u=Value.ref b from ry);obtain⟨z,hd,xs,rel,dd⟩:=Ly I.aM e;have hz:xs.length<=We:=by rw[<- Paired.length rel]; exact z
  have hl:(putK kvs k v).length<=We:=by have:=tQ kvs k v; omega
  refine wpAny_setItem_heap (hsz:=hz) (JD hu) (qN I.aM eb) dd λh' nH hs=>h _ ?_
  obtain⟨q,es,ep,hq,h2,h3,h4,_,h5⟩:=nH;refine wj I (by rw[e]; exact True.intro) hs ⟨q,hq⟩ ⟨hl,hd,_,(rel.put k eb rv).keeps λc ys ec=>?_,q,es,ep,hq,h2,h3,h4,h5⟩;rw[bh (HX ec e (λz=>nomatch z))];exact ec
end
section
variable {X:Cx} {pins:List (Addr×Obj)} {σ:St} {H:Hp} {s:W2} {a:Addr} {kvs:List (Key×V)} {k:Key} {u:Value} {A:Wt} {E:Value->W2->Prop}
theorem LD (I:Inv X pins σ H s) (e:Rd H a (.dK kvs)) (h:∀ t s',Inv X pins σ H s'->Q (.int kvs.length t) s'):Wf (model X.prog X.w) A (call (.builtin "len") [.ref a]) Q E s:=by
 obtain⟨z,hd,vs,rel,dd⟩:=qM I.aM e;refine call_len_dict hd dd (by rw[<- rel.length]; rw[sizeLine_eq] at z; omega) ?_;rw[<- rel.length];exact h _ _ (I.tok _)
end
def LF(td ty tv:TE):TS:=λD σ H=>tv σ H λv H1=>td σ H1 λx H2=>ty σ H2 λy H3=>∃ a H4,x = .ref a/\pq H3 a y v H4/\D.nx σ H4
section
variable {X:Cx} {o i e value:Expr} {pos pos' KG:Pos} {td ty tv:TE}
theorem CG(hu:X.A.units + 1 < WT)(ho:PE X o td)(hi:PE X i ty)(hv:PE X value tv)(hs:Jp value (some (.Subscript o i pos')) pos.line X.env=pure false) :
  PS X (.Assign [.Subscript o i pos'] value pos) (LF td ty tv):=by
 intro pins s σ H D I h;refine wpAny_Assign_Subscript (a0 (hv pins s σ H _ I h) λr s1 ⟨v,H1,I1,rv,q1⟩=>a0 (ho pins s1 σ H1 _ I1 q1) λu s2 ⟨x,H2,I2,rx,q2⟩=>a0 (hi pins s2 σ H2 _ I2 q2) λiv s3 ⟨y,H3,I3,ry,a,H4,ex,g,q3⟩=>?_) hs;subst ex;obtain rfl:u=Value.ref a:=rx;exact LC hu I3 g ry rv λs4 I4=>⟨σ,H4,I4,q3⟩
end
theorem CH (h:Heap) (hb:QE < h.objs.size):cn P w H (h.push { cls:=.type "dict",data:=.dict #[] }) h.objs.size (.dK []) :=
 ⟨Qg _,beq_eq_false_iff_ne.mpr (Ne.symm (WS hb)),[],.nil,Heap.DictOf.new h⟩
def LG:TE:=λ_ H Q=>∀ p,H p=none->Q (.ref p) (upd H p (.dK []))
section
variable {X:Cx} {pos:Pos}
theorem LH:PE X (.Dict [] [] pos) LG:=λpins s σ H Q I h =>
 wpAny_Dict_empty ⟨.ref s.heap.objs.size,_,I.laid (a:=s.heap.objs.size) (o:=.dK []) (t':=s.toks) (λ_ _ q=>Wd _ q) (Wg _) (CH s.heap I.big),rfl,h _ (I.aM.fresh (Wg _))⟩
end
section
variable {X:Cx} {pins:List (Addr×Obj)} {σ:St} {H:Hp} {s:W2} {a:Addr} {y d:V} {u r:Value} {o:Option V} {A:Wt} {E:Value->W2->Prop}
end
section
variable {X:Cx} {o e f:Expr} {apos cg:Pos} {td ty tx:TE}
end
section
variable {X:Cx} {pins:List (Addr×Obj)} {σ:St} {H:Hp} {s:W2} {a:Addr} {kvs:List (Key×V)} {A:Wt} {E:Value->W2->Prop}
end
section
variable {X:Cx} {pins:List (Addr×Obj)} {σ:St} {H:Hp} {s:W2} {a:Addr} {y:V} {u:Value} {A:Wt} {E:Value->W2->Prop}
end
end L2
namespace Att
open PySem PySem.W PySem.Calls PyProof.Rows
theorem LI:∀ (ns:List Int) (vs:List Value),WellAll P h vs (ns.map WData.int)->IntsAre vs ns:=by
 intro ns;induction ns with
 | nil =>
  intro vs w;rw[List.map_nil] at w
  cases w;exact .nil
 | cons n ns ih =>
  intro vs w;rw[Wu] at w
  cases w with
  | cons a b =>
   cases a;exact .cons _ _ (ih _ b)
theorem LJ{l:OpenLaw}{n:Nat}(hn:l.most=some n){P:Params}{h:Heap}{args:List WData}{vals:List Value}
  (tU:l.row.toRowW.claim.pre args=true) (qO:WellAll P h vals args) :
  ∃ a vs ns,vals=[Value.ref a]/\args=[WData.list (ns.map WData.int)]/\h.get? a=some { cls:=.type "list",data:=.seq vs.toArray }/\IntsAre vs ns/\ns.length<=n:=by
 have LK:WShape.hasAll [] args [.list .int]=true:=(pre_splitW tU).1;have hc:l.pre.holds [] { args:=args } = true:=(pre_splitW tU).2;obtain⟨d,r,rfl,h1,h2⟩:=hasAllW_cons LK;obtain rfl:=hasAllW_nil h2;obtain⟨xs,rfl,h3⟩:=hasW_list h1;obtain⟨ns,rfl⟩:=items_int h3;have hlen:ns.length<=n:=by
  unfold OpenLaw.pre at hc;have h4:(WTm.not (.lt (.lit (.int (n:Int))) (.len (.arg 0)))).holds [] { args:=[.list (ns.map .int)] } = true:=by
   have h4:=(holds_andW hc).1;rw[hn] at h4;exact h4
  have h5:=condW_of h4 (w_not (w_lt w_lit (w_len_list (w_arg rfl))));rw[Q9] at h5;refine Nat.le_of_not_lt λq=>?_
  have q':(n:Int) < ((ns.length:Nat):Int):=by omega
  first
   | (rw[decide_eq_true q'] at h5; exact absurd h5 (by decide))
   | (simp at h5; omega)
 cases qO with
 | cons w1 w2 =>
  cases w2
  cases w1 with
  | list ho hall=>exact⟨_,_,ns,rfl,rfl,ho,LI ns _ hall,hlen⟩
theorem LM(l:OpenLaw)(args:List WData):l.row.toRowW.claim.post args (.bool true) args=true :=
 postW_of (r:=l.row.toRowW) (X:=(true == true))
  (show WShape.has [] (.bool true) .bool=true by first | rfl | decide | simp[WShape.has,WShape.arms,WShape.armsAll])
  (show(WTm.eq .res (.lit (.bool true))).value [] { args:=args,res:=some (.bool true),after:=args } = some (.bool (true == true)) from w_eq_bool (w_res rfl) w_lit) rfl
theorem LN{l:OpenLaw}{n:Nat}{q:Wm}{loose:List Str}{XP:(Str->Option Value)->Heap->Prop}{YP:Wr->Heap->Prop}{d:DefRec}
  (hn:l.most=some n) (qP:d.params.defaults=[])
  (call:∀ (w:Wr) (s₀ s₁:W2) (mg mb:Str->Option Value) (fa:Addr) (o:Obj) (pm cd doc:Value) (a:Addr) (vs:List Value) (ns:List Int),
   Ground q loose [] XP w s₀ mg mb s₁.heap->YP w s₁.heap ->
   s₁.heap.get? fa=some o->o.data = .func (docDef d.name d.params d.body d.scope pm cd doc)->s₁.heap.CodeRec cd d.name->mg d.name=some (.ref fa) ->
   s₁.heap.get? a=some { cls:=.type "list",data:=.seq vs.toArray }->IntsAre vs ns->ns.length<=n->s₁.gens = #[] ->
   Jn (model l.prog w) callerA (.call (.ref fa) ⟨[.ref a],[]⟩) (λr s'=>r = .ok (.ret (.bool true))/\OldK s₁.heap s'.heap/\s'.os=s₁.os/\AllBare s'.gens) s₁) :
  WalkO q loose XP YP l.row.toRowW d [] (λf vs=>PySem.call f vs):=by
 intro w s₀ s₁ mg mb G Y fa o pm cd doc dV kV ho hd jI hD qQ hg args vals as tU hlay hrd qO hlo;obtain rfl:dV = .none:=Dflts.none hD qP;obtain rfl:kV = .none:=Dflts.noKw hD;obtain⟨a,vs,ns,rfl,rfl,wk,hints,hlen⟩:=LJ hn tU qO;refine enter_call (codeAny_mono (call w s₀ s₁ mg mb fa o pm cd doc a vs ns G Y ho (fd_plain hd) jI qQ wk hints hlen hg) λr s' hq=>?_);obtain⟨rfl,h2,h3,h4⟩:=hq;exact⟨.inl ⟨.bool true,.bool true,[],rfl,λ_=>rfl,.bool true,LM l _,λ_=>⟨List.Pairwise.nil,λ_ hm=>(nomatch hm)⟩⟩,h2,h3,h4⟩
section
variable {prog:Wm} {w:Wr} {A:Wt} {E:Value->W2->Prop} {s:W2} {K:Frag}
end
end Att
namespace L2
open PySem PySem.Spec PyProof.Rows
theorem qR:∀ {vs:List Value} {ns:List Int},IntsAre vs ns->Vals (ns.map V.int) vs
 | _,_,.nil=>.nil
 | _,_,.cons n t h=>.cons ⟨t,rfl⟩ (qR h)
def wm(H:Hp):Prop:=∀ b,H b=none\/∃ o xs,H b=some (.frz o (.lst xs))
theorem LO{P:Wm}{w:Wr}{K:W1}{mg mb:Str->Option Value}{CX:jK}{k:Nat}{fa a:Addr}{fd:Qj}{x:Str}{sp:Sp}{s₁:W2}{vs:List Value}{ns:List Int}
  (KX:K.In s₁.heap) (CI:s₁.heap.Ns WE mg) (hb:s₁.heap.Ns builtinsNs mb) (LP:∀ x:Str,x≠"__name__"->mb x=QB x) (LQ:s₁.heap.NoLimit) (hg:s₁.gens = #[])
  (ha:s₁.heap.get? a=some { cls:=.type "list",data:=.seq vs.toArray }) (hi:IntsAre vs ns) (hl:ns.length<=We) (hr:fB k callerA)
  (F:∀ base:Heap,K.In base->base.Ns WE mg->jL P w K mg base CX k fa fd [x] sp) (LR:∀ (s:W2) (u:Value),BindsTo s fd ⟨[u],[]⟩ [(x,u)])
  (lZ:∀ H:Hp,wm H->cK K H a (ns.map V.int)->sp [.ref a] H (λv _=>v = .bl true) λ_ _ _=>False)
  (wo:∀ H e s',CX [] H s₁ (λ_ _ _=>False) e s'->False) :
  Jn (model P w) callerA (.call (.ref fa) ⟨[.ref a],[]⟩) (λr s'=>r = .ok (.ret (.bool true))/\OldK s₁.heap s'.heap/\s'.os=s₁.os/\AllBare s'.gens) s₁:=by
 have rv:=qR hi;have LS:=hi.length;-- from an abstract heap in which nothing but the script may be tracked
 have core:∀ H:Hp,wm H->cK K H a (ns.map V.int)->cQ P w H s₁.heap->(∀ b,H b≠none->b=a)->(H a≠none->K.lookup a=none) ->
   Jn (model P w) callerA (.call (.ref fa) ⟨[.ref a],[]⟩) (λr s'=>r = .ok (.ret (.bool true))/\OldK s₁.heap s'.heap/\s'.os=s₁.os/\AllBare s'.gens) s₁:=by
  intro H hO hS aM hA hK;have CJ:∀ {b:Addr} {o:Obj},s₁.heap.get? b=some o->H b=none->(kS s₁.heap H).get? b=some o:=λe n=>Ib e n
  have qI:∀ {b:Addr} {o:Obj} {es:Array DictEntry} {ep:Nat},s₁.heap.get? b=some o->o.data = .dict es ep->H b=none:=λ{b o es ep} e d=>by
   cases q:H b with
   | none=>rfl
   | some u =>
    have e':b=a:=hA b (by rw[q]; simp);subst e';rw[ha] at e; cases e
    have d':Data.seq vs.toArray _=Data.dict es ep:=d
    cases d'
  have tV:∀ {b:Addr} {m:Str->Option Value},s₁.heap.Ns b m->(kS s₁.heap H).Ns b m:=λ{b m} ⟨o,es,ep,e,d,r⟩=>⟨o,es,ep,CJ e (qI e d),d,r⟩
  have CK:K.In (kS s₁.heap H):=λb o e=>CJ (KX b o e) (by
   cases q:H b with
   | none=>rfl
   | some u =>
    have e':b=a:=hA b (by rw[q]; simp);subst e';rw[hK (by rw[q]; simp)] at e; cases e)
  have hM:Mod K mg (kS s₁.heap H):=⟨CK,tV CI,⟨mb,tV hb,LP⟩,let ⟨mc,h1,h2⟩:=LQ; ⟨mc,tV h1,h2⟩⟩
  have e0:tJ P w K mg (kS s₁.heap H) callerA [] s₁ H:=⟨rfl,hM,λb o e=>Ic e,Nat.le_of_eq (Ia _ _),trivial,λb hb=>absurd (show b ∈ ([]:List Addr) from hb) (by simp),aM,.of_eq hg⟩
  refine codeAny_mono ((F _ CK (tV CI)).run callerA [] s₁ H ⟨[.ref a],[]⟩ [.ref a] [.ref a] _ _ hr e0 (LR s₁ (.ref a)) (.cons rfl .nil) (lZ H hO hS)) λr s' h=>?_
  cases r with
  | error e=>exact(wo H e s' h).elim
  | ok fl =>
   cases fl with
   | next=>exact False.elim h
   | brk=>exact False.elim h
   | cont=>exact False.elim h
   | ret u =>
    obtain⟨v,H',os,bare,un,hok',r',q⟩:=h;have q':v = .bl true:=q;subst q';obtain rfl:u=Value.bool true:=r';refine⟨rfl,OldK.of_keep λb o e=>?_,os,bare⟩
    cases q:H b with
    | none=>exact un.keep b o e q (by intro z; exact absurd (show b ∈ ([]:List Addr) from z) (by simp)) (by simp)
    | some u =>
     rcases hO b with z | ⟨ob,xs,z⟩
     ·rw[q] at z; cases z
     ·have z2:=un.kR b ob _ z;obtain⟨e1,_⟩:=aM b _ z;obtain⟨e2,_⟩:=hok' b _ z2;rw[e] at e1; cases e1
      exact e2
 cases hk:K.lookup a with
 | some o =>
  -- the script is one of the module's own objects
  have e:=KX a o hk;rw[ha] at e
  cases e;refine core (λ_=>none) (λ_=>.inl rfl) (.inr ⟨_,vs.toArray,_,hk,rfl,rfl,rfl,by rw[Wo,LS]; exact hl,by simpa using rv⟩) (λb u z=>by have z':(none:Option HO)=some u:=z; cases z') (λb z=>absurd rfl z) λz=>absurd rfl z
 | none =>
  refine core (λb=>if b=a then some (.frz { cls:=.type "list",data:=.seq vs.toArray } (.lst (ns.map V.int))) else none) (λb=>?_) (.inl (.inr ⟨{ cls:=.type "list",data:=.seq vs.toArray },if_pos rfl⟩)) (λb u z=>?_) (λb z=>?_) λ_=>hk
  ·by_cases hb:b=a
   ·exact .inr ⟨_,_,if_pos hb⟩
   ·exact .inl (if_neg hb)
  ·by_cases hb:b=a
   ·have z':=(if_pos hb).symm.trans z
    cases z';subst hb;exact⟨ha,by rw[Q9]; exact hl,vs,_,rv,ha⟩
   ·have z':=(if_neg hb).symm.trans z
    cases z'
  ·by_cases hb:b=a
   ·exact hb
   ·exact absurd (if_neg hb) z
abbrev VP{K:W1}{h:Heap}(_:K.In h):W1:=K
theorem LU{l:PySem.W.OpenLaw}{n k:Nat}{q:Wm}{loose:List Str}{XP:(Str->Option Value)->Heap->Prop}{YP:Wr->Heap->Prop}{d:DefRec}{K:Params->W1}{CX:Wr->jK}{sp:Wr->Sp}{x:Str}
  (hn:l.most=some n) (LV:n<=We) (qP:d.params.defaults=[]) (hr:fB k callerA)
  (hY:∀ (w:Wr) (h:Heap),YP w h->(K w.params).In h)
  (F:∀ (w:Wr) (mg:Str->Option Value) (fa:Addr) (h:Heap),(K w.params).In h->h.Ns WE mg->mg d.name=some (.ref fa) ->
   ∃ fd:Qj,(∀ (s:W2) (u:Value),BindsTo s fd ⟨[u],[]⟩ [(x,u)]) /\
    ∀ base:Heap,(K w.params).In base->base.Ns WE mg->jL l.prog w (K w.params) mg base (CX w) k fa fd [x] (sp w))
  (lZ:∀ (w:Wr) (H:Hp) (a:Addr) (ns:List Int),ns.length<=n->wm H->cK (K w.params) H a (ns.map V.int)->sp w [.ref a] H (λv _=>v = .bl true) λ_ _ _=>False)
  (wo:∀ (w:Wr) (H:Hp) (s:W2) (e:Value) (s':W2),CX w [] H s (λ_ _ _=>False) e s'->False) :
  PySem.W.WalkO q loose XP YP l.row.toRowW d [] (λf vs=>PySem.call f vs):=by
 refine Att.LN hn qP λw s₀ s₁ mg mb fa o pm cd doc a vs ns G Y ho hd jI qQ wk hints hlen hg=>?_
 have KX:=hY w _ Y;obtain⟨fd,hb,hF⟩:=F w mg fa _ KX G.T.g qQ;exact LO KX G.T.g G.T.b G.T.builtins G.T.nolimit hg wk hints (Ws hlen LV) hr hF hb (λH hO hS=>lZ w H a ns hlen hO hS) λH e s'=>wo w H s₁ e s'
def l9(s:Stmt):Arguments:=match s with
 | .FunctionDef _ a _ _ _ _ _ _ _ _=>a
 | _=>{ posonlyargs:=[],args:=[],vararg:=none,kwonlyargs:=[],kw_defaults:=[],kwarg:=none,defaults:=[] }
def jN(s:Stmt):List Stmt:=match s with
 | .FunctionDef _ _ b _ _ _ _ _ _ _=>b
 | _=>[]
def cq(s:Stmt):Scope:=match s with
 | .FunctionDef _ _ _ _ _ _ sc _ _ _=>sc
 | _=>{ kind:=.function,names:=[],isGenerator:=false,isCoroutine:=false }
abbrev jO:jK:=λ_ _ _ _ _ _=>False
abbrev E0:XK:=λ_ _ _=>False
theorem LW:vW jO X E0:=λ_ _ _ _ _ _ _ h=>h.elim
structure cC(K:W1)(x qual:Str)(st:Stmt)(f:Addr)(fd:Qj):Prop where
 ex:∃ (oc:Value) (od:Option Addr) (kV doc pm:Value) (an:Option Addr) (bE ct:Value) (lY:Array (Option Value)),
  fd=QN x qual (l9 st) (jN st) (cq st) .none kV doc pm an bE ct/\K.lookup f=some ⟨oc,od,.func fd,lY⟩/\PySem.W.codeIn K bE qual=true
 kp:JK K (.ref f)=true
section
variable {P:Wm} {w:Wr} {K:W1} {mg:Str->Option Value} {base:Heap}
theorem cC.ok{x qual:Str}{st:Stmt}{f:Addr}{fd:Qj}{N ps:List Str}{k:Nat}{sp:Sp}(F:cC K x qual st f fd)(S:cY N ps (cq st))(len:∀ vs H Q E,sp vs H Q E->vs.length=ps.length)
  (nE:∀ (bE:Value) (A:Wt) (outer:List Env) (s:W2) (H:Hp) (vs:List V) (Q:VK) (E:XK),fB k (A.deeper (envOfC qual (cq st) s.heap.objs.size f bE))->sp vs H Q E ->
   ∃ t,fg (lX jO P w K mg base N qual (cq st) f bE A outer s H E).pe (jN st) t/\t { nx:=λ_ H'=>Q .aI H',rt:=Q } (dB N vs) H):jL P w K mg base jO (k + 1) f fd ps sp:=by
 obtain⟨oc,od,kV,doc,pm,an,bE,ct,lY,rfl,lk,jI⟩:=F.ex;refine KR lk jI S len λA outer s H vs Q E hr lZ=>?_
 obtain⟨t,h,q⟩:=nE bE A outer s H vs Q E hr lZ;exact⟨t,h.pe,q⟩
theorem cC.binds{x qual:Str}{st:Stmt}{f:Addr}{fd:Qj}{ps:List Str}(F:cC K x qual st f fd)
  (h:∀ (kV doc pm:Value) (an:Option Addr) (bE ct:Value) (us:List Value),us.length=ps.length->bindArgs (QN x qual (l9 st) (jN st) (cq st) .none kV doc pm an bE ct) ⟨us,[]⟩=pure (ps.zip us)):Binds K fd ps []:=by
 obtain⟨oc,od,kV,doc,pm,an,bE,ct,lY,rfl,lk,jI⟩:=F.ex;exact .all (h kV doc pm an bE ct)
theorem CL{x qual:Str}{st:Stmt}{f:Addr}{oc:Value}{od an:Option Addr}{lY:Array (Option Value)}{kV doc pm bE ct:Value}(l:K.lookup f=some ⟨oc,od,.func (QN x qual (l9 st) (jN st) (cq st) .none kV doc pm an bE ct),lY⟩)
  (c:PySem.W.codeIn K bE qual=true) (k:JK K (.ref f)=true):cC K x qual st f (QN x qual (l9 st) (jN st) (cq st) .none kV doc pm an bE ct):=⟨⟨oc,od,kV,doc,pm,an,bE,ct,lY,rfl,l,c⟩,k⟩
end
theorem LX(h:n<=1000):n < We:=Wx h (by decide)
section
variable {X:Cx}
theorem pv (i:Nat) (hN:X.N[i]? = some x:=by rfl) (hv:sU X.env.scope x:=by first | exact Or.inl rfl | exact Or.inr (Or.inl rfl) | exact Or.inr (Or.inr rfl)) (hd:(x == ("__debug__" : Str))=false:=by decide)
  (jI:(x == ("__classdict__" : Str))=false:=by decide):PE X (.Name x pos) (cJ i):=Ik hN hv hd jI
theorem LY:eK X (.builtin "len") (λxs H Q=>∃ a kvs,xs=[V.ref a]/\H a=some (.dK kvs)/\Q (.int kvs.length) H):=by
 intro pins s σ H xs us Q I r h;obtain⟨a,kvs,rfl,ha,q⟩:=h;obtain⟨u,rfl,ru⟩:=gO r
 cases ru;exact LD I (.inl ha) λt s' I'=>⟨.int kvs.length,H,I',⟨t,rfl⟩,q⟩
end
section
variable {κ:Type} [DecidableEq κ]
end
def gc(cells:List (Str×Addr)):List (Str×NameKind)->List (Str×Addr)->List (Str×Addr)
 | [],acc=>acc
 | (n,k) :: r,acc=>gc cells r (if k == .free then(match cells.lookup n with | some a=>(n,a) :: acc | none=>acc) else acc)
theorem wq(f:Str×NameKind->List (Str×Addr)->Sem (ForInStep (List (Str×Addr))))
  (hf:∀ name kind cs,f (name,kind) cs=if kind == .free then(do let a <- cellOf env name; pure (.yield ((name,a) :: cs))) else pure (.yield cs)) :
  ∀ (names:List (Str×NameKind)) (acc:List (Str×Addr)),(∀ x ∈ names,x.2=NameKind.free->∃ c,env.cells.lookup x.1=some c)->(forIn names acc f:Sem (List (Str×Addr)))=pure (gc env.cells names acc)
 | [],acc,_=>by rw[List.forIn_nil]; rfl
 | (n,k) :: r,acc,h=>by
  rw[JZ,hf];unfold gc;by_cases hk:(k == NameKind.free)=true
  ·obtain⟨c,hc⟩:=h (n,k) Wj (by simpa using hk);have jH:env.cells.lookup n=some c:=hc;have e:cellOf env n=pure c:=by unfold cellOf; rw[jH]
   rw[if_pos hk,if_pos hk,e,jH];exact wq f hf r _ λx hx=>h x (Wa _ hx)
  ·rw[if_neg hk,if_neg hk];exact wq f hf r _ λx hx=>h x (Wa _ hx)
theorem CM(h:∀ x ∈ scope.names,x.2=NameKind.free->∃ c,env.cells.lookup x.1=some c):closureFor scope env=pure (gc env.cells scope.names []):=by
 unfold closureFor;dsimp only;rw[wq (env:=env) _ (λname kind cs=>by cases hkc:kind == NameKind.free <;> simp[hkc]) scope.names [] h];rfl
theorem CN:∀ (names:List (Str×NameKind)) (acc:List (Str×Addr)),(n,c) ∈ gc cells names acc->(n,c) ∈ acc\/((n,NameKind.free) ∈ names/\cells.lookup n=some c)
 | [],acc,h=>.inl h
 | (y,k) :: r,acc,h=>by
  unfold gc at h;rcases CN r _ h with q | ⟨q,e⟩
  ·by_cases hk:(k == NameKind.free)=true
   ·rw[if_pos hk] at q;have nJ:k=NameKind.free:=by simpa using hk
    cases e:cells.lookup y with
    | none=>rw[e] at q; exact .inl q
    | some a =>
     rw[e] at q;rcases Wl.mp q with z | z
     ·cases z;exact .inr ⟨by rw[nJ]; exact Wj,e⟩
     ·exact .inl z
   ·rw[if_neg hk] at q; exact .inl q
  ·exact .inr ⟨Wa _ q,e⟩
theorem CO:∀ (names:List (Str×NameKind)) (acc:List (Str×Addr)),(acc.lookup n).isSome=true\/((n,NameKind.free) ∈ names/\(cells.lookup n).isSome=true)->((gc cells names acc).lookup n).isSome=true
 | [],acc,h=>h.elim id λz=>absurd z.1 (by simp)
 | (y,k) :: r,acc,h=>by
  unfold gc;apply CO r;by_cases hk:(k == NameKind.free)=true
  ·rw[if_pos hk]
   cases e:cells.lookup y with
   | none =>
    rcases h with h | ⟨h1,h2⟩
    ·exact .inl h
    ·rcases Wl.mp h1 with z | z
     ·cases z;rw[e] at h2; cases h2
     ·exact .inr ⟨z,h2⟩
   | some a =>
    by_cases hn:(n == y)=true
    ·refine .inl ?_;show(List.lookup n ((y,a) :: acc)).isSome=true;rw[Qk,hn];rfl
    ·rcases h with h | ⟨h1,h2⟩
     ·refine .inl ?_;show(List.lookup n ((y,a) :: acc)).isSome=true;have qy:(n == y)=false:=by simpa using hn
      rw[Qk,qy];exact h
     ·rcases Wl.mp h1 with z | z
      ·cases z;exact absurd (by simp) hn
      ·exact .inr ⟨z,h2⟩
  ·rw[if_neg hk];rcases h with h | ⟨h1,h2⟩
   ·exact .inl h
   ·rcases Wl.mp h1 with z | z
    ·cases z;exact absurd rfl hk
    ·exact .inr ⟨z,h2⟩
theorem wu:∀ (names:List (Str×NameKind)) (h:Heap) (acc:List (Str×Addr)),(n,c) ∈ QH h.objs.size names acc ->
  (n,c) ∈ acc\/((n,NameKind.cell) ∈ names/\h.objs.size<=c/\(JE h names).IsCell c none)
 | [],_,_,h=>.inl h
 | (y,k) :: r,h,acc,hm=>by
  unfold QH at hm;unfold JE;by_cases hk:(k == NameKind.cell)=true
  ·rw[if_pos hk] at hm;rw[if_pos hk];have nJ:k=NameKind.cell:=by simpa using hk
   have sz:(h.push { cls:=.type "cell",data:=.cell none }).objs.size=h.objs.size + 1:=Qv ..;rw[<- sz] at hm;rcases wu r _ _ hm with q | ⟨q1,q2,q3⟩
   ·rcases Wl.mp q with z | z
    ·cases z;refine .inr ⟨by rw[nJ]; exact Wj,Wg _,?_⟩;exact Heap.IsCell.keeps ⟨_,Wn _ rfl,rfl⟩ (pushCells_keeps r _)
    ·exact .inl z
   ·exact .inr ⟨Wa _ q1,by rw[sz] at q2; omega,q3⟩
  ·rw[if_neg hk] at hm;rw[if_neg hk];rcases wu r _ _ hm with q | ⟨q1,q2,q3⟩
   ·exact .inl q
   ·exact .inr ⟨Wa _ q1,q2,q3⟩
theorem wx:∀ (names:List (Str×NameKind)) (k:Nat) (acc:List (Str×Addr)),(∀ n n' c,(n,c) ∈ acc->(n',c) ∈ acc->n=n')->(∀ n c,(n,c) ∈ acc->c < k) ->
  ∀ n n' c,(n,c) ∈ QH k names acc->(n',c) ∈ QH k names acc->n=n'
 | [],_,_,h,_=>h
 | (y,kd) :: r,k,acc,h,hb=>by
  unfold QH;by_cases hk:(kd == NameKind.cell)=true
  ·rw[if_pos hk];refine wx r (k + 1) _ (λn n' c h1 h2=>?_) λn c hm=>?_
   ·rcases Wl.mp h1 with e | h1 <;> rcases Wl.mp h2 with e' | h2
    ·cases e; cases e'; rfl
    ·cases e; exact absurd (hb _ _ h2) (Qt _)
    ·cases e'; exact absurd (hb _ _ h1) (Qt _)
    ·exact h n n' c h1 h2
   ·rcases Wl.mp hm with e | hm
    ·cases e; exact Nat.lt_succ_self _
    ·exact Nat.lt_succ_of_lt (hb _ _ hm)
  ·rw[if_neg hk];exact wx r k acc h hb
theorem nK{env:Env}{x:Str}:∀ {names:List (Str×NameKind)} {k:NameKind},
  (names.map λ(y:Str×NameKind)=>if (y.2 == NameKind.free && env.scope.kind == .function && env.kindOf y.1 == some .cell) then(y.1,NameKind.cell) else(y.1,y.2)).lookup x=some k ->
  names.lookup x=some k\/(k=NameKind.cell/\names.lookup x=some .free)
 | [],_,h=>by simp at h
 | (n,kd) :: r,k,h=>by
  rw[Wu] at h;have ih:=@nK env x r k
  cases hx:x == n with
  | true =>
   by_cases hc:(kd == NameKind.free && env.scope.kind == .function && env.kindOf n == some .cell)=true
   ·rw[if_pos hc,Qk,hx] at h
    cases h;simp only[Ww] at hc;have:kd=NameKind.free:=by simpa using hc.1.1
    exact .inr ⟨rfl,by rw[Qk,hx,this]⟩
   ·rw[if_neg hc,Qk,hx] at h
    cases h;exact .inl (by rw[Qk,hx])
  | false =>
   have h':(r.map λ(y:Str×NameKind)=>if (y.2 == NameKind.free && env.scope.kind == .function && env.kindOf y.1 == some .cell) then(y.1,NameKind.cell) else(y.1,y.2)).lookup x=some k:=by
    by_cases hc:(kd == NameKind.free && env.scope.kind == .function && env.kindOf n == some .cell)=true
    ·rw[if_pos hc,Qk,hx] at h; exact h
    ·rw[if_neg hc,Qk,hx] at h; exact h
   rw[Qk,hx];exact ih h'
def fK(X:Cx)(scope:Scope)(s₀:W2)(H₀:Hp)(ex:List Addr):Cx :=
 { X with
  env:={ scope:=relabel scope X.env,locals:=s₀.heap.objs.size,globals:=X.env.globals,cells:=QH (s₀.heap.objs.size + 1) scope.names (gc X.env.cells scope.names []),qual:=X.env.qual,func:=none,code:=X.env.code,frame:=X.env.frame,builtins:=X.env.builtins }
  s₀:=s₀
  H₀:=H₀
  outer:=X.stack
  ex:=ex
  fn:=λx=>scope.names.lookup x == some .cell
  pn:=[]
  xe:=λ_ _=>False }
structure nL(X:Cx)(scope:Scope)(cs:List Nat):Prop where
 kind:scope.kind = .function
 names:∀ x ∈ scope.names,x.2 = .local->scope.names.lookup x.1=some .local
 free:∀ x ∈ scope.names,x.2 = .free->X.env.kindOf x.1=some .cell\/X.env.kindOf x.1=some .free
 nd:(scope.names.map (·.1)).Nodup
 own:∀ (i:Nat) x,X.N[i]? = some x->scope.names.lookup x=some .local\/scope.names.lookup x=some .cell->i ∈ cs
def bY(cs:List Nat)(σ:St):St:=cs.foldl (λσ i=>σ.set i none) σ
theorem tW(cs:List Nat):∀ σ:St,(bY cs σ).length=σ.length:=by
 induction cs with
 | nil=>intro σ; rfl
 | cons i r ih =>
  intro σ;show(bY r (σ.set i none)).length=_;rw[ih]; simp
theorem l_:∀ (cs:List Nat) (σ:St) (i:Nat) (v:V),(bY cs σ)[i]? = some (some v)->σ[i]? = some (some v)/\i ∉ cs:=by
 intro cs;induction cs with
 | nil=>intro σ i v h; exact⟨h,by simp⟩
 | cons j r ih =>
  intro σ i v h;have h':(bY r (σ.set j none))[i]? = some (some v):=h;obtain⟨h1,h2⟩:=ih _ i v h';by_cases e:j=i
  ·subst e;rw[Q8] at h1;simp at h1
  ·rw[W5 e] at h1;exact⟨h1,by simp only[Wl,not_or]; exact⟨Ne.symm e,h2⟩⟩
theorem wz:∀ {l:List (Str×α)},(l.map (·.1)).Nodup->(x,k) ∈ l->(x,k') ∈ l->k=k'
 | (y,j) :: r,nd,h1,h2=>by
  rw[Wu,List.nodup_cons] at nd;rcases Wl.mp h1 with e | g1 <;> rcases Wl.mp h2 with e' | g2
  ·cases e; cases e'; rfl
  ·cases e; exact absurd (Ji (f:=(·.1)) g2) nd.1
  ·cases e'; exact absurd (Ji (f:=(·.1)) g1) nd.1
  ·exact wz nd.2 g1 g2
section
variable {X:Cx} {pins:List (Addr×Obj)} {σ:St} {H:Hp} {s:W2} {scope:Scope} {cs:List Nat} {fp:List Addr}
theorem LZ(I:Inv X pins σ H s)(S:nL X scope cs)(hf:∀ b ∈ fp,gN X pins H b)(bx:∀ b ∈ fp,b < s.heap.objs.size) :
  Inv (fK X scope s H fp) [] (bY cs σ) H { s with heap:=JE (s.heap.push { cls:=.type "dict",data:=.dict #[] }) scope.names }:=by
 have sz:(s.heap.push { cls:=.type "dict",data:=.dict #[] }).objs.size=s.heap.objs.size + 1:=Qv ..;have kp:∀ b o,s.heap.get? b=some o->(JE (s.heap.push { cls:=.type "dict",data:=.dict #[] }) scope.names).get? b=some o:=λb o e=>pushCells_keeps _ _ b o (Wd _ e)
 have tY:∀ n c,(n,c) ∈ gc X.env.cells scope.names []->(n,NameKind.free) ∈ scope.names/\X.env.cells.lookup n=some c:=λn c h=>(CN _ _ h).elim (λz=>absurd z (by simp)) id
 have L0:∀ n c,(n,c) ∈ gc X.env.cells scope.names []->c < s.heap.objs.size:=λn c h=>by
  obtain⟨v,q⟩:=I.cell n c (tY n c h).2;exact q.lt
 have qS:∀ n c,(n,c) ∈ QH (s.heap.objs.size + 1) scope.names (gc X.env.cells scope.names []) ->
   ((n,NameKind.free) ∈ scope.names/\X.env.cells.lookup n=some c)\/((n,NameKind.cell) ∈ scope.names/\s.heap.objs.size + 1<=c/\(JE (s.heap.push { cls:=.type "dict",data:=.dict #[] }) scope.names).IsCell c none):=λn c h=>by
  rw[<- sz] at h;rcases wu _ _ _ h with q | q
  ·exact .inl (tY n c q)
  ·rw[sz] at q; exact .inr q
 have L1:=wx scope.names (s.heap.objs.size + 1) (gc X.env.cells scope.names []) (λn n' c h1 h2=>I.ok.inj n n' c (tY n c h1).2 (tY n' c h2).2) (λn c h=>Nat.lt_succ_of_lt (L0 n c h));have qT:∀ x ∈ scope.names,x.2 = .free->∃ c,X.env.cells.lookup x.1=some c:=λx hx hk=>I.ok.has x.1 (S.free x hx hk)
 have L3:∀ b ∈ fp,b ∉ iE X.stack:=λb hb z=>by
  obtain⟨_,f1,f2,_⟩:=hf b hb;rcases Wl.mp (I.vL b z) with e | e
  ·exact f1 e
  ·exact f2 e
 have L4:∀ x,(fK X scope s H fp).env.kindOf x=some .cell\/(fK X scope s H fp).env.kindOf x=some .free->scope.names.lookup x=some .cell\/scope.names.lookup x=some .free:=λx h=>by
  rcases h with h | h
  ·have h':(relabel scope X.env).names.lookup x=some .cell:=h;rcases nK (env:=X.env) (names:=scope.names) h' with q | ⟨_,q⟩
   ·exact .inl q
   ·exact .inr q
  ·have h':(relabel scope X.env).names.lookup x=some .free:=h;rcases nK (env:=X.env) (names:=scope.names) h' with q | ⟨q,_⟩
   ·exact .inr q
   ·cases q
 have CP:∀ x,scope.names.lookup x=some .cell\/scope.names.lookup x=some .free->∃ c,(QH (s.heap.objs.size + 1) scope.names (gc X.env.cells scope.names [])).lookup x=some c:=λx h=>by
  refine Jg.mp (PySem.W.cellsFrom_some scope.names _ _ ?_);rcases h with h | h
  ·exact .inl h
  ·refine .inr (CO _ _ (.inr ⟨WD h,?_⟩));obtain⟨c,hc⟩:=qT _ (WD h) rfl;exact Option.isSome_iff_exists.mpr ⟨c,hc⟩
 have L5:(JE (s.heap.push { cls:=.type "dict",data:=.dict #[] }) scope.names).Ns s.heap.objs.size λ_=>none:=(Heap.Ns.new s.heap (.type "dict")).keeps (pushCells_keeps _ _)
 refine⟨⟨I.ok.mod,S.kind,I.ok.glob,I.ok.blt,Wg _,λy z c h1 h2=>L1 y z c (WD h1) (WD h2),λx hx=>CP x (L4 x hx),λx c qz h=>?_,I.ok.hd,I.ok.frames,.inl rfl,
  λb hb=>⟨WS (bx b hb),λx c h e=>?_⟩,I.bs,Ws I.ok.lO I.sz,λb o e hb=>?_,L3,I.stack,I.Bs⟩,
  rfl,I.bare,Un.kept kp,⟨λ_=>none,L5,λi x v h1 h2 h3=>?_⟩,λx c h=>?_,I.aM.fresh (Wg _),λx c h=>?_,λp hp=>absurd (show p ∈ ([]:List (Addr×Obj)) from hp) (by simp),I.aM.kept kp,(tW cs σ).trans I.len⟩
 ·rcases qS x c (WD h) with q | q
  ·have L6:scope.names.lookup x=some .cell:=by
    have:(scope.names.lookup x == some .cell)=true:=qz;exact eq_of_beq this
   have:=wz S.nd q.1 (WD L6)
   cases this
  ·exact Nat.le_of_succ_le q.2.1
 ·subst e;rcases qS x c (WD h) with q | q
  ·exact(hf c hb).2.2.2.2.1 x c q.2 rfl
  ·exact absurd (Wv (bx c hb) (Nat.le_of_succ_le q.2.1)) (Qt _)
 ·obtain⟨_,_,_,f3,_⟩:=hf b hb;rcases f3 with z | z
  ·exact I.ok.qu b o e z
  ·exact absurd (Wv (Wp (I.ok.bs b o e).1) z) (Qt _)
 ·obtain⟨h2',hni⟩:=l_ cs σ i v h2;have CQ:¬ (scope.names.lookup x=some .local\/scope.names.lookup x=some .cell):=λz=>hni (S.own i x h1 z)
  have nC:scope.names.lookup x=some .free:=by
   rcases h3 with h3 | h3 | h3
   ·rcases nK (env:=X.env) (names:=scope.names) h3 with q | ⟨q,_⟩
    ·exact absurd (.inl q) CQ
    ·cases q
   ·rcases nK (env:=X.env) (names:=scope.names) h3 with q | ⟨_,q⟩
    ·exact absurd (.inr q) CQ
    ·exact q
   ·rcases nK (env:=X.env) (names:=scope.names) h3 with q | ⟨q,_⟩
    ·exact q
    ·cases q
  have hk:=S.free _ (WD nC) rfl;obtain⟨m,hn,hl⟩:=I.loc;have L8:sU X.env.scope x:=by
   rcases hk with hk | hk
   ·exact .inr (.inl hk)
   ·exact .inr (.inr hk)
  obtain⟨u,r,l⟩:=hl i x v h1 h2' L8;refine⟨u,r,?_⟩;rcases l with ⟨k,_⟩ | ⟨_,c,hc,hcell⟩
  ·have k':X.env.kindOf x=some .local:=k;rcases hk with hk | hk
   ·rw[show X.env.kindOf x=some .cell from hk] at k'; cases k'
   ·rw[show X.env.kindOf x=some .free from hk] at k'; cases k'
  ·obtain⟨c',jH⟩:=CP x (.inr nC);have e:c'=c:=by
    rcases qS x c' (WD jH) with q | q
    ·have q2:=q.2;rw[hc] at q2; exact(Wz q2).symm
    ·have:=wz S.nd q.1 (WD nC)
     cases this
   subst e;refine .inr ⟨?_,c',jH,hcell.keeps kp⟩;rcases h3 with h3 | h3 | h3
   ·rcases nK (env:=X.env) (names:=scope.names) h3 with q | ⟨q,_⟩
    ·rw[nC] at q; cases q
    ·cases q
   ·exact .inl h3
   ·exact .inr h3
 ·rcases qS x c (WD h) with q | q
  ·obtain⟨v,z⟩:=I.cell x c q.2;exact⟨v,z.keeps kp⟩
  ·exact⟨none,q.2.2⟩
 ·rcases qS x c (WD h) with q | q
  ·exact I.jG x c q.2
  ·exact I.aM.fresh (Nat.le_of_succ_le q.2.1)
end
abbrev k6:Value->W2->Prop:=λ_ _=>False
def CS(ifs:List Expr)(env:Env):Sem Bool:=forIn ifs true λc r=>if r=true then do let ok <- isTrue c env (eval c env); pure (ForInStep.yield ok) else pure (ForInStep.yield r)
theorem L9(I:Nat->W2->Prop)
  (turn:∀ n s,I n s->Wf (model prog w) A (J8 it) (λr s₁=>match r with
   | none=>R (.ok .next) s₁
   | some v=>Wf (model prog w) A (letOwnedTupleGo target it v) (λ_ CT=>Wf (model prog w) A (assign target env v) (λ_ s₂ =>
     Wf (model prog w) A (CS ifs env) (λok s₃ =>
      if ok=true then Wf (model prog w) A (eval elt env) (λx s₄ =>
       Wf (model prog w) A (call (.builtin "list.append") [acc,x]) (λ_ s₅=>∃ m,m < n/\I m s₅) k6 s₄) k6 s₃
      else ∃ m,m < n/\I m s₃) k6 s₂) k6 CT) k6 s₁) k6 s)
  (n:Nat) (h:I n s) :
  Jn (model prog w) A (.compLoop (.ListComp elt [⟨target,iter,ifs,0⟩] scope pos) 0 it acc env) R s:=by
 refine codeAny_loop rfl I (λn s hI=>?_) n h;show Wf _ A ((compTurn (.ListComp elt [⟨target,iter,ifs,0⟩] scope pos) 0 it acc env).onRaise (λx=>do noteFrame x env; theTreesLotGoes x)) _ _ s;refine wpAny_noted ?_;rw[compTurn_list];refine W0 (wpAny_standAt (W0 (QF (turn n s hI) (λr s₁ h₁=>?_) λ_ _ h'=>h'.elim)))
 cases r with
 | none=>exact W7 h₁
 | some v =>
  refine W0 (QF h₁ (λ_ CT L_=>?_) λ_ _ h'=>h'.elim);refine W0 (QF L_ (λ_ s₂ h₂=>W0 (QF h₂ (λok s₃ h₃=>?_) λ_ _ h'=>h'.elim)) λ_ _ h'=>h'.elim)
  cases ok with
  | false=>exact W7 ⟨rfl,h₃⟩
  | true =>
   exact W0 (W0 (QF h₃ (λx s₄ h₄=>W0 (QF h₄ (λ_ s₅ h₅=>W7 (W7 ⟨rfl,h₅⟩)) λ_ _ h'=>h'.elim)) λ_ _ h'=>h'.elim))
theorem Ma
  (h:Q { scope,locals:=s.heap.objs.size,globals,cells:=QH (s.heap.objs.size + 1) scope.names cl,qual,func:=none,code:=env.code,frame:=env.frame,builtins:=env.builtins }
   { s with heap:=JE (s.heap.push { cls:=.type "dict",data:=.dict #[] }) scope.names }):Wf M A (newFunctionEnv scope globals cl [] qual none .none (some env)) Q E s:=by
 simp only[newFunctionEnv,Option.isSome_some,if_true];refine W0 (wpAny_alloc ?_);refine W0 (wpAny_layCells _ (λname kind cells=>by cases hkc:kind == NameKind.cell <;> simp[hkc]) _ _ _ _ ?_);rw[show({ s with heap:=s.heap.push { cls:=.type "dict",data:=.dict #[] } }:W2).heap.objs.size=s.heap.objs.size + 1 from Qv ..];exact W0 (W7 (W7 h))
def pw(X:Cx)(ifs:List Expr)(t:TT):Prop :=
 ∀ (pins:List (Addr×Obj)) (s:W2) (σ:St) (H:Hp) (Q:Bool->Hp->Prop),Inv X pins σ H s->t σ H Q->Wf (model X.prog X.w) X.A (CS ifs X.env) (TP X pins σ Q) X.xe s
def Mb:TT:=λ_ H Q=>Q true H
theorem Mc:pw X [] Mb:=λpins s σ H Q I h=>wpAny_tests_nil ⟨H,I,h⟩
theorem zev(h:PT X c t):pw X [c] t:=λpins s σ H Q I q=>wpAny_tests_one (h pins s σ H Q I q)
def Le(σ σ':St):Prop:=σ'.length=σ.length/\∀ (i:Nat) (v:V),σ[i]? = some (some v)->σ'[i]? = some (some v)
def CU(cs:List Nat)(g:TG)(tt:TT)(te:TE)(σ:St)(Q:VK)(J:It)(H1:Hp):Prop :=
 ∀ l,H1 l=none->∃ W:Nat->Nat->Hp->Prop,(∃ m,W 0 m (upd H1 l (.lst [])))/\∀ i m H2,W i m H2 ->
  (J.stop i H2/\Q (.ref l) H2) \/
  (J.go i H2/\∀ x H3,J.qD i H2 x H3->g x (bY cs σ) H3 λσ4 H4=>Le (bY cs σ) σ4/\tt σ4 H4 λb H5 =>
   if b=true then te σ4 H5 λv H6=>∃ ys m',H6 l=some (.lst ys)/\ys.length < We/\m' < m/\W (i + 1) m' (upd H6 l (.lst (ys ++ [v]))) else ∃ m',m' < m/\W (i + 1) m' H5)
def wD(cs:List Nat)(wi:TI)(g:TG)(tt:TT)(te:TE):TE:=λσ H Q=>wi σ H λJ H1=>CU cs g tt te σ Q J H1
section
variable {X:Cx} {pins:List (Addr×Obj)} {σ:St} {H:Hp} {s:W2} {scope:Scope} {cs:List Nat} {elt tg iter:Expr} {ifs:List Expr} {pos:Pos} {g:TG} {tt:TT} {te:TE}
theorem CV{it:Addr}{fp:List Addr}{tn:Nat->Heap->Prop}{J:It}{Q:VK}{E:Value->W2->Prop}{RR:Value->Addr->Result->W2->Prop}(hc:X.calm=true)(I:Inv X pins σ H s)(S:nL X scope cs)
  (T:Turn X.prog X.w X.K tg J fp it tn) (st:tn 0 s.heap) (hf:∀ b ∈ fp,gN X pins H b)
  (hg:∀ s₀ H₀ ex,PG (fK X scope s₀ H₀ ex) tg g) (ht:∀ s₀ H₀ ex,pw (fK X scope s₀ H₀ ex) ifs tt) (he:∀ s₀ H₀ ex,PE (fK X scope s₀ H₀ ex) elt te) (q:CU cs g tt te σ Q J H)
  (Md:∀ l C s' H',Inv X pins σ H' s'->gN X pins H' C->(∃ m,s'.heap.Ns C m)->Q (.ref l) H'->RR (.ref l) C (.ok .next) s') :
  Wf (model X.prog X.w) X.A (newList []) (λacc s₃=>Wf (model X.prog X.w) X.A (newFunctionEnv scope X.env.globals (gc X.env.cells scope.names []) [] X.env.qual none .none (some X.env)) (λCW s₄ =>
   Jn (model X.prog X.w) X.A (.compStart (.ListComp elt [⟨tg,iter,ifs,0⟩] scope pos) 0 (.ref it) acc { CW with scope:=relabel scope X.env }) (RR acc CW.locals) s₄) E s₃) E s:=by
 refine WZ ?_;have jP:H s.heap.objs.size=none:=I.aM.fresh (Wg _);obtain⟨W,⟨m0,w0⟩,turn⟩:=q s.heap.objs.size jP;generalize hl:s.heap.objs.size=l at *;have I3:Inv X pins σ (upd H l (.lst [])) { s with heap:=s.heap.push { cls:=.type "list",dict:=none,data:=.seq ([]:List Value).toArray } } :=
  I.laid (t':=s.toks) (λb u e=>Wd _ e) (Nat.le_of_eq hl) ⟨Qg _,[],0,.nil,by rw[<- hl]; exact Wn _ rfl⟩
 have Me:∀ b o,s.heap.get? b=some o->(s.heap.push { cls:=.type "list",dict:=none,data:=.seq ([]:List Value).toArray }).get? b=some o:=λb o e=>Wd _ e
 have nM:∀ b ∈ fp,b≠l:=λb hb e=>by
  obtain⟨o,ho,_⟩:=T.obj 0 _ st b hb;exact absurd (Wp ho) (by rw[e,hl]; exact Qt _)
 have wI:∀ b ∈ fp,gN X pins (upd H l (.lst [])) b:=λb hb=>⟨by rw[bh (nM b hb)]; exact(hf b hb).1,(hf b hb).2⟩
 have lS:tn 0 (s.heap.push { cls:=.type "list",dict:=none,data:=.seq ([]:List Value).toArray }):=T.keep 0 _ _ st λb _ o e=>Me b o e
 generalize wJ:({ s with heap:=s.heap.push { cls:=.type "list",dict:=none,data:=.seq ([]:List Value).toArray } }:W2)=s3 at I3;have CY:tn 0 s3.heap:=by rw[<- wJ]; exact lS
 have Mf:∀ b ∈ fp,b < s3.heap.objs.size:=λb hb=>by
  obtain⟨o,ho,_⟩:=T.obj 0 _ CY b hb;exact Wp ho
 refine Ma ?_;have I4:=LZ I3 S wI Mf;generalize hX:fK X scope s3 (upd H l (.lst [])) fp=X' at I4;generalize hs4:({ s3 with heap:=JE (s3.heap.push { cls:=.type "dict",data:=.dict #[] }) scope.names }:W2)=s4 at I4 ⊢;have tZ:=hg s3 (upd H l (.lst [])) fp;have CZ:=ht s3 (upd H l (.lst [])) fp;have C0:=he s3 (upd H l (.lst [])) fp;rw[hX] at tZ CZ C0;have C1:tn 0 s4.heap:=T.keep 0 _ _ CY λb _ o e=>by rw[<- hs4]; exact pushCells_keeps _ _ b o (Wd _ e)
 have hP:X'.prog=X.prog:=by rw[<- hX]; rfl
 have hw:X'.w=X.w:=by rw[<- hX]; rfl
 have hA:X'.A=X.A:=by rw[<- hX]; rfl
 have hK:X'.K=X.K:=by rw[<- hX]; rfl
 have jH:X'.calm=true:=by rw[<- hX]; exact hc
 have t8:X'.xe=k6:=by rw[<- hX]; rfl
 have C2:X'.env.locals=s3.heap.objs.size:=by rw[<- hX]; rfl
 have Mg:({ scope:=relabel scope X.env,locals:=s3.heap.objs.size,globals:=X.env.globals,cells:=QH (s3.heap.objs.size + 1) scope.names (gc X.env.cells scope.names []),qual:=X.env.qual,func:=none,code:=X.env.code,frame:=X.env.frame,builtins:=X.env.builtins }:Env)=X'.env:=by rw[<- hX]; rfl
 have wK:∀ {H':Hp},(∀ b ∈ fp,H' b=none)->∀ b ∈ fp,gN X' [] H' b:=λ{H'} hn b hb=>by
  have ex:X'.ex=fp:=by rw[<- hX]; rfl
  have pn:X'.pn=[]:=by rw[<- hX]; rfl
  refine⟨hn b hb,(I4.ok.sW b (by rw[ex]; exact hb)).1,I4.ok.qw b (by rw[ex]; exact hb),.inl (by rw[ex]; exact hb),(I4.ok.sW b (by rw[ex]; exact hb)).2,λp hp=>?_⟩;rw[pn] at hp;simp at hp
 show Jn (model X.prog X.w) X.A (.compStart (.ListComp elt [⟨tg,iter,ifs,0⟩] scope pos) 0 (.ref it) (.ref l) ({ scope:=relabel scope X.env,locals:=s3.heap.objs.size,globals:=X.env.globals,cells:=QH (s3.heap.objs.size + 1) scope.names (gc X.env.cells scope.names []),qual:=X.env.qual,func:=none,code:=X.env.code,frame:=X.env.frame,builtins:=X.env.builtins }:Env)) (RR (.ref l) s3.heap.objs.size) s4;rw[Mg];have loop:Jn (model X.prog X.w) X.A (.compLoop (.ListComp elt [⟨tg,iter,ifs,0⟩] scope pos) 0 (.ref it) (.ref l) X'.env) (RR (.ref l) s3.heap.objs.size) s4:=by
  refine L9 (λn s'=>∃ i H',Inv X' [] (bY cs σ) H' s'/\tn i s'.heap/\(∀ b ∈ fp,H' b=none)/\W i n H') ?_ m0 ⟨0,_,I4,C1,λb hb=>(wI b hb).1,w0⟩;rintro n s5 ⟨i,H5,I5,st5,fr5,w5⟩;rcases turn i n H5 w5 with ⟨stop,qn⟩ | ⟨go,step⟩
  ·have:=T.done X' hP hw hK jH i [] s5 (bY cs σ) H5 k6 I5 (wK fr5) st5 stop;rw[hA] at this;refine a0 this λr s6 ⟨hr,I6⟩=>?_
   subst hr;have b6:=I6.base;have e1:X'.fs=iE X.stack:=by rw[<- hX]; rfl
   have e2:X'.ex=fp:=by rw[<- hX]; rfl
   have e3:X'.H₀=upd H l (.lst []):=by rw[<- hX]; rfl
   have e4:X'.s₀=s3:=by rw[<- hX]; rfl
   rw[e1,e2,e3,e4] at b6;have o6:s6.os=s3.os:=by rw[<- e4]; exact I6.os
   have Mh:cQ X.prog X.w H5 s6.heap:=by rw[<- hP,<- hw]; exact I6.aM
   have J6:Inv X pins σ H5 s6:=I3.Ij o6 b6 Mh I6.bare λb hb=>by
    obtain⟨_,f1,_,f3,f4,f5⟩:=wI b hb;exact⟨f3,f1,f4,f5⟩
   obtain⟨m6,n6,_⟩:=I6.loc;rw[C2] at n6;refine Md l s3.heap.objs.size s6 H5 J6 (I3.ki (Wg _) ?_) ⟨m6,n6⟩ qn;rw[<- C2];exact I6.free
  ·have:=T.item X' hP hw hK jH i [] s5 (bY cs σ) H5 k6 I5 (wK fr5) st5 go;rw[hA] at this;refine a0 this λr s6 ⟨u,hr,h6⟩=>?_
   subst hr;refine a0 h6 λ_ s7 ⟨x,H7,I7,r7,y7,st7,fr7⟩=>?_
   have Mi:=I7.pinned (wK fr7) (T.obj _ _ st7);have a8:=tZ _ s7 (bY cs σ) H7 x u _ Mi r7 (step x H7 y7);rw[hP,hw,hA,t8] at a8;refine a0 a8 λ_ s8 ⟨σ8,H8,I8,le8,q8⟩=>?_
   have a9:=CZ _ s8 σ8 H8 _ I8 q8;rw[hP,hw,hA,t8] at a9;refine a0 a9 λok s9 ⟨H9,I9,q9⟩=>?_
   have back:∀ {H':Hp} {s':W2},Inv X' ([] ++ qE fp s7.heap) σ8 H' s'->Inv X' [] (bY cs σ) H' s'/\tn (i + 1) s'.heap/\∀ b ∈ fp,H' b=none:=λ{H' s'} J=>by
    refine⟨J.tG.weak (le8.1.symm) le8.2,T.keep _ _ _ st7 λb hb o e=>(J.pin (b,o) (WK _ (WK _ (tF hb e)))).1,λb hb=>?_⟩;obtain⟨o,e,d⟩:=T.obj _ _ st7 b hb;exact(J.pin (b,o) (WK _ (WK _ (tF hb e)))).2.1
   cases ok with
   | false =>
    rw[if_neg WH] at q9 ⊢;obtain⟨m',hm,w9⟩:=q9;obtain⟨b1,b2,b3⟩:=back I9;exact⟨m',hm,i + 1,H9,b1,b2,b3,w9⟩
   | true =>
    rw[if_pos rfl] at q9 ⊢;have C3:=C0 _ s9 σ8 H9 _ I9 q9;rw[hP,hw,hA,t8] at C3;refine a0 C3 λx10 gP ⟨v,H10,I10,r10,ys,m',hy,hz,hm,w10⟩=>?_
    have C4:=Cy (X:=X') _ gP σ8 H10 (.ref l) [v] (.ref l) [x10] (λ_ H'=>W (i + 1) m' H') I10 rfl (.cons r10 .nil) ⟨l,ys,v,rfl,rfl,hy,hz,w10⟩;rw[hP,hw,hA,t8] at C4;refine a0 C4 λ_ s11 ⟨_,H11,I11,_,w11⟩=>?_
    obtain⟨b1,b2,b3⟩:=back I11;exact⟨m',hm,i + 1,H11,b1,b2,b3,w11⟩
 exact codeAny_compStart_list loop (T.self X.A 0 s4 _ _ C1 loop)
theorem Mj(hc:X.calm=true)(S:nL X scope cs)(hi:PI X tg iter wi)(hg:∀ s₀ H₀ ex,PG (fK X scope s₀ H₀ ex) tg g)(ht:∀ s₀ H₀ ex,pw (fK X scope s₀ H₀ ex) ifs tt)(he:∀ s₀ H₀ ex,PE (fK X scope s₀ H₀ ex) elt te)
  (hs:∀ x,QS iter X.env x=pure x:=by intro _; rfl):PE X (.ListComp elt [⟨tg,iter,ifs,0⟩] scope pos) (wD cs wi g tt te):=by
 intro pins s σ H Q I h;have qT:∀ x ∈ scope.names,x.2 = .free->∃ c,X.env.cells.lookup x.1=some c:=λx hx hk=>I.ok.has x.1 (S.free x hx hk)
 rw[eval_ListComp];refine wpAny_comprehension_free (use:=none) rfl hs (CM qT) S.kind S.names (a0 (hi pins s σ H _ I h) λxv s1 h1=>a0 h1 λtj s2 h2=>?_);obtain⟨it,fp,tn,J,H2,e,I2,T,st2,f2,q2⟩:=h2;subst e;refine CV (RR:=λacc C=>compPost (model X.prog X.w) X.A X.xe none (EP X pins σ Q) acc C) hc I2 S T st2 f2 hg ht he q2 ?_;intro l C s' H' I' fC ⟨m,n⟩ q;exact⟨m,n,λh' pA=>⟨.ref l,H',I'.turned (t':=s'.toks) (λb o hb e=>(pA.2 b hb).trans e) fC.1 fC.2.1 fC.2.2.2.1 fC.2.2.2.2.1 fC.2.2.2.2.2,rfl,q⟩⟩
theorem Mk(hc:X.calm=true)(S:nL X scope cs)(hN:X.N.Nodup)(k7:X.N[i]? = some y)(hy:X.env.scope.names.lookup y=some .local)
  (hi:PI X tg iter wi) (hg:∀ s₀ H₀ ex,PG (fK X scope s₀ H₀ ex) tg g) (ht:∀ s₀ H₀ ex,pw (fK X scope s₀ H₀ ex) ifs tt) (he:∀ s₀ H₀ ex,PE (fK X scope s₀ H₀ ex) elt te)
  (qU:Jp (.ListComp elt [⟨tg,iter,ifs,0⟩] scope pos) (some (.Name y py)) t9.line X.env=pure true:=by rfl)
  (hs:∀ x,QS iter X.env x=pure x:=by intro _; rfl):PS X (.Assign [.Name y py] (.ListComp elt [⟨tg,iter,ifs,0⟩] scope pos) t9) (qB (wD cs wi g tt te) (tf i)):=by
 intro pins s σ H D I h;have qT:∀ x ∈ scope.names,x.2 = .free->∃ c,X.env.cells.lookup x.1=some c:=λx hx hk=>I.ok.has x.1 (S.free x hx hk)
 rw[exec_Assign_Name_used _ _ _ _ qU];refine W0 (wpAny_standAt (W0 ?_));show Wf _ X.A (do let _ <- comprehension (.ListComp elt [⟨tg,iter,ifs,0⟩] scope pos) scope X.env _ (newList []) false (eval iter X.env) (some (assign (.Name y py) X.env))) _ _ s;refine W0 (QF (wpAny_comprehension_free (use:=some (assign (.Name y py) X.env)) (Q:=λ_ s'=>SP X pins D .next s') rfl hs (CM qT) S.kind S.names
  (a0 (hi pins s σ H _ I h) λxv s1 h1=>a0 h1 λtj s2 h2=>?_)) (λ_ s' hq=>W7 (W7 hq)) λ_ _ e=>e)
 obtain⟨it,fp,tn,J,H2,e,I2,T,st2,f2,q2⟩:=h2;subst e;refine CV (RR:=λacc C=>compPost (model X.prog X.w) X.A X.xe (some (assign (.Name y py) X.env)) (λ_ s'=>SP X pins D .next s') acc C) hc I2 S T st2 f2 hg ht he q2 ?_;intro l C s' H' I' fC ⟨m,n⟩ q;show Wf _ X.A (assign (.Name y py) X.env (.ref l)) _ _ _;refine wpAny_assign_Name (Bw I' hN k7 (.inl hy) (v:=.ref l) rfl (λqH I'' ⟨a,hsb,ha⟩=>?_) (.inr hy));have cZ:C≠a:=by
  rcases ha with rfl | ha
  ·exact fC.2.1
  ·exactλe=>fC.2.2.2.2.1 y a ha e.symm
 refine⟨m,n.sameBut hsb cZ,λh' pA=>⟨_,H',I''.turned (t':=qH.toks) (λb o hb e=>(pA.2 b hb).trans e) fC.1 fC.2.1 fC.2.2.2.1 fC.2.2.2.2.1 fC.2.2.2.2.2,q⟩⟩
end
end L2
set_option maxHeartbeats 4000000
namespace DV
open PySem PySem.Spec PyProof.Rows L2
abbrev Tx:=List Nat
def toS(x:Tx):Str:=⟨x.toArray⟩
theorem t_(x:Tx):(toS x).cps.toList=x:=by simp[toS]
theorem jQ(x:Tx):(toS x).length=x.length:=by simp[toS,Str.length]
theorem wL(h:toS x=toS y):x=y:=by
 have:=congrArg (λz:Str=>z.cps.toList) h;simpa[toS] using this
theorem C5(z:Str):z=toS z.cps.toList:=by simp[toS]
abbrev bU:=Sum Int Tx
def dU:bU->Key
 | .inl i=>.inl i
 | .inr x=>.inr (toS x)
inductive D where
 | aI | bl (b:Bool) | int (i:Int) | str (x:Tx) | tup (xs:List D) | lst (xs:List D) | aC (kvs:List (bU×D)) | exc (n:Nat) (fl:D) | xd (fs:List (Tx×D)) | fn (a:Nat) | dic (kvs:List (D×D))
mutual
def dJ:Nat->D->Option NK
 | _,.int i=>some (.i i)
 | _,.bl b=>some (.i (if b then 1 else 0))
 | _,.str x=>some (.s (toS x))
 | n + 1,.tup xs=>(iH n xs).map .t
 | _,_=>none
def iH:Nat->List D->Option (List NK)
 | _,[]=>some []
 | n,x :: xs=>(dJ n x).bind λk=>(iH n xs).map λks=>k :: ks
end
def excAt(C:Addr)(v:V)(a:Addr):Heap->Prop:=λh=>∃ o,h.get? a=some o/\o.cls = .ref C/\(∀ x,v = .ref x->o.dict=some x)/\∃ vs,o.data = .fields vs
def Ml(fs:List (Str×V))(x:Addr):Heap->Prop:=λh=>∃ mA,h.Ns1 x mA/\∀ f,fJ (fs.lookup f) (mA f)
inductive S where
 | pure (d:D)
 | own (d:D)
def S.d:S->D
 | .pure d=>d
 | .own d=>d
abbrev Dl:=List (Option S)
abbrev St:=L2.St
inductive Rep (H:Hp) (O:Addr->Prop):V->D->Prop
 | aI:Rep H O .aI .aI
 | bl (b:Bool):Rep H O (.bl b) (.bl b)
 | int (i:Int):Rep H O (.int i) (.int i)
 | str (x:Tx):Rep H O (.str (toS x)) (.str x)
 | tup {a:Addr} {vs:List V} {ds:List D}:¬ O a->H a=some (.tup vs)->vs.length=ds.length->(∀ (i:Nat) v d,vs[i]? = some v->ds[i]? = some d->Rep H O v d)->Rep H O (.ref a) (.tup ds)
 | lst {a:Addr} {vs:List V} {ds:List D}:¬ O a->Rd H a (.lst vs)->vs.length=ds.length->(∀ (i:Nat) v d,vs[i]? = some v->ds[i]? = some d->Rep H O v d)->Rep H O (.ref a) (.lst ds)
 | aC {a:Addr} {ws:List (Key×V)} {ds:List (bU×D)}:¬ O a->H a=some (.dK ws)->ws.map (·.1)=ds.map (λp=>dU p.1)->(∀ (i:Nat) p q,ws[i]? = some p->ds[i]? = some q->Rep H O p.2 q.2)->Rep H O (.ref a) (.aC ds)
 | exc {a:Addr} {n:Nat} {v:V} {fl:D}:¬ O a->H a=some (.ext (excAt n v a))->Rep H O v fl->Rep H O (.ref a) (.exc n fl)
 | xd {x:Addr} {fs:List (Str×V)} {ds:List (Tx×D)}:¬ O x->H x=some (.ext (Ml fs x))->fs.map (·.1)=ds.map (λp=>toS p.1)->(∀ (i:Nat) p q,fs[i]? = some p->ds[i]? = some q->Rep H O p.2 q.2)->Rep H O (.ref x) (.xd ds)
 | fn (a:Addr):Rep H O (.ref a) (.fn a)
 | dic {a:Addr} {ep:Nat} {ws:List (NK×V×V)} {ds:List (D×D)}:¬ O a->H a=some (.dN ep ws)->ws.length=ds.length->(∀ (i:Nat) p q,ws[i]? = some p->ds[i]? = some q->Rep H O p.2.1 q.1)->(∀ (i:Nat) p q,ws[i]? = some p->ds[i]? = some q->Rep H O p.2.2 q.2)->(∀ (i:Nat) p q,ws[i]? = some p->ds[i]? = some q->dJ 6 q.1=some p.1)->Rep H O (.ref a) (.dic ds)
abbrev aN(H:Hp)(O:Addr->Prop)(vs:List V)(ds:List D):Prop:=vs.length=ds.length/\∀ (i:Nat) v d,vs[i]? = some v->ds[i]? = some d->Rep H O v d
structure DN(H:Hp)(O:Addr->Prop)(ws:List (NK×V×V))(ds:List (D×D)):Prop where
 len:ws.length=ds.length
 key:∀ (i:Nat) p q,ws[i]? = some p->ds[i]? = some q->Rep H O p.2.1 q.1
 val:∀ (i:Nat) p q,ws[i]? = some p->ds[i]? = some q->Rep H O p.2.2 q.2
 pC:∀ (i:Nat) p q,ws[i]? = some p->ds[i]? = some q->dJ 6 q.1=some p.1
def gQ(H:Hp)(O:Addr->Prop)(a:Addr):D->Prop
 | .lst ds=>∃ vs,H a=some (.lst vs)/\aN H O vs ds
 | .aC ds=>∃ ws:List (Key×V),H a=some (.dK ws)/\ws.map (·.1)=ds.map (λp=>dU p.1)/\∀ (i:Nat) p q,ws[i]? = some p->ds[i]? = some q->Rep H O p.2 q.2
 | .dic ds=>∃ (ep:Nat) (ws:List (NK×V×V)),H a=some (.dN ep ws)/\DN H O ws ds
 | _=>False
section
variable {H H':Hp} {O O':Addr->Prop} {v:V} {d:D} {vs:List V} {ds:List D} {a:Addr}
theorem Rd.keep(h:Rd H a u)(k:∀ o,H a=some o->H' a=some o):Rd H' a u:=by
 rcases h with h | ⟨o,h⟩
 ·exact .inl (k _ h)
 ·exact .inr ⟨o,k _ h⟩
theorem Rd.some(h:Rd H a u):∃ o,H a=some o:=by
 rcases h with h | ⟨o,h⟩
 ·exact⟨_,h⟩
 ·exact⟨_,h⟩
theorem Rep.keep(h:Rep H O v d)(k:∀ a o,H a=some o->¬ O a->H' a=some o):Rep H' O v d:=by
 induction h with
 | aI=>exact .aI
 | bl b=>exact .bl b
 | int i=>exact .int i
 | str x=>exact .str x
 | tup h1 h2 h3 _ ih=>exact .tup h1 (k _ _ h2 h1) h3 ih
 | lst h1 h2 h3 _ ih=>exact .lst h1 (Rd.keep h2 λo e=>k _ o e h1) h3 ih
 | aC h1 h2 h3 _ ih=>exact .aC h1 (k _ _ h2 h1) h3 ih
 | exc h1 h2 _ ih=>exact .exc h1 (k _ _ h2 h1) ih
 | xd h1 h2 h3 _ ih=>exact .xd h1 (k _ _ h2 h1) h3 ih
 | fn a=>exact .fn a
 | dic h1 h2 h3 _ _ h6 ih ih'=>exact .dic h1 (k _ _ h2 h1) h3 ih ih' h6
theorem Rep.aW(h:Rep H O v d)(k:∀ a,O' a->O a\/H a=none):Rep H O' v d:=by
 have no:∀ {a:Addr} {u:HO},¬ O a->Rd H a u->¬ O' a:=λ{a u} h1 h2 z=>by
  rcases k a z with q | q
  ·exact h1 q
  ·obtain⟨o,e⟩:=Rd.some h2;rw[q] at e; cases e
 induction h with
 | aI=>exact .aI
 | bl b=>exact .bl b
 | int i=>exact .int i
 | str x=>exact .str x
 | tup h1 h2 h3 _ ih=>exact .tup (no h1 (.inl h2)) h2 h3 ih
 | lst h1 h2 h3 _ ih=>exact .lst (no h1 h2) h2 h3 ih
 | aC h1 h2 h3 _ ih=>exact .aC (no h1 (.inl h2)) h2 h3 ih
 | exc h1 h2 _ ih=>exact .exc (no h1 (.inl h2)) h2 ih
 | xd h1 h2 h3 _ ih=>exact .xd (no h1 (.inl h2)) h2 h3 ih
 | fn a=>exact .fn a
 | dic h1 h2 h3 _ _ h6 ih ih'=>exact .dic (no h1 (.inl h2)) h2 h3 ih ih' h6
theorem DN.keep{ws:List (NK×V×V)}{ds:List (D×D)}(h:DN H O ws ds)(k:∀ a o,H a=some o->¬ O a->H' a=some o):DN H' O ws ds:=⟨h.len,λi p q e1 e2=>(h.key i p q e1 e2).keep k,λi p q e1 e2=>(h.val i p q e1 e2).keep k,h.pC⟩
theorem DN.aW{ws:List (NK×V×V)}{ds:List (D×D)}(h:DN H O ws ds)(k:∀ a,O' a->O a\/H a=none):DN H O' ws ds:=⟨h.len,λi p q e1 e2=>(h.key i p q e1 e2).aW k,λi p q e1 e2=>(h.val i p q e1 e2).aW k,h.pC⟩
theorem aN.keep(h:aN H O vs ds)(k:∀ a o,H a=some o->¬ O a->H' a=some o):aN H' O vs ds:=⟨h.1,λi v d e1 e2=>(h.2 i v d e1 e2).keep k⟩
theorem aN.aW(h:aN H O vs ds)(k:∀ a,O' a->O a\/H a=none):aN H O' vs ds:=⟨h.1,λi v d e1 e2=>(h.2 i v d e1 e2).aW k⟩
theorem aN.nil:aN H O [] []:=⟨rfl,λi v d e _=>by simp at e⟩
theorem aN.cons(h:Rep H O v d)(r:aN H O vs ds):aN H O (v :: vs) (d :: ds):=by
 refine⟨by simp[r.1],λi v' d' e1 e2=>?_⟩
 cases i with
 | zero=>simp at e1 e2; subst e1; subst e2; exact h
 | succ i=>exact r.2 i v' d' (by simpa using e1) (by simpa using e2)
theorem aN.head(r:aN H O (v :: vs) (d :: ds)):Rep H O v d:=r.2 0 v d rfl rfl
theorem aN.tail(r:aN H O (v :: vs) (d :: ds)):aN H O vs ds:=⟨by simpa using r.1,λi v' d' e1 e2=>r.2 (i + 1) v' d' (by simpa using e1) (by simpa using e2)⟩
theorem aN.append(h:aN H O vs ds)(h':aN H O gf eN):aN H O (vs ++ gf) (ds ++ eN):=by
 induction vs generalizing ds with
 | nil =>
  cases ds with
  | nil=>exact h'
  | cons d r=>have:=h.1; simp at this
 | cons v r ih =>
  cases ds with
  | nil=>have:=h.1; simp at this
  | cons d q=>exact .cons h.head (ih h.tail)
theorem aN.get{i:Nat}(h:aN H O vs ds)(e:ds[i]? = some d):∃ v,vs[i]? = some v/\Rep H O v d:=by
 have hi:i < ds.length:=(W6.mp e).1;have hv:i < vs.length:=by rw[h.1]; exact hi
 exact⟨vs[i],by simp[hv],h.2 i _ d (by simp[hv]) e⟩
theorem aN.take(n:Nat)(h:aN H O vs ds):aN H O (vs.take n) (ds.take n):=by
 refine⟨by simp[h.1],λi v d e1 e2=>?_⟩;by_cases hi:i < n
 ·rw[List.getElem?_take_of_lt hi] at e1 e2;exact h.2 i v d e1 e2
 ·rw[List.getElem?_take_eq_none (by omega)] at e1; cases e1
theorem aN.drop(n:Nat)(h:aN H O vs ds):aN H O (vs.drop n) (ds.drop n):=by
 refine⟨by simp[h.1],λi v d e1 e2=>?_⟩;rw[List.getElem?_drop] at e1 e2;exact h.2 (n + i) v d e1 e2
theorem aN.set(h:aN H O vs ds)(r:Rep H O v d)(j:Nat):aN H O (vs.set j v) (ds.set j d):=by
 refine⟨by simp[h.1],λi v' d' e1 e2=>?_⟩;by_cases hi:j=i
 ·subst hi;rw[Q8] at e1 e2;simp at e1 e2;obtain⟨_,rfl⟩:=e1;obtain⟨_,rfl⟩:=e2;exact r
 ·rw[W5 hi] at e1 e2;exact h.2 i v' d' e1 e2
theorem gQ.keep(h:gQ H O a d)(hk:∀ b o,H b=some o->¬ O b->H' b=some o)(ha:∀ o,H a=some o->H' a=some o):gQ H' O a d:=by
 cases d <;> first
  | exact h.elim
  | (obtain⟨vs,e,r⟩:=h; exact⟨vs,ha _ e,aN.keep r hk⟩)
  | (obtain⟨ws,e,r,q⟩:=h; exact⟨ws,ha _ e,r,λi p p' e1 e2=>(q i p p' e1 e2).keep hk⟩)
  | (obtain⟨ep,ws,e,r⟩:=h; exact⟨ep,ws,ha _ e,r.keep hk⟩)
theorem gQ.aW(h:gQ H O a d)(k:∀ a,O' a->O a\/H a=none):gQ H O' a d:=by
 cases d <;> first
  | exact h.elim
  | (obtain⟨vs,e,r⟩:=h; exact⟨vs,e,aN.aW r k⟩)
  | (obtain⟨ws,e,r,q⟩:=h; exact⟨ws,e,r,λi p p' e1 e2=>(q i p p' e1 e2).aW k⟩)
  | (obtain⟨ep,ws,e,r⟩:=h; exact⟨ep,ws,e,r.aW k⟩)
theorem gQ.some(h:gQ H O a d):∃ o,H a=some o:=by
 cases d <;> first
  | exact h.elim
  | (obtain⟨vs,e,r⟩:=h; exact⟨_,e⟩)
  | (obtain⟨ep,vs,e,r⟩:=h; exact⟨_,e⟩)
theorem gQ.rep(h:gQ H O a d)(ho:¬ O a):Rep H O (.ref a) d:=by
 cases d with
 | lst ds=>obtain⟨vs,e,r⟩:=h; exact .lst ho (.inl e) r.1 r.2
 | aC ds=>obtain⟨ws,e,r,q⟩:=h; exact .aC ho e r q
 | dic ds=>obtain⟨ep,ws,e,r⟩:=h; exact .dic ho e r.len r.key r.val r.pC
 | _=>exact h.elim
end
structure Xc where
 cls:Tx
 VQ:D
structure Fc where
 H₀:Hp
 B:Addr->Prop
 pin:List (Nat×Addr)
 xc:Xc->Dl->Prop:=λ_ _=>False
def Fc.plus(c:Fc)(p:Addr):Fc:={ c with B:=λa=>c.B a\/a=p }
def Fc.I(c:Fc)(a:Addr):Prop:=∃ i,(i,a) ∈ c.pin
def Own(σ:St)(δ:Dl)(a:Addr):Prop:=∃ (i:Nat) (d:D),δ[i]? = some (some (.own d))/\σ[i]? = some (some (.ref a))
def Av(c:Fc)(σ:St)(δ:Dl)(a:Addr):Prop:=c.B a\/Own σ δ a
structure Ok(c:Fc)(σ:St)(δ:Dl)(H:Hp):Prop where
 keep:∀ a o,c.H₀ a=some o->¬ c.I a->H a=some o
 bd:∀ a,c.B a->∃ o,H a=some o
 eQ:∀ a,c.I a->∃ o,H a=some o
 len:δ.length=σ.length
 slot:∀ (i:Nat) d,δ[i]? = some (some (.pure d))->∃ v,σ[i]? = some (some v)/\Rep H (Av c σ δ) v d
 own:∀ (i:Nat) d,δ[i]? = some (some (.own d))->∃ a,σ[i]? = some (some (.ref a))/\gQ H (Av c σ δ) a d/\(c.I a\/c.H₀ a=none)/\¬ c.B a
 inj:∀ (i j:Nat) a d d',δ[i]? = some (some (.own d))->δ[j]? = some (some (.own d'))->σ[i]? = some (some (.ref a))->σ[j]? = some (some (.ref a))->i=j
 pinned:∀ p ∈ c.pin,σ[p.1]? = some (some (.ref p.2))
structure ba(c:Fc)(σ:St)(δ:Dl)(H:Hp)(σ':St)(δ':Dl)(H':Hp):Prop where
 ok:Ok c σ' δ' H'
 keep:∀ a o,H a=some o->¬ Own σ δ a->H' a=some o
 own:∀ a,Own σ' δ' a->Own σ δ a\/H a=none
 there:∀ a o,H a=some o->∃ o',H' a=some o'
section
variable {c:Fc} {σ σ' σ'':St} {δ δ' δ'':Dl} {H H' C6:Hp} {v:V} {d:D} {a p:Addr}
theorem Ok.Mm(k:Ok c σ δ H)(h:c.B a):∃ o,H a=some o:=k.bd a h
theorem Ok.me(k:Ok c σ δ H)(h:Own σ δ a):∃ o,H a=some o:=by
 obtain⟨i,d,e1,e2⟩:=h;obtain⟨b,e3,q,_⟩:=k.own i d e1;rw[e2] at e3; cases e3
 exact q.some
theorem Ok.C7(k:Ok c σ δ H)(h:Av c σ δ a):∃ o,H a=some o:=h.elim k.Mm k.me
theorem Ok.mf(k:Ok c σ δ H)(h:H a=none):¬ Av c σ δ a:=λz=>by
 obtain⟨o,e⟩:=k.C7 z;rw[h] at e; cases e
theorem ba.refl(k:Ok c σ δ H):ba c σ δ H σ δ H:=⟨k,λ_ _ e _=>e,λ_ h=>.inl h,λ_ o e=>⟨o,e⟩⟩
theorem ba.trans(x:ba c σ δ H σ' δ' H')(y:ba c σ' δ' H' σ'' δ'' C6):ba c σ δ H σ'' δ'' C6:=by
 refine⟨y.ok,λa o e n=>?_,λa h=>?_,λa o e=>?_⟩
 ·refine y.keep a o (x.keep a o e n) λz=>?_
  rcases x.own a z with q | q
  ·exact n q
  ·rw[q] at e; cases e
 ·rcases y.own a h with q | q
  ·exact x.own a q
  ·right
   cases e:H a with
   | none=>rfl
   | some o =>
    obtain⟨o',e'⟩:=x.there a o e;rw[q] at e'; cases e'
 ·obtain⟨o',e'⟩:=x.there a o e;exact y.there a o' e'
theorem ba.av(x:ba c σ δ H σ' δ' H'):∀ a,Av c σ' δ' a->Av c σ δ a\/H a=none:=λa h=>by
 rcases h with h | h
 ·exact .inl (.inl h)
 ·rcases x.own a h with q | q
  ·exact .inl (.inr q)
  ·exact .inr q
theorem Rep.dW(h:Rep H (Av c σ δ) v d)(x:ba c σ δ H σ' δ' H'):Rep H' (Av c σ' δ') v d:=by
 have h1:Rep H (λa=>Av c σ δ a\/Av c σ' δ' a) v d:=Rep.aW h λa z=>z.elim .inl (x.av a)
 exact(h1.keep λa o e n=>x.keep a o e λz=>n (.inl (.inr z))).aW λa z=>.inl (.inr z)
theorem aN.dW(h:aN H (Av c σ δ) vs ds)(x:ba c σ δ H σ' δ' H'):aN H' (Av c σ' δ') vs ds:=⟨h.1,λi v d e1 e2=>Rep.dW (h.2 i v d e1 e2) x⟩
def bA(c:Fc)(σ:St)(δ:Dl)(Hs H:Hp)(v:V):S->Prop
 | .pure d=>Rep H (Av c σ δ) v d
 | .own d=>∃ a,v = .ref a/\gQ H (Av (c.plus a) σ δ) a d/\¬ c.B a/\c.H₀ a=none/\Ok (c.plus a) σ δ H/\Hs a=none
theorem ua(k:Ok (c.plus a) σ δ H):¬ Own σ δ a:=λ⟨i,d,e1,e2⟩=>by
 obtain⟨b,e3,_,_,n⟩:=k.own i d e1;rw[e2] at e3; cases e3
 exact n (.inr rfl)
theorem bA.rep(h:bA c σ δ Hs H v r):Rep H (Av c σ δ) v r.d:=by
 cases r with
 | pure d=>exact h
 | own d =>
  obtain⟨a,rfl,o,n,f,k,_⟩:=h;refine(o.aW λb z=>.inl ?_).rep λz=>z.elim n (ua k)
  exact z.elim (λz=>.inl (.inl z)) .inr
theorem bA.back(h:bA c σ δ Hs H v r)(x:ba c σ₀ δ₀ H' σ' δ' Hs):bA c σ δ H' H v r:=by
 cases r with
 | pure d=>exact h
 | own d =>
  obtain⟨a,e,o,n,f,k,hs⟩:=h;refine⟨a,e,o,n,f,k,?_⟩
  cases q:H' a with
  | none=>rfl
  | some o =>
   obtain⟨o',e'⟩:=x.there a o q;rw[hs] at e'; cases e'
theorem bA.Mn(h:bA c σ δ Hs H v r):bA c σ δ c.H₀ H v r:=by
 cases r with
 | pure d=>exact h
 | own d =>
  obtain⟨a,e,o,n,f,k,hs⟩:=h;exact⟨a,e,o,n,f,k,f⟩
theorem Ok.alloc(k:Ok c σ δ H)(hp:H p=none)(o:HO):Ok c σ δ (upd H p o):=by
 have up:∀ a w,H a=some w->upd H p o a=some w:=λa w e=>by
  rw[bh (gK e hp)]; exact e
 refine⟨λa w e n=>up a w (k.keep a w e n),λa z=>(k.bd a z).elim λw e=>⟨w,up a w e⟩,λa z=>(k.eQ a z).elim λw e=>⟨w,up a w e⟩,k.len,λi d e=>?_,λi d e=>?_,k.inj,k.pinned⟩
 ·obtain⟨v,e1,r⟩:=k.slot i d e;exact⟨v,e1,r.keep λa w q _=>up a w q⟩
 ·obtain⟨a,e1,r,q⟩:=k.own i d e;exact⟨a,e1,r.keep (λb w q _=>up b w q) λw q=>up a w q,q⟩
theorem ba.alloc(k:Ok c σ δ H)(hp:H p=none)(o:HO):ba c σ δ H σ δ (upd H p o):=by
 have up:∀ a w,H a=some w->upd H p o a=some w:=λa w e=>by
  rw[bh (gK e hp)]; exact e
 exact⟨k.alloc hp o,λa w e _=>up a w e,λa h=>.inl h,λa w e=>⟨w,up a w e⟩⟩
theorem Ok.qV(k:Ok c σ δ H)(hp:H p=none):c.H₀ p=none:=by
 cases e:c.H₀ p with
 | none=>rfl
 | some o =>
  by_cases q:c.I p
  ·obtain⟨w,e'⟩:=k.eQ p q;rw[hp] at e'; cases e'
  ·have:=k.keep p o e q;rw[hp] at this; cases this
theorem Ok.plus(k:Ok c σ δ H)(hp:H p=none)(o:HO):Ok (c.plus p) σ δ (upd H p o):=by
 have k':=k.alloc hp o;have sub:∀ b,Av (c.plus p) σ δ b->Av c σ δ b\/b=p:=λb z=>by
  rcases z with (z | z) | z
  ·exact .inl (.inl z)
  ·exact .inr z
  ·exact .inl (.inr z)
 have ub:∀ b,Av (c.plus p) σ δ b->Av c σ δ b\/H b=none:=λb z=>(sub b z).elim .inl λe=>.inr (by rw[e]; exact hp)
 have up:∀ a w,H a=some w->upd H p o a=some w:=λa w e=>by
  rw[bh (gK e hp)]; exact e
 refine⟨k'.keep,λa z=>?_,k'.eQ,k.len,λi d e=>?_,λi d e=>?_,k.inj,k.pinned⟩
 ·rcases z with z | z
  ·exact k'.bd a z
  ·exact⟨o,by rw[z]; exact dH⟩
 ·obtain⟨v,e1,r⟩:=k.slot i d e;exact⟨v,e1,(r.aW ub).keep λa w q _=>up a w q⟩
 ·obtain⟨a,e1,r,q,nb⟩:=k.own i d e;refine⟨a,e1,(r.aW ub).keep (λb w q _=>up b w q) (λw q=>up a w q),q,λz=>?_⟩;rcases z with z | z
  ·exact nb z
  ·obtain⟨w,ew⟩:=r.some;rw[z,hp] at ew; cases ew
theorem bA.mh(k:Ok c σ δ H)(r:aN H (Av c σ δ) vs ds)(hp:H p=none):bA c σ δ H (upd H p (.lst vs)) (.ref p) (.own (.lst ds)):=by
 have up:∀ a w,H a=some w->upd H p (.lst vs) a=some w:=λa w e=>by
  rw[bh (gK e hp)]; exact e
 refine⟨p,rfl,⟨vs,dH,?_⟩,λz=>k.mf hp (.inl z),k.qV hp,k.plus hp _,hp⟩;have r1:aN H (Av (c.plus p) σ δ) vs ds:=aN.aW r λb z=>by
  rcases z with (z | z) | z
  ·exact .inl (.inl z)
  ·exact .inr (by rw[z]; exact hp)
  ·exact .inl (.inr z)
 exact aN.keep r1 λb w e _=>up b w e
theorem bA.nN(k:Ok c σ δ H)(r:aN H (Av c σ δ) vs ds)(hp:H p=none):bA c σ δ H (upd H p (.tup vs)) (.ref p) (.pure (.tup ds)):=by
 have up:∀ a w,H a=some w->upd H p (.tup vs) a=some w:=λa w e=>by
  rw[bh (gK e hp)]; exact e
 have r1:=aN.keep r (H':=upd H p (.tup vs)) λb w e _=>up b w e
 exact .tup (k.mf hp) dH r1.1 r1.2
end
inductive Rs (α:Type) where
 | ok (a:α) (δ:Dl)
 | exc (x:Xc) (δ:Dl)
 | stuck
def Rs.bind{α β:Type}(r:Rs α)(f:α->Dl->Rs β):Rs β:=match r with
 | .ok a δ=>f a δ
 | .exc x δ=>.exc x δ
 | .stuck=>.stuck
abbrev DE:=Dl->Rs S
def XC(c:Fc)(x:Xc)(δ:Dl):Prop:=c.xc x δ
def post{α:Type}(c:Fc)(r:Rs α)(k:α->Dl->Prop):Prop:=match r with
 | .ok a δ=>k a δ
 | .exc x δ=>XC c x δ
 | .stuck=>False
theorem bM:post c (r.bind f) k ↔ post c r λa δ=>post c (f a δ) k:=by
 cases r <;> exact Iff.rfl
theorem aY(h:post c r k)(m:∀ a δ,k a δ->k' a δ):post c r k':=by
 cases r with
 | ok a δ=>exact m a δ h
 | exc x δ=>exact h
 | stuck=>exact h
def tD(c:Fc)(f:DE):TE:=λσ H Q=>∃ δ,Ok c σ δ H/\post c (f δ) λr δ'=>∀ v H',ba c σ δ H σ δ' H'->bA c σ δ' H H' v r->Q v H'
abbrev SE(X:Cx)(c:Fc)(e:Expr)(f:DE):Prop:=PE X e (tD c f)
def da(c:Fc)(σ:St)(δ:Dl)(H:Hp)(v:V)(d:D):Prop:=Rep H (Av c σ δ) v d\/∃ a,v = .ref a/\gQ H (Av c σ δ) a d
abbrev BE:=Dl->Rs D
def tB(c:Fc)(f:BE):TE:=λσ H Q=>∃ δ,Ok c σ δ H/\post c (f δ) λd δ'=>∀ v H',ba c σ δ H σ δ' H'->da c σ δ' H' v d->Q v H'
abbrev SB(X:Cx)(c:Fc)(e:Expr)(f:BE):Prop:=PE X e (tB c f)
theorem PE.weak(h:PE X e t)(w:∀ σ H Q,t' σ H Q->t σ H Q):PE X e t':=λpins s σ H Q I q=>h pins s σ H Q I (w σ H Q q)
def ao(f:DE):BE:=λδ=>(f δ).bind λr δ'=>.ok r.d δ'
theorem bA.b(h:bA c σ δ Hs H v r):da c σ δ H v r.d:=.inl h.rep
theorem aD{X:Cx}{c:Fc}{e:Expr}{f:DE}(h:SE X c e f):SB X c e (ao f):=PE.weak h λσ H Q ⟨δ,k,p⟩=>⟨δ,k,by
 unfold ao at p;rw[bM] at p;exact aY p λr δ' q v H' a s=>q v H' a s.b⟩
def ae(i:Nat):BE:=λδ=>match δ[i]? with
 | some (some r)=>.ok r.d δ
 | _=>.stuck
def aa(i:Nat):DE:=λδ=>match δ[i]? with
 | some (some (.pure d))=>.ok (.pure d) δ
 | some (some (.own d))=>.ok (.pure d) (δ.set i (some (.pure d)))
 | _=>.stuck
def eD(d:D):DE:=λδ=>.ok (.pure d) δ
section
variable {X:Cx} {c:Fc}
theorem aU{i:Nat}{e:Expr}(h:PE X e (cJ i)):SB X c e (ae i):=PE.weak h λσ H Q ⟨δ,k,p⟩=>by
 unfold ae at p
 cases e:δ[i]? with
 | none=>rw[e] at p; exact p.elim
 | some o =>
  cases o with
  | none=>rw[e] at p; exact p.elim
  | some r =>
   rw[e] at p
   cases r with
   | pure d =>
    obtain⟨v,e1,r⟩:=k.slot i d e;exact⟨v,e1,p v H (.refl k) (.inl r)⟩
   | own d =>
    obtain⟨a,e1,r,_⟩:=k.own i d e;exact⟨.ref a,e1,p _ H (.refl k) (.inr ⟨a,rfl,r⟩)⟩
theorem Own.sub(h:Own σ (δ.set i (some (.pure d))) a):Own σ δ a:=by
 obtain⟨j,d',e1,e2⟩:=h;by_cases hj:i=j
 ·subst hj;rw[Q8] at e1;simp at e1
 ·rw[W5 hj] at e1;exact⟨j,d',e1,e2⟩
theorem Ok.give(k:Ok c σ δ H)(e:δ[i]? = some (some (.own d))) :
  ∃ a,σ[i]? = some (some (.ref a))/\ba c σ δ H σ (δ.set i (some (.pure d))) H/\Rep H (Av c σ (δ.set i (some (.pure d)))) (.ref a) d:=by
 obtain⟨a,e1,r,q,nb⟩:=k.own i d e;have hi:i < δ.length:=(W6.mp e).1;have sub:∀ b,Av c σ (δ.set i (some (.pure d))) b->Av c σ δ b:=λb z=>z.elim .inl λz=>.inr z.sub
 have na:¬ Av c σ (δ.set i (some (.pure d))) a:=by
  rintro (z | ⟨j,d',f1,f2⟩)
  ·exact nb z
  ·by_cases hj:i=j
   ·subst hj;rw[Q8] at f1;simp at f1
   ·rw[W5 hj] at f1;exact hj (k.inj i j a d d' e f1 e1 f2)
 have rep:Rep H (Av c σ (δ.set i (some (.pure d)))) (.ref a) d:=(r.aW λb z=>.inl (sub b z)).rep na;refine⟨a,e1,⟨⟨k.keep,k.bd,k.eQ,by rw[Q3]; exact k.len,λj d' f=>?_,λj d' f=>?_,λj l b d1 d2 f1 f2=>?_,k.pinned⟩,λ_ _ w _=>w,λb z=>.inl z.sub,λ_ o w=>⟨o,w⟩⟩,rep⟩
 ·by_cases hj:i=j
  ·subst hj;rw[Wb hi] at f
   cases f;exact⟨.ref a,e1,rep⟩
  ·rw[W5 hj] at f;obtain⟨v,g1,g2⟩:=k.slot j d' f;exact⟨v,g1,g2.aW λb z=>.inl (sub b z)⟩
 ·by_cases hj:i=j
  ·subst hj;rw[Wb hi] at f
   cases f
  ·rw[W5 hj] at f;obtain⟨b,g1,g2,g3⟩:=k.own j d' f;exact⟨b,g1,g2.aW λb z=>.inl (sub b z),g3⟩
 ·have h1:δ[j]? = some (some (.own d1)):=by
   by_cases hj:i=j
   ·subst hj; rw[Wb hi] at f1; cases f1
   ·rw[W5 hj] at f1; exact f1
  have h2:δ[l]? = some (some (.own d2)):=by
   by_cases hj:i=l
   ·subst hj; rw[Wb hi] at f2; cases f2
   ·rw[W5 hj] at f2; exact f2
  exact k.inj j l b d1 d2 h1 h2
theorem aJ{i:Nat}{e:Expr}(h:PE X e (cJ i)):SE X c e (aa i):=PE.weak h λσ H Q ⟨δ,k,p⟩=>by
 unfold aa at p
 cases e:δ[i]? with
 | none=>rw[e] at p; exact p.elim
 | some o =>
  cases o with
  | none=>rw[e] at p; exact p.elim
  | some r =>
   rw[e] at p
   cases r with
   | pure d =>
    obtain⟨v,e1,r⟩:=k.slot i d e;exact⟨v,e1,p v H (.refl k) r⟩
   | own d =>
    obtain⟨a,e1,x,r⟩:=k.give e;exact⟨.ref a,e1,p _ H x r⟩
theorem aL{i j pos}:SE X c (.Constant (.int i) j pos) (eD (.int i)):=PE.weak By λσ H Q ⟨δ,k,p⟩=>p _ H (.refl k) (.int i)
theorem iI{b j pos}:SE X c (.Constant (.bool b) j pos) (eD (.bl b)):=PE.weak Il λσ H Q ⟨δ,k,p⟩=>p _ H (.refl k) (.bl b)
theorem qW{j pos}:SE X c (.Constant .none j pos) (eD .aI):=PE.weak Im λσ H Q ⟨δ,k,p⟩=>p _ H (.refl k) .aI
theorem C8{x j pos}(y:Tx)(h:x=toS y:=by decide +kernel):SE X c (.Constant (.str x) j pos) (eD (.str y)):=by
 subst h;exact PE.weak Bz λσ H Q ⟨δ,k,p⟩=>p _ H (.refl k) (.str y)
end
open PySem PySem.Spec PyProof.Rows L2 PySem.SeqAt
mutual
def aK:D->D->Bool
 | .aI,.aI=>true
 | .bl a,.bl b=>a == b
 | .int a,.int b=>a == b
 | .bl a,.int b=>(if a then 1 else 0) == b
 | .int a,.bl b=>a == (if b then 1 else 0)
 | .str a,.str b=>a == b
 | .tup xs,.tup ys=>fL xs ys
 | .lst xs,.lst ys=>fL xs ys
 | _,_=>false
def fL:List D->List D->Bool
 | [],[]=>true
 | x :: xs,y :: ys=>aK x y && fL xs ys
 | _,_=>false
end
mutual
def flat:Nat->D->Bool
 | _,.aI=>true
 | _,.bl _=>true
 | _,.int _=>true
 | _,.str _=>true
 | 0,.tup _=>false
 | n + 1,.tup xs=>k8 n xs
 | 0,.lst _=>false
 | n + 1,.lst xs=>k8 n xs
 | _,.aC _=>false
 | _,.exc _ _=>false
 | _,.xd _=>false
 | _,.fn _=>false
 | _,.dic _=>false
def k8:Nat->List D->Bool
 | _,[]=>true
 | n,x :: xs=>flat n x && k8 n xs
end
example:aK (.tup [.int 1,.str [2]]) (.tup [.int 1,.str [2]])=true:=by decide +kernel
theorem nP:∀ {xs:List D} {x:D},k8 n xs=true->x ∈ xs->flat n x=true
 | [],_,_,h=>by simp at h
 | y :: ys,x,h,hm=>by
  simp only[k8,Ww] at h;rcases Wl.mp hm with e | hm
  ·rw[e]; exact h.1
  ·exact nP h.2 hm
theorem uc:∀ {xs ys:List D} {f:Nat->Bool},xs.length=ys.length->(∀ (j:Nat) x y,xs[j]? = some x->ys[j]? = some y->f j=aK x y)->(W3 xs.length).all f=fL xs ys
 | [],[],f,_,_=>rfl
 | [],y :: ys,f,h,_=>by simp at h
 | x :: xs,[],f,h,_=>by simp at h
 | x :: xs,y :: ys,f,h,hf=>by
  simp only[fL];rw[WP,List.range_succ_eq_map,JU,hf 0 x y rfl rfl,JF];rw[<- uc (f:=λj=>f (j + 1)) (by simpa using h) (λj a b e1 e2=>hf (j + 1) a b (by simpa using e1) (by simpa using e2))];rfl
theorem ud:∀ {xs ys:List D},xs.length≠ys.length->fL xs ys=false
 | [],[],h=>absurd rfl h
 | [],y :: ys,_=>rfl
 | x :: xs,[],_=>rfl
 | x :: xs,y :: ys,h=>by
  simp only[fL];rw[ud (xs:=xs) (ys:=ys) (by intro e; exact h (by simp[e]))];simp
mutual
theorem wM:∀ {n:Nat} {d:D},flat n d=true->aK d d=true
 | _,.aI,_=>rfl
 | _,.bl b,_=>by simp[aK]
 | _,.int i,_=>by simp[aK]
 | _,.str x,_=>by simp[aK]
 | 0,.tup xs,h=>by simp[flat] at h
 | n + 1,.tup xs,h=>by simp only[aK]; exact wN (n:=n) (by simpa[flat] using h)
 | 0,.lst xs,h=>by simp[flat] at h
 | n + 1,.lst xs,h=>by simp only[aK]; exact wN (n:=n) (by simpa[flat] using h)
 | _,.aC xs,h=>by simp[flat] at h
 | _,.exc n _,h=>by simp[flat] at h
 | _,.xd n,h=>by simp[flat] at h
theorem wN:∀ {n:Nat} {ds:List D},k8 n ds=true->fL ds ds=true
 | _,[],_=>rfl
 | n,x :: xs,h=>by
  simp only[k8,Ww] at h;simp only[fL];rw[wM h.1,wN h.2];rfl
end
abbrev dX:Addr->Prop:=λ_=>False
theorem Rep.un(h:Rep H O v d):Rep H dX v d:=Rep.aW h λ_ z=>z.elim
theorem da.un(h:da c σ δ H v d):Rep H dX v d:=by
 rcases h with h | ⟨a,rfl,o⟩
 ·exact Rep.un h
 ·exact(o.aW (O':=dX) λ_ z=>z.elim).rep λz=>z
section
variable {X:Cx} {pins:List (Addr×Obj)} {σ:St} {H:Hp} {s:W2}
theorem Inv.hZ(I:Inv X pins σ H s)(h:Rd H a (.lst vs)):∃ aj:List Value,Vals vs aj/\s.heap.IsList a aj.toArray:=by
 obtain⟨aj,r,p,_⟩:=I.list (.inl h);exact⟨aj,r,p.isList⟩
theorem Inv.h9(I:Inv X pins σ H s)(h:H a=some (.tup vs)):∃ aj:List Value,Vals vs aj/\s.heap.IsTuple a aj.toArray:=by
 obtain⟨aj,r,p,_⟩:=I.tuple (.of h);exact⟨aj,r,p⟩
theorem pD(x y:Tx):((toS x:Str) == toS y)=(x == y):=by
 rw[Qq];simp only[beq_iff_eq];exact⟨wL,λe=>by rw[e]⟩
theorem Mo(A:Wt):A.in1.units=A.units + 1:=rfl
theorem Rd.inj(h:Rd H a u)(k:Rd H a w)(hu:∀ o z,u≠.frz o z)(hw:∀ o z,w≠.frz o z):u=w:=by
 rcases h with h | ⟨o,h⟩ <;> rcases k with k | ⟨o',k⟩
 ·rw[h] at k; exact Wz k
 ·rw[h] at k; exact absurd (Wz k) (hu _ _)
 ·rw[h] at k; exact absurd (Wz k).symm (hw _ _)
 ·rw[h] at k;have:=Wz k;injection this
theorem aN.inj{vs:List V}:∀ {ds es:List D},vs.length=ds.length->vs.length=es.length->(∀ (i:Nat) v d e,vs[i]? = some v->ds[i]? = some d->es[i]? = some e->d=e)->ds=es:=by
 intro ds es h1 h2 h;apply Qc;intro i;by_cases hi:i < vs.length
 ·have a1:i < ds.length:=by omega
  have a2:i < es.length:=by omega
  rw[W4 a1,W4 a2];rw[h i vs[i] ds[i] es[i] (by simp[hi]) (by simp[a1]) (by simp[a2])]
 ·rw[WB (by omega),WB (by omega)]
theorem Rep.inj{O:Addr->Prop}{v:V}{d:D}(h:Rep H O v d):∀ {n:Nat} {e:D},flat n d=true->flat n e=true->Rep H O v e->d=e:=by
 induction h with
 | aI=>intro n e _ _ k; cases k; rfl
 | bl b=>intro n e _ _ k; cases k; rfl
 | int i=>intro n e _ _ k; cases k; rfl
 | str x =>
  intro n e _ _ k;generalize hz:V.str (toS x)=z at k
  cases k with
  | str y=>injection hz with hz; rw[wL hz]
  | _=>cases hz
 | @tup a vs ds h1 h2 h3 h4 ih =>
  intro n e fd fe k
  cases n with
  | zero=>simp[flat] at fd
  | succ n =>
   simp only[flat] at fd
   cases k with
   | @tup _ ws es k1 k2 k3 k4 =>
    simp only[flat] at fe;have e1:=Rd.inj (.inl h2) (.inl k2) (λ_ _ z=>by cases z) (λ_ _ z=>by cases z);injection e1 with e1
    subst e1;rw[aN.inj h3 k3 λi v d e q1 q2 q3=>ih i v d q1 q2 (nP fd (WO q2)) (nP fe (WO q3)) (k4 i v e q1 q3)]
   | lst k1 k2=>exact absurd (Rd.inj (.inl h2) k2 (λ_ _ z=>by cases z) (λ_ _ z=>by cases z)) (λz=>by cases z)
   | aC k1 k2=>exact absurd (Rd.inj (.inl h2) (.inl k2) (λ_ _ z=>by cases z) (λ_ _ z=>by cases z)) (λz=>by cases z)
   | exc k1 k2=>simp[flat] at fe
   | xd k1 k2=>simp[flat] at fe
   | fn _=>simp[flat] at fe
   | dic _=>simp[flat] at fe
 | @lst a vs ds h1 h2 h3 h4 ih =>
  intro n e fd fe k
  cases n with
  | zero=>simp[flat] at fd
  | succ n =>
   simp only[flat] at fd
   cases k with
   | @lst _ ws es k1 k2 k3 k4 =>
    simp only[flat] at fe;have e1:=Rd.inj h2 k2 (λ_ _ z=>by cases z) (λ_ _ z=>by cases z);injection e1 with e1
    subst e1;rw[aN.inj h3 k3 λi v d e q1 q2 q3=>ih i v d q1 q2 (nP fd (WO q2)) (nP fe (WO q3)) (k4 i v e q1 q3)]
   | tup k1 k2=>exact absurd (Rd.inj h2 (.inl k2) (λ_ _ z=>by cases z) (λ_ _ z=>by cases z)) (λz=>by cases z)
   | aC k1 k2=>exact absurd (Rd.inj h2 (.inl k2) (λ_ _ z=>by cases z) (λ_ _ z=>by cases z)) (λz=>by cases z)
   | exc k1 k2=>simp[flat] at fe
   | xd k1 k2=>simp[flat] at fe
   | fn _=>simp[flat] at fe
   | dic _=>simp[flat] at fe
 | aC h1 h2 h3 h4 ih =>
  intro n e fd _ _
  cases n <;> simp[flat] at fd
 | exc h1 h2 =>
  intro n e fd _ _
  cases n <;> simp[flat] at fd
 | xd h1 h2 =>
  intro n e fd _ _
  cases n <;> simp[flat] at fd
 | fn _ =>
  intro n e fd _ _
  cases n <;> simp[flat] at fd
 | dic h1 h2 =>
  intro n e fd _ _
  cases n <;> simp[flat] at fd
def wO(H:Hp)(s:W2)(n:Nat):Prop:=∀ (A:Wt) (x y:V) (u w:Value) (d e:D),A.units + n + 1 < WT->flat n d=true->flat n e=true->Rep H dX x d->Rep H dX y e->RelV x u->RelV y w->EqAt A s u w (aK d e)
def nQ(H:Hp)(s:W2)(A:Wt)(n:Nat):Prop:=match n with
 | 0=>True
 | m + 1=>A.units + m + 2 < WT/\wO H s m
def ue(ds es:List D)(j:Nat):Bool:=match ds[j]?,es[j]? with
 | some p,some q=>aK p q
 | _,_=>false
theorem uf(j:Nat)(p q:D)(e1:ds[j]? = some p)(e2:es[j]? = some q):ue ds es j=aK p q:=by unfold ue; rw[e1,e2]
theorem ug{n:Nat}{A:Wt}{vs ws:List V}{ds es:List D}{aj h_:List Value}(hu:A.units + n + 2 < WT)(ih:wO H s n)(r1:Vals vs aj)(r2:Vals ws h_)(l1:vs.length=ds.length)(l2:ws.length=es.length)
  (g1:∀ (i:Nat) v d,vs[i]? = some v->ds[i]? = some d->Rep H dX v d) (g2:∀ (i:Nat) v d,ws[i]? = some v->es[i]? = some d->Rep H dX v d) (f1:k8 n ds=true) (f2:k8 n es=true) :
  ∀ j (h1:j < aj.toArray.size) (h2:j < h_.toArray.size),EqAt A.in1 s aj.toArray[j] h_.toArray[j] (ue ds es j):=by
 intro j h1 h2;have e1:=r1.length;have e2:=r2.length;simp at h1 h2;have hd:j < ds.length:=by omega
 have he:j < es.length:=by omega
 have hv:j < vs.length:=by omega
 have hw:j < ws.length:=by omega
 obtain⟨u',wQ,ru'⟩:=r1.get (i:=j) (x:=vs[j]) (by simp[hv]);obtain⟨w',hw',rw''⟩:=r2.get (i:=j) (x:=ws[j]) (by simp[hw]);have eu:aj.toArray[j]=u':=by simpa[h1] using wQ
 have ew:h_.toArray[j]=w':=by simpa[h2] using hw'
 rw[eu,ew,uf j ds[j] es[j] (by simp[hd]) (by simp[he])];exact ih A.in1 vs[j] ws[j] u' w' ds[j] es[j] (by rw[Mo]; omega) (nP f1 (WX hd)) (nP f2 (WX he)) (g1 j _ _ (by simp[hv]) (by simp[hd])) (g2 j _ _ (by simp[hw]) (by simp[he])) ru' rw''
theorem C9(h1:n=ds.length)(h2:m=es.length):((W3 (min n m)).all (ue ds es) && n == m)=fL ds es:=by
 subst h1 h2;by_cases hl:ds.length=es.length
 ·rw[<- hl,Nat.min_self,uc hl uf];simp
 ·rw[ud hl];simp[hl]
theorem Mp(I:Inv X pins σ H s)(n:Nat)(A:Wt)(bZ:A.units < WT)(t1:s.heap.IsTuple a aj.toArray)(t2:s.heap.IsTuple b h_.toArray)(r1:Vals vs aj)(r2:Vals ws h_)(l1:vs.length=ds.length)(l2:ws.length=es.length)
  (g1:∀ (i:Nat) v d,vs[i]? = some v->ds[i]? = some d->Rep H dX v d) (g2:∀ (i:Nat) v d,ws[i]? = some v->es[i]? = some d->Rep H dX v d) (f1:flat n (.tup ds)=true) (f2:flat n (.tup es)=true) (ih:nQ H s A n) :
  RcAt A s (.ref a) (.ref b) (fL ds es):=by
 cases n with
 | zero=>simp[flat] at f1
 | succ n =>
  simp only[flat] at f1 f2;obtain⟨hu,ih⟩:=ih;have q:=RcAt.tuples (A:=A) (s:=s) t1 t2 bZ (ug hu ih r1 r2 l1 l2 g1 g2 f1 f2);rw[C9 (by have:=r1.length; simp; omega) (by have:=r2.length; simp; omega)] at q;exact q
theorem Mq(I:Inv X pins σ H s)(n:Nat)(A:Wt)(bZ:A.units < WT)(t1:s.heap.IsTuple a aj.toArray)(t2:s.heap.IsTuple b h_.toArray)(r1:Vals vs aj)(r2:Vals ws h_)(l1:vs.length=ds.length)(l2:ws.length=es.length)
  (g1:∀ (i:Nat) v d,vs[i]? = some v->ds[i]? = some d->Rep H dX v d) (g2:∀ (i:Nat) v d,ws[i]? = some v->es[i]? = some d->Rep H dX v d) (f1:flat n (.tup ds)=true) (f2:flat n (.tup es)=true) (ih:nQ H s A n) :
  RcNeAt A s (.ref a) (.ref b) (!fL ds es):=by
 cases n with
 | zero=>simp[flat] at f1
 | succ n =>
  simp only[flat] at f1 f2;obtain⟨hu,ih⟩:=ih;have q:=RcNeAt.tuples (A:=A) (s:=s) t1 t2 bZ (ug hu ih r1 r2 l1 l2 g1 g2 f1 f2);rw[C9 (by have:=r1.length; simp; omega) (by have:=r2.length; simp; omega)] at q;exact q
theorem Mr(I:Inv X pins σ H s)(n:Nat)(A:Wt)(bZ:A.units < WT)(t1:s.heap.IsList a aj.toArray)(t2:s.heap.IsList b h_.toArray)(r1:Vals vs aj)(r2:Vals ws h_)(l1:vs.length=ds.length)(l2:ws.length=es.length)
  (g1:∀ (i:Nat) v d,vs[i]? = some v->ds[i]? = some d->Rep H dX v d) (g2:∀ (i:Nat) v d,ws[i]? = some v->es[i]? = some d->Rep H dX v d) (f1:flat n (.lst ds)=true) (f2:flat n (.lst es)=true) (ih:nQ H s A n) :
  RcAt A s (.ref a) (.ref b) (fL ds es):=by
 cases n with
 | zero=>simp[flat] at f1
 | succ n =>
  simp only[flat] at f1 f2;obtain⟨hu,ih⟩:=ih;have z1:aj.toArray.size=ds.length:=by have:=r1.length; simp; omega
  have z2:h_.toArray.size=es.length:=by have:=r2.length; simp; omega
  by_cases hl:ds.length=es.length
  ·have q:=RcAt.lists (A:=A) (s:=s) t1 t2 (by rw[z1,z2]; exact hl) bZ (ug hu ih r1 r2 l1 l2 g1 g2 f1 f2);rw[z1,uc hl uf] at q;exact q
  ·rw[ud hl];exact RcAt.lists_lengths (A:=A) (s:=s) t1 t2 (by rw[z1,z2]; simpa using hl) bZ
theorem Ms(I:Inv X pins σ H s)(n:Nat)(A:Wt)(bZ:A.units < WT)(t1:s.heap.IsList a aj.toArray)(t2:s.heap.IsList b h_.toArray)(r1:Vals vs aj)(r2:Vals ws h_)(l1:vs.length=ds.length)(l2:ws.length=es.length)
  (g1:∀ (i:Nat) v d,vs[i]? = some v->ds[i]? = some d->Rep H dX v d) (g2:∀ (i:Nat) v d,ws[i]? = some v->es[i]? = some d->Rep H dX v d) (f1:flat n (.lst ds)=true) (f2:flat n (.lst es)=true) (ih:nQ H s A n) :
  RcNeAt A s (.ref a) (.ref b) (!fL ds es):=by
 cases n with
 | zero=>simp[flat] at f1
 | succ n =>
  simp only[flat] at f1 f2;obtain⟨hu,ih⟩:=ih;have z1:aj.toArray.size=ds.length:=by have:=r1.length; simp; omega
  have z2:h_.toArray.size=es.length:=by have:=r2.length; simp; omega
  by_cases hl:ds.length=es.length
  ·have q:=RcNeAt.lists (A:=A) (s:=s) t1 t2 (by rw[z1,z2]; exact hl) bZ (ug hu ih r1 r2 l1 l2 g1 g2 f1 f2);rw[z1,uc hl uf] at q;exact q
  ·rw[ud hl];exact RcNeAt.lists_lengths (A:=A) (s:=s) t1 t2 (by rw[z1,z2]; simpa using hl) bZ
theorem wR(I:Inv X pins σ H s)(n:Nat)(A:Wt)(x y:V)(u w:Value)(d e:D)(bZ:A.units < WT)(fd:flat n d=true)(fe:flat n e=true)(ih:nQ H s A n)(rx:Rep H dX x d)(ry:Rep H dX y e)(ru:RelV x u)(aP:RelV y w):RcAt A s u w (aK d e):=by
 cases rx with
 | aI =>
  cases ru
  cases ry with
  | aI =>
   cases aP;simp only[aK]; exact RcAt.none_none
  | bl q =>
   cases aP;simp only[aK]; exact RcAt.none_bool _
  | int q =>
   obtain⟨t2,rfl⟩:=aP;simp only[aK]; exact RcAt.none_int _ _
  | str q =>
   obtain⟨t2,rfl⟩:=aP;simp only[aK]; exact RcAt.none_str _ _
  | tup k1 k2 k3 k4 =>
   cases aP; obtain⟨its2,r2,t2⟩:=Inv.h9 I k2
   simp only[aK]; exact RcAt.none_tuple t2 bZ
  | lst k1 k2 k3 k4 =>
   cases aP; obtain⟨its2,r2,t2⟩:=Inv.hZ I k2
   simp only[aK]; exact RcAt.none_list t2 bZ
  | aC k1 k2 k3 k4=>(cases n <;> simp[flat] at fe)
  | exc k1 k2=>(cases n <;> simp[flat] at fe)
  | xd k1 k2=>(cases n <;> simp[flat] at fe)
  | fn _=>(cases n <;> simp[flat] at fe)
  | dic _=>(cases n <;> simp[flat] at fe)
 | bl p =>
  cases ru
  cases ry with
  | aI =>
   cases aP;simp only[aK]; exact RcAt.bool_none _
  | bl q =>
   cases aP;simp only[aK]; exact RcAt.bool_bool _ _
  | int q =>
   obtain⟨t2,rfl⟩:=aP;simp only[aK]; exact RcAt.bool_int _ _ _
  | str q =>
   obtain⟨t2,rfl⟩:=aP;simp only[aK]; exact RcAt.bool_str _ _ _
  | tup k1 k2 k3 k4 =>
   cases aP; obtain⟨its2,r2,t2⟩:=Inv.h9 I k2
   simp only[aK]; exact RcAt.bool_tuple _ t2 bZ
  | lst k1 k2 k3 k4 =>
   cases aP; obtain⟨its2,r2,t2⟩:=Inv.hZ I k2
   simp only[aK]; exact RcAt.bool_list _ t2 bZ
  | aC k1 k2 k3 k4=>(cases n <;> simp[flat] at fe)
  | exc k1 k2=>(cases n <;> simp[flat] at fe)
  | xd k1 k2=>(cases n <;> simp[flat] at fe)
  | fn _=>(cases n <;> simp[flat] at fe)
  | dic _=>(cases n <;> simp[flat] at fe)
 | int p =>
  obtain⟨t1,rfl⟩:=ru
  cases ry with
  | aI =>
   cases aP;simp only[aK]; exact RcAt.int_none _ _
  | bl q =>
   cases aP;simp only[aK]; exact RcAt.int_bool _ _ _
  | int q =>
   obtain⟨t2,rfl⟩:=aP;simp only[aK]; exact RcAt.int_int _ _ _ _
  | str q =>
   obtain⟨t2,rfl⟩:=aP;simp only[aK]; exact RcAt.int_str _ _ _ _
  | tup k1 k2 k3 k4 =>
   cases aP; obtain⟨its2,r2,t2⟩:=Inv.h9 I k2
   simp only[aK]; exact RcAt.int_tuple _ _ t2 bZ
  | lst k1 k2 k3 k4 =>
   cases aP; obtain⟨its2,r2,t2⟩:=Inv.hZ I k2
   simp only[aK]; exact RcAt.int_list _ _ t2 bZ
  | aC k1 k2 k3 k4=>(cases n <;> simp[flat] at fe)
  | exc k1 k2=>(cases n <;> simp[flat] at fe)
  | xd k1 k2=>(cases n <;> simp[flat] at fe)
  | fn _=>(cases n <;> simp[flat] at fe)
  | dic _=>(cases n <;> simp[flat] at fe)
 | str p =>
  obtain⟨t1,rfl⟩:=ru
  cases ry with
  | aI =>
   cases aP;simp only[aK]; exact RcAt.str_none _ _
  | bl q =>
   cases aP;simp only[aK]; exact RcAt.str_bool _ _ _
  | int q =>
   obtain⟨t2,rfl⟩:=aP;simp only[aK]; exact RcAt.str_int _ _ _ _
  | str q =>
   obtain⟨t2,rfl⟩:=aP;simp only[aK]; rw[<- pD]; exact RcAt.str_str _ _ _ _
  | tup k1 k2 k3 k4 =>
   cases aP; obtain⟨its2,r2,t2⟩:=Inv.h9 I k2
   simp only[aK]; exact RcAt.str_tuple _ _ t2 bZ
  | lst k1 k2 k3 k4 =>
   cases aP; obtain⟨its2,r2,t2⟩:=Inv.hZ I k2
   simp only[aK]; exact RcAt.str_list _ _ t2 bZ
  | aC k1 k2 k3 k4=>(cases n <;> simp[flat] at fe)
  | exc k1 k2=>(cases n <;> simp[flat] at fe)
  | xd k1 k2=>(cases n <;> simp[flat] at fe)
  | fn _=>(cases n <;> simp[flat] at fe)
  | dic _=>(cases n <;> simp[flat] at fe)
 | tup h1 h2 h3 h4 =>
  cases ru; obtain⟨its1,r1,t1⟩:=Inv.h9 I h2
  cases ry with
  | aI =>
   cases aP;simp only[aK]; exact RcAt.tuple_none t1 bZ
  | bl q =>
   cases aP;simp only[aK]; exact RcAt.tuple_bool _ t1 bZ
  | int q =>
   obtain⟨t2,rfl⟩:=aP;simp only[aK]; exact RcAt.tuple_int _ _ t1 bZ
  | str q =>
   obtain⟨t2,rfl⟩:=aP;simp only[aK]; exact RcAt.tuple_str _ _ t1 bZ
  | tup k1 k2 k3 k4 =>
   cases aP; obtain⟨its2,r2,t2⟩:=Inv.h9 I k2
   simp only[aK]; exact Mp I n A bZ t1 t2 r1 r2 h3 k3 h4 k4 fd fe ih
  | lst k1 k2 k3 k4 =>
   cases aP; obtain⟨its2,r2,t2⟩:=Inv.hZ I k2
   simp only[aK]; exact RcAt.tuple_list t1 t2 bZ
  | aC k1 k2 k3 k4=>(cases n <;> simp[flat] at fe)
  | exc k1 k2=>(cases n <;> simp[flat] at fe)
  | xd k1 k2=>(cases n <;> simp[flat] at fe)
  | fn _=>(cases n <;> simp[flat] at fe)
  | dic _=>(cases n <;> simp[flat] at fe)
 | lst h1 h2 h3 h4 =>
  cases ru; obtain⟨its1,r1,t1⟩:=Inv.hZ I h2
  cases ry with
  | aI =>
   cases aP;simp only[aK]; exact RcAt.list_none t1 bZ
  | bl q =>
   cases aP;simp only[aK]; exact RcAt.list_bool _ t1 bZ
  | int q =>
   obtain⟨t2,rfl⟩:=aP;simp only[aK]; exact RcAt.list_int _ _ t1 bZ
  | str q =>
   obtain⟨t2,rfl⟩:=aP;simp only[aK]; exact RcAt.list_str _ _ t1 bZ
  | tup k1 k2 k3 k4 =>
   cases aP; obtain⟨its2,r2,t2⟩:=Inv.h9 I k2
   simp only[aK]; exact RcAt.list_tuple t1 t2 bZ
  | lst k1 k2 k3 k4 =>
   cases aP; obtain⟨its2,r2,t2⟩:=Inv.hZ I k2
   simp only[aK]; exact Mr I n A bZ t1 t2 r1 r2 h3 k3 h4 k4 fd fe ih
  | aC k1 k2 k3 k4=>(cases n <;> simp[flat] at fe)
  | exc k1 k2=>(cases n <;> simp[flat] at fe)
  | xd k1 k2=>(cases n <;> simp[flat] at fe)
  | fn _=>(cases n <;> simp[flat] at fe)
  | dic _=>(cases n <;> simp[flat] at fe)
 | aC h1 h2 h3 h4=>(cases n <;> simp[flat] at fd)
 | exc h1 h2=>(cases n <;> simp[flat] at fd)
 | xd h1 h2=>(cases n <;> simp[flat] at fd)
 | fn _=>(cases n <;> simp[flat] at fd)
 | dic _=>(cases n <;> simp[flat] at fd)
theorem Mt(I:Inv X pins σ H s)(n:Nat)(A:Wt)(x y:V)(u w:Value)(d e:D)(bZ:A.units < WT)(fd:flat n d=true)(fe:flat n e=true)(ih:nQ H s A n)(rx:Rep H dX x d)(ry:Rep H dX y e)(ru:RelV x u)(aP:RelV y w):RcNeAt A s u w (!aK d e):=by
 cases rx with
 | aI =>
  cases ru
  cases ry with
  | aI =>
   cases aP;simp only[aK]; exact RcNeAt.none_none
  | bl q =>
   cases aP;simp only[aK]; exact RcNeAt.none_bool _
  | int q =>
   obtain⟨t2,rfl⟩:=aP;simp only[aK]; exact RcNeAt.none_int _ _
  | str q =>
   obtain⟨t2,rfl⟩:=aP;simp only[aK]; exact RcNeAt.none_str _ _
  | tup k1 k2 k3 k4 =>
   cases aP; obtain⟨its2,r2,t2⟩:=Inv.h9 I k2
   simp only[aK]; exact RcNeAt.none_tuple t2 bZ
  | lst k1 k2 k3 k4 =>
   cases aP; obtain⟨its2,r2,t2⟩:=Inv.hZ I k2
   simp only[aK]; exact RcNeAt.none_list t2 bZ
  | aC k1 k2 k3 k4=>(cases n <;> simp[flat] at fe)
  | exc k1 k2=>(cases n <;> simp[flat] at fe)
  | xd k1 k2=>(cases n <;> simp[flat] at fe)
  | fn _=>(cases n <;> simp[flat] at fe)
  | dic _=>(cases n <;> simp[flat] at fe)
 | bl p =>
  cases ru
  cases ry with
  | aI =>
   cases aP;simp only[aK]; exact RcNeAt.bool_none _
  | bl q =>
   cases aP;simp only[aK]; exact RcNeAt.bool_bool _ _
  | int q =>
   obtain⟨t2,rfl⟩:=aP;simp only[aK]; exact RcNeAt.bool_int _ _ _
  | str q =>
   obtain⟨t2,rfl⟩:=aP;simp only[aK]; exact RcNeAt.bool_str _ _ _
  | tup k1 k2 k3 k4 =>
   cases aP; obtain⟨its2,r2,t2⟩:=Inv.h9 I k2
   simp only[aK]; exact RcNeAt.bool_tuple _ t2 bZ
  | lst k1 k2 k3 k4 =>
   cases aP; obtain⟨its2,r2,t2⟩:=Inv.hZ I k2
   simp only[aK]; exact RcNeAt.bool_list _ t2 bZ
  | aC k1 k2 k3 k4=>(cases n <;> simp[flat] at fe)
  | exc k1 k2=>(cases n <;> simp[flat] at fe)
  | xd k1 k2=>(cases n <;> simp[flat] at fe)
  | fn _=>(cases n <;> simp[flat] at fe)
  | dic _=>(cases n <;> simp[flat] at fe)
 | int p =>
  obtain⟨t1,rfl⟩:=ru
  cases ry with
  | aI =>
   cases aP;simp only[aK]; exact RcNeAt.int_none _ _
  | bl q =>
   cases aP;simp only[aK]; exact RcNeAt.int_bool _ _ _
  | int q =>
   obtain⟨t2,rfl⟩:=aP;simp only[aK]; exact RcNeAt.int_int _ _ _ _
  | str q =>
   obtain⟨t2,rfl⟩:=aP;simp only[aK]; exact RcNeAt.int_str _ _ _ _
  | tup k1 k2 k3 k4 =>
   cases aP; obtain⟨its2,r2,t2⟩:=Inv.h9 I k2
   simp only[aK]; exact RcNeAt.int_tuple _ _ t2 bZ
  | lst k1 k2 k3 k4 =>
   cases aP; obtain⟨its2,r2,t2⟩:=Inv.hZ I k2
   simp only[aK]; exact RcNeAt.int_list _ _ t2 bZ
  | aC k1 k2 k3 k4=>(cases n <;> simp[flat] at fe)
  | exc k1 k2=>(cases n <;> simp[flat] at fe)
  | xd k1 k2=>(cases n <;> simp[flat] at fe)
  | fn _=>(cases n <;> simp[flat] at fe)
  | dic _=>(cases n <;> simp[flat] at fe)
 | str p =>
  obtain⟨t1,rfl⟩:=ru
  cases ry with
  | aI =>
   cases aP;simp only[aK]; exact RcNeAt.str_none _ _
  | bl q =>
   cases aP;simp only[aK]; exact RcNeAt.str_bool _ _ _
  | int q =>
   obtain⟨t2,rfl⟩:=aP;simp only[aK]; exact RcNeAt.str_int _ _ _ _
  | str q =>
   obtain⟨t2,rfl⟩:=aP;simp only[aK]; rw[<- pD]; exact RcNeAt.str_str _ _ _ _
  | tup k1 k2 k3 k4 =>
   cases aP; obtain⟨its2,r2,t2⟩:=Inv.h9 I k2
   simp only[aK]; exact RcNeAt.str_tuple _ _ t2 bZ
  | lst k1 k2 k3 k4 =>
   cases aP; obtain⟨its2,r2,t2⟩:=Inv.hZ I k2
   simp only[aK]; exact RcNeAt.str_list _ _ t2 bZ
  | aC k1 k2 k3 k4=>(cases n <;> simp[flat] at fe)
  | exc k1 k2=>(cases n <;> simp[flat] at fe)
  | xd k1 k2=>(cases n <;> simp[flat] at fe)
  | fn _=>(cases n <;> simp[flat] at fe)
  | dic _=>(cases n <;> simp[flat] at fe)
 | tup h1 h2 h3 h4 =>
  cases ru; obtain⟨its1,r1,t1⟩:=Inv.h9 I h2
  cases ry with
  | aI =>
   cases aP;simp only[aK]; exact RcNeAt.tuple_none t1 bZ
  | bl q =>
   cases aP;simp only[aK]; exact RcNeAt.tuple_bool _ t1 bZ
  | int q =>
   obtain⟨t2,rfl⟩:=aP;simp only[aK]; exact RcNeAt.tuple_int _ _ t1 bZ
  | str q =>
   obtain⟨t2,rfl⟩:=aP;simp only[aK]; exact RcNeAt.tuple_str _ _ t1 bZ
  | tup k1 k2 k3 k4 =>
   cases aP; obtain⟨its2,r2,t2⟩:=Inv.h9 I k2
   simp only[aK]; exact Mq I n A bZ t1 t2 r1 r2 h3 k3 h4 k4 fd fe ih
  | lst k1 k2 k3 k4 =>
   cases aP; obtain⟨its2,r2,t2⟩:=Inv.hZ I k2
   simp only[aK]; exact RcNeAt.tuple_list t1 t2 bZ
  | aC k1 k2 k3 k4=>(cases n <;> simp[flat] at fe)
  | exc k1 k2=>(cases n <;> simp[flat] at fe)
  | xd k1 k2=>(cases n <;> simp[flat] at fe)
  | fn _=>(cases n <;> simp[flat] at fe)
  | dic _=>(cases n <;> simp[flat] at fe)
 | lst h1 h2 h3 h4 =>
  cases ru; obtain⟨its1,r1,t1⟩:=Inv.hZ I h2
  cases ry with
  | aI =>
   cases aP;simp only[aK]; exact RcNeAt.list_none t1 bZ
  | bl q =>
   cases aP;simp only[aK]; exact RcNeAt.list_bool _ t1 bZ
  | int q =>
   obtain⟨t2,rfl⟩:=aP;simp only[aK]; exact RcNeAt.list_int _ _ t1 bZ
  | str q =>
   obtain⟨t2,rfl⟩:=aP;simp only[aK]; exact RcNeAt.list_str _ _ t1 bZ
  | tup k1 k2 k3 k4 =>
   cases aP; obtain⟨its2,r2,t2⟩:=Inv.h9 I k2
   simp only[aK]; exact RcNeAt.list_tuple t1 t2 bZ
  | lst k1 k2 k3 k4 =>
   cases aP; obtain⟨its2,r2,t2⟩:=Inv.hZ I k2
   simp only[aK]; exact Ms I n A bZ t1 t2 r1 r2 h3 k3 h4 k4 fd fe ih
  | aC k1 k2 k3 k4=>(cases n <;> simp[flat] at fe)
  | exc k1 k2=>(cases n <;> simp[flat] at fe)
  | xd k1 k2=>(cases n <;> simp[flat] at fe)
  | fn _=>(cases n <;> simp[flat] at fe)
  | dic _=>(cases n <;> simp[flat] at fe)
 | aC h1 h2 h3 h4=>(cases n <;> simp[flat] at fd)
 | exc h1 h2=>(cases n <;> simp[flat] at fd)
 | xd h1 h2=>(cases n <;> simp[flat] at fd)
 | fn _=>(cases n <;> simp[flat] at fd)
 | dic _=>(cases n <;> simp[flat] at fd)
theorem C_(h:RcAt A s u w k)(hs:u=w->k=true)(hf:∀ b t,u≠Value.float b t):EqAt A s u w k:=λprog w' E Q hq=>by
 unfold eqBool;refine Ql ?_;refine wpAny_ite_split (λkm=>?_) (λ_=>?_)
 ·have e:=eq_of_beq km;rw[hs e] at hq;exact W0 (Ja (W7 hq))
 ·cases u with
  | float b t=>exact absurd rfl (hf b t)
  | _=>exact W0 (h prog w' E _ (Qo hq))
theorem Dc(r:Rep H dX x d)(ru:RelV x u)(b:UInt64)(t:Tok):u≠Value.float b t:=by
 intro e;subst e
 cases r <;> first | (cases ru; done) | (obtain⟨t',e⟩:=ru; cases e)
theorem Mu(I:Inv X pins σ H s)(n:Nat):wO H s n:=by
 induction n with
 | zero =>
  intro A x y u w d e hu fd fe rx ry ru aP;refine C_ (wR I 0 A x y u w d e (by omega) fd fe trivial rx ry ru aP) (λh=>?_) (Dc rx ru);subst h;have:=ru.inj aP;subst this;rw[Rep.inj rx fd fe ry];exact wM fe
 | succ n ih =>
  intro A x y u w d e hu fd fe rx ry ru aP;refine C_ (wR I (n + 1) A x y u w d e (by omega) fd fe ⟨by omega,ih⟩ rx ry ru aP) (λh=>?_) (Dc rx ru);subst h;have:=ru.inj aP;subst this;rw[Rep.inj rx fd fe ry];exact wM fe
theorem Dd(I:Inv X pins σ H s):∀ n:Nat,A.units + n + 1 < WT->nQ H s A n
 | 0,_=>trivial
 | n + 1,h=>⟨by omega,Mu I n⟩
def De:R2:=λx y H Q=>∃ d e,Rep H dX x d/\Rep H dX y e/\flat 50 d=true/\flat 50 e=true/\Q (.bl (aK d e)) H
def Df:R2:=λx y H Q=>∃ d e,Rep H dX x d/\Rep H dX y e/\flat 50 d=true/\flat 50 e=true/\Q (.bl (!aK d e)) H
theorem gR(hu:X.A.units + 64 < WT):bP X (WL .Eq) De:=by
 intro pins s σ H x y v u Q I rx ry h;obtain⟨d,e,r1,r2,f1,f2,q⟩:=h;exact wR I 50 X.A x y v u d e (by omega) f1 f2 (Dd I 50 (by omega)) r1 r2 rx ry X.prog X.w X.xe _ ⟨.bl _,H,I,rfl,q⟩
theorem k9(hu:X.A.units + 64 < WT):bP X (WL .NotEq) Df:=by
 intro pins s σ H x y v u Q I rx ry h;obtain⟨d,e,r1,r2,f1,f2,q⟩:=h;exact Mt I 50 X.A x y v u d e (by omega) f1 f2 (Dd I 50 (by omega)) r1 r2 rx ry X.prog X.w X.xe _ ⟨.bl _,H,I,rfl,q⟩
end
def cu{α:Type}(xs:List α)(lo hi:Option Int):List α:=(xs.drop (HT.aX xs.length 0 lo)).take (HT.aX xs.length xs.length hi - HT.aX xs.length 0 lo)
theorem Dg(xs:List V)(lo hi:Option Int):cu xs lo hi=l6 xs lo hi:=rfl
theorem wU(xs:List α)(lo hi:Option Int):(cu xs lo hi).length<=xs.length:=by
 unfold cu;rw[JW,List.length_drop];omega
theorem aN.cut(lo hi:Option Int)(h:aN H O vs ds):aN H O (cu vs lo hi) (cu ds lo hi):=by
 unfold cu;rw[h.1];exact aN.take _ (aN.drop _ h)
theorem Mv{α:Type}{xs:List α}{lo hi:Option Int}(h:HT.aX xs.length 0 lo=0/\HT.aX xs.length xs.length hi=xs.length):cu xs lo hi=xs:=by
 unfold cu;rw[h.1,h.2];simp
section
variable {prog:Wm} {w:Wr} {A:Wt} {E:Value->W2->Prop} {s:W2}
theorem Mw{t sl:Addr}{items:Array Value}{vl vu:Value}{lo hi:Option Int}{Q:Value->W2->Prop}(ht:IsTup s.heap t items)(hs:s.heap.IsSliceOf sl vl vu .none)(pl:IsPart vl lo)(pu:IsPart vu hi)
  (hw:HT.aX items.size 0 lo=0/\HT.aX items.size items.size hi=items.size) (h:Q (.ref t) s):Wf (model prog w) A (JL (.ref t) (.ref sl)) Q E s:=by
 obtain⟨os,hos,hcs,hds⟩:=id hs;have v9:s.TypeIs (.ref sl) "slice":=⟨os,hos,hcs⟩
 unfold JL;try with_reducible refine Ql ?_
 first | refine W0 (W7 ?_) | skip
 refine W0 (wpAny_sequenceKey ht.typeIs (by decide) ?_);refine W0 (WY (name:=Str.ofString "__getitem__") ht.typeIs QJ
  (WW QJ ht.typeIs entry_tuple_getitem ?_ (args_tuple_getitem _ _)))
 show Wf _ _ (Builtin.Tuple.tupleItemsOf (.ref t) >>= _) _ _ s;refine W0 (tupleItemsOf_ ht ?_);refine W0 (JC v9 ?_);rw[if_pos (by decide)];refine W0 (HT.Ci hs pl pu ?_);show Wf _ _ (if (((HT.aX items.size 0 lo:Nat):Int) == 0 && (1:Int) == 1 && (HT.aX items.size items.size hi - HT.aX items.size 0 lo) == items.size)=true then _ else _) _ _ s;rw[hw.1,hw.2];rw[if_pos (by simp)];refine W0 (m:=Builtin.Tuple.tupleIsExact (.ref t)) ?_;unfold Builtin.Tuple.tupleIsExact;refine W0 (JC ht.typeIs (W7 ?_));rw[if_pos (by decide)];exact W0 (Ja (W0 (W7 (W7 ⟨_,rfl,W7 h⟩))))
end
section
variable {X:Cx}
def Dh(K:W1):V->Option Int->Option Int->Hp->VK->Prop:=λx lo hi H Q=>∃ a xs,x = .ref a/\cR K H a xs /\
 ((HT.aX xs.length 0 lo=0/\HT.aX xs.length xs.length hi=xs.length)->Q (.ref a) H)/\(¬ (HT.aX xs.length 0 lo=0/\HT.aX xs.length xs.length hi=xs.length)->∀ p,H p=none->Q (.ref p) (upd H p (.tup (l6 xs lo hi))))
theorem Mx:kj X (Dh X.K):=by
 intro pins s σ H x v vl vu lo hi sl Q I rx hs pl pu h;obtain⟨a,xs,rfl,hx,q1,q2⟩:=h;by_cases hw:HT.aX xs.length 0 lo=0/\HT.aX xs.length xs.length hi=xs.length
 ·cases rx;obtain⟨aj,r,ht,hz⟩:=I.tuple hx;have hlen:aj.toArray.size=xs.length:=by rw[Wo]; exact r.length.symm
  refine⟨"tuple",_,PyProof.Rows.slot_tuple_getitem.lookup,ht.typeIs,?_⟩;exact Mw ht hs pl pu (by rw[hlen]; exact hw) ⟨.ref a,H,I,rfl,q1 hw⟩
 ·exact K9 pins s σ H (.ref a) v vl vu lo hi sl Q I rx hs pl pu ⟨a,xs,rfl,hx,hw,q2 hw⟩
theorem My(a b:Nat):sliceRange (a:Int) (b:Int) 1=(W3 (b - a)).map (λk=>a + k):=by
 have h0:((1:Int) > 0)=True:=by simp
 unfold sliceRange;simp only[h0,if_true];by_cases bx:(a:Int) < (b:Int)
 ·rw[if_pos bx];have e3:(((b:Int) - (a:Int) + 1 - 1) / 1).toNat=b - a:=by
   rw[Int.ediv_one]; omega
  rw[e3];refine Jw λk _=>?_
  omega
 ·rw[if_neg bx];have:b - a=0:=by omega
  rw[this];rfl
theorem Di(lo hi:Option Int)(n:Nat):QA lo hi 1 n=(W3 (HT.aX n n hi - HT.aX n 0 lo)).map (λk=>HT.aX n 0 lo + k):=by
 have c:∀ (i:Int) (d:Nat),max 0 (min (if i < 0 then i + (n:Int) else i) (n:Int))=((HT.aX n d (some i):Nat):Int):=by
  intro i d;show max 0 (min (if i < 0 then i + (n:Int) else i) (n:Int))=(((if i < 0 then(i + (n:Int)).toNat else min i.toNat n):Nat):Int);by_cases hi:i < 0
  ·simp only[if_pos hi]; omega
  ·simp only[if_neg hi]; omega
 have h0:((1:Int) > 0)=True:=by simp
 rw[<- My];unfold QA;simp only[h0,if_true]
 cases lo with
 | none =>
  cases hi with
  | none=>rfl
  | some j=>show sliceRange 0 (max 0 (min (if j < 0 then j + (n:Int) else j) (n:Int))) 1=_; rw[c j n]; rfl
 | some i =>
  cases hi with
  | none=>show sliceRange (max 0 (min (if i < 0 then i + (n:Int) else i) (n:Int))) (n:Int) 1=_; rw[c i 0]; rfl
  | some j=>show sliceRange (max 0 (min (if i < 0 then i + (n:Int) else i) (n:Int))) (max 0 (min (if j < 0 then j + (n:Int) else j) (n:Int))) 1=_; rw[c i 0,c j n]
theorem Mz(x:Tx)(lo hi:Option Int):(⟨((QA lo hi 1 (toS x).length).filterMap ((toS x).cps[·]?)).toArray⟩:Str)=toS (cu x lo hi):=by
 unfold toS;congr 1
 rw[Di];have:=pick_run (x.toArray) (HT.aX x.length 0 lo) (HT.aX x.length x.length hi - HT.aX x.length 0 lo);have hl:({ cps:=x.toArray }:Str).length=x.length:=by simp[Str.length]
 rw[hl];rw[this];rfl
def Dj:V->Option Int->Option Int->Hp->VK->Prop:=λx lo hi H Q=>∃ z:Tx,x = .str (toS z)/\z.length<=We/\Q (.str (toS (cu z lo hi))) H
theorem Dk(p:IsPart v o):∃ q:Option (Int×Tok),v=partValue q/\q.map (·.1)=o:=by
 cases p with
 | none=>exact⟨none,rfl,rfl⟩
 | int i t=>exact⟨some (i,t),rfl,rfl⟩
theorem MA:kj X Dj:=by
 intro pins s σ H x v vl vu lo hi sl Q I rx hs pl pu h;obtain⟨z,rfl,hz,q⟩:=h;obtain⟨t,rfl⟩:=rx;obtain⟨l,rfl,el⟩:=Dk pl;obtain⟨u,rfl,eu⟩:=Dk pu;obtain⟨o,ho,hc,hd⟩:=hs;refine⟨"str",_,F.slot_str_getitem.lookup,typeIs_str s _ t,?_⟩;refine wpAny_getItem_str_slice (l:=l) (u:=u) (st:=none) ⟨o,ho,hc,hd⟩ rfl ?_;unfold sliceMade;have e:(slicePicked (toS z) l u none)=QA lo hi 1 (toS z).length:=by
  unfold slicePicked;rw[el,eu];rfl
 rw[e];by_cases hw:(((none:Option (Int×Tok)).map (·.1)).getD 1 == 1 && (QA lo hi 1 (toS z).length).length == (toS z).length)=true
 ·rw[if_pos hw];refine⟨.str (toS (cu z lo hi)),H,I,⟨t,?_⟩,q⟩;congr 1
  rw[Ww] at hw;have wV:=eq_of_beq hw.2;rw[Di,Q9,List.length_range,jQ] at wV;have h1:=HT.vZ z.length 0 (Qg _) lo;have h2:=HT.vZ z.length z.length (Wg _) hi;unfold cu;congr 1
  by_cases h0:z.length=0
  ·have:z=[]:=List.eq_nil_of_length_eq_zero h0;subst this;simp
  ·have a1:HT.aX z.length 0 lo=0:=by omega
   rw[a1] at wV ⊢;rw[wV];simp
 ·rw[if_neg hw];show Made.post (.str _) _ _;rw[Mz];exact⟨by rw[jQ]; exact Ws (wU z lo hi) hz,.str (toS (cu z lo hi)),H,I.tok _,⟨_,rfl⟩,q⟩
theorem MB:bP X (WV .Add) (λx y H Q=>∃ a b ys,x = .ref a/\y = .ref b/\cR X.K H a []/\cR X.K H b ys/\Q (.ref b) H):=by
 intro pins s σ H x y v u Q I rx ry h;obtain⟨a,b,ys,rfl,rfl,ha,hb,q⟩:=h
 cases rx
 cases ry;obtain⟨aj,r1,p1,_⟩:=I.tuple ha;obtain⟨its2,r2,p2,_⟩:=I.tuple hb
 cases r1;obtain⟨⟨cls,dd,data,sl⟩,ho,hc,n,hd⟩:=id p1;obtain⟨⟨cls2,nF,data2,l5⟩,kT,hc2,n2,hd2⟩:=id p2;simp only at hc hd hc2 hd2;subst hc hd hc2 hd2;exact concat_meets ⟨_,ho,rfl⟩ ⟨_,kT,rfl⟩ noFill_tuple_add seq_tuple_add PySem.F.slot_tuple_add PySem.F.entry_tuple_add (PySem.F.args_tuple_add_2 _ _)
   (tuple_addW0 a b #[] its2.toArray n n2 dd nF sl l5 rfl) ⟨ho,kT,.ref b,H,I,rfl,q⟩
def Dm(K:W1):R2:=λx y H Q=>∃ l b xs zs,x = .ref l/\y = .ref b/\cK K H l xs/\cK K H b zs/\xs.length + zs.length<=We/\∀ p,H p=none->Q (.ref p) (upd H p (.lst (xs ++ zs)))
theorem MC:bP X (WV .Add) (Dm X.K):=by
 intro pins s σ H x y v u Q I rx ry h;obtain⟨l,b,xs,zs,rfl,rfl,hH,hB,hz,q⟩:=h
 cases rx
 cases ry;obtain⟨aj,r,⟨⟨cls,dd,data,sl⟩,n,e,hc,kn,hd⟩,z⟩:=I.list hH;obtain⟨its2,r2,⟨⟨cls2,nF,data2,l5⟩,n2,e2,hc2,hdd2,hd2⟩,z2⟩:=I.list hB;simp only at hc hd kn hc2 hd2 hdd2;subst hc hd kn hc2 hd2 hdd2;have hl:=r.length;have ko:=r2.length;refine concat_meets ⟨_,e,rfl⟩ ⟨_,e2,rfl⟩ noFill_list_add seq_list_add PySem.F.slot_list_add PySem.F.entry_list_add (PySem.F.args_list_add_2 _ _)
   (list_addW l b aj.toArray its2.toArray n n2 none none sl l5 (by rw[Wo,Wo]; omega)) ⟨e,e2,?_⟩
 have ea:aj.toArray ++ its2.toArray=(aj ++ its2).toArray:=by simp
 rw[ea];exact⟨.ref _,_,I.Lv (t':=s.toks) (r.append r2) (by rw[Qi]; omega),rfl,q _ I.fresh⟩
theorem uh:∀ {ys:List Str} {us:List Value},Vals (ys.map V.str) us->StrsAre us ys
 | [],us,r=>by cases r; exact .nil
 | y :: ys,us,r=>by
  cases r with
  | cons r1 r2 =>
   obtain⟨t,rfl⟩:=r1;exact .cons y t (uh r2)
theorem Dn:∀ {ys:List Str} {us:List Value},StrsAre us ys->Vals (ys.map V.str) us
 | _,_,.nil=>.nil
 | _,_,.cons y t h=>.cons ⟨t,rfl⟩ (Dn h)
def ui(K:W1):V->List V->Hp->VK->Prop:=λx vs H Q=>∃ (z:Str) (a:Addr) (ys:List Str),x = .str z/\vs=[.ref a]/\(cK K H a (ys.map V.str)\/cR K H a (ys.map V.str)) /\
 (ys.map (·.length)).sum + ys.length * z.length<=16777216/\Q (.str (Txt.join z ys)) H
theorem MD:tL X "str.join" (ui X.K):=by
 intro pins s σ H x vs v us Q I rx rv h;obtain⟨z,a,ys,rfl,rfl,hq,hz,q⟩:=h;obtain⟨t,rfl⟩:=rx;obtain⟨u,rfl,ru⟩:=rv.one
 cases ru;rcases hq with hq | hq
 ·obtain⟨aj,r,p,_⟩:=I.list hq;exact join_list p.isList (by simpa using uh r) hz λt' k=>⟨.str _,H,I.tok _,⟨t',rfl⟩,q⟩
 ·obtain⟨aj,r,p,_⟩:=I.tuple hq;exact join_tuple p (by simpa using uh r) hz λt' k=>⟨.str _,H,I.tok _,⟨t',rfl⟩,q⟩
theorem Dp:∀ {bs:List Bool} {us:List Value},Vals (bs.map V.bl) us->∀ (i:Nat) v,us[i]? = some v->∃ b,bs[i]? = some b/\v = .bool b
 | [],us,r,i,v,e=>by cases r; simp at e
 | b :: bs,us,r,i,v,e=>by
  cases r with
  | cons r1 r2 =>
   cases i with
   | zero =>
    simp at e;subst e;exact⟨b,rfl,r1⟩
   | succ i=>exact Dp r2 i v (by simpa using e)
theorem Dq:∀ bs:List Bool,((W3 bs.length).all λi=>(bs[i]?).getD true)=bs.all id
 | []=>rfl
 | b :: bs=>by
  rw[WP,List.range_succ_eq_map,JU,JF];have:=Dq bs;simp only[List.getElem?_cons_zero,Option.getD_some,JU,id];rw[<- this];rfl
theorem ME (hc:X.calm=true):eK X (.builtin "all") (λxs H Q=>∃ (a:Addr) (bs:List Bool),xs=[.ref a]/\cK X.K H a (bs.map V.bl)/\Q (.bl (bs.all (λb=>b))) H):=by
 intro pins s σ H xs us Q I r h;obtain⟨a,bs,rfl,hq,q⟩:=h;obtain⟨u,rfl,ru⟩:=gO r
 cases ru;obtain⟨aj,r',p,_⟩:=I.list hq;have hl:=p.isList;have bx:a < s.heap.objs.size:=by obtain⟨_,e,_⟩:=hl; exact Wp e
 have hlen:=r'.length;rw[Q9] at hlen;refine call_all_walk (JO hl ?_);refine⟨s.heap.objs.size,[s.heap.objs.size,a],[s.heap.objs.size],aj.toArray.size,_,_,λi=>(bs[i]?).getD true,rfl,Walks.list (A:=X.A.in1) (I.ok.hd hc) _ a (WS bx) aj.toArray,
  ⟨⟨_,Wn _ rfl,rfl,rfl⟩,hl.push _⟩,λi v s' Q' E' hP hQ=>?_,λh' tk hk=>?_⟩
 ·obtain⟨b,e,rfl⟩:=Dp r' i v (by simpa using hP);simp only[e,Option.getD_some] at hQ;exact Qo hQ
 ·have e:((W3 aj.toArray.size).all λi=>(bs[i]?).getD true)=bs.all id:=by
   rw[Wo,<- hlen]; exact Dq bs
  rw[e];exact⟨.bl _,H,I.kept λb o e=>hk b o (λhm=>by rw[List.mem_singleton.mp hm] at e; exact Qt _ (Wp e)) (Wd _ e),rfl,q⟩
def k_(x:Tx):List Tx->List Tx
 | []=>[x]
 | y :: r=>if y < x then y :: k_ x r else x :: y :: r
def iJ:List Tx->List Tx
 | []=>[]
 | x :: r=>k_ x (iJ r)
theorem wW(x:Tx):∀ l:List Tx,(k_ x l).Perm (x :: l)
 | []=>.refl _
 | y :: r=>by
  unfold k_;split
  ·exact((wW x r).cons y).trans (.swap x y r)
  ·exact .refl _
theorem wX:∀ l:List Tx,(iJ l).Perm l
 | []=>.refl _
 | x :: r=>(wW x _).trans ((wX r).cons x)
abbrev jg(a b:Tx):Prop:=¬ b < a
theorem Dr(h1:jg a b)(h2:jg b c):jg a c:=List.not_lt.mpr (List.le_trans (List.not_lt.mp h1) (List.not_lt.mp h2))
theorem MF(h1:jg a b)(h2:jg b a):a=b:=List.le_antisymm (List.not_lt.mp h1) (List.not_lt.mp h2)
theorem Ds(x:Tx):∀ l:List Tx,l.Pairwise jg->(k_ x l).Pairwise jg
 | [],_=>by simp[k_]
 | y :: r,h=>by
  unfold k_;obtain⟨h1,h2⟩:=List.pairwise_cons.mp h;split
  ·rename_i bx;refine JG.mpr ⟨λz hz=>?_,Ds x r h2⟩;rcases Wl.mp ((wW x r).mem_iff.mp hz) with e | hz
   ·subst e;intro q;exact absurd (List.lt_trans bx q) (List.lt_irrefl _)
   ·exact h1 z hz
  ·rename_i hge;refine JG.mpr ⟨λz hz=>?_,h⟩;rcases Wl.mp hz with e | hz
   ·subst e; exact hge
   ·exact Dr hge (h1 z hz)
theorem Dt:∀ l:List Tx,(iJ l).Pairwise jg
 | []=>.nil
 | x :: r=>Ds x _ (Dt r)
theorem MG(hp:l'.Perm l)(hs:l'.Pairwise jg):l'=iJ l :=
 List.Perm.eq_of_pairwise (λ_ _ _ _ h1 h2=>MF h1 h2) hs (Dt l) (hp.trans (wX l).symm)
theorem Du:∀ (x:Str) (r:List Str),risingS x r=true->((x :: r).map λz:Str=>z.cps.toList).Pairwise jg
 | x,[],_=>by simp
 | x,y :: r,h=>by
  have h':(!ltCps y.cps.toList x.cps.toList && risingS y r)=true:=h;rw[Ww] at h';have ih:=Du y r h'.2;have qX:jg x.cps.toList y.cps.toList:=by
   have:=h'.1;rw[ltCps_eq] at this;simpa using this
  rw[Wu];refine JG.mpr ⟨λz hz=>?_,ih⟩;rw[Wu] at hz ih;rcases Wl.mp hz with e | hz
  ·subst e; exact qX
  ·exact Dr qX ((List.pairwise_cons.mp ih).1 z hz)
theorem MH:eK X (.builtin "sorted") (λxs H Q=>∃ (a:Addr) (ts:List Tx),xs=[.ref a]/\cK X.K H a (ts.map λz=>V.str (toS z))/\ts.length < 64/\∀ p,H p=none->Q (.ref p) (upd H p (.lst ((iJ ts).map λz=>V.str (toS z))))):=by
 intro pins s σ H xs us Q I r h;obtain⟨a,ts,rfl,hq,hz,q⟩:=h;obtain⟨u,rfl,ru⟩:=gO r
 cases ru;obtain⟨aj,r',p,_⟩:=I.list hq;have r2:Vals ((ts.map toS).map V.str) aj:=by rw[Wy]; exact r'
 have hlen:=r'.length;rw[Q9] at hlen;refine sorted_strs p.isList (uh r2) (by omega) λout ss hS hp hs=>?_
 have e:ss=(iJ ts).map toS:=by
  have MI:(ss.map λz:Str=>z.cps.toList).Pairwise jg:=by
   cases ss with
   | nil=>simp
   | cons x r=>exact Du x r hs
  have wY:(ss.map λz:Str=>z.cps.toList).Perm ts:=by
   have:=hp.map λz:Str=>z.cps.toList
   rw[Wy] at this;have e2:ts.map ((λz:Str=>z.cps.toList) ∘ toS)=ts:=by
    rw[show((λz:Str=>z.cps.toList) ∘ toS)=id from funext λz=>t_ z,List.map_id]
   rw[e2] at this;exact this
  rw[<- MG wY MI,Wy];have:(toS ∘ λz:Str=>z.cps.toList)=id:=funext λz=>(C5 z).symm
  rw[this,List.map_id]
 obtain⟨ep,he⟩:=sortedAll_at s.heap aj out;have hv:Vals ((iJ ts).map λz=>V.str (toS z)) out.toList:=by
  have:=Dn hS;rw[e,Wy] at this;exact this
 have ko:((iJ ts).map λz=>V.str (toS z)).length<=We:=by
  rw[Q9,(wX ts).length_eq];exact Ws (QC hz) (by rw[sizeLine_eq]; decide)
 refine⟨.ref (s.heap.objs.size + 1),_,I.laid (a:=s.heap.objs.size + 1) (o:=.lst ((iJ ts).map λz=>V.str (toS z))) (t':=s.toks) (λb u e=>sortedAll_old e) (Nat.le_succ _) ?_,rfl,q _ (I.aM.fresh (Nat.le_succ _))⟩;exact⟨ko,out.toList,ep,hv,by simpa[seqObj] using he⟩
end
def p2(p:D->D->Option S)(x y:D)(δ:Dl):Rs S:=match p x y with
 | some s=>.ok s δ
 | none=>.stuck
def aE(p:D->D->Option S)(fa:DE)(fb:BE):DE:=λδ=>(fa δ).bind λx δ1=>(fb δ1).bind λy δ2=>p2 p x.d y δ2
def aR(p:D->D->Option S)(i:Nat)(fb:BE):DE:=λδ=>(fb δ).bind λy δ1=>(ae i δ1).bind λx δ2=>p2 p x y δ2
def cF(r:R2)(p:D->D->Option S):Prop:=∀ (c:Fc) (σ:St) (δ:Dl) (H:Hp) (x y:V) (d e:D) (s:S) (Q:VK),Ok c σ δ H->da c σ δ H x d->da c σ δ H y e->p d e=some s ->
 (∀ v H',ba c σ δ H σ δ H'->bA c σ δ H H' v s->Q v H')->r x y H Q
section
variable {X:Cx} {c:Fc} {a b:Expr} {fa:DE} {fb:BE} {r:R2} {p:D->D->Option S} {pos:Pos}
theorem wZ(hp:cF r p)(k:Ok c σ δ H)(rx:da c σ δ H x d)(ry:da c σ δ H y e)
  (h:post c (p2 p d e δ) λs δ'=>∀ v H',ba c σ δ H σ δ' H'->bA c σ δ' H H' v s->Q v H'):r x y H Q:=by
 unfold p2 at h
 cases e1:p d e with
 | none=>rw[e1] at h; exact h.elim
 | some s=>rw[e1] at h; exact hp c σ δ H x y d e s Q k rx ry e1 h
theorem uj(hp:cF r p)(h:tD c (aE p fa fb) σ H Q):jJ r (tD c fa) (tB c fb) σ H Q:=by
 obtain⟨δ,k,q⟩:=h;refine⟨δ,k,?_⟩;unfold aE at q;rw[bM] at q;refine aY q λx δ1 q1 v H1 a1 r1=>⟨δ1,a1.ok,?_⟩
 rw[bM] at q1;refine aY q1 λy δ2 q2 u H2 a2 r2=>?_
 exact wZ hp a2.ok (.inl (Rep.dW r1.rep a2)) r2 (aY q2 λs δ3 q3 v' H3 a3 r3=>q3 v' H3 (a1.trans (a2.trans a3)) (bA.back r3 (a1.trans a2)))
theorem MJ(hp:cF r p)(h:tD c (aR p i fb) σ H Q)(hv:∀ δ,Ok c σ δ H->post c (fb δ) (λ_ _=>True)->∃ v,σ[i]? = some (some v)):jJ r (cJ i) (tB c fb) σ H Q:=by
 obtain⟨δ,k,q⟩:=h;unfold aR at q;rw[bM] at q;obtain⟨v,ev⟩:=hv δ k (aY q λ_ _ _=>trivial);refine⟨v,ev,δ,k,aY q λy δ1 q1 u H1 a1 r1=>?_⟩;rw[bM] at q1;unfold ae at q1
 cases e:δ1[i]? with
 | none=>rw[e] at q1; exact q1.elim
 | some o =>
  cases o with
  | none=>rw[e] at q1; exact q1.elim
  | some w =>
   rw[e] at q1;have w8:post c (p2 p w.d y δ1) λs δ'=>∀ v H',ba c σ δ H σ δ' H'->bA c σ δ' H H' v s->Q v H':=q1
   have rb:da c σ δ1 H1 v w.d:=by
    cases w with
    | pure d =>
     obtain⟨v',e1,r⟩:=a1.ok.slot i d e;rw[ev] at e1; cases e1
     exact .inl r
    | own d =>
     obtain⟨a,e1,r,_⟩:=a1.ok.own i d e;rw[ev] at e1; cases e1
     exact .inr ⟨a,rfl,r⟩
   exact wZ hp a1.ok rb r1 (aY w8 λs δ3 q3 v' H3 a3 r3=>q3 v' H3 (a1.trans a3) (bA.back r3 a1))
theorem uk{i:Nat}{σ:St}{δ:Dl}{H:Hp}(k:Ok c σ δ H){w:S}(e:δ[i]? = some (some w)):∃ v,σ[i]? = some (some v):=by
 cases w with
 | pure d=>obtain⟨v,e1,_⟩:=k.slot i d e; exact⟨v,e1⟩
 | own d=>obtain⟨a,e1,_⟩:=k.own i d e; exact⟨_,e1⟩
end
def ah(p:D->D->Option S)(i:Nat)(fb:BE):DE:=λδ=>match δ[i]? with
 | some (some _)=>aR p i fb δ
 | _=>.stuck
section
variable {X:Cx} {c:Fc} {a b:Expr} {fa:DE} {fb:BE} {r:R2} {p:D->D->Option S} {pos:Pos}
theorem um(hp:cF r p){i:Nat}{σ:St}{H:Hp}{Q:VK}(h:tD c (ah p i fb) σ H Q):jJ r (cJ i) (tB c fb) σ H Q:=by
 obtain⟨δ,k,q⟩:=h;unfold ah at q
 cases e:δ[i]? with
 | none=>rw[e] at q; exact q.elim
 | some o =>
  cases o with
  | none=>rw[e] at q; exact q.elim
  | some w =>
   rw[e] at q;obtain⟨v,ev⟩:=uk k e;exact MJ hp (i:=i) ⟨δ,k,q⟩ λ_ _ _=>⟨v,ev⟩
theorem cA{op:Operator}(ho:bP X (WV op) r)(hp:cF r p)(ha:SE X c a fa)(hb:SB X c b fb):SE X c (.BinOp a op b pos) (aE p fa fb):=PE.weak (vR ho ha hb) λ_ _ _ h=>uj hp h
theorem dY{op:Operator}{i:Nat}(ho:bP X (WV op) r)(hp:cF r p)(ha:PE X a (cJ i))(hb:SB X c b fb):SE X c (.BinOp a op b pos) (ah p i fb):=PE.weak (vR ho ha hb) λ_ _ _ h=>um hp h
theorem qY{op:CmpOp}(ho:bP X (WL op) r)(hp:cF r p)(ha:SE X c a fa)(hb:SB X c b fb)(hm:Qu op b=false):SE X c (.Compare a [op] [b] pos) (aE p fa fb):=PE.weak (B2 ho ha hb hm) λ_ _ _ h=>uj hp h
theorem uo{op:CmpOp}{i:Nat}(ho:bP X (WL op) r)(hp:cF r p)(ha:PE X a (cJ i))(hb:SB X c b fb)(hm:Qu op b=false):SE X c (.Compare a [op] [b] pos) (ah p i fb):=PE.weak (B2 ho ha hb hm) λ_ _ _ h=>um hp h
theorem w_(hr:hU X r)(hp:cF r p)(ha:SE X c a fa)(hb:SB X c b fb)(hs:pj b):SE X c (.Subscript a b pos) (aE p fa fb):=PE.weak (qJ hr ha hb hs) λ_ _ _ h=>uj hp h
theorem bQ{i:Nat}(hr:hU X r)(hp:cF r p)(ha:PE X a (cJ i))(hb:SB X c b fb)(hs:pj b):SE X c (.Subscript a b pos) (ah p i fb):=PE.weak (qJ hr ha hb hs) λ_ _ _ h=>um hp h
end
abbrev DT:=Dl->Rs Bool
def tT(c:Fc)(f:DT):TT:=λσ H Q=>∃ δ,Ok c σ δ H/\post c (f δ) λb δ'=>∀ H',ba c σ δ H σ δ' H'->Q b H'
abbrev ST(X:Cx)(c:Fc)(e:Expr)(f:DT):Prop:=PT X e (tT c f)
theorem PT.weak(h:PT X e t)(w:∀ σ H Q,t' σ H Q->t σ H Q):PT X e t':=λpins s σ H Q I q=>h pins s σ H Q I (w σ H Q q)
def aB(f:DE):DT:=λδ=>(f δ).bind λr δ'=>match r with
 | .pure (.bl b)=>.ok b δ'
 | _=>.stuck
section
variable {X:Cx} {c:Fc} {a b:Expr} {fa f:DE} {fb:BE} {r:R2} {p:D->D->Option S} {pos:Pos}
theorem xa(h:tT c (aB f) σ H Q):tD c f σ H λx H'=>∃ k,x = .bl k/\Q k H':=by
 obtain⟨δ,k,q⟩:=h;refine⟨δ,k,?_⟩;unfold aB at q;rw[bM] at q;refine aY q λr δ1 q1 v H1 a1 r1=>?_
 cases r with
 | own d=>exact q1.elim
 | pure d =>
  cases d <;> first | exact q1.elim | skip
  rename_i b
  cases r1;exact⟨b,rfl,q1 H1 a1⟩
theorem gh{op:CmpOp}(ho:bP X (WL op) r)(hp:cF r p)(ha:SE X c a fa)(hb:SB X c b fb)(hm:Qu op b=false):ST X c (.Compare a [op] [b] pos) (aB (aE p fa fb)) :=
 PT.weak (B3 ho ha hb hm) λσ H Q h=>uj hp (xa h)
theorem iK{op:CmpOp}{i:Nat}(ho:bP X (WL op) r)(hp:cF r p)(ha:PE X a (cJ i))(hb:SB X c b fb)(hm:Qu op b=false):ST X c (.Compare a [op] [b] pos) (aB (ah p i fb)) :=
 PT.weak (B3 ho ha hb hm) λσ H Q h=>um hp (xa h)
theorem la{e:Expr}(h:SE X c e f)(he:∀ whole,isTrue e X.env whole=(do let v <- whole; standAt e.pos; holding [v] (truthy v)):=by intro _; rfl):ST X c e (aB f) :=
 PT.weak (Ir h he) λσ H Q h=>xa h
def mi(t u:DT):DT:=λδ=>(t δ).bind λb δ1=>if b then u δ1 else .ok false δ1
def jh(t u:DT):DT:=λδ=>(t δ).bind λb δ1=>if b then .ok true δ1 else u δ1
def gw(t:DT):DT:=λδ=>(t δ).bind λb δ1=>.ok (!b) δ1
abbrev SW(X:Cx)(c:Fc)(e:Expr)(f:DT):Prop:=PW X e (tT c f)
theorem PW.weak(h:PW X e t)(w:∀ σ H Q,t' σ H Q->t σ H Q):PW X e t':=λwh pins s σ H Q I q=>h wh pins s σ H Q I (w σ H Q q)
variable {t u:DT} {rest:List Expr}
theorem xb(ha:ST X c a t):SW X c (.BoolOp .And [a] pos) t:=Iy ha
theorem qZ(ha:ST X c a t):SW X c (.BoolOp .Or [a] pos) t:=Iz ha
theorem xf(ha:ST X c a t)(hb:SW X c (.BoolOp .And (b :: rest) pos) u):SW X c (.BoolOp .And (a :: b :: rest) pos) (mi t u):=PW.weak (IA ha hb) λσ H Q ⟨δ,k,q⟩=>by
 unfold mi at q;rw[bM] at q;refine⟨δ,k,aY q λx δ1 q1 H1 a1=>?_⟩
 cases x with
 | true=>exact⟨δ1,a1.ok,aY q1 λy δ2 q2 H2 a2=>q2 H2 (a1.trans a2)⟩
 | false=>exact q1 H1 a1
theorem nR(ha:ST X c a t)(hb:SW X c (.BoolOp .Or (b :: rest) pos) u):SW X c (.BoolOp .Or (a :: b :: rest) pos) (jh t u):=PW.weak (pw_or ha hb) λσ H Q ⟨δ,k,q⟩=>by
 unfold jh at q;rw[bM] at q;refine⟨δ,k,aY q λx δ1 q1 H1 a1=>?_⟩
 cases x with
 | false=>exact⟨δ1,a1.ok,aY q1 λy δ2 q2 H2 a2=>q2 H2 (a1.trans a2)⟩
 | true=>exact q1 H1 a1
theorem mj(h:SW X c a t):ST X c a t:=PW.pt h
theorem lb(ha:ST X c a t):ST X c (.UnaryOp .Not a pos) (gw t):=PT.weak (IB ha) λσ H Q ⟨δ,k,q⟩=>by
 unfold gw at q;rw[bM] at q;exact⟨δ,k,q⟩
def fV(f g:DE):DE:=λδ=>(f δ).bind λr δ1=>match r with
 | .pure (.bl true)=>g δ1
 | .pure (.bl false)=>.ok (.pure (.bl false)) δ1
 | _=>.stuck
def nS(f:DE):DE:=λδ=>(f δ).bind λr δ1=>match r with
 | .pure (.bl b)=>.ok (.pure (.bl (!b))) δ1
 | _=>.stuck
def q_(t:DT)(f g:DE):DE:=λδ=>(t δ).bind λb δ1=>if b then f δ1 else g δ1
variable {g:DE}
theorem uq{op}(h:SE X c a f):SE X c (.BoolOp op [a] pos) f:=IE h
theorem nT(ha:SE X c a f)(hb:SE X c (.BoolOp .And (b :: rest) pos) g):SE X c (.BoolOp .And (a :: b :: rest) pos) (fV f g):=PE.weak (IF ha hb) λσ H Q ⟨δ,k,q⟩=>by
 unfold fV at q;rw[bM] at q;refine⟨δ,k,aY q λr δ1 q1 v H1 a1 r1=>?_⟩
 cases r with
 | own d=>exact q1.elim
 | pure d =>
  cases d <;> first | exact q1.elim | skip
  rename_i b
  cases r1;refine⟨b,rfl,?_⟩
  cases b with
  | true=>exact⟨δ1,a1.ok,aY q1 λy δ2 q2 v H2 a2 r2=>q2 v H2 (a1.trans a2) (bA.back r2 a1)⟩
  | false=>exact q1 _ H1 a1 (.bl false)
theorem Dv(ha:SE X c a f):SE X c (.UnaryOp .Not a pos) (nS f):=PE.weak (IG ha) λσ H Q ⟨δ,k,q⟩=>by
 unfold nS at q;rw[bM] at q;refine⟨δ,k,aY q λr δ1 q1 v H1 a1 r1=>?_⟩
 cases r with
 | own d=>exact q1.elim
 | pure d =>
  cases d <;> first | exact q1.elim | skip
  rename_i b
  cases r1;exact⟨b,rfl,q1 _ H1 a1 (.bl _)⟩
theorem MK{e:Expr}(ht:ST X c e t)(ha:SE X c a f)(hb:SE X c b g):SE X c (.IfExp e a b pos) (q_ t f g):=PE.weak (II ht ha hb) λσ H Q ⟨δ,k,q⟩=>by
 unfold q_ at q;rw[bM] at q;refine⟨δ,k,aY q λx δ1 q1 H1 a1=>?_⟩
 cases x with
 | true=>exact⟨δ1,a1.ok,aY q1 λy δ2 q2 v H2 a2 r2=>q2 v H2 (a1.trans a2) (bA.back r2 a1)⟩
 | false=>exact⟨δ1,a1.ok,aY q1 λy δ2 q2 v H2 a2 r2=>q2 v H2 (a1.trans a2) (bA.back r2 a1)⟩
end
section
variable {c:Fc} {σ:St} {δ:Dl} {H:Hp} {x:V}
theorem da.int(h:da c σ δ H x (.int i)):x = .int i:=by
 rcases h with h | ⟨_,_,h⟩
 ·cases h; rfl
 ·exact h.elim
theorem da.bl(h:da c σ δ H x (.bl b)):x = .bl b:=by
 rcases h with h | ⟨_,_,h⟩
 ·cases h; rfl
 ·exact h.elim
theorem da.str(h:da c σ δ H x (.str z)):x = .str (toS z):=by
 rcases h with h | ⟨_,_,h⟩
 ·cases h; rfl
 ·exact h.elim
theorem da.tup(h:da c σ δ H x (.tup ds)):∃ a vs,x = .ref a/\H a=some (.tup vs)/\aN H (Av c σ δ) vs ds:=by
 rcases h with h | ⟨_,_,h⟩
 ·cases h with
  | tup h1 h2 h3 h4=>exact⟨_,_,rfl,h2,h3,h4⟩
 ·exact h.elim
theorem da.lst(h:da c σ δ H x (.lst ds)):∃ a vs,x = .ref a/\Rd H a (.lst vs)/\aN H (Av c σ δ) vs ds:=by
 rcases h with h | ⟨a,e,h⟩
 ·cases h with
  | lst h1 h2 h3 h4=>exact⟨_,_,rfl,h2,h3,h4⟩
 ·obtain⟨vs,h1,h2⟩:=h;exact⟨a,vs,e,.inl h1,h2⟩
theorem da.aC(h:da c σ δ H x (.aC ds)):∃ a ws,x = .ref a/\H a=some (.dK ws)/\ws.map (·.1)=ds.map (λp=>dU p.1)/\∀ (i:Nat) p q,ws[i]? = some p->ds[i]? = some q->Rep H (Av c σ δ) p.2 q.2:=by
 rcases h with h | ⟨a,e,h⟩
 ·cases h with
  | aC h1 h2 h3 h4=>exact⟨_,_,rfl,h2,h3,h4⟩
 ·obtain⟨ws,h1,h2,h3⟩:=h;exact⟨a,ws,e,h1,h2,h3⟩
end
theorem Dw(h:z.length<=We):(toS z).length<=We:=by rw[jQ]; exact h
theorem ML(x y:Tx):toS x ++ toS y=toS (x ++ y):=by
 show Str.append (toS x) (toS y)=_;simp[toS,Str.append]
def bI:D->D->Option S
 | .int i,.int j=>some (.pure (.int (i + j)))
 | .str x,.str y=>if x.length + y.length<=We then some (.pure (.str (x ++ y))) else none
 | .tup xs,.tup ys=>if xs.length + ys.length<=We then some (.pure (.tup (xs ++ ys))) else none
 | .lst xs,.lst ys=>if xs.length + ys.length<=We then some (.own (.lst (xs ++ ys))) else none
 | _,_=>none
def Dx(K:W1):R2:=λx y H Q=>iG (λi j=>V.int (i + j)) x y H Q\/(∃ i j,x = .str i/\y = .str j/\i.length + j.length<=We/\Q (.str (i ++ j)) H) \/
 (∃ a b ys,x = .ref a/\y = .ref b/\cR K H a []/\cR K H b ys/\Q (.ref b) H)\/Ck K x y H Q\/Dm K x y H Q
theorem fD:bP X (WV .Add) (Dx X.K):=BZ.or (Kw.or (MB.or (K_.or MC)))
theorem fE{K:W1}:cF (Dx K) bI:=by
 intro c σ δ H x y d e s Q k rx ry hp q
 cases d <;> cases e <;> first
  | (simp[bI] at hp; done)
  | skip
 ·rename_i i j;simp only[bI,W8] at hp;subst hp;exact .inl ⟨i,j,rx.int,ry.int,q _ H (.refl k) (.int _)⟩
 ·rename_i u w;simp only[bI] at hp;split at hp
  ·rename_i hz;simp only[W8] at hp;subst hp;refine .inr (.inl ⟨toS u,toS w,rx.str,ry.str,by rw[jQ,jQ]; exact hz,?_⟩);rw[ML];exact q _ H (.refl k) (.str _)
  ·cases hp
 ·rename_i us ws;simp only[bI] at hp;split at hp
  ·rename_i hz;simp only[W8] at hp;subst hp;obtain⟨a,vs,ea,ha,ra⟩:=rx.tup;obtain⟨b,zs,eb,hb,rb⟩:=ry.tup
   cases vs with
   | nil =>
    have:us=[]:=by have:=ra.1; simpa using this.symm
    subst this;refine .inr (.inr (.inl ⟨a,b,zs,ea,eb,.of ha,.of hb,?_⟩));rw[eb] at ry;rcases ry with ry | ⟨_,_,ry⟩
    ·exact q _ H (.refl k) ry
    ·exact ry.elim
   | cons v0 vr =>
    refine .inr (.inr (.inr (.inl ⟨a,b,_,zs,ea,eb,.of ha,.of hb,by simp,by rw[ra.1,rb.1]; exact hz,λe0=>?_,λ_ p hp=>?_⟩)))
    ·subst e0;have:ws=[]:=by have:=rb.1; simpa using this.symm
     subst this;rw[ea] at rx;rcases rx with rx | ⟨_,_,rx⟩
     ·rw[Jy] at q;exact q _ H (.refl k) rx
     ·exact rx.elim
    ·exact q _ _ (.alloc k hp _) (bA.nN k (ra.append rb) hp)
  ·cases hp
 ·rename_i us ws;simp only[bI] at hp;split at hp
  ·rename_i hz;simp only[W8] at hp;subst hp;obtain⟨a,vs,ea,ha,ra⟩:=rx.lst;obtain⟨b,zs,eb,hb,rb⟩:=ry.lst;exact .inr (.inr (.inr (.inr ⟨a,b,vs,zs,ea,eb,.inl ha,.inl hb,by rw[ra.1,rb.1]; exact hz,λp hp=>q _ _ (.alloc k hp _) (bA.mh k (ra.append rb) hp)⟩)))
  ·cases hp
def fj(C:Int->Int->Bool)(g:Int->Int->D):D->D->Option S
 | .int i,.int j=>if C i j then some (.pure (g i j)) else none
 | _,_=>none
theorem nU(hC:∀ i j,C' i j=true->C i j)(hg:∀ i j H O,Rep H O (g i j) (g' i j)):cF (rI C g) (fj C' g'):=by
 intro c σ δ H x y d e s Q k rx ry hp q
 cases d <;> cases e <;> first
  | (simp[fj] at hp; done)
  | skip
 rename_i i j;simp only[fj] at hp;split at hp
 ·rename_i hc;simp only[W8] at hp;subst hp;exact⟨i,j,rx.int,ry.int,hC i j hc,q _ H (.refl k) (hg i j H _)⟩
 ·cases hp
theorem MM(hg:∀ i j H O,Rep H O (g i j) (g' i j)):cF (iG g) (fj (λ_ _=>true) g'):=by
 intro c σ δ H x y d e s Q k rx ry hp q
 cases d <;> cases e <;> first
  | (simp[fj] at hp; done)
  | skip
 rename_i i j;simp only[fj,if_true,W8] at hp;subst hp;exact⟨i,j,rx.int,ry.int,q _ H (.refl k) (hg i j H _)⟩
def gj:=fj (λ_ _=>true) λi j=>.int (i - j)
theorem rd:cF (iG λi j=>V.int (i - j)) gj:=MM λ_ _ _ _=>.int _
def ji(i j:Int):Bool:=(decide (-(2 ^ 64) < i) && decide (i < 2 ^ 64)) || (decide (-(2 ^ 64) < j) && decide (j < 2 ^ 64))
def pE:=fj ji λi j=>.int (i * j)
theorem MN:cF (rI qF λi j=>V.int (i * j)) pE:=nU (λi j h=>by
 unfold ji at h;simp only[Bool.or_eq_true,Ww,decide_eq_true_eq] at h;exact h) λ_ _ _ _=>.int _
def rf(_ j:Int):Bool:=decide (0 < j) && decide (j < 1073741824)
def rg:=fj rf λi j=>.int (i / j)
theorem Dy:cF (rI BX λi j=>V.int (i / j)) rg:=nU (λi j h=>by
 unfold rf at h;simp only[Ww,decide_eq_true_eq] at h;exact h) λ_ _ _ _=>.int _
def fM:=fj (λ_ j=>decide (0 < j)) λi j=>.int (i % j)
theorem mn:cF (rI (λ_ j=>0 < j) λi j=>V.int (i % j)) fM:=nU (λi j h=>by simpa using h) λ_ _ _ _=>.int _
def xg(i j:Int):Bool:=decide (0<=j) && decide (j<=1000000) && decide (i.natAbs < 2 ^ 64)
def xh:=fj xg λi j=>.int (i ^ j.toNat)
theorem MO:cF (rI BY λi j=>V.int (i ^ j.toNat)) xh:=nU (λi j h=>by
 unfold xg at h;simp only[Ww,decide_eq_true_eq] at h;exact⟨h.1.1,h.1.2,h.2⟩) λ_ _ _ _=>.int _
def bX(d e:D):Option S:=if flat 50 d && flat 50 e then some (.pure (.bl (aK d e))) else none
def eU(d e:D):Option S:=if flat 50 d && flat 50 e then some (.pure (.bl (!aK d e))) else none
theorem gS:cF De bX:=by
 intro c σ δ H x y d e s Q k rx ry hp q;unfold bX at hp;split at hp
 ·rename_i hf;rw[Ww] at hf;simp only[W8] at hp;subst hp;exact⟨d,e,rx.un,ry.un,hf.1,hf.2,q _ H (.refl k) (.bl _)⟩
 ·cases hp
theorem lg:cF Df eU:=by
 intro c σ δ H x y d e s Q k rx ry hp q;unfold eU at hp;split at hp
 ·rename_i hf;rw[Ww] at hf;simp only[W8] at hp;subst hp;exact⟨d,e,rx.un,ry.un,hf.1,hf.2,q _ H (.refl k) (.bl _)⟩
 ·cases hp
def iM(f:Int->Int->Bool)(g:Tx->Tx->Bool):D->D->Option S
 | .int i,.int j=>some (.pure (.bl (f i j)))
 | .str x,.str y=>some (.pure (.bl (g x y)))
 | _,_=>none
def pF(f:Int->Int->Bool)(g:List Nat->List Nat->Bool):R2:=λx y H Q=>iG (λi j=>V.bl (f i j)) x y H Q\/∃ i j,x = .str i/\y = .str j/\Q (.bl (g i.cps.toList j.cps.toList)) H
theorem jR:cF (pF f g) (iM f g):=by
 intro c σ δ H x y d e s Q k rx ry hp q
 cases d <;> cases e <;> first
  | (simp[iM] at hp; done)
  | skip
 ·rename_i i j;simp only[iM,W8] at hp;subst hp;exact .inl ⟨i,j,rx.int,ry.int,q _ H (.refl k) (.bl _)⟩
 ·rename_i i j;simp only[iM,W8] at hp;subst hp;refine .inr ⟨toS i,toS j,rx.str,ry.str,?_⟩;rw[t_,t_];exact q _ H (.refl k) (.bl _)
theorem xi{X:Cx}{op:CmpOp}{g:List Nat->List Nat->Bool}(rule:∀ (i j:Str) (t u:Tok) (Q:Value->W2->Prop) (s:W2),Q (.bool (g i.cps.toList j.cps.toList)) s->Wf (model X.prog X.w) X.A (WL op (.str i t) (.str j u)) Q X.xe s) :
  bP X (WL op) (λx y H Q=>∃ i j,x = .str i/\y = .str j/\Q (.bl (g i.cps.toList j.cps.toList)) H):=by
 intro pins s σ H x y v u Q I rx ry h;obtain⟨i,j,rfl,rfl,q⟩:=h;obtain⟨t,rfl⟩:=rx;obtain⟨t',rfl⟩:=ry;exact rule i j t t' _ s ⟨.bl _,H,I,rfl,q⟩
def mq:=iM (λi j=>decide (i < j)) λx y=>decide (x < y)
theorem Dz:bP X (WL .Lt) (pF (λi j=>decide (i < j)) λx y=>decide (x < y)):=Kn.or Ks
theorem DB:cF (pF (λi j=>decide (i < j)) λx y=>decide (x < y)) mq:=jR
def ay:D->D->Option S
 | .lst ds,.int i=>(dC ds i).map .pure
 | .tup ds,.int i=>(dC ds i).map .pure
 | .str x,.int i=>if x.length<=We then(dC x i).map λn=>.pure (.str [n]) else none
 | _,_=>none
theorem DC(r:aN H O vs ds)(h:dC ds i=some d):∃ v,dC vs i=some v/\Rep H O v d:=by
 unfold dC at h ⊢;rw[r.1]
 cases e:dS ds.length i with
 | none=>rw[e] at h; cases h
 | some j =>
  rw[e] at h;exact r.get h
theorem bK{K:W1}:cF (qK K) ay:=by
 intro c σ δ H x y d e s Q k rx ry hp q
 cases d <;> cases e <;> first
  | (simp[ay] at hp; done)
  | skip
 ·rename_i z i;simp only[ay] at hp;split at hp
  ·rename_i hz
   cases e1:dC z i with
   | none=>rw[e1] at hp; cases hp
   | some n =>
    rw[e1] at hp;simp only[WF,W8] at hp;subst hp;refine .inr (.inr ⟨toS z,i,n,rx.str,ry.int,Dw hz,by rw[t_]; exact e1,?_⟩);exact q (.str (toS [n])) H (.refl k) (.str [n])
  ·cases hp
 ·rename_i ds i;simp only[ay] at hp
  cases e1:dC ds i with
  | none=>rw[e1] at hp; cases hp
  | some n =>
   rw[e1] at hp;simp only[WF,W8] at hp;subst hp;obtain⟨a,vs,ea,ha,ra⟩:=rx.tup;obtain⟨v,e2,r2⟩:=DC ra e1;exact .inr (.inl ⟨a,vs,i,v,ea,ry.int,.of ha,e2,q v H (.refl k) r2⟩)
 ·rename_i ds i;simp only[ay] at hp
  cases e1:dC ds i with
  | none=>rw[e1] at hp; cases hp
  | some n =>
   rw[e1] at hp;simp only[WF,W8] at hp;subst hp;obtain⟨a,vs,ea,ha,ra⟩:=rx.lst;obtain⟨v,e2,r2⟩:=DC ra e1;exact .inl ⟨a,vs,i,v,ea,ry.int,.inl ha,e2,q v H (.refl k) r2⟩
def DD:=iM (λi j=>decide (i<=j)) λx y=>!decide (y < x)
def gx:=iM (λi j=>decide (j < i)) λx y=>decide (y < x)
def rh:=iM (λi j=>decide (j<=i)) λx y=>!decide (x < y)
theorem MP:bP X (WL .LtE) (pF (λi j=>decide (i<=j)) λx y=>!decide (y < x)):=Ko.or (xi (g:=λx y=>!decide (y < x)) λ_ _ _ _ _ _ h=>PySem.P.le_str h)
theorem pG:bP X (WL .Gt) (pF (λi j=>decide (j < i)) λx y=>decide (y < x)):=Kq.or (xi (g:=λx y=>decide (y < x)) λ_ _ _ _ _ _ h=>PySem.P.gt_str h)
theorem xj:bP X (WL .GtE) (pF (λi j=>decide (j<=i)) λx y=>!decide (x < y)):=Kr.or (xi (g:=λx y=>!decide (x < y)) λ_ _ _ _ _ _ h=>PySem.P.ge_str h)
abbrev DA:=Dl->Rs (List D)
def MQ(c:Fc)(f:DA):TA:=λσ H Q=>∃ δ,Ok c σ δ H/\post c (f δ) λds δ'=>∀ vs H',ba c σ δ H σ δ' H'->aN H' (Av c σ δ') vs ds->Q vs H'
structure SA(X:Cx)(c:Fc)(es:List Expr)(f:DA):Prop where
 pa:PA X es (MQ c f)
 len:∀ δ ds δ',f δ = .ok ds δ'->ds.length=es.length
theorem PA.weak(h:PA X es t)(w:∀ σ H Q,t' σ H Q->t σ H Q):PA X es t':=λpos pins s σ H Q I q=>h pos pins s σ H Q I (w σ H Q q)
def bB:DA:=λδ=>.ok [] δ
def aG(f:DE)(g:DA):DA:=λδ=>(f δ).bind λx δ1=>(g δ1).bind λxs δ2=>.ok (x.d :: xs) δ2
section
variable {X:Cx} {c:Fc} {e:Expr} {es:List Expr} {f:DE} {g:DA} {pos:Pos}
theorem c7:SA X c [] bB:=⟨PA.weak jd λσ H Q ⟨δ,k,q⟩=>q [] H (.refl k) .nil,λδ ds δ' h=>by cases h; rfl⟩
theorem DH(ha:SE X c e f)(hr:SA X c es g)(hs:Wk (e :: es) X.env=(false,eval e X.env) :: Wk es X.env:=by rfl):SA X c (e :: es) (aG f g):=by
 refine⟨PA.weak (gv ha hr.pa hs) λσ H Q ⟨δ,k,q⟩=>?_,λδ ds δ' h=>?_⟩
 ·unfold aG at q;rw[bM] at q;refine⟨δ,k,aY q λx δ1 q1 v H1 a1 r1=>⟨δ1,a1.ok,?_⟩⟩;rw[bM] at q1;exact aY q1 λxs δ2 q2 vs H2 a2 r2=>q2 (v :: vs) H2 (a1.trans a2) (.cons (Rep.dW r1.rep a2) r2)
 ·unfold aG at h
  cases h1:f δ with
  | ok x δ1 =>
   rw[h1] at h
   cases h2:g δ1 with
   | ok xs δ2 =>
    simp only[Rs.bind,h2] at h
    cases h;simp[hr.len _ _ _ h2]
   | exc x δx=>simp only[Rs.bind,h2] at h; cases h
   | stuck=>simp only[Rs.bind,h2] at h; cases h
  | exc x δx=>rw[h1] at h; cases h
  | stuck=>rw[h1] at h; cases h
def cD(f:DA):DE:=λδ=>(f δ).bind λds δ'=>.ok (.pure (.tup ds)) δ'
def eV(f:DA):DE:=λδ=>(f δ).bind λds δ'=>.ok (.own (.lst ds)) δ'
theorem DJ(h:n<=1000):n<=We:=QC (LX h)
theorem DK(h:post c r k):post c r λa δ=>r = .ok a δ/\k a δ:=by
 cases r with
 | ok a δ=>exact⟨rfl,h⟩
 | exc x δx=>exact h
 | stuck=>exact h
theorem fN{x1}(h:SA X c es g)(hz:es.length<=1000:=by decide):SE X c (.Tuple es x1 pos) (cD g):=PE.weak (KJ h.pa) λσ H Q ⟨δ,k,q⟩=>by
 unfold cD at q;rw[bM] at q;refine⟨δ,k,aY (DK q) λds δ1 ⟨e1,q1⟩ vs H1 a1 r1=>?_⟩;have hl:=h.len _ _ _ e1;exact⟨by rw[r1.1,hl]; exact DJ hz,λp hp=>q1 _ _ (a1.trans (.alloc a1.ok hp _)) (bA.back (bA.nN a1.ok r1 hp) a1)⟩
theorem jk(h:SA X c es g)(hz:es.length<=1000:=by decide):SE X c (.List es pos) (eV g):=PE.weak (KL h.pa) λσ H Q ⟨δ,k,q⟩=>by
 unfold eV at q;rw[bM] at q;refine⟨δ,k,aY (DK q) λds δ1 ⟨e1,q1⟩ vs H1 a1 r1=>?_⟩;have hl:=h.len _ _ _ e1;exact⟨by rw[r1.1,hl]; exact DJ hz,λp hp=>q1 _ _ (a1.trans (.alloc a1.ok hp _)) (bA.back (bA.mh a1.ok r1 hp) a1)⟩
end
def p1(p:D->Option S)(x:D)(δ:Dl):Rs S:=match p x with
 | some s=>.ok s δ
 | none=>.stuck
def aH(p:D->Option S)(fb:BE):DE:=λδ=>(fb δ).bind λx δ1=>p1 p x δ1
def mr(r:V->Hp->VK->Prop)(p:D->Option S):Prop:=∀ (c:Fc) (σ:St) (δ:Dl) (H:Hp) (x:V) (d:D) (s:S) (Q:VK),Ok c σ δ H->da c σ δ H x d->p d=some s ->
 (∀ v H',ba c σ δ H σ δ H'->bA c σ δ H H' v s->Q v H')->r x H Q
section
variable {X:Cx} {c:Fc} {e:Expr} {fb:BE} {r:V->Hp->VK->Prop} {p:D->Option S} {x:Str} {id T:String} {pp pos:Pos}
theorem DL(hp:mr r p)(k:Ok c σ δ H)(rx:da c σ δ H v d)
  (h:post c (p1 p d δ) λs δ'=>∀ v H',ba c σ δ H σ δ' H'->bA c σ δ' H H' v s->Q v H'):r v H Q:=by
 unfold p1 at h
 cases e1:p d with
 | none=>rw[e1] at h; exact h.elim
 | some s=>rw[e1] at h; exact hp c σ δ H v d s Q k rx e1 h
theorem ur(hp:mr r p)(h:tD c (aH p fb) σ H Q):BV r (tB c fb) σ H Q:=by
 obtain⟨δ,k,q⟩:=h;unfold aH at q;rw[bM] at q;exact⟨δ,k,aY q λy δ1 q1 v H1 a1 r1=>DL hp a1.ok r1 (aY q1 λs δ2 q2 w H2 a2 r2=>q2 w H2 (a1.trans a2) (bA.back r2 a1))⟩
theorem rj(hc:eK X (.builtin id) rl)(hl:∀ v H Q,r v H Q->rl [v] H Q)(hp:mr r p)(hg:Gl X x)(hm:X.mg x=none)(hv:QB x=some (.builtin id))(he:SB X c e fb)
  (hn:x≠"__name__":=by decide) (jM:(x == ("__debug__" : Str))=false:=by decide) (hs:Wk [e] X.env=(false,eval e X.env) :: Wk [] X.env:=by rfl) (eE:(QW pos (Wk [] X.env)).any (·.1)=false:=by rfl) :
  SE X c (.Call (.Name x pp) [e] [] pos) (aH p fb):=PE.weak (vY hc hg hm hv (gv he jd hs) hn jM hs eE) λσ H Q h=>by
 obtain⟨δ,k,q⟩:=ur hp h;exact⟨δ,k,aY q λy δ1 q1 v H1 a1 r1=>hl _ _ _ (q1 v H1 a1 r1)⟩
theorem rm(hc:eK X (.type T) rl)(hl:∀ v H Q,r v H Q->rl [v] H Q)(hp:mr r p)(hg:Gl X x)(hm:X.mg x=none)(hv:QB x=some (.type T))(he:SB X c e fb)
  (hn:x≠"__name__":=by decide) (jM:(x == ("__debug__" : Str))=false:=by decide) (hs:Wk [e] X.env=(false,eval e X.env) :: Wk [] X.env:=by rfl) (eE:(QW pos (Wk [] X.env)).any (·.1)=false:=by rfl) :
  SE X c (.Call (.Name x pp) [e] [] pos) (aH p fb):=PE.weak (KU hc hg hm hv (gv he jd hs) hn jM hs eE) λσ H Q h=>by
 obtain⟨δ,k,q⟩:=ur hp h;exact⟨δ,k,aY q λy δ1 q1 v H1 a1 r1=>hl _ _ _ (q1 v H1 a1 r1)⟩
def bf:D->Option S
 | .lst ds=>some (.pure (.int ds.length))
 | .tup ds=>some (.pure (.int ds.length))
 | .str z=>if z.length<=We then some (.pure (.int z.length)) else none
 | .aC ds=>some (.pure (.int ds.length))
 | _=>none
def MR(K:W1):V->Hp->VK->Prop:=λv H Q=>((∃ p ys,v = .ref p/\(cK K H p ys\/cR K H p ys)/\Q (.int ys.length) H)\/∃ z,v = .str z/\z.length<=We/\Q (.int z.length) H)\/∃ a kvs,v=V.ref a/\H a=some (.dK kvs)/\Q (.int kvs.length) H
theorem MS{K:W1}:mr (MR K) bf:=by
 intro c σ δ H x d s Q k rx hp q
 cases d with
 | lst ds =>
  simp only[bf,W8] at hp;subst hp;obtain⟨a,vs,ea,ha,ra⟩:=rx.lst;exact .inl (.inl ⟨a,vs,ea,.inl (.inl ha),by rw[ra.1]; exact q _ H (.refl k) (.int _)⟩)
 | tup ds =>
  simp only[bf,W8] at hp;subst hp;obtain⟨a,vs,ea,ha,ra⟩:=rx.tup;exact .inl (.inl ⟨a,vs,ea,.inr (.of ha),by rw[ra.1]; exact q _ H (.refl k) (.int _)⟩)
 | str z =>
  simp only[bf] at hp;split at hp
  ·rename_i hz;simp only[W8] at hp;subst hp;exact .inl (.inr ⟨toS z,rx.str,Dw hz,by rw[jQ]; exact q _ H (.refl k) (.int _)⟩)
  ·cases hp
 | aC ds =>
  simp only[bf,W8] at hp;subst hp;obtain⟨a,ws,ea,ha,h1,h2⟩:=rx.aC;have hl:ws.length=ds.length:=by have:=congrArg Js h1; simpa using this
  exact .inr ⟨a,ws,ea,ha,by rw[hl]; exact q _ H (.refl k) (.int _)⟩
 | _=>simp[bf] at hp
theorem fO (hg:Gl X "len") (hm:X.mg "len" = none) (he:SB X c e fb) (hs:Wk [e] X.env=(false,eval e X.env) :: Wk [] X.env:=by rfl):SE X c (.Call (.Name "len" pp) [e] [] pos) (aH bf fb) :=
 rj ((Ll.or Lm).or LY) (λv H Q h=>by
  rcases h with (⟨p,ys,e,h⟩ | ⟨z,e,h⟩) | ⟨a,kvs,e,h⟩
  ·exact .inl (.inl ⟨p,ys,by rw[e],h⟩)
  ·exact .inl (.inr ⟨z,by rw[e],h⟩)
  ·exact .inr ⟨a,kvs,by rw[e],h⟩) (MS (K:=X.K)) hg hm PySem.boot_len he (by decide) (by decide) hs
def en:D->Option S
 | .lst ds=>some (.pure (.tup ds))
 | .tup ds=>some (.pure (.tup ds))
 | _=>none
def MT(K:W1):V->Hp->VK->Prop:=λv H Q=>∃ p ys,v = .ref p/\((cK K H p ys/\∀ l,H l=none->Q (.ref l) (upd H l (.tup ys)))\/(cR K H p ys/\Q (.ref p) H))
theorem MU{K:W1}:mr (MT K) en:=by
 intro c σ δ H x d s Q k rx hp q
 cases d with
 | lst ds =>
  simp only[en,W8] at hp;subst hp;obtain⟨a,vs,ea,ha,ra⟩:=rx.lst;exact⟨a,vs,ea,.inl ⟨.inl ha,λl hl=>q _ _ (.alloc k hl _) (bA.nN k ra hl)⟩⟩
 | tup ds =>
  simp only[en,W8] at hp;subst hp;obtain⟨a,vs,ea,ha,ra⟩:=rx.tup;refine⟨a,vs,ea,.inr ⟨.of ha,?_⟩⟩;rw[ea] at rx;rcases rx with rx | ⟨_,_,rx⟩
  ·exact q _ H (.refl k) rx
  ·exact rx.elim
 | _=>simp[en] at hp
theorem nV (hg:Gl X "tuple") (hm:X.mg "tuple" = none) (he:SB X c e fb) (hs:Wk [e] X.env=(false,eval e X.env) :: Wk [] X.env:=by rfl):SE X c (.Call (.Name "tuple" pp) [e] [] pos) (aH en fb) :=
 rm Lo (λv H Q ⟨p,ys,e,h⟩=>⟨p,ys,by rw[e],h⟩) (MU (K:=X.K)) hg hm PyProof.Rows.boot_tuple he (by decide) (by decide) hs
def jS:D->Option S
 | .int i=>some (.pure (.int i))
 | .bl b=>some (.pure (.int (if b then 1 else 0)))
 | _=>none
theorem DM (hg:Gl X "int") (hm:X.mg "int" = none) (he:SB X c e fb) (hs:Wk [e] X.env=(false,eval e X.env) :: Wk [] X.env:=by rfl):SE X c (.Call (.Name "int" pp) [e] [] pos) (aH jS fb) :=
 rm (r:=λv H Q=>(∃ i,v = .int i/\Q (.int i) H)\/∃ k,v = .bl k/\Q (.int (if k then 1 else 0)) H) Kz (λv H Q h=>by
  rcases h with ⟨i,e,q⟩ | ⟨k,e,q⟩
  ·exact .inl ⟨i,by rw[e],q⟩
  ·exact .inr ⟨k,by rw[e],q⟩) (λc σ δ H x d s Q k rx hp q=>by
  cases d with
  | int i =>
   simp only[jS,W8] at hp;subst hp;exact .inl ⟨i,rx.int,q _ H (.refl k) (.int _)⟩
  | bl b =>
   simp only[jS,W8] at hp;subst hp;exact .inr ⟨b,rx.bl,q _ H (.refl k) (.int _)⟩
  | _=>simp[jS] at hp) hg hm PyProof.Rows.boot_int he (by decide) (by decide) hs
def kq:List D->Option (List Bool)
 | []=>some []
 | .bl b :: r=>(kq r).map (b :: ·)
 | _ :: _=>none
def fW:List D->Option (List Tx)
 | []=>some []
 | .str x :: r=>(fW r).map (x :: ·)
 | _ :: _=>none
theorem DO:∀ {ds:List D} {vs:List V} {bs:List Bool},kq ds=some bs->aN H O vs ds->vs=bs.map V.bl
 | [],vs,bs,h,r=>by
  simp only[kq,W8] at h;subst h;have:=r.1;simpa using this
 | d :: ds,[],bs,h,r=>by have:=r.1; simp at this
 | d :: ds,v :: vs,bs,h,r=>by
  cases d with
  | bl b =>
   simp only[kq] at h
   cases e:kq ds with
   | none=>rw[e] at h; cases h
   | some bs' =>
    rw[e] at h;simp only[WF,W8] at h;subst h;have:=r.head
    cases this;rw[DO e r.tail];rfl
  | _=>simp[kq] at h
theorem pH:∀ {ds:List D} {vs:List V} {bs:List Tx},fW ds=some bs->aN H O vs ds->vs=bs.map λz=>V.str (toS z)
 | [],vs,bs,h,r=>by
  simp only[fW,W8] at h;subst h;have:=r.1;simpa using this
 | d :: ds,[],bs,h,r=>by have:=r.1; simp at this
 | d :: ds,v :: vs,bs,h,r=>by
  cases d with
  | str b =>
   simp only[fW] at h
   cases e:fW ds with
   | none=>rw[e] at h; cases h
   | some bs' =>
    rw[e] at h;simp only[WF,W8] at h;subst h;have:=r.head
    cases this;rw[pH e r.tail];rfl
  | _=>simp[fW] at h
theorem DP:∀ ts:List Tx,aN H O (ts.map λz=>V.str (toS z)) (ts.map D.str)
 | []=>.nil
 | t :: ts=>.cons (.str t) (DP ts)
def gy:D->Option S
 | .lst ds=>(kq ds).map λbs=>.pure (.bl (bs.all (λb=>b)))
 | _=>none
def pI:D->Option S
 | .lst ds=>match fW ds with
  | some ts=>if ts.length < 64 then some (.own (.lst ((iJ ts).map D.str))) else none
  | none=>none
 | _=>none
theorem MV:QB "all" = some (.builtin "all"):=by decide +kernel
theorem xk (hc:X.calm=true) (hg:Gl X "all") (hm:X.mg "all" = none) (he:SB X c e fb) (hs:Wk [e] X.env=(false,eval e X.env) :: Wk [] X.env:=by rfl):SE X c (.Call (.Name "all" pp) [e] [] pos) (aH gy fb) :=
 rj (r:=λv H Q=>∃ (a:Addr) (bs:List Bool),v = .ref a/\cK X.K H a (bs.map V.bl)/\Q (.bl (bs.all (λb=>b))) H) (ME hc) (λv H Q ⟨a,bs,e,h⟩=>⟨a,bs,by rw[e],h⟩) (λc σ δ H x d s Q k rx hp q=>by
  cases d with
  | lst ds =>
   simp only[gy] at hp
   cases e:kq ds with
   | none=>rw[e] at hp; cases hp
   | some bs =>
    rw[e] at hp;simp only[WF,W8] at hp;subst hp;obtain⟨a,vs,ea,ha,ra⟩:=rx.lst;have:=DO e ra;subst this;exact⟨a,bs,ea,.inl ha,q _ H (.refl k) (.bl _)⟩
  | _=>simp[gy] at hp) hg hm MV he (by decide) (by decide) hs
theorem MW (hg:Gl X "sorted") (hm:X.mg "sorted" = none) (he:SB X c e fb) (hs:Wk [e] X.env=(false,eval e X.env) :: Wk [] X.env:=by rfl):SE X c (.Call (.Name "sorted" pp) [e] [] pos) (aH pI fb) :=
 rj (r:=λv H Q=>∃ (a:Addr) (ts:List Tx),v = .ref a/\cK X.K H a (ts.map λz=>V.str (toS z))/\ts.length < 64/\∀ p,H p=none->Q (.ref p) (upd H p (.lst ((iJ ts).map λz=>V.str (toS z))))) MH (λv H Q ⟨a,bs,e,h⟩=>⟨a,bs,by rw[e],h⟩) (λc σ δ H x d s Q k rx hp q=>by
  cases d with
  | lst ds =>
   simp only[pI] at hp
   cases e:fW ds with
   | none=>rw[e] at hp; cases hp
   | some ts =>
    rw[e] at hp;simp only at hp;split at hp
    ·rename_i hz;simp only[W8] at hp;subst hp;obtain⟨a,vs,ea,ha,ra⟩:=rx.lst;have:=pH e ra;subst this;exact⟨a,ts,ea,.inl ha,hz,λp hp=>q _ _ (.alloc k hp _) (bA.mh k (DP _) hp)⟩
    ·cases hp
  | _=>simp[pI] at hp) hg hm PyProof.Rows.boot_sorted he (by decide) (by decide) hs
def xl:D->D->Option S
 | .int i,.int j=>some (.pure (.int (if j > i then j else i)))
 | _,_=>none
def uu(f g:DE):DE:=λδ=>(f δ).bind λx δ1=>(g δ1).bind λy δ2=>p2 xl x.d y.d δ2
theorem MX {a b:Expr} {f g:DE} (hc:X.calm=true) (hg:Gl X "max") (hm:X.mg "max" = none) (ha:SE X c a f) (hb:SE X c b g) (hs:Wk [a,b] X.env=(false,eval a X.env) :: Wk [b] X.env:=by rfl)
  (rq:Wk [b] X.env=(false,eval b X.env) :: Wk [] X.env:=by rfl) (eE:(QW pos (Wk [b] X.env)).any (·.1)=false:=by rfl):SE X c (.Call (.Name "max" pp) [a,b] [] pos) (uu f g) :=
 PE.weak (vY (Ky hc) hg hm PyProof.Rows.boot_max (gv ha (gv hb jd rq) hs) (by decide) (by decide) hs eE) λσ H Q ⟨δ,k,q⟩=>by
  unfold uu at q;rw[bM] at q;refine⟨δ,k,aY q λx δ1 q1 v H1 a1 r1=>⟨δ1,a1.ok,?_⟩⟩;rw[bM] at q1;refine aY q1 λy δ2 q2 u H2 a2 r2=>?_
  unfold p2 at q2;have hx:da c σ δ2 H2 v x.d:=.inl (Rep.dW r1.rep a2);have hy:=r2.b;generalize x.d=dx at q2 hx;generalize y.d=dy at q2 hy
  cases dx <;> cases dy <;> first
   | exact q2.elim
   | skip
  rename_i i j;exact⟨i,j,by rw[hx.int,hy.int],q2 _ H2 (a1.trans a2) (.int _)⟩
def fk(T:String):D->Option Bool
 | .aI=>some (T == "NoneType")
 | .bl _=>some (T == "bool" || T == "int")
 | .int _=>some (T == "int")
 | .str _=>some (T == "str")
 | .tup _=>some (T == "tuple")
 | .lst _=>some (T == "list")
 | .aC _=>some (T == "dict")
 | .exc _ _=>none
 | .xd _=>none
 | .fn _=>none
 | .dic _=>none
structure lh(K:W1)(T:String):Prop where
 aI:QY K (.type "NoneType") (.type T)=some (T == "NoneType")
 bl:QY K (.type "bool") (.type T)=some (T == "bool" || T == "int")
 int:QY K (.type "int") (.type T)=some (T == "int")
 str:QY K (.type "str") (.type T)=some (T == "str")
 tup:QY K (.type "tuple") (.type T)=some (T == "tuple")
 lst:QY K (.type "list") (.type T)=some (T == "list")
 aC:QY K (.type "dict") (.type T)=some (T == "dict")
def cP(T:String)(fb:BE):DE:=λδ=>(fb δ).bind λd δ'=>match fk T d with
 | some b=>.ok (.pure (.bl b)) δ'
 | none=>.stuck
theorem MY(ty:lh X.K T)(I:Inv X pins σ H s)(ru:RelV v u)(r:Rep H dX v d)(e:fk T d=some b)(q:Q (.bl b) H) :
  Wf (model X.prog X.w) X.A (call (.builtin "isinstance") [u,.type T]) (EP X pins σ Q) X.xe s:=by
 have fin:∀ tk,EP X pins σ Q (.bool b) { s with toks:=tk }:=λtk=>⟨.bl b,H,I.tok tk,rfl,q⟩
 cases r with
 | aI=>exact lV I ru .aI (ty.aI.trans e) fin
 | bl x=>exact lV I ru (.bl x) (ty.bl.trans e) fin
 | int x=>exact lV I ru (.int x) (ty.int.trans e) fin
 | str x=>exact lV I ru (.str _) (ty.str.trans e) fin
 | tup _ h2 _ _=>exact lV I ru (.tup h2) (ty.tup.trans e) fin
 | lst _ h2 _ _ =>
  rcases h2 with h2 | ⟨o,h2⟩
  ·exact lV I ru (.lst h2) (ty.lst.trans e) fin
  ·exact lV I ru (.frz h2) (ty.lst.trans e) fin
 | aC _ h2 _ _=>exact lV I ru (.dK h2) (ty.aC.trans e) fin
 | exc _ _=>cases e
 | xd _ _=>cases e
 | fn _=>cases e
 | dic _=>cases e
theorem MZ (ty:lh X.K T):eK X (.builtin "isinstance") (λxs H Q=>∃ v d b,xs=[v,.ty T]/\Rep H dX v d/\fk T d=some b/\Q (.bl b) H):=by
 intro pins s σ H xs us Q I r h;obtain⟨v,d,b,rfl,rp,e,q⟩:=h;obtain⟨u,w',rfl,r1,r2⟩:=B4 r
 cases r2;exact MY ty I r1 rp e q
theorem lj {y:Str} {py:Pos} (ty:lh X.K T) (hg:Gl X "isinstance") (hm:X.mg "isinstance" = none) (M0:Gl X y) (M1:X.mg y=none) (M3:QB y=some (.type T)) (he:SB X c e fb)
  (M4:y≠"__name__":=by decide) (M5:(y == ("__debug__" : Str))=false:=by decide)
  (hs:Wk [e,.Name y py] X.env=(false,eval e X.env) :: Wk [.Name y py] X.env:=by rfl) (eE:(QW pos (Wk [.Name y py] X.env)).any (·.1)=false:=by rfl) :
  SE X c (.Call (.Name "isinstance" pp) [e,.Name y py] [] pos) (cP T fb) :=
 PE.weak (vY (MZ ty) hg hm PyProof.Rows.boot_isinstance (gv he (gv (Ip (v:=.ty T) M0 M1 M3 rfl M4 M5) jd) hs) (by decide) (by decide) hs eE) λσ H Q ⟨δ,k,q⟩=>by
  unfold cP at q;rw[bM] at q;refine⟨δ,k,aY q λd δ1 q1 v H1 a1 r1=>?_⟩
  cases e1:fk T d with
  | none=>rw[e1] at q1; exact q1.elim
  | some b =>
   rw[e1] at q1;exact⟨v,d,b,rfl,r1.un,e1,q1 _ H1 a1 (.bl _)⟩
end
abbrev mv:=Dl->Rs (Option Int)
def M6(c:Fc)(f:mv):TO:=λσ H Q=>∃ δ,Ok c σ δ H/\post c (f δ) λo δ'=>∀ H',ba c σ δ H σ δ' H'->Q o H'
abbrev SO(X:Cx)(c:Fc)(e:Option Expr)(f:mv):Prop:=PO X e (M6 c f)
theorem PO.weak(h:PO X e t)(w:∀ σ H Q,t' σ H Q->t σ H Q):PO X e t':=λpins s σ H Q I q=>h pins s σ H Q I (w σ H Q q)
def iN:mv:=λδ=>.ok none δ
def fP(f:DE):mv:=λδ=>(f δ).bind λr δ'=>match r with
 | .pure (.int i)=>.ok (some i) δ'
 | _=>.stuck
section
variable {X:Cx} {c:Fc} {e:Expr} {f:DE} {fb:BE} {fl fh:mv} {lo hi:Option Expr} {pos p2:Pos}
theorem uv:SO X c none iN:=PO.weak K4 λσ H Q ⟨δ,k,q⟩=>q H (.refl k)
theorem pJ(h:SE X c e f):SO X c (some e) (fP f):=PO.weak (K5 h) λσ H Q ⟨δ,k,q⟩=>by
 unfold fP at q;rw[bM] at q;refine⟨δ,k,aY q λr δ1 q1 v H1 a1 r1=>?_⟩
 cases r with
 | own d=>exact q1.elim
 | pure d =>
  cases d <;> first | exact q1.elim | skip
  rename_i i
  cases r1;exact⟨i,rfl,q1 H1 a1⟩
def iO(lo hi:Option Int):D->Option S
 | .str x=>if x.length<=We then some (.pure (.str (cu x lo hi))) else none
 | .tup ds=>some (.pure (.tup (cu ds lo hi)))
 | .lst ds=>some (.own (.lst (cu ds lo hi)))
 | _=>none
def DQ(K:W1):V->Option Int->Option Int->Hp->VK->Prop:=λx lo hi H Q=>Dj x lo hi H Q\/Dh K x lo hi H Q\/Cs K x lo hi H Q
theorem M7:kj X (DQ X.K):=MA.or (Mx.or Li)
theorem M8{K:W1}(lo hi:Option Int):mr (λx H Q=>DQ K x lo hi H Q) (iO lo hi):=by
 intro c σ δ H x d s Q k rx hp q
 cases d with
 | str z =>
  simp only[iO] at hp;split at hp
  ·rename_i hz;simp only[W8] at hp;subst hp;exact .inl ⟨z,rx.str,hz,q _ H (.refl k) (.str _)⟩
  ·cases hp
 | tup ds =>
  simp only[iO,W8] at hp;subst hp;obtain⟨a,vs,ea,ha,ra⟩:=rx.tup;refine .inr (.inl ⟨a,vs,ea,.of ha,λhw=>?_,λ_ p hp=>?_⟩)
  ·rw[ra.1] at hw;rw[Mv hw] at q;rw[ea] at rx;rcases rx with rx | ⟨_,_,rx⟩
   ·exact q _ H (.refl k) rx
   ·exact rx.elim
  ·rw[<- Dg];exact q _ _ (.alloc k hp _) (bA.nN k (ra.cut lo hi) hp)
 | lst ds =>
  simp only[iO,W8] at hp;subst hp;obtain⟨a,vs,ea,ha,ra⟩:=rx.lst;refine .inr (.inr ⟨a,vs,ea,.inl ha,λp hp=>?_⟩);rw[<- Dg];exact q _ _ (.alloc k hp _) (bA.mh k (ra.cut lo hi) hp)
 | _=>simp[iO] at hp
def M9(f:DE)(fl fh:mv):DE:=λδ=>(f δ).bind λx δ1=>(fl δ1).bind λl δ2=>(fh δ2).bind λh δ3=>p1 (iO l h) x.d δ3
def gk(i:Nat)(fl fh:mv):DE:=λδ=>match δ[i]? with
 | some (some _)=>(fl δ).bind λl δ2=>(fh δ2).bind λh δ3=>(ae i δ3).bind λx δ4=>p1 (iO l h) x δ4
 | _=>.stuck
theorem xm{i:Nat}{σ:St}{δ:Dl}{H:Hp}{v:V}{w:S}(k:Ok c σ δ H)(e:δ[i]? = some (some w))(ev:σ[i]? = some (some v)):da c σ δ H v w.d:=by
 cases w with
 | pure d =>
  obtain⟨v',e1,r⟩:=k.slot i d e;rw[ev] at e1; cases e1
  exact .inl r
 | own d =>
  obtain⟨a,e1,r,_⟩:=k.own i d e;rw[ev] at e1; cases e1
  exact .inr ⟨a,rfl,r⟩
theorem M_(h:post c ((ae i δ).bind g) kk):∃ w,δ[i]? = some (some w)/\post c (g w.d δ) kk:=by
 unfold ae at h
 cases e:δ[i]? with
 | none=>rw[e] at h; exact h.elim
 | some o =>
  cases o with
  | none=>rw[e] at h; exact h.elim
  | some w=>rw[e] at h; exact⟨w,rfl,h⟩
theorem rz{i:Nat}(he:PE X e (cJ i))(hl:SO X c lo fl)(hh:SO X c hi fh):SE X c (.Subscript e (.Slice lo hi none p2) pos) (gk i fl fh):=PE.weak (K7 M7 he hl hh) λσ H Q ⟨δ,k,q⟩=>by
 unfold gk at q
 cases e:δ[i]? with
 | none=>rw[e] at q; exact q.elim
 | some o =>
  cases o with
  | none=>rw[e] at q; exact q.elim
  | some w =>
   rw[e] at q;obtain⟨v,ev⟩:=uk k e;have q':post c ((fl δ).bind λl δ2=>(fh δ2).bind λh δ3=>(ae i δ3).bind λx δ4=>p1 (iO l h) x δ4) λr δ'=>∀ v H',ba c σ δ H σ δ' H'->bA c σ δ' H H' v r->Q v H':=q
   rw[bM] at q';refine⟨v,ev,δ,k,aY q' λl δ2 q2 H2 a2=>⟨δ2,a2.ok,?_⟩⟩;rw[bM] at q2;refine aY q2 λh δ3 q3 H3 a3=>?_
   obtain⟨w3,e3,q4⟩:=M_ q3;exact DL (M8 l h) a3.ok (xm a3.ok e3 ev) (aY q4 λs δ4 q4 w H4 a4 r4=>q4 w H4 (a2.trans (a3.trans a4)) (bA.back r4 (a2.trans a3)))
def jT(z:Tx):List Tx->Tx
 | []=>[]
 | [x]=>x
 | x :: y :: r=>x ++ z ++ jT z (y :: r)
theorem DU(z:Tx):∀ (r:List Tx) (acc:Tx),((r.map toS).foldl (λ(acc:Array Nat) p=>acc ++ (toS z).cps ++ p.cps) acc.toArray)=(match r with | []=>acc | x :: r'=>acc ++ z ++ jT z (x :: r')).toArray
 | [],acc=>rfl
 | x :: r,acc=>by
  rw[Wu,Jl];have e:acc.toArray ++ (toS z).cps ++ (toS x).cps=(acc ++ z ++ x).toArray:=by simp[toS]
  rw[e,DU z r (acc ++ z ++ x)]
  cases r with
  | nil=>simp[jT]
  | cons y r'=>simp[jT]
theorem Na(z:Tx)(ts:List Tx):Txt.join (toS z) (ts.map toS)=toS (jT z ts):=by
 show Builtin.Str.glued _ _=_;unfold Builtin.Str.glued
 cases ts with
 | nil=>rfl
 | cons x r =>
  rw[Wu];show(⟨(List.foldl _ (toS x).cps (r.map toS))⟩:Str)=_;have:=DU z r x;have e:(toS x).cps=x.toArray:=rfl;rw[e,this]
  cases r with
  | nil=>rfl
  | cons y r'=>rfl
def jl(ts:List Tx):Nat:=(ts.map (·.length)).sum
def fq(z:Tx):D->Option S
 | .lst ds=>match fW ds with
  | some ts=>if jl ts + ts.length * z.length<=16777216 then some (.pure (.str (jT z ts))) else none
  | none=>none
 | .tup ds=>match fW ds with
  | some ts=>if jl ts + ts.length * z.length<=16777216 then some (.pure (.str (jT z ts))) else none
  | none=>none
 | _=>none
theorem Nb{K:W1}(z:Tx):mr (λx H Q=>ui K (.str (toS z)) [x] H Q) (fq z):=by
 intro c σ δ H x d s Q k rx hp q;have key:∀ (a:Addr) (vs:List V) (ds:List D),x = .ref a->(cK K H a vs\/cR K H a vs)->aN H (Av c σ δ) vs ds->(match fW ds with | some ts=>if jl ts + ts.length * z.length<=16777216 then some (S.pure (.str (jT z ts))) else none | none=>none)=some s->ui K (.str (toS z)) [x] H Q:=by
  intro a vs ds ea ha ra hp
  cases e:fW ds with
  | none=>rw[e] at hp; cases hp
  | some ts =>
   rw[e] at hp;simp only at hp;split at hp
   ·rename_i hz;simp only[W8] at hp;subst hp;have:=pH e ra;subst this;refine⟨toS z,a,ts.map toS,rfl,by rw[ea],?_,?_,?_⟩
    ·rw[Wy]; exact ha
    ·rw[Wy,Q9,jQ];have:((λx:Str=>x.length) ∘ toS)=λx:Tx=>x.length:=funext λx=>jQ x
     rw[this];exact hz
    ·rw[Na];exact q _ H (.refl k) (.str _)
   ·cases hp
 cases d with
 | lst ds =>
  obtain⟨a,vs,ea,ha,ra⟩:=rx.lst;exact key a vs ds ea (.inl (.inl ha)) ra hp
 | tup ds =>
  obtain⟨a,vs,ea,ha,ra⟩:=rx.tup;exact key a vs ds ea (.inr (.of ha)) ra hp
 | _=>simp[fq] at hp
theorem xn{x:Str}{j}{p0 apos cg:Pos}(z:Tx)(he:SB X c e fb)(hx:x=toS z:=by decide +kernel)
  (kY:QT (.Constant (.str x) j p0) "join" X.env (eval (.Constant (.str x) j p0) X.env)=eval (.Constant (.str x) j p0) X.env:=by rfl)
  (kZ:((QW cg (Wk [e] X.env)).all (λx=>!x.1) && (backToKw cg (keywordEach [] X.env)).all (λx=>x.1.isSome)
   && decide ([e].length + ([]:List Keyword).length + (if ([]:List Keyword).isEmpty then 0 else 1) < 30))=true:=by rfl)
  (fU:(apos.endLine == cg.line)=true:=by rfl) (hs:Wk [e] X.env=(false,eval e X.env) :: Wk [] X.env:=by rfl) :
  SE X c (.Call (.Attribute (.Constant (.str x) j p0) "join" apos) [e] [] cg) (aH (fq z) fb):=by
 subst hx;refine PE.weak (tN PySem.F.plainAttrs_str PySem.F.slot_str_join PySem.F.type_str_join MD Bz (gv he jd hs) kY kZ fU hs rfl) λσ H Q h=>?_
 obtain⟨δ,k,q⟩:=ur (r:=λx H Q=>ui X.K (.str (toS z)) [x] H Q) (Nb z) h;refine⟨?_,δ,k,q⟩;show("str" : String) = "str";rfl
end
inductive Fl where
 | next | ret (r:S) | brk | cont
abbrev DS:=Dl->Rs Fl
def fin(c:Fc)(D:Ends)(σ:St)(δ:Dl)(H:Hp):Fl->Prop
 | .next=>D.nx σ H
 | .ret r=>∀ v,bA c σ δ c.H₀ H v r->D.rt v H
 | .brk=>D.bk σ H
 | .cont=>D.ct σ H
def fQ(c:Fc)(D:Ends)(σ:St)(δ:Dl)(H:Hp)(r:Rs Fl):Prop:=post c r λfl δ'=>∀ σ' H',ba c σ δ H σ' δ' H'->fin c D σ' δ' H' fl
def rA(c:Fc)(f:DS):TS:=λD σ H=>∃ δ,Ok c σ δ H/\fQ c D σ δ H (f δ)
abbrev SS(X:Cx)(c:Fc)(st:Stmt)(f:DS):Prop:=PS X st (rA c f)
abbrev jm(X:Cx)(c:Fc)(st:List Stmt)(f:DS):Prop:=fg X st (rA c f)
theorem PS.weak{X:Cx}{st:Stmt}{t t':TS}(h:PS X st t)(w:∀ D σ H,t' D σ H->t D σ H):PS X st t':=λpins s σ H D I q=>h pins s σ H D I (w D σ H q)
theorem fg.weak{X:Cx}{st:List Stmt}{t t':TS}(h:fg X st t)(w:∀ D σ H,t' D σ H->t D σ H):fg X st t':=λpins s σ H D I q=>h pins s σ H D I (w D σ H q)
def cG:DS:=λδ=>.ok .next δ
def az(f g:DS):DS:=λδ=>(f δ).bind λfl δ1=>match fl with
 | .next=>g δ1
 | .ret r=>.ok (.ret r) δ1
 | .brk=>.ok .brk δ1
 | .cont=>.ok .cont δ1
def Nc(f:DE):DS:=λδ=>(f δ).bind λ_ δ1=>.ok .next δ1
def bC(f:DE):DS:=λδ=>(f δ).bind λr δ1=>.ok (.ret r) δ1
def cE(t:DT)(f g:DS):DS:=λδ=>(t δ).bind λb δ1=>if b then f δ1 else g δ1
def VR(np:List Nat)(i:Nat):DE:=λδ=>match δ[i]? with
 | some (some (.own d))=>if np.contains i then .ok (.pure d) (δ.set i (some (.pure d))) else .ok (.own d) (δ.set i none)
 | some (some (.pure d))=>.ok (.pure d) δ
 | _=>.stuck
section
variable {X:Cx} {c:Fc} {st:Stmt} {DW:List Stmt} {e a:Expr} {f g:DS} {fe:DE} {t:DT} {pos pos':Pos}
theorem eW:jm X c [] cG:=fg.weak IM λD σ H ⟨δ,k,q⟩=>q σ H (.refl k)
theorem aO(h1:SS X c st f)(h2:jm X c DW g):jm X c (st :: DW) (az f g):=fg.weak (s_ h1 h2) λD σ H ⟨δ,k,q⟩=>by
 unfold az fQ at q;rw[bM] at q;refine⟨δ,k,aY q λfl δ1 q1 σ1 H1 a1=>?_⟩
 cases fl with
 | next=>exact⟨δ1,a1.ok,aY q1 λVS δ2 q2 σ2 H2 a2=>q2 σ2 H2 (a1.trans a2)⟩
 | ret r=>exact q1 σ1 H1 a1
 | brk=>exact q1 σ1 H1 a1
 | cont=>exact q1 σ1 H1 a1
theorem bo(h1:SS X c st f):jm X c [st] f:=fg.weak (BC h1) λD σ H h=>h
theorem cw(he:SE X c e fe):SS X c (.Return (some e) pos) (bC fe):=PS.weak (BG he) λD σ H ⟨δ,k,q⟩=>by
 unfold bC fQ at q;rw[bM] at q;exact⟨δ,k,aY q λr δ1 q1 v H1 a1 r1=>q1 σ H1 a1 v r1.Mn⟩
theorem eX{b1 b2:List Stmt}(ht:ST X c e t)(h1:jm X c b1 f)(h2:jm X c b2 g):SS X c (.If e b1 b2 pos) (cE t f g):=PS.weak (IT ht h1 h2) λD σ H ⟨δ,k,q⟩=>by
 unfold cE fQ at q;rw[bM] at q;refine⟨δ,k,aY q λb δ1 q1 H1 a1=>?_⟩
 cases b with
 | true=>exact⟨δ1,a1.ok,aY q1 λfl δ2 q2 σ2 H2 a2=>q2 σ2 H2 (a1.trans a2)⟩
 | false=>exact⟨δ1,a1.ok,aY q1 λfl δ2 q2 σ2 H2 a2=>q2 σ2 H2 (a1.trans a2)⟩
theorem Own.rB(h:Own (σ.set i (some v)) (δ.set i (some r)) b):Own σ δ b\/(v = .ref b/\∃ d,r = .own d):=by
 obtain⟨j,d,e1,e2⟩:=h;by_cases hj:i=j
 ·subst hj;right
  rw[Q8] at e1 e2;simp at e1 e2;obtain⟨_,h1⟩:=e1;obtain⟨_,h2⟩:=e2;exact⟨h2,d,h1⟩
 ·rw[W5 hj] at e1 e2;exact .inl ⟨j,d,e1,e2⟩
theorem Ok.set(x:ba c σ₀ δ₀ H₁ σ δ H)(hr:bA c σ δ H₁ H v r)(hp:∀ p ∈ c.pin,p.1≠i):ba c σ₀ δ₀ H₁ (σ.set i (some v)) (δ.set i (some r)) H:=by
 have k:=x.ok;-- all slots avoid the new address,too
 have all:∃ c':Fc,c'.H₀=c.H₀/\c'.pin=c.pin/\Ok c' σ δ H/\(∀ b,Av c (σ.set i (some v)) (δ.set i (some r)) b->Av c' σ δ b):=by
  cases r with
  | pure d =>
   refine⟨c,rfl,rfl,k,λb z=>?_⟩;rcases z with z | z
   ·exact .inl z
   ·rcases z.rB with z | ⟨_,d',e⟩
    ·exact .inr z
    ·cases e
  | own d =>
   obtain⟨a,ea,o,n,f,k2,_⟩:=hr;refine⟨c.plus a,rfl,rfl,k2,λb z=>?_⟩;rcases z with z | z
   ·exact .inl (.inl z)
   ·rcases z.rB with z | ⟨e,_⟩
    ·exact .inr z
    ·rw[ea] at e; cases e
     exact .inl (.inr rfl)
 obtain⟨c',eH,eP,k2,sub⟩:=all;have eI:∀ a,c'.I a ↔ c.I a:=λa=>by unfold Fc.I; rw[eP]
 have Nd:Rep H (Av c (σ.set i (some v)) (δ.set i (some r))) v r.d\/∃ d,r = .own d:=by
  cases r with
  | pure d =>
   left
   refine Rep.aW hr λb z=>?_
   rcases z with z | z
   ·exact .inl (.inl z)
   ·rcases z.rB with z | ⟨_,d',e⟩
    ·exact .inl (.inr z)
    ·cases e
  | own d=>exact .inr ⟨d,rfl⟩
 refine⟨⟨k.keep,k.bd,k.eQ,by rw[Q3,Q3]; exact k.len,λj d e=>?_,λj d e=>?_,λj l a d d' e1 e2 e3 e4=>?_,λp hm=>?_⟩,x.keep,λb z=>?_,x.there⟩
 ·by_cases hj:i=j
  ·subst hj;rw[Q8] at e;simp at e;obtain⟨hi,rfl⟩:=e;have k7:i < σ.length:=by rw[<- k.len]; exact hi
   rcases Nd with h | ⟨_,h⟩
   ·exact⟨v,by rw[Wb k7],h⟩
   ·cases h
  ·rw[W5 hj] at e;obtain⟨w,e1,q⟩:=k2.slot j d e;exact⟨w,by rw[W5 hj]; exact e1,q.aW λb z=>.inl (sub b z)⟩
 ·by_cases hj:i=j
  ·subst hj;rw[Q8] at e;simp at e;obtain⟨hi,rfl⟩:=e;have k7:i < σ.length:=by rw[<- k.len]; exact hi
   obtain⟨a,ea,o,n,f,k3,_⟩:=hr;refine⟨a,by rw[Wb k7,ea],o.aW λb z=>.inl ?_,.inr f,n⟩;rcases z with z | z
   ·exact .inl (.inl z)
   ·rcases z.rB with z | ⟨e,_⟩
    ·exact .inr z
    ·rw[ea] at e; cases e
     exact .inl (.inr rfl)
  ·rw[W5 hj] at e;obtain⟨a,e1,q,q2,q3⟩:=k.own j d e;obtain⟨a',e1',q',_,_⟩:=k2.own j d e;rw[e1] at e1'; cases e1'
   exact⟨a,by rw[W5 hj]; exact e1,q'.aW λb z=>.inl (sub b z),q2,q3⟩
 ·by_cases hj:i=j
  ·subst hj;by_cases hl:i=l
   ·exact hl
   ·rw[W5 hl] at e2 e4;rw[Q8] at e1 e3;simp at e1 e3;obtain⟨_,rfl⟩:=e1;obtain⟨_,rfl⟩:=e3;obtain⟨a',ea,o,n,f,k3,_⟩:=hr
    cases ea;exact absurd ⟨l,d',e2,e4⟩ (ua k3)
  ·rw[W5 hj] at e1 e3;by_cases hl:i=l
   ·subst hl;rw[Q8] at e2 e4;simp at e2 e4;obtain⟨_,rfl⟩:=e2;obtain⟨_,rfl⟩:=e4;obtain⟨a',ea,o,n,f,k3,_⟩:=hr
    cases ea;exact absurd ⟨j,d,e1,e3⟩ (ua k3)
   ·rw[W5 hl] at e2 e4;exact k.inj j l a d d' e1 e2 e3 e4
 ·rw[W5 (Ne.symm (hp p hm))];exact k.pinned p hm
 ·rcases z.rB with z | ⟨e,d,ed⟩
  ·exact x.own b z
  ·subst ed;obtain⟨a,ea,_,_,_,_,hs⟩:=hr;rw[ea] at e; cases e
   exact .inr hs
abbrev DG:=S->Dl->Option Dl
def uw(c:Fc)(g:DG):TG:=λv σ H Q=>∃ σ₀ δ₀ H₁ δ r δ',ba c σ₀ δ₀ H₁ σ δ H/\bA c σ δ H₁ H v r/\g r δ=some δ'/\∀ σ',ba c σ₀ δ₀ H₁ σ' δ' H->Q σ' H
abbrev SG(X:Cx)(c:Fc)(tg:Expr)(g:DG):Prop:=PG X tg (uw c g)
def ag(np:List Nat)(i:Nat):DG:=λr δ=>if np.contains i then none else some (δ.set i (some r))
def Np(c:Fc)(np:List Nat):Prop:=∀ p ∈ c.pin,np.contains p.1=true
theorem xo(hp:Np c np)(h:uw c (ag np i) v σ H Q):tf i v σ H Q:=by
 obtain⟨σ₀,δ₀,H₁,δ,r,δ',x,rr,e,q⟩:=h;unfold ag at e;split at e
 ·cases e
 ·rename_i hn
  cases e;exact q _ (Ok.set x rr λp hm e=>hn (by rw[<- e]; exact hp p hm))
theorem PG.weak{tg:Expr}{t t':TG}(h:PG X tg t)(w:∀ v σ H Q,t' v σ H Q->t v σ H Q):PG X tg t':=λpins s σ H v u Q I r q=>h pins s σ H v u Q I r (w v σ H Q q)
theorem iF.weak{tg:List Expr}{t t':lR}(h:iF X tg t)(w:∀ v σ H Q,t' v σ H Q->t v σ H Q):iF X tg t':=λpins s σ H v u Q I r q=>h pins s σ H v u Q I r (w v σ H Q q)
theorem dZ{np:List Nat}{i:Nat}{x:Str}(hp:Np c np)(hN:X.N.Nodup)(hi:X.N[i]? = some x)(hx:Loc X.env.scope x)(hf:X.fn x=true\/X.env.scope.names.lookup x=some .local):SG X c (.Name x pos) (ag np i) :=
 PG.weak (BJ hN hi hx hf) λv σ H Q h=>xo hp h
abbrev jn:=List D->Dl->Option Dl
def Nf(c:Fc)(g:jn):lR:=λvs σ H Q=>∃ δ ds δ',Ok c σ δ H/\aN H (Av c σ δ) vs ds/\g ds δ=some δ'/\∀ σ',ba c σ δ H σ' δ' H->Q σ' H
abbrev ux(X:Cx)(c:Fc)(tg:List Expr)(g:jn):Prop:=iF X tg (Nf c g)
def b9:jn:=λds δ=>match ds with
 | []=>some δ
 | _=>none
def aQ(g:DG)(gs:jn):jn:=λds δ=>match ds with
 | []=>none
 | d :: r=>(g (.pure d) δ).bind λδ1=>gs r δ1
theorem nW:ux X c [] b9:=iF.weak BK λvs σ H Q ⟨δ,ds,δ',k,r,e,q⟩=>by
 cases ds with
 | nil =>
  cases e;have:vs=[]:=by have:=r.1; simpa using this
  exact⟨this,q σ (.refl k)⟩
 | cons d r=>cases e
theorem ic{es:List Expr}{g:DG}{gs:jn}(h1:SG X c e g)(h2:ux X c es gs)(hs:(Qb (e :: es) X.env).map (·.2)=assign e X.env :: (Qb es X.env).map (·.2):=by rfl):ux X c (e :: es) (aQ g gs) :=
 iF.weak (BL h1 h2 hs) λvs σ H Q ⟨δ,ds,δ',k,r,e,q⟩=>by
  cases ds with
  | nil=>cases e
  | cons d ds =>
   cases vs with
   | nil=>have:=r.1; simp at this
   | cons v vs =>
    simp only[aQ] at e
    cases e1:g (.pure d) δ with
    | none=>rw[e1] at e; cases e
    | some δ1 =>
     rw[e1] at e;refine⟨v,vs,rfl,σ,δ,H,δ,.pure d,δ1,.refl k,r.head,e1,λσ1 a1=>?_⟩;exact⟨δ1,ds,δ',a1.ok,aN.dW r.tail a1,e,λσ2 a2=>q σ2 (a1.trans a2)⟩
def bV(n:Nat)(gs:jn):DG:=λr δ=>match r.d with
 | .tup ds=>if ds.length=n then gs ds δ else none
 | _=>none
theorem nX{es:List Expr}{k:Nat}{gs:jn}{n:Nat}(hc:X.calm=true)(h:ux X c es gs)(hn:(Qb es X.env).length=n:=by rfl)(kh:(Qb es X.env).findIdx? (·.1)=none:=by rfl) :
  SG X c (.Tuple es k pos) (bV n gs):=PG.weak (BM hc h hn kh) λv σ H Q hw=>by
 obtain⟨σ₀,δ₀,H₁,δ,r,δ',x,rr,e,q⟩:=hw;have hb:=rr.b;unfold bV at e;generalize r.d=d at e hb
 cases d <;> first | (cases e; done) | skip
 rename_i ds;simp only at e;split at e
 ·rename_i hl;obtain⟨a,vs,ea,ha,ra⟩:=hb.tup;exact⟨a,vs,ea,.of ha,by rw[ra.1]; exact hl,δ,ds,δ',x.ok,ra,e,λσ' a1=>q σ' (x.trans a1)⟩
 ·cases e
def ax(f:DE)(g:DG):DS:=λδ=>(f δ).bind λr δ1=>match g r δ1 with
 | some δ2=>.ok .next δ2
 | none=>.stuck
theorem xp{g:DG}{D:Ends}{σ:St}{H:Hp}{te:TE}{tg:TG}(he:∀ σ H Q,tD c fe σ H Q->te σ H Q)(hg:∀ v σ H Q,uw c g v σ H Q->tg v σ H Q)(h:rA c (ax fe g) D σ H):qB te tg D σ H:=by
 obtain⟨δ,k,q⟩:=h;unfold ax fQ at q;rw[bM] at q;refine he _ _ _ ⟨δ,k,aY q λr δ1 q1 v H1 a1 r1=>hg _ _ _ _ ?_⟩
 cases e:g r δ1 with
 | none=>rw[e] at q1; exact q1.elim
 | some δ2 =>
  rw[e] at q1;exact⟨σ,δ,H,δ1,r,δ2,a1,r1,e,λσ' a2=>q1 σ' H1 a2⟩
theorem uy{tg:Expr}{g:DG}(he:SE X c e fe)(hg:SG X c tg g)(hs:Jq [tg] e pos.line X.env=pure false:=by rfl)(hw:Jr [tg] e X.env=pure none:=by rfl)
  (h1:(Qb [tg] X.env).map (·.2)=[assign tg X.env]:=by rfl):SS X c (.Assign [tg] e pos) (ax fe g):=PS.weak (vM he hg hs hw h1) λD σ H h=>xp (λ_ _ _ h=>h) (λ_ _ _ _ h=>h) h
theorem bR{np:List Nat}{i:Nat}{x:Str}(hp:Np c np)(hN:X.N.Nodup)(hi:X.N[i]? = some x)(hx:Loc X.env.scope x)(he:SE X c e fe)(hs:Jp e (some (.Name x pos')) pos.line X.env=pure false)(hf:X.fn x=true\/X.env.scope.names.lookup x=some .local) :
  SS X c (.Assign [.Name x pos'] e pos) (ax fe (ag np i)):=PS.weak (IX hN hi hx he hs hf) λD σ H h=>xp (λ_ _ _ h=>h) (λ_ _ _ _ h=>xo hp h) h
theorem Ok.DY{σ:St}{δ:Dl}{H:Hp}{i:Nat}{ds eN:List D}{a:Addr}{gf:List V}(k:Ok c σ δ H)(e:δ[i]? = some (some (.own (.lst ds))))(ea:σ[i]? = some (some (.ref a)))(r:aN H (Av c σ δ) gf eN) :
  ba c σ δ H σ (δ.set i (some (.own (.lst eN)))) (upd H a (.lst gf)):=by
 have hi:i < δ.length:=(W6.mp e).1;obtain⟨a',d_,oa,ia,nb⟩:=k.own i _ e;rw[ea] at d_; cases d_
 obtain⟨vs,ha,_⟩:=oa;have rC:Own σ δ a:=⟨i,_,e,ea⟩
 have xq:Av c σ δ a:=.inr rC;have rD:∀ b,Own σ (δ.set i (some (.own (.lst eN)))) b ↔ Own σ δ b:=λb=>by
  constructor
  ·rintro ⟨j,d,e1,e2⟩;by_cases hj:i=j
   ·subst hj;exact⟨i,_,e,e2⟩
   ·rw[W5 hj] at e1;exact⟨j,d,e1,e2⟩
  ·rintro ⟨j,d,e1,e2⟩;by_cases hj:i=j
   ·subst hj;exact⟨i,_,by rw[Wb hi],e2⟩
   ·exact⟨j,d,by rw[W5 hj]; exact e1,e2⟩
 have nY:∀ b,Av c σ (δ.set i (some (.own (.lst eN)))) b->Av c σ δ b:=λb z=>z.elim .inl λz=>.inr ((rD b).mp z)
 have ne:∀ b,¬ Av c σ δ b->b≠a:=λb n z=>n (by rw[z]; exact xq)
 have kp:∀ b o,H b=some o->¬ Av c σ δ b->upd H a (.lst gf) b=some o:=λb o h n=>by rw[bh (ne b n)]; exact h
 have ku:∀ b o,H b=some o->∃ o',upd H a (.lst gf) b=some o':=λb o h=>by
  by_cases hb:b=a
  ·exact⟨_,by rw[hb]; exact dH⟩
  ·exact⟨o,by rw[bh hb]; exact h⟩
 refine⟨⟨λb o h n=>?_,λb z=>?_,λb z=>?_,by rw[Q3]; exact k.len,λj d h=>?_,λj d h=>?_,λj l b d d' h1 h2 h3 h4=>?_,k.pinned⟩,λb o h n=>?_,λb z=>.inl ((rD b).mp z),ku⟩
 ·have hb:b≠a:=λz=>by
   subst z;rcases ia with z | z
   ·exact n z
   ·rw[z] at h; cases h
  rw[bh hb];exact k.keep b o h n
 ·obtain⟨o,h⟩:=k.bd b z;exact ku b o h
 ·obtain⟨o,h⟩:=k.eQ b z;exact ku b o h
 ·have hj:i≠j:=λz=>by subst z; rw[Wb hi] at h; cases h
  rw[W5 hj] at h;obtain⟨v,h1,h2⟩:=k.slot j d h;exact⟨v,h1,(h2.keep kp).aW λb z=>.inl (nY b z)⟩
 ·by_cases hj:i=j
  ·subst hj;rw[Wb hi] at h
   cases h;exact⟨a,ea,⟨gf,dH,aN.aW (aN.keep r kp) λb z=>.inl (nY b z)⟩,ia,nb⟩
  ·rw[W5 hj] at h;obtain⟨b,h1,h2,h3,h4⟩:=k.own j d h;have hb:b≠a:=λz=>by subst z; exact hj (k.inj i j b _ d e h ea h1)
   exact⟨b,h1,(h2.keep kp λo q=>by rw[bh hb]; exact q).aW λb z=>.inl (nY b z),h3,h4⟩
 ·have f1:∃ d,δ[j]? = some (some (.own d)):=by
   by_cases hj:i=j
   ·subst hj; exact⟨_,e⟩
   ·rw[W5 hj] at h1; exact⟨d,h1⟩
  have f2:∃ d,δ[l]? = some (some (.own d)):=by
   by_cases hj:i=l
   ·subst hj; exact⟨_,e⟩
   ·rw[W5 hj] at h2; exact⟨d',h2⟩
  obtain⟨_,f1⟩:=f1;obtain⟨_,f2⟩:=f2;exact k.inj j l b _ _ f1 f2 h3 h4
 ·have hb:b≠a:=λz=>n (by rw[z]; exact rC)
  rw[bh hb]; exact h
def gU(δ:Dl)(i:Nat):Bool:=match δ[i]? with
 | some (some (.own (.lst _)))=>true
 | _=>false
def putL(δ:Dl)(i:Nat)(f:List D->Option (List D)):Rs Fl:=match δ[i]? with
 | some (some (.own (.lst ds)))=>match f ds with
  | some eN=>.ok .next (δ.set i (some (.own (.lst eN))))
  | none=>.stuck
 | _=>.stuck
theorem DZ(h:gU δ i=true):∃ ds,δ[i]? = some (some (.own (.lst ds))):=by
 unfold gU at h;split at h
 ·rename_i ds e; exact⟨ds,e⟩
 ·cases h
theorem D0{δ:Dl}{i:Nat}{g:List D->Option (List D)}{kk:Fl->Dl->Prop}(h:post c (putL δ i g) kk):∃ ds eN,δ[i]? = some (some (.own (.lst ds)))/\g ds=some eN/\kk .next (δ.set i (some (.own (.lst eN)))):=by
 unfold putL at h;split at h
 ·rename_i ds e;split at h
  ·rename_i eN e2;exact⟨ds,eN,e,e2,h⟩
  ·exact h.elim
 ·exact h.elim
def ft(i:Nat)(f:DE):DS:=λδ=>if gU δ i then(f δ).bind λr δ1=>putL δ1 i λds=>if ds.length < We then some (ds ++ [r.d]) else none else .stuck
theorem Ng{i:Nat}{o:Expr}{p0 apos cg:Pos}(ho:PE X o (cJ i))(he:SE X c e fe)
  (h:PS X (.Expr (.Call (.Attribute o "append" apos) [e] [] cg) pos) (BF (Cv X.K "list" Cw (cJ i) (B7 (tD c fe) B6)))):SS X c (.Expr (.Call (.Attribute o "append" apos) [e] [] cg) pos) (ft i fe) :=
 PS.weak h λD σ H ⟨δ,k,q⟩=>by
  unfold ft fQ at q;split at q
  ·rename_i gz;obtain⟨ds0,e0⟩:=DZ gz;rw[bM] at q;obtain⟨a,ea,oa,_⟩:=k.own i _ e0;refine⟨.ref a,ea,?_,δ,k,aY q λr δ1 q1 v H1 a1 r1=>?_⟩
   ·obtain⟨vs,ha,_⟩:=oa;exact .inl ⟨rfl,vs,.of ha⟩
   ·obtain⟨ds,eN,e1,e2,q2⟩:=D0 q1;split at e2
    ·rename_i hz
     cases e2;obtain⟨a',d_,oa1,_⟩:=a1.ok.own i _ e1;rw[ea] at d_; cases d_
     obtain⟨vs,ha,ra⟩:=id oa1;refine⟨a,vs,v,rfl,rfl,ha,by rw[ra.1]; exact hz,?_⟩;exact q2 σ _ (a1.trans (Ok.DY a1.ok e1 ea (ra.append (.cons r1.rep .nil))))
    ·cases e2
  ·exact q.elim
def gW(i:Nat)(fi:DE)(fe:DE):DS:=λδ=>if gU δ i then(fe δ).bind λr δ1=>(fi δ1).bind λk δ2=>match k with
 | .pure (.int j)=>putL δ2 i λds=>(dS ds.length j).map λn=>ds.set n r.d
 | _=>.stuck else .stuck
theorem rE{i:Nat}{o ix:Expr}{fi:DE}{sp:Pos}(ho:PE X o (cJ i))(hi:SE X c ix fi)(he:SE X c e fe)
  (ha:∀ v,assign (.Subscript o ix sp) X.env v=(do
   let ov <- holding [v] (eval o X.env)
   let iv <- holding [v,ov] (eval ix X.env)
   standAt sp
   holding [v,ov,iv] (setItem ov iv v)
   release [v,ov,iv] []):=by intro _; rfl)
  (hs:Jq [.Subscript o ix sp] e pos.line X.env=pure false:=by rfl) (hw:Jr [.Subscript o ix sp] e X.env=pure none:=by rfl)
  (h1:(Qb [.Subscript o ix sp] X.env).map (·.2)=[assign (.Subscript o ix sp) X.env]:=by rfl):SS X c (.Assign [.Subscript o ix sp] e pos) (gW i fi fe) :=
 PS.weak (vM he (BO ho hi Cr ha) hs hw h1) λD σ H ⟨δ,k,q⟩=>by
  unfold gW fQ at q;split at q
  ·rename_i gz;obtain⟨ds0,e0⟩:=DZ gz;rw[bM] at q;obtain⟨a,ea,_,_⟩:=k.own i _ e0;refine⟨δ,k,aY q λr δ1 q1 v H1 a1 r1=>⟨.ref a,ea,δ1,a1.ok,?_⟩⟩;rw[bM] at q1;refine aY q1 λkx δ2 q2 u H2 a2 r2=>?_
   cases kx with
   | own d=>exact q2.elim
   | pure d =>
    cases d <;> first | exact q2.elim | skip
    rename_i j
    cases r2;obtain⟨ds,eN,e1,e2,q3⟩:=D0 q2
    cases e3:dS ds.length j with
    | none=>rw[e3] at e2; cases e2
    | some n =>
     rw[e3] at e2
     cases e2;obtain⟨a',d_,oa1,_⟩:=a2.ok.own i _ e1;rw[ea] at d_; cases d_
     obtain⟨vs,ha,ra⟩:=id oa1;refine⟨a,vs,j,n,rfl,rfl,ha,by rw[ra.1]; exact e3,?_⟩;exact q3 σ _ (a1.trans (a2.trans (Ok.DY a2.ok e1 ea (ra.set (Rep.dW r1.rep a2) n))))
  ·exact q.elim
end
abbrev DI:=Dl->Rs (List D)
def nZ(c:Fc)(σ:St)(δ:Dl)(H:Hp)(J:It)(ds:List D):Prop:=∀ H2,(∀ a o,H a=some o->¬ Own σ δ a->H2 a=some o)->J.stop ds.length H2 /\
 ∀ (i:Nat) d,ds[i]? = some d->J.go i H2/\∀ x H3,J.qD i H2 x H3->(H3=H2/\Rep H (Av c σ δ) x d) \/
  ∃ p vs es,H2 p=none/\H3=upd H2 p (.tup vs)/\x = .ref p/\d = .tup es/\aN H (Av c σ δ) vs es
def tI(c:Fc)(f:DI):TI:=λσ H R=>∃ δ,Ok c σ δ H/\post c (f δ) λds δ'=>∀ J H',ba c σ δ H σ δ' H'->nZ c σ δ' H' J ds->R J H'
abbrev SI(X:Cx)(c:Fc)(tg iter:Expr)(f:DI):Prop:=PI X tg iter (tI c f)
theorem PI.weak(h:PI X tg iter t)(w:∀ σ H R,t' σ H R->t σ H R):PI X tg iter t':=λpins s σ H R I q=>h pins s σ H R I (w σ H R q)
section
variable {X:Cx} {c:Fc} {tg e:Expr} {fe:DE} {pos pp:Pos}
theorem Nh(K:W1)(h:H a=some (.tup vs))(n:¬ Own σ δ a)(r:aN H (Av c σ δ) vs ds):nZ c σ δ H (vN K a) ds:=by
 intro H2 kp;have h2:=kp a _ h n;refine⟨⟨vs,.of h2,by rw[r.1]; exact Wg _⟩,λi d e=>?_⟩;obtain⟨v,ev,rv⟩:=r.get e;refine⟨⟨vs,v,.of h2,ev⟩,λx H3 ⟨e3,y⟩=>.inl ⟨e3,?_⟩⟩;have:=y vs (.of h2);rw[ev] at this
 cases this;exact rv
def cx(lo:Int)(n:Nat):List D:=(W3 n).map λk:Nat=>D.int (lo + k)
theorem xr{lo:Int}{n i:Nat}{d:D}(h:(cx lo n)[i]? = some d):i < n/\d = .int (lo + i):=by
 unfold cx at h;rw[Wh] at h;by_cases hi:i < n
 ·rw[WR hi] at h;simp at h;exact⟨hi,h.symm⟩
 ·rw[WB (by simpa using hi)] at h
  cases h
theorem Ni(lo:Int)(n:Nat):nZ c σ δ H (tE lo n) (cx lo n):=by
 intro H2 kp;refine⟨by show n<=(cx lo n).length; simp[cx],λi d e=>?_⟩;obtain⟨hi,rfl⟩:=xr e;exact⟨hi,λx H3 ⟨e3,ex⟩=>.inl ⟨e3,by rw[ex]; exact .int _⟩⟩
def pK(j:Int):Bool:=decide (-(2 ^ 62)<=j) && decide (j < 2 ^ 62)
def dD(f:DE):DI:=λδ=>(f δ).bind λr δ1=>match r with
 | .pure (.int j)=>if pK j then .ok (cx 0 j.toNat) δ1 else .stuck
 | _=>.stuck
theorem jU (hg:Gl X "range") (hm:X.mg "range" = none) (he:SE X c e fe) (hs:Wk [e] X.env=[(false,eval e X.env)]:=by rfl):SI X c tg (.Call (.Name "range" pp) [e] [] pos) (dD fe) :=
 PI.weak (Kc hg hm (gv he jd hs) hs) λσ H R ⟨δ,k,q⟩=>by
  unfold dD at q;rw[bM] at q;refine⟨δ,k,aY q λr δ1 q1 v H1 a1 r1=>?_⟩
  cases r with
  | own d=>exact q1.elim
  | pure d =>
   cases d <;> first | exact q1.elim | skip
   rename_i j
   cases r1;simp only at q1;split at q1
   ·rename_i hj;unfold pK at hj;simp only[Ww,decide_eq_true_eq] at hj;exact⟨j,rfl,hj.1,hj.2,q1 _ H1 a1 (Ni 0 j.toNat)⟩
   ·exact q1.elim
def forL(g:DG)(b:DS):List D->DS
 | [],δ=>.ok .next δ
 | d :: r,δ=>match g (.pure d) δ with
  | none=>.stuck
  | some δ1=>(b δ1).bind λfl δ2=>match fl with
   | .next=>forL g b r δ2
   | .cont=>forL g b r δ2
   | .brk=>.ok .next δ2
   | .ret v=>.ok (.ret v) δ2
def er(it:DI)(g:DG)(b:DS):DS:=λδ=>(it δ).bind λds δ1=>forL g b ds δ1
theorem D3(io:nZ c σ δ H J ds)(a:ba c σ δ H σ2 δ2 H2)(e:ds[i]? = some d)(y:J.qD i H2 x H3):ba c σ2 δ2 H2 σ2 δ2 H3/\Rep H3 (Av c σ2 δ2) x d:=by
 obtain⟨_,t⟩:=io H2 a.keep;rcases (t i d e).2 x H3 y with ⟨e3,r⟩ | ⟨p,vs,es,hp,e3,ex,ed,r⟩
 ·subst e3;exact⟨.refl a.ok,Rep.dW r a⟩
 ·subst e3 ex ed;have:=bA.nN a.ok (aN.dW r a) hp;exact⟨.alloc a.ok hp _,this⟩
theorem ie{iter:Expr}{body:List Stmt}{it:DI}{g:DG}{b:DS}(hp:PassesOwn (model X.prog X.w) X.A X.env X.xe)(hc:X.calm=true)(hi:SI X c tg iter it)(hg:SG X c tg g)(hb:jm X c body b)
  (hs:∀ x,QS iter X.env x=pure x:=by intro _; rfl):SS X c (.For tg iter body [] pos) (er it g b):=PS.weak (BU hp hc hi hg hb hs) λD σ H ⟨δ,k,q⟩=>by
 unfold er fQ at q;rw[bM] at q;refine⟨δ,k,aY q λds δ1 q1 J H1 a1 io=>?_⟩;refine⟨λi m σ2 H2=>∃ δ2,m=ds.length - i/\i<=ds.length/\ba c σ δ1 H1 σ2 δ2 H2/\fQ c D σ2 δ2 H2 (forL g b (ds.drop i) δ2),⟨ds.length,δ1,by simp,Qg _,.refl a1.ok,?_⟩,?_⟩
 ·rw[List.drop_zero];exact aY q1 λfl δ2 q2 σ2 H2 a2=>q2 σ2 H2 (a1.trans a2)
 ·rintro i m σ2 H2 ⟨δ2,rfl,jV,a2,p2⟩;by_cases bx:i < ds.length
  ·right
   have e:ds[i]? = some ds[i]:=by simp[bx]
   rw[Qr bx] at p2;refine⟨((io H2 a2.keep).2 i _ e).1,λσ4 H4=>∃ δ4,ba c σ δ1 H1 σ4 δ4 H4/\fQ c D σ4 δ4 H4 (forL g b (ds.drop (i + 1)) δ4),λσ4 H4 ⟨δ4,a4,p4⟩=>⟨ds.length - (i + 1),by omega,δ4,rfl,bx,a4,p4⟩,λx H3 y=>?_⟩;obtain⟨a3,r3⟩:=D3 io a2 e y;simp only[forL,fQ] at p2
   cases eg:g (.pure ds[i]) δ2 with
   | none=>rw[eg] at p2; exact p2.elim
   | some δ3 =>
    rw[eg] at p2;refine⟨σ2,δ2,H3,δ2,.pure ds[i],δ3,.refl a3.ok,r3,eg,λσ3 a3'=>?_⟩;have p3:post c ((b δ3).bind λfl δ2=>match fl with
     | .next=>forL g b (ds.drop (i + 1)) δ2
     | .cont=>forL g b (ds.drop (i + 1)) δ2
     | .brk=>.ok .next δ2
     | .ret v=>.ok (.ret v) δ2) λfl δ'=>∀ σ' H',ba c σ2 δ2 H2 σ' δ' H'->fin c D σ' δ' H' fl:=p2
    rw[bM] at p3;have Nj:ba c σ2 δ2 H2 σ3 δ3 H3:=a3.trans a3';refine⟨δ3,a3'.ok,aY p3 λfl δ4 p4 σ4 H4 a4=>?_⟩;have iP:=Nj.trans a4
    cases fl with
    | next=>exact⟨δ4,a2.trans iP,aY p4 λfl δ5 p5 σ5 H5 a5=>p5 σ5 H5 (iP.trans a5)⟩
    | cont=>exact⟨δ4,a2.trans iP,aY p4 λfl δ5 p5 σ5 H5 a5=>p5 σ5 H5 (iP.trans a5)⟩
    | brk=>exact p4 σ4 H4 iP
    | ret r=>exact p4 σ4 H4 iP
  ·left
   have xt:i=ds.length:=by omega
   subst xt;rw[List.drop_length] at p2;exact⟨(io H2 a2.keep).1,p2 σ2 H2 (.refl a2.ok)⟩
def eF(t:DT)(b:DS):Nat->DS
 | 0,_=>.stuck
 | n + 1,δ=>(t δ).bind λx δ1=>if x then(b δ1).bind λfl δ2=>match fl with
   | .next=>eF t b n δ2
   | .cont=>eF t b n δ2
   | .brk=>.ok .next δ2
   | .ret v=>.ok (.ret v) δ2
  else .ok .next δ1
theorem D4{e:Expr}{body:List Stmt}{t:DT}{b:DS}(n:Nat)(hw:∀ {tt:TT} {tb:TS},PT X e tt->fg X body tb->PS X (.While e body [] pos) (BP tt tb))(ht:ST X c e t)(hb:jm X c body b):SS X c (.While e body [] pos) (eF t b n) :=
 PS.weak (hw ht hb) λD σ H ⟨δ,k,q⟩=>by
  refine⟨λm σ2 H2=>∃ δ2,Ok c σ2 δ2 H2/\fQ c D σ2 δ2 H2 (eF t b m δ2),⟨n,δ,k,q⟩,?_⟩;rintro m σ2 H2 ⟨δ2,k2,q2⟩
  cases m with
  | zero=>exact q2.elim
  | succ m =>
   simp only[eF,fQ] at q2;rw[bM] at q2;refine⟨δ2,k2,aY q2 λx δ3 q3 H3 a3=>?_⟩
   cases x with
   | false=>exact q3 σ2 H3 a3
   | true =>
    have p3:post c ((b δ3).bind λfl δ2=>match fl with
     | .next=>eF t b m δ2
     | .cont=>eF t b m δ2
     | .brk=>.ok .next δ2
     | .ret v=>.ok (.ret v) δ2) λfl δ'=>∀ σ' H',ba c σ2 δ2 H2 σ' δ' H'->fin c D σ' δ' H' fl:=q3
    rw[bM] at p3;refine⟨λσ4 H4=>∃ δ4,Ok c σ4 δ4 H4/\fQ c D σ4 δ4 H4 (eF t b m δ4),λσ4 H4 w=>⟨m,Nat.lt_succ_self _,w⟩,δ3,a3.ok,aY p3 λfl δ4 p4 σ4 H4 a4=>?_⟩;have iP:=a3.trans a4
    cases fl with
    | next=>exact⟨δ4,a4.ok,aY p4 λfl δ5 p5 σ5 H5 a5=>p5 σ5 H5 (iP.trans a5)⟩
    | cont=>exact⟨δ4,a4.ok,aY p4 λfl δ5 p5 σ5 H5 a5=>p5 σ5 H5 (iP.trans a5)⟩
    | brk=>exact p4 σ4 H4 iP
    | ret r=>exact p4 σ4 H4 iP
end
def bT(cs:List Nat)(δ:Dl):Dl:=cs.foldl (λδ i=>δ.set i none) δ
def dh(cs:List Nat)(δ₁ δ:Dl):Dl:=cs.foldl (λδ i=>match δ₁[i]? with | some o=>δ.set i o | none=>δ) δ
def cj(δ:Dl)(i:Nat):Bool:=match δ[i]? with
 | some (some (.own _))=>true
 | _=>false
theorem D5(cs:List Nat):∀ δ:Dl,(bT cs δ).length=δ.length:=by
 induction cs with
 | nil=>intro δ; rfl
 | cons i r ih =>
  intro δ;show(bT r (δ.set i none)).length=_;rw[ih]; simp
theorem jo:∀ (cs:List Nat) (δ:Dl) (i:Nat) (v:S),(bT cs δ)[i]? = some (some v)->δ[i]? = some (some v)/\i ∉ cs:=by
 intro cs;induction cs with
 | nil=>intro δ i v h; exact⟨h,by simp⟩
 | cons j r ih =>
  intro δ i v h;have h':(bT r (δ.set j none))[i]? = some (some v):=h;obtain⟨h1,h2⟩:=ih _ i v h';by_cases e:j=i
  ·subst e;rw[Q8] at h1;simp at h1
  ·rw[W5 e] at h1;exact⟨h1,by simp only[Wl,not_or]; exact⟨Ne.symm e,h2⟩⟩
theorem ll:∀ (cs:List Nat) (σ:St) (i:Nat),i ∉ cs->(bY cs σ)[i]? = σ[i]?:=by
 intro cs;induction cs with
 | nil=>intro σ i _; rfl
 | cons j r ih =>
  intro σ i h;simp only[Wl,not_or] at h;show(bY r (σ.set j none))[i]? = _;rw[ih _ _ h.2,W5 (Ne.symm h.1)]
theorem Nk:∀ (cs:List Nat) (δ:Dl) (i:Nat),i ∉ cs->(bT cs δ)[i]? = δ[i]?:=by
 intro cs;induction cs with
 | nil=>intro σ i _; rfl
 | cons j r ih =>
  intro σ i h;simp only[Wl,not_or] at h;show(bT r (σ.set j none))[i]? = _;rw[ih _ _ h.2,W5 (Ne.symm h.1)]
theorem Nl(cs:List Nat)(δ₁:Dl):∀ δ:Dl,(dh cs δ₁ δ).length=δ.length:=by
 induction cs with
 | nil=>intro δ; rfl
 | cons i r ih =>
  intro δ;unfold dh;rw[Jl];have:=ih (match δ₁[i]? with | some o=>δ.set i o | none=>δ);unfold dh at this;rw[this]
  cases δ₁[i]? <;> simp
theorem uz:∀ (cs:List Nat) (δ₁ δ:Dl) (i:Nat),i ∉ cs->(dh cs δ₁ δ)[i]? = δ[i]?:=by
 intro cs δ₁;induction cs with
 | nil=>intro δ i _; rfl
 | cons j r ih =>
  intro δ i h;simp only[Wl,not_or] at h;unfold dh;rw[Jl];have:=ih (match δ₁[j]? with | some o=>δ.set j o | none=>δ) i h.2;unfold dh at this;rw[this]
  cases δ₁[j]? with
  | none=>rfl
  | some o=>simp only; rw[W5 (Ne.symm h.1)]
theorem xu:∀ (cs:List Nat) (δ₁ δ:Dl) (i:Nat),δ₁.length=δ.length->i ∈ cs->(dh cs δ₁ δ)[i]? = δ₁[i]?:=by
 intro cs δ₁;induction cs with
 | nil=>intro δ i _ h; simp at h
 | cons j r ih =>
  intro δ i hl h;unfold dh;rw[Jl];have ko:δ₁.length=(match δ₁[j]? with | some o=>δ.set j o | none=>δ).length:=by cases δ₁[j]? <;> simp[hl]
  by_cases hr:i ∈ r
  ·have:=ih (match δ₁[j]? with | some o=>δ.set j o | none=>δ) i ko hr;unfold dh at this;exact this
  ·have e:i=j:=by
    rcases Wl.mp h with e | e
    ·exact e
    ·exact absurd e hr
   subst e;have:=uz r δ₁ (match δ₁[i]? with | some o=>δ.set i o | none=>δ) i hr;unfold dh at this;rw[this]
   cases e:δ₁[i]? with
   | none =>
    simp only;have:=List.getElem?_eq_none_iff.mp e;exact WB (by omega)
   | some o =>
    simp only;have:=(W6.mp e).1;rw[Wb (by omega)]
section
variable {c:Fc} {σ:St} {δ δ':Dl} {H H':Hp} {l:Addr} {cs:List Nat}
theorem Ok.less(k:Ok (c.plus l) σ δ H):Ok c σ δ H:=by
 have sub:∀ b,Av c σ δ b->Av (c.plus l) σ δ b:=λb z=>z.elim (λz=>.inl (.inl z)) .inr
 refine⟨k.keep,λa z=>k.bd a (.inl z),k.eQ,k.len,λi d e=>?_,λi d e=>?_,k.inj,k.pinned⟩
 ·obtain⟨v,h1,h2⟩:=k.slot i d e;exact⟨v,h1,h2.aW λb z=>.inl (sub b z)⟩
 ·obtain⟨a,h1,h2,h3,h4⟩:=k.own i d e;exact⟨a,h1,h2.aW λb z=>.inl (sub b z),h3,λz=>h4 (.inl z)⟩
theorem Ok.Nm(k:Ok c σ δ H)(hb:c.B l)(h0:c.H₀ l=none)(o:HO):Ok c σ δ (upd H l o):=by
 have kp:∀ b w,H b=some w->¬ Av c σ δ b->upd H l o b=some w:=λb w e n=>by
  rw[bh (λz=>n (by rw[z]; exact .inl hb))]; exact e
 have ku:∀ b w,H b=some w->∃ w',upd H l o b=some w':=λb w h=>by
  by_cases hb:b=l
  ·exact⟨_,by rw[hb]; exact dH⟩
  ·exact⟨w,by rw[bh hb]; exact h⟩
 refine⟨λa w e n=>?_,λa z=>?_,λa z=>?_,k.len,λi d e=>?_,λi d e=>?_,k.inj,k.pinned⟩
 ·have:a≠l:=λz=>by rw[z,h0] at e; cases e
  rw[bh this]; exact k.keep a w e n
 ·obtain⟨w,e⟩:=k.bd a z; exact ku a w e
 ·obtain⟨w,e⟩:=k.eQ a z; exact ku a w e
 ·obtain⟨v,h1,h2⟩:=k.slot i d e;exact⟨v,h1,h2.keep kp⟩
 ·obtain⟨a,h1,h2,h3,h4⟩:=k.own i d e;have:a≠l:=λz=>h4 (by rw[z]; exact hb)
  exact⟨a,h1,h2.keep kp λw q=>by rw[bh this]; exact q,h3,h4⟩
theorem Own.bY(h:Own (bY cs σ) (bT cs δ) l):Own σ δ l:=by
 obtain⟨i,d,e1,e2⟩:=h;exact⟨i,d,(jo cs δ i _ e1).1,(l_ cs σ i _ e2).1⟩
theorem Ok.bY(k:Ok c σ δ H)(hp:∀ p ∈ c.pin,p.1 ∉ cs):Ok c (L2.bY cs σ) (bT cs δ) H:=by
 have sub:∀ b,Av c (L2.bY cs σ) (bT cs δ) b->Av c σ δ b:=λb z=>z.elim .inl λz=>.inr z.bY
 refine⟨k.keep,k.bd,k.eQ,by rw[D5,tW]; exact k.len,λi d e=>?_,λi d e=>?_,λi j a d d' e1 e2 e3 e4=>?_,λp hm=>?_⟩
 ·obtain⟨e',hi⟩:=jo cs δ i _ e;obtain⟨v,h1,h2⟩:=k.slot i d e';exact⟨v,by rw[ll cs σ i hi]; exact h1,h2.aW λb z=>.inl (sub b z)⟩
 ·obtain⟨e',hi⟩:=jo cs δ i _ e;obtain⟨a,h1,h2,h3⟩:=k.own i d e';exact⟨a,by rw[ll cs σ i hi]; exact h1,h2.aW λb z=>.inl (sub b z),h3⟩
 ·exact k.inj i j a d d' (jo cs δ i _ e1).1 (jo cs δ j _ e2).1 (l_ cs σ i _ e3).1 (l_ cs σ j _ e4).1
 ·rw[ll cs σ _ (hp p hm)]; exact k.pinned p hm
theorem ba.back(k:Ok c₀ σ δ H)(Nn:c.pin=c₀.pin)(hB:∀ b,c.B b->c₀.B b\/H b=none)(kU:cs.any (cj δ)=false)(x:ba c (L2.bY cs σ) (bT cs δ) H (L2.bY cs σ) δ' H'):ba c σ δ H σ (dh cs δ δ') H':=by
 have len:δ.length=δ'.length:=by
  have:=x.ok.len;rw[tW] at this;rw[this]; exact k.len
 have qr:∀ i d,i ∈ cs->δ[i]?≠some (some (.own d)):=λi d hi e=>by
  have:=List.any_eq_false.mp kU i hi;unfold cj at this;rw[e] at this;simp at this
 have ownOut:∀ i d,(dh cs δ δ')[i]? = some (some (.own d))->i ∉ cs/\δ'[i]? = some (some (.own d)):=λi d e=>by
  by_cases hi:i ∈ cs
  ·rw[xu cs δ δ' i len hi] at e;exact absurd e (qr i d hi)
  ·rw[uz cs δ δ' i hi] at e;exact⟨hi,e⟩
 have sub:∀ b,Own σ (dh cs δ δ') b->Own (L2.bY cs σ) δ' b:=λb ⟨i,d,e1,e2⟩=>by
  obtain⟨hi,e⟩:=ownOut i d e1;exact⟨i,d,e,by rw[ll cs σ i hi]; exact e2⟩
 have jq:∀ b,Av c σ (dh cs δ δ') b->Av c (L2.bY cs σ) δ' b:=λb z=>z.elim .inl λz=>.inr (sub b z)
 have ownEq:∀ b,Own σ δ b->Own (L2.bY cs σ) (bT cs δ) b:=λb ⟨i,d,e1,e2⟩=>by
  have hi:i ∉ cs:=λz=>qr i d z e1
  exact⟨i,d,by rw[Nk cs δ i hi]; exact e1,by rw[ll cs σ i hi]; exact e2⟩
 refine⟨⟨x.ok.keep,x.ok.bd,x.ok.eQ,by rw[Nl,<- len]; exact k.len,λi d e=>?_,λi d e=>?_,λi j a d d' e1 e2 e3 e4=>?_,by rw[Nn]; exact k.pinned⟩,λa o e n=>?_,λa z=>?_,x.there⟩
 ·by_cases hi:i ∈ cs
  ·rw[xu cs δ δ' i len hi] at e;obtain⟨v,h1,h2⟩:=k.slot i d e;have h3:Rep H (Av c (L2.bY cs σ) (bT cs δ)) v d:=h2.aW λb z=>by
    rcases z with z | z
    ·exact(hB b z).elim (λz=>.inl (.inl z)) .inr
    ·exact .inl (.inr z.bY)
   exact⟨v,h1,(Rep.dW h3 x).aW λb z=>.inl (jq b z)⟩
  ·rw[uz cs δ δ' i hi] at e;obtain⟨v,h1,h2⟩:=x.ok.slot i d e;exact⟨v,(l_ cs σ i v h1).1,h2.aW λb z=>.inl (jq b z)⟩
 ·obtain⟨hi,e'⟩:=ownOut i d e;obtain⟨a,h1,h2,h3⟩:=x.ok.own i d e';exact⟨a,(l_ cs σ i _ h1).1,h2.aW λb z=>.inl (jq b z),h3⟩
 ·obtain⟨hi,f1⟩:=ownOut i d e1;obtain⟨hj,f2⟩:=ownOut j d' e2;exact x.ok.inj i j a d d' f1 f2 (by rw[ll cs σ i hi]; exact e3) (by rw[ll cs σ j hj]; exact e4)
 ·exact x.keep a o e λz=>n z.bY
 ·rcases x.own a (sub a z) with q | q
  ·exact .inl q.bY
  ·exact .inr q
end
def cU(cs:List Nat)(g:DG)(t:DT)(el:DE):List D->Dl->List D->Rs (List D)
 | [],δ,acc=>.ok acc δ
 | d :: r,δ,acc=>match g (.pure d) δ with
  | none=>.stuck
  | some δ1=>(t δ1).bind λb δ2=>if b then(el δ2).bind λx δ3=>if acc.length < We then cU cs g t el r (bT cs δ3) (acc ++ [x.d]) else .stuck
   else cU cs g t el r (bT cs δ2) acc
def bD(cs:List Nat)(it:DI)(g:DG)(t:DT)(el:DE):DE:=λδ=>(it δ).bind λds δ1=>if cs.any (cj δ1) then .stuck else
 (cU cs g t el ds (bT cs δ1) []).bind λacc δ2=>.ok (.own (.lst acc)) (dh cs δ1 δ2)
def aV:DT:=λδ=>.ok true δ
abbrev uA(X:Cx)(c:Fc)(ifs:List Expr)(t:DT):Prop:=pw X ifs (tT c t)
theorem fF{X:Cx}{c:Fc}:uA X c [] aV:=λpins s σ H Q I ⟨δ,k,q⟩=>Mc pins s σ H Q I (q H (.refl k))
theorem xw{X:Cx}{c:Fc}{e:Expr}{t:DT}(h:ST X c e t):uA X c [e] t:=zev h
section
variable {X:Cx} {c:Fc} {cs:List Nat} {tg iter elt:Expr} {ifs:List Expr} {scope:Scope} {pos:Pos} {it:DI} {g:DG} {t:DT} {el:DE}
theorem ba.clear(x:ba c (L2.bY cs σ) δ H σ4 δ4 H4)(le:Le (L2.bY cs σ) σ4)(hp:∀ p ∈ c.pin,p.1 ∉ cs)(hs:∀ (i:Nat) v,σ4[i]? = some (some v)->i ∉ cs->σ[i]? = some (some v)):ba c (L2.bY cs σ) δ H (L2.bY cs σ) (bT cs δ4) H4:=by
 have eq:∀ i,i ∉ cs->∀ v,σ4[i]? = some (some v)->(L2.bY cs σ)[i]? = some (some v):=λi hi v e=>by rw[ll cs σ i hi]; exact hs i v e hi
 have own:∀ b,Own (L2.bY cs σ) (bT cs δ4) b->Own σ4 δ4 b:=λb ⟨i,d,e1,e2⟩=>by
  exact⟨i,d,(jo cs δ4 i _ e1).1,le.2 i _ e2⟩
 have sub:∀ b,Av c (L2.bY cs σ) (bT cs δ4) b->Av c σ4 δ4 b:=λb z=>z.elim .inl λz=>.inr (own b z)
 have k:=x.ok;refine⟨⟨k.keep,k.bd,k.eQ,by rw[D5,k.len]; exact le.1,λi d e=>?_,λi d e=>?_,λi j a d d' e1 e2 e3 e4=>?_,λp hm=>?_⟩,x.keep,λa z=>x.own a (own a z),x.there⟩
 ·obtain⟨e',hi⟩:=jo cs δ4 i _ e;obtain⟨v,h1,h2⟩:=k.slot i d e';exact⟨v,eq i hi v h1,h2.aW λb z=>.inl (sub b z)⟩
 ·obtain⟨e',hi⟩:=jo cs δ4 i _ e;obtain⟨a,h1,h2,h3⟩:=k.own i d e';exact⟨a,eq i hi _ h1,h2.aW λb z=>.inl (sub b z),h3⟩
 ·exact k.inj i j a d d' (jo cs δ4 i _ e1).1 (jo cs δ4 j _ e2).1 (le.2 i _ e3) (le.2 j _ e4)
 ·exact eq p.1 (hp p hm) _ (k.pinned p hm)
def Out(cs:List Nat)(σ σ':St):Prop:=σ'.length=σ.length/\∀ i,i ∉ cs->σ'[i]? = σ[i]?
theorem Out.trans(a:Out cs σ σ')(b:Out cs σ' σ''):Out cs σ σ'':=⟨b.1.trans a.1,λi h=>(b.2 i h).trans (a.2 i h)⟩
def uB(cs:List Nat)(c:Fc)(g:DG):TG:=λv σ H Q=>∃ σ₀ δ₀ H₁ δ r δ',ba c σ₀ δ₀ H₁ σ δ H/\bA c σ δ H₁ H v r/\g r δ=some δ'/\∀ σ',ba c σ₀ δ₀ H₁ σ' δ' H->Out cs σ σ'->Q σ' H
abbrev rF(X:Cx)(c:Fc)(cs:List Nat)(tg:Expr)(g:DG):Prop:=PG X tg (uB cs c g)
theorem dk{np:List Nat}{i:Nat}{x:Str}(hp:Np c np)(hN:X.N.Nodup)(hi:X.N[i]? = some x)(hx:Loc X.env.scope x)(hf:X.fn x=true\/X.env.scope.names.lookup x=some .local)(hc:i ∈ cs):rF X c cs (.Name x pos) (ag np i) :=
 PG.weak (BJ hN hi hx hf) λv σ H Q ⟨σ₀,δ₀,H₁,δ,r,δ',x,rr,e,q⟩=>by
  unfold ag at e;split at e
  ·cases e
  ·rename_i hn
   cases e;refine q _ (Ok.set x rr λp hm e=>hn (by rw[<- e]; exact hp p hm)) ⟨by simp,λj hj=>?_⟩;rw[W5 (λz=>hj (by rw[<- z]; exact hc))]
def Nq(cs:List Nat)(c:Fc)(g:jn):lR:=λvs σ H Q=>∃ δ ds δ',Ok c σ δ H/\aN H (Av c σ δ) vs ds/\g ds δ=some δ'/\∀ σ',ba c σ δ H σ' δ' H->Out cs σ σ'->Q σ' H
abbrev uC(X:Cx)(c:Fc)(cs:List Nat)(tg:List Expr)(g:jn):Prop:=iF X tg (Nq cs c g)
theorem n4:uC X c cs [] b9:=iF.weak BK λvs σ H Q ⟨δ,ds,δ',k,r,e,q⟩=>by
 cases ds with
 | nil =>
  cases e;have:vs=[]:=by have:=r.1; simpa using this
  exact⟨this,q σ (.refl k) ⟨rfl,λ_ _=>rfl⟩⟩
 | cons d r=>cases e
theorem ig{e:Expr}{es:List Expr}{g:DG}{gs:jn}(h1:rF X c cs e g)(h2:uC X c cs es gs)(hs:(Qb (e :: es) X.env).map (·.2)=assign e X.env :: (Qb es X.env).map (·.2):=by rfl):uC X c cs (e :: es) (aQ g gs) :=
 iF.weak (BL h1 h2 hs) λvs σ H Q ⟨δ,ds,δ',k,r,e,q⟩=>by
  cases ds with
  | nil=>cases e
  | cons d ds =>
   cases vs with
   | nil=>have:=r.1; simp at this
   | cons v vs =>
    simp only[aQ] at e
    cases e1:g (.pure d) δ with
    | none=>rw[e1] at e; cases e
    | some δ1 =>
     rw[e1] at e;refine⟨v,vs,rfl,σ,δ,H,δ,.pure d,δ1,.refl k,r.head,e1,λσ1 a1 o1=>?_⟩;exact⟨δ1,ds,δ',a1.ok,aN.dW r.tail a1,e,λσ2 a2 o2=>q σ2 (a1.trans a2) (o1.trans o2)⟩
theorem n5{es:List Expr}{k:Nat}{gs:jn}{n:Nat}(hc:X.calm=true)(h:uC X c cs es gs)(hn:(Qb es X.env).length=n:=by rfl)(kh:(Qb es X.env).findIdx? (·.1)=none:=by rfl) :
  rF X c cs (.Tuple es k pos) (bV n gs):=PG.weak (BM hc h hn kh) λv σ H Q hw=>by
 obtain⟨σ₀,δ₀,H₁,δ,r,δ',x,rr,e,q⟩:=hw;have hb:=rr.b;unfold bV at e;generalize r.d=d at e hb
 cases d <;> first | (cases e; done) | skip
 rename_i ds;simp only at e;split at e
 ·rename_i hl;obtain⟨a,vs,ea,ha,ra⟩:=hb.tup;exact⟨a,vs,ea,.of ha,by rw[ra.1]; exact hl,δ,ds,δ',x.ok,ra,e,λσ' a1 o1=>q σ' (x.trans a1) o1⟩
 ·cases e
theorem ba.less(x:ba (c.plus l) σ δ H σ' δ' H'):ba c σ δ H σ' δ' H':=⟨x.ok.less,x.keep,x.own,x.there⟩
theorem D6(Nr:∀ σ H R,tI c it σ H R->wi σ H R)(hg:∀ l v σ H Q,uB cs (c.plus l) g v σ H Q->gt v σ H Q)(ht:∀ l σ H Q,tT (c.plus l) t σ H Q->tt σ H Q)(he:∀ l σ H Q,tD (c.plus l) el σ H Q->te σ H Q)
  (hp:∀ p ∈ c.pin,p.1 ∉ cs) (h:tD c (bD cs it g t el) σ H Q):wD cs wi gt tt te σ H Q:=by
 obtain⟨δ,k,q⟩:=h;unfold bD at q;rw[bM] at q;refine Nr _ _ _ ⟨δ,k,aY q λds δ1 q1 J H1 a1 io=>?_⟩;intro l hl;split at q1
 ·exact q1.elim
 ·rename_i kU;have D7:cs.any (cj δ1)=false:=by simpa using kU
  rw[bM] at q1;have k1:=a1.ok;have kp:=k1.plus hl (.lst []);have k0:Ok (c.plus l) (L2.bY cs σ) (bT cs δ1) (upd H1 l (.lst [])):=kp.bY hp;have up:∀ a w,H1 a=some w->upd H1 l (.lst []) a=some w:=λa w e=>by
   rw[bh (gK e hl)]; exact e
  have h0:c.H₀ l=none:=k1.qV hl;-- the walked things,as the block sees them
  have xx:nZ (c.plus l) (L2.bY cs σ) (bT cs δ1) H1 J ds:=by
   intro H2 kp2;obtain⟨s1,s2⟩:=io H2 λa o e n=>kp2 a o e λz=>n z.bY
   have cv:∀ {x:V} {d:D},Rep H1 (Av c σ δ1) x d->Rep H1 (Av (c.plus l) (L2.bY cs σ) (bT cs δ1)) x d:=λ{x d} r =>
    r.aW λb z=>by
     rcases z with (z | z) | z
     ·exact .inl (.inl z)
     ·exact .inr (by rw[z]; exact hl)
     ·exact .inl (.inr z.bY)
   refine⟨s1,λi d e=>⟨(s2 i d e).1,λx H3 y=>?_⟩⟩;rcases (s2 i d e).2 x H3 y with ⟨e3,r⟩ | ⟨p,vs,es,hp,e3,ex,ed,r⟩
   ·exact .inl ⟨e3,cv r⟩
   ·exact .inr ⟨p,vs,es,hp,e3,ex,ed,r.1,λi v d e1 e2=>cv (r.2 i v d e1 e2)⟩
  let Fin:List D->Dl->Prop:=λacc δ'=>∀ H' vs,ba (c.plus l) (L2.bY cs σ) (bT cs δ1) H1 (L2.bY cs σ) δ' H'->H' l=some (.lst vs)->aN H' (Av (c.plus l) (L2.bY cs σ) δ') vs acc->Q (.ref l) H'
  have q2:post c (cU cs g t el ds (bT cs δ1) []) Fin:=aY q1 λacc δ2 q2 H' vs x hv r=>by
   have b1:ba (c.plus l) σ δ1 H1 σ (dh cs δ1 δ2) H':=ba.back k1 rfl (λb z=>z.elim .inl λz=>.inr (by rw[z]; exact hl)) D7 x;have b2:ba c σ δ1 H1 σ (dh cs δ1 δ2) H':=b1.less;have len:δ1.length=δ2.length:=by
    have:=x.ok.len;rw[tW] at this;rw[this]; exact k1.len
   have Nt:H l=none:=by
    cases e:H l with
    | none=>rfl
    | some o =>
     obtain⟨o',e'⟩:=a1.there l o e;rw[hl] at e'; cases e'
   refine q2 _ H' (a1.trans b2) ⟨l,rfl,⟨vs,hv,aN.aW r λb z=>.inl ?_⟩,λz=>k1.mf hl (.inl z),h0,b1.ok,Nt⟩;rcases z with z | ⟨i,d,e1,e2⟩
   ·exact .inl z
   ·have hi:i ∉ cs:=λhi=>by
     rw[xu cs δ1 δ2 i len hi] at e1;have:=List.any_eq_false.mp D7 i hi;unfold cj at this;rw[e1] at this;simp at this
    rw[uz cs δ1 δ2 i hi] at e1;exact .inr ⟨i,d,e1,by rw[ll cs σ i hi]; exact e2⟩
  refine⟨λi m H2=>∃ δ2 acc vs,m=ds.length - i/\i<=ds.length/\ba (c.plus l) (L2.bY cs σ) (bT cs δ1) H1 (L2.bY cs σ) δ2 H2/\H2 l=some (.lst vs)/\aN H2 (Av (c.plus l) (L2.bY cs σ) δ2) vs acc /\
   post c (cU cs g t el (ds.drop i) δ2 acc) Fin,⟨ds.length,bT cs δ1,[],[],by simp,Qg _,⟨k0,λa w e _=>up a w e,λa z=>.inl z,λa w e=>⟨w,up a w e⟩⟩,dH,.nil,by rw[List.drop_zero]; exact q2⟩,?_⟩
  rintro i m H2 ⟨δ2,acc,vs,rfl,jV,a2,hv,rv,p2⟩;by_cases bx:i < ds.length
  ·right
   have e:ds[i]? = some ds[i]:=by simp[bx]
   rw[Qr bx] at p2;refine⟨((xx H2 a2.keep).2 i _ e).1,λx H3 y=>hg l _ _ _ _ ?_⟩;obtain⟨a3,r3⟩:=D3 xx a2 e y;simp only[cU] at p2
   cases eg:g (.pure ds[i]) δ2 with
   | none=>rw[eg] at p2; exact p2.elim
   | some δ3 =>
    rw[eg] at p2;have p3:post c ((t δ3).bind λb δ2=>if b then(el δ2).bind λx δ3=>if acc.length < We then cU cs g t el (ds.drop (i + 1)) (bT cs δ3) (acc ++ [x.d]) else .stuck
     else cU cs g t el (ds.drop (i + 1)) (bT cs δ2) acc) Fin:=p2
    refine⟨L2.bY cs σ,δ2,H3,δ2,.pure ds[i],δ3,.refl a3.ok,r3,eg,λσ4 a4 o4=>?_⟩;have le:Le (L2.bY cs σ) σ4:=⟨o4.1,λj v ej=>by
     rw[o4.2 j (l_ cs σ j v ej).2]; exact ej⟩
    have hs:∀ (j:Nat) v,σ4[j]? = some (some v)->j ∉ cs->σ[j]? = some (some v):=λj v ej hj=>by
     rw[o4.2 j hj] at ej;exact(l_ cs σ j v ej).1
    refine⟨le,ht l _ _ _ ⟨δ3,a4.ok,?_⟩⟩;rw[bM] at p3;have D8:∀ p ∈ (c.plus l).pin,p.1 ∉ cs:=hp;have iP:=a2.trans (a3.trans a4);have ln:∀ {σ':St} {δ':Dl} {H':Hp},Ok (c.plus l) σ' δ' H'->¬ Own σ' δ' l:=λ{σ' δ' H'} k=>ua k
    have Nu:post (c.plus l) (t δ3) λb δ5=>post c (if b then(el δ5).bind λx δ3=>if acc.length < We then cU cs g t el (ds.drop (i + 1)) (bT cs δ3) (acc ++ [x.d]) else .stuck
     else cU cs g t el (ds.drop (i + 1)) (bT cs δ5) acc) Fin:=p3
    refine aY Nu λb δ5 p5 H5 a5=>?_
    have D9:=iP.trans a5;have Nv:H3 l=some (.lst vs):=a3.keep l _ hv (ln a2.ok);have D_:H5 l=some (.lst vs):=a5.keep l _ Nv (ln a4.ok);have Ea:=aN.dW (aN.dW (aN.dW rv a3) a4) a5
    cases b with
    | false =>
     have c5:=D9.clear le D8 hs;refine⟨ds.length - (i + 1),by omega,bT cs δ5,acc,vs,rfl,bx,c5,D_,aN.aW Ea λb z=>.inl ?_,p5⟩;exact z.elim .inl λ⟨j,d,e1,e2⟩=>.inr ⟨j,d,(jo cs δ5 j _ e1).1,le.2 j _ e2⟩
    | true =>
     have Eb:post c ((el δ5).bind λx δ3=>if acc.length < We then cU cs g t el (ds.drop (i + 1)) (bT cs δ3) (acc ++ [x.d]) else .stuck) Fin:=p5;rw[bM] at Eb;refine he l _ _ _ ⟨δ5,a5.ok,?_⟩;have p6:post (c.plus l) (el δ5) λx δ6=>post c (if acc.length < We then cU cs g t el (ds.drop (i + 1)) (bT cs δ6) (acc ++ [x.d]) else .stuck) Fin:=Eb
     refine aY p6 λx δ6 p7 v H6 a6 r6=>?_
     split at p7
     ·rename_i hz;have rG:=D9.trans a6;have Nw:H6 l=some (.lst vs):=a6.keep l _ D_ (ln a5.ok);have Ec:=aN.dW Ea a6;have rr:aN H6 (Av (c.plus l) σ4 δ6) (vs ++ [v]) (acc ++ [x.d]):=Ec.append (.cons r6.rep .nil);have c6:=rG.clear le D8 hs;have Nx:∀ b o,H6 b=some o->¬ Av (c.plus l) σ4 δ6 b->upd H6 l (.lst (vs ++ [v])) b=some o:=λb o e n=>by
       rw[bh (λz=>n (by rw[z]; exact .inl (.inr rfl)))]; exact e
      have Ny:∀ b,Av (c.plus l) (L2.bY cs σ) (bT cs δ6) b->Av (c.plus l) σ4 δ6 b:=λb z=>z.elim .inl λ⟨j,d,e1,e2⟩=>.inr ⟨j,d,(jo cs δ6 j _ e1).1,le.2 j _ e2⟩
      refine⟨vs,ds.length - (i + 1),Nw,by rw[Ec.1]; exact hz,by omega,bT cs δ6,acc ++ [x.d],vs ++ [v],rfl,bx,?_,dH,aN.aW (aN.keep rr Nx) λb z=>.inl (Ny b z),p7⟩;-- the list that is built has grown
      refine⟨c6.ok.Nm (.inr rfl) h0 _,λa o ea n=>?_,λa z=>c6.own a z,λa o ea=>?_⟩
      ·have uD:a≠l:=λz=>by rw[z,hl] at ea; cases ea
       rw[bh uD]; exact c6.keep a o ea n
      ·by_cases uD:a=l
       ·exact⟨_,by rw[uD]; exact dH⟩
       ·obtain⟨o',e'⟩:=c6.there a o ea;exact⟨o',by rw[bh uD]; exact e'⟩
     ·exact p7.elim
  ·left
   have xt:i=ds.length:=by omega
   subst xt;rw[List.drop_length] at p2;exact⟨(xx H2 a2.keep).1,p2 H2 vs a2 hv rv⟩
theorem fX(hc:X.calm=true)(S:nL X scope cs)(hi:SI X c tg iter it)(hg:∀ l s₀ H₀ ex,rF (fK X scope s₀ H₀ ex) (c.plus l) cs tg g)(ht:∀ l s₀ H₀ ex,uA (fK X scope s₀ H₀ ex) (c.plus l) ifs t)
  (he:∀ l s₀ H₀ ex,SE (fK X scope s₀ H₀ ex) (c.plus l) elt el) (hp:∀ p ∈ c.pin,p.1 ∉ cs) (hs:∀ x,QS iter X.env x=pure x:=by intro _; rfl) :
  SE X c (.ListComp elt [⟨tg,iter,ifs,0⟩] scope pos) (bD cs it g t el) :=
 PE.weak (Mj (g:=λv σ H Q=>∃ l,uB cs (c.plus l) g v σ H Q) (tt:=λσ H Q=>∃ l,tT (c.plus l) t σ H Q) (te:=λσ H Q=>∃ l,tD (c.plus l) el σ H Q) hc S hi
  (λs₀ H₀ ex pins s σ H v u Q I r ⟨l,q⟩=>hg l s₀ H₀ ex pins s σ H v u Q I r q) (λs₀ H₀ ex pins s σ H Q I ⟨l,q⟩=>ht l s₀ H₀ ex pins s σ H Q I q) (λs₀ H₀ ex pins s σ H Q I ⟨l,q⟩=>he l s₀ H₀ ex pins s σ H Q I q) hs)
  λσ H Q h=>D6 (λ_ _ _ h=>h) (λl _ _ _ _ h=>⟨l,h⟩) (λl _ _ _ h=>⟨l,h⟩) (λl _ _ _ h=>⟨l,h⟩) hp h
theorem rH{np:List Nat}{i:Nat}{y:Str}{py t9:Pos}(aw:Np c np)(hc:X.calm=true)(S:nL X scope cs)(hN:X.N.Nodup)(k7:X.N[i]? = some y)(hy:X.env.scope.names.lookup y=some .local)
  (hi:SI X c tg iter it) (hg:∀ l s₀ H₀ ex,rF (fK X scope s₀ H₀ ex) (c.plus l) cs tg g) (ht:∀ l s₀ H₀ ex,uA (fK X scope s₀ H₀ ex) (c.plus l) ifs t)
  (he:∀ l s₀ H₀ ex,SE (fK X scope s₀ H₀ ex) (c.plus l) elt el) (hp:∀ p ∈ c.pin,p.1 ∉ cs)
  (qU:Jp (.ListComp elt [⟨tg,iter,ifs,0⟩] scope pos) (some (.Name y py)) t9.line X.env=pure true:=by rfl) (hs:∀ x,QS iter X.env x=pure x:=by intro _; rfl) :
  SS X c (.Assign [.Name y py] (.ListComp elt [⟨tg,iter,ifs,0⟩] scope pos) t9) (ax (bD cs it g t el) (ag np i)) :=
 PS.weak (Mk (g:=λv σ H Q=>∃ l,uB cs (c.plus l) g v σ H Q) (tt:=λσ H Q=>∃ l,tT (c.plus l) t σ H Q) (te:=λσ H Q=>∃ l,tD (c.plus l) el σ H Q) hc S hN k7 hy hi
  (λs₀ H₀ ex pins s σ H v u Q I r ⟨l,q⟩=>hg l s₀ H₀ ex pins s σ H v u Q I r q) (λs₀ H₀ ex pins s σ H Q I ⟨l,q⟩=>ht l s₀ H₀ ex pins s σ H Q I q) (λs₀ H₀ ex pins s σ H Q I ⟨l,q⟩=>he l s₀ H₀ ex pins s σ H Q I q) qU hs)
  λD σ H h=>xp (λσ H Q h=>D6 (λ_ _ _ h=>h) (λl _ _ _ _ h=>⟨l,h⟩) (λl _ _ _ h=>⟨l,h⟩) (λl _ _ _ h=>⟨l,h⟩) hp h) (λ_ _ _ _ h=>xo aw h) h
end
abbrev DF:=List S->Option (S×List S)
def eG:Nat->List S->List V->List (Nat×Addr)
 | n,.own _ :: ss,.ref a :: vs=>(n,a) :: eG (n + 1) ss vs
 | n,_ :: ss,_ :: vs=>eG (n + 1) ss vs
 | _,_,_=>[]
theorem rJ:∀ {n:Nat} {ss:List S} {vs:List V} {i:Nat} {a:Addr},(i,a) ∈ eG n ss vs->∃ j d,i=n + j/\ss[j]? = some (.own d)/\vs[j]? = some (.ref a)
 | n,[],vs,i,a,h=>by simp[eG] at h
 | n,s :: ss,[],i,a,h=>by cases s <;> simp[eG] at h
 | n,s :: ss,v :: vs,i,a,h=>by
  have xy:(i,a) ∈ eG (n + 1) ss vs->∃ j d,i=n + j/\(s :: ss)[j]? = some (.own d)/\(v :: vs)[j]? = some (.ref a):=λh=>by
   obtain⟨j,d,e,h1,h2⟩:=rJ h;exact⟨j + 1,d,by omega,by simpa using h1,by simpa using h2⟩
  cases s with
  | pure d=>exact xy h
  | own d =>
   cases v with
   | ref b =>
    rcases Wl.mp h with e | h
    ·cases e;exact⟨0,d,rfl,rfl,rfl⟩
    ·exact xy h
   | _=>exact xy h
theorem uE:∀ {n:Nat} {ss:List S} {vs:List V} {j:Nat} {d:D} {a:Addr},ss[j]? = some (.own d)->vs[j]? = some (.ref a)->(n + j,a) ∈ eG n ss vs
 | n,[],vs,j,d,a,h,_=>by simp at h
 | n,s :: ss,[],j,d,a,_,h=>by simp at h
 | n,s :: ss,v :: vs,0,d,a,h1,h2=>by
  simp at h1 h2;subst h1 h2;exact Wj
 | n,s :: ss,v :: vs,j + 1,d,a,h1,h2=>by
  have ih:=uE (n:=n + 1) (ss:=ss) (vs:=vs) (j:=j) (d:=d) (a:=a) (by simpa using h1) (by simpa using h2);have e:n + 1 + j=n + (j + 1):=by omega
  rw[e] at ih
  cases s with
  | pure d=>exact ih
  | own d =>
   cases v with
   | ref b=>exact Wa _ ih
   | _=>exact ih
abbrev dm(vs:List V):St:=vs.map some
abbrev dq(ss:List S):Dl:=ss.map some
theorem fY{ss:List S}{i:Nat}{r:S}:(dq ss)[i]? = some (some r) ↔ ss[i]? = some r:=by
 rw[Wh]
 cases ss[i]? <;> simp
theorem gm{vs:List V}{i:Nat}{v:V}:(dm vs)[i]? = some (some v) ↔ vs[i]? = some v:=by
 rw[Wh]
 cases vs[i]? <;> simp
def mw(n:Nat)(G:DF):Sp:=λvs H Q _=>∃ ss B,vs.length=n/\Ok ⟨H,B,eG 0 ss vs,λ_ _=>False⟩ (dm vs) (dq ss) H/\∃ r bc,G ss=some (r,bc) /\
 ∀ v H',ba ⟨H,B,eG 0 ss vs,λ_ _=>False⟩ (dm vs) (dq ss) H (dm vs) (dq bc) H'->bA ⟨H,B,eG 0 ss vs,λ_ _=>False⟩ (dm vs) (dq bc) H H' v r->Q v H'
def aS(P:Wm)(w:Wr)(K:W1)(mg:Str->Option Value)(base:Heap)(k:Nat)(x:Str)(n:Nat)(G:DF):Prop :=
 ∃ (f:Addr) (fd:Qj) (ps:List Str),mg x=some (.ref f)/\JK K (.ref f)=true/\Binds K fd ps []/\jL P w K mg base jO k f fd ps (mw n G)
def bq(n:Nat)(ss:List S):Dl:=dq ss ++ Wc (n - ss.length) none
def cH:Nat->List S->Dl->Option (List S)
 | _,[],_=>some []
 | n,.pure d :: ss,δ=>(cH (n + 1) ss δ).map (.pure d :: ·)
 | n,.own _ :: ss,δ=>match δ[n]? with
  | some (some (.own d'))=>(cH (n + 1) ss δ).map (.own d' :: ·)
  | _=>none
def dw:Fl->Option S
 | .next=>some (.pure .aI)
 | .ret r=>some r
 | _=>none
def ik(f:DS)(n:Nat)(ss:List S):Option (S×List S):=match f (bq n ss) with
 | .ok fl δ=>(dw fl).bind λr=>(cH 0 ss δ).map λbc=>(r,bc)
 | _=>none
def cV(np:List Nat):Nat->List S->Bool
 | _,[]=>true
 | n,.own _ :: ss=>np.contains n && cV np (n + 1) ss
 | n,.pure _ :: ss=>cV np (n + 1) ss
theorem Ed:∀ {n:Nat} {ss:List S} {j:Nat} {d:D},cV np n ss=true->ss[j]? = some (.own d)->np.contains (n + j)=true
 | n,[],j,d,_,h=>by simp at h
 | n,s :: ss,0,d,h,e=>by
  simp at e;subst e;simp only[cV,Ww] at h;exact h.1
 | n,s :: ss,j + 1,d,h,e=>by
  have h':cV np (n + 1) ss=true:=by
   cases s with
   | pure d=>exact h
   | own d=>simp only[cV,Ww] at h; exact h.2
  have:=Ed (n:=n + 1) (j:=j) h' (by simpa using e);rw[show n + (j + 1)=n + 1 + j by omega];exact this
theorem uF:∀ {n:Nat} {ss bc:List S} {δ:Dl},cH n ss δ=some bc->bc.length=ss.length/\∀ (i:Nat) s,ss[i]? = some s->(∃ d,s = .pure d/\bc[i]? = some (.pure d))\/∃ d d',s = .own d/\δ[n + i]? = some (some (.own d'))/\bc[i]? = some (.own d')
 | n,[],bc,δ,h=>by
  simp only[cH,W8] at h;subst h;exact⟨rfl,λi s e=>by simp at e⟩
 | n,.pure d :: ss,bc,δ,h=>by
  simp only[cH] at h
  cases e:cH (n + 1) ss δ with
  | none=>rw[e] at h; cases h
  | some os =>
   rw[e] at h;simp only[WF,W8] at h;subst h;obtain⟨h1,h2⟩:=uF e;refine⟨by simp[h1],λi s es=>?_⟩
   cases i with
   | zero=>simp at es; subst es; exact .inl ⟨d,rfl,rfl⟩
   | succ i =>
    rcases h2 i s (by simpa using es) with ⟨d,z1,z2⟩ | ⟨d,d',z1,z2,z3⟩
    ·exact .inl ⟨d,z1,by simpa using z2⟩
    ·exact .inr ⟨d,d',z1,by rw[show n + (i + 1)=n + 1 + i by omega]; exact z2,by simpa using z3⟩
 | n,.own d :: ss,bc,δ,h=>by
  simp only[cH] at h;split at h
  ·rename_i d' ed
   cases e:cH (n + 1) ss δ with
   | none=>rw[e] at h; cases h
   | some os =>
    rw[e] at h;simp only[WF,W8] at h;subst h;obtain⟨h1,h2⟩:=uF e;refine⟨by simp[h1],λi s es=>?_⟩
    cases i with
    | zero=>simp at es; subst es; exact .inr ⟨d,d',rfl,ed,rfl⟩
    | succ i =>
     rcases h2 i s (by simpa using es) with ⟨d,z1,z2⟩ | ⟨d,d',z1,z2,z3⟩
     ·exact .inl ⟨d,z1,by simpa using z2⟩
     ·exact .inr ⟨d,d',z1,by rw[show n + (i + 1)=n + 1 + i by omega]; exact z2,by simpa using z3⟩
  ·cases h
section
variable {c:Fc} {H H':Hp} {vs:List V} {ss bc:List S} {σ':St} {δ':Dl}
theorem mx{α:Type}{l:List (Option α)}{k i:Nat}{v:α}(h:(l ++ Wc k none)[i]? = some (some v)):l[i]? = some (some v):=by
 by_cases hi:i < l.length
 ·rw[List.getElem?_append_left hi] at h; exact h
 ·rw[List.getElem?_append_right (by omega),List.getElem?_replicate] at h;split at h <;> cases h
theorem lq{α:Type}{l:List (Option α)}{k i:Nat}{v:α}(h:l[i]? = some (some v)):(l ++ Wc k none)[i]? = some (some v):=by
 have hi:i < l.length:=(W6.mp h).1;rw[List.getElem?_append_left hi]; exact h
theorem Own.ext{σ:St}{δ:Dl}{k:Nat}{a:Addr}:Own (σ ++ Wc k none) (δ ++ Wc k none) a ↔ Own σ δ a :=
 ⟨λ⟨i,d,e1,e2⟩=>⟨i,d,mx e1,mx e2⟩,λ⟨i,d,e1,e2⟩=>⟨i,d,lq e1,lq e2⟩⟩
theorem Ok.ext{σ:St}{δ:Dl}(k:Ok c σ δ H)(n:Nat):Ok c (σ ++ Wc n none) (δ ++ Wc n none) H:=by
 have sub:∀ b,Av c (σ ++ Wc n none) (δ ++ Wc n none) b->Av c σ δ b:=λb z=>z.elim .inl λz=>.inr (Own.ext.mp z)
 refine⟨k.keep,k.bd,k.eQ,by simp[k.len],λi d e=>?_,λi d e=>?_,λi j a d d' e1 e2 e3 e4=>k.inj i j a d d' (mx e1) (mx e2) (mx e3) (mx e4),λp hm=>lq (k.pinned p hm)⟩
 ·obtain⟨v,h1,h2⟩:=k.slot i d (mx e);exact⟨v,lq h1,h2.aW λb z=>.inl (sub b z)⟩
 ·obtain⟨a,h1,h2,h3⟩:=k.own i d (mx e);exact⟨a,lq h1,h2.aW λb z=>.inl (sub b z),h3⟩
theorem Ee{B:Addr->Prop}{n:Nat}(hc:c = ⟨H,B,eG 0 ss vs,λ_ _=>False⟩)(k:Ok c (dm vs) (dq ss) H)(x:ba c (dm vs ++ Wc n none) (dq ss ++ Wc n none) H σ' δ' H')(ho:cH 0 ss δ'=some bc) :
  ba c (dm vs) (dq ss) H (dm vs) (dq bc) H'/\∀ v r,bA c σ' δ' H H' v r->bA c (dm vs) (dq bc) H H' v r:=by
 obtain⟨hlen,pL⟩:=uF ho;have n8:ss.length=vs.length:=by have:=k.len; simpa using this
 have pin:∀ (i:Nat) (a:Addr) (d:D),ss[i]? = some (.own d)->vs[i]? = some (.ref a)->σ'[i]? = some (some (.ref a)):=λi a d h1 h2=>by
  have:=uE (n:=0) h1 h2;rw[QD] at this;exact x.ok.pinned (i,a) (by rw[hc]; exact this)
 have uG:∀ (i:Nat) (d:D),bc[i]? = some (.own d)->(∃ d₀,ss[i]? = some (.own d₀))/\δ'[i]? = some (some (.own d)):=λi d e=>by
  have hi:i < ss.length:=by rw[<- hlen]; exact(W6.mp e).1
  rcases pL i ss[i] (by simp[hi]) with ⟨d₁,z1,z2⟩ | ⟨d₁,d',z1,z2,z3⟩
  ·rw[e] at z2; cases z2
  ·rw[e] at z3; cases z3
   rw[QD] at z2;exact⟨⟨d₁,by rw[W4 hi,z1]⟩,z2⟩
 have sub:∀ b,Own (dm vs) (dq bc) b->Own σ' δ' b:=λb ⟨i,d,e1,e2⟩=>by
  obtain⟨⟨d₀,h0⟩,h1⟩:=uG i d (fY.mp e1);exact⟨i,d,h1,pin i b d₀ h0 (gm.mp e2)⟩
 have jq:∀ b,Av c (dm vs) (dq bc) b->Av c σ' δ' b:=λb z=>z.elim .inl λz=>.inr (sub b z)
 have Ef:∀ {c':Fc},c'.pin=c.pin->Ok c' σ' δ' H'->(∀ b,c.B b->c'.B b)->(∀ (i:Nat) d v,ss[i]? = some (.pure d)->vs[i]? = some v->Rep H' (Av c' σ' δ') v d)->Ok c' (dm vs) (dq bc) H':=λ{c'} ep k' hB hsl=>by
  have Eg:∀ b,Av c' (dm vs) (dq bc) b->Av c' σ' δ' b:=λb z=>z.elim .inl λz=>.inr (sub b z)
  refine⟨k'.keep,k'.bd,k'.eQ,by simp[hlen,n8],λi d e=>?_,λi d e=>?_,λi j a d d' e1 e2 e3 e4=>?_,λp hm=>?_⟩
  ·have e':=fY.mp e;have hi:i < ss.length:=by rw[<- hlen]; exact(W6.mp e').1
   have hv:i < vs.length:=by omega
   rcases pL i ss[i] (by simp[hi]) with ⟨d₁,z1,z2⟩ | ⟨d₁,d',z1,z2,z3⟩
   ·rw[e'] at z2; cases z2
    exact⟨vs[i],by simp[hv],(hsl i d vs[i] (by rw[W4 hi,z1]) (by simp[hv])).aW λb z=>.inl (Eg b z)⟩
   ·rw[e'] at z3; cases z3
  ·have e':=fY.mp e;obtain⟨⟨d₀,h0⟩,h1⟩:=uG i d e';obtain⟨a₀,h2,_⟩:=k.own i d₀ (fY.mpr h0);obtain⟨a,h3,h4,h5⟩:=k'.own i d h1;rw[pin i a₀ d₀ h0 (gm.mp h2)] at h3
   cases h3;exact⟨a₀,h2,h4.aW λb z=>.inl (Eg b z),h5⟩
  ·obtain⟨⟨d₀,h0⟩,h1⟩:=uG i d (fY.mp e1);obtain⟨⟨d₁,h2⟩,h3⟩:=uG j d' (fY.mp e2);exact k'.inj i j a d d' h1 h3 (pin i a d₀ h0 (gm.mp e3)) (pin j a d₁ h2 (gm.mp e4))
  ·exact k.pinned p (by rw[<- ep]; exact hm)
 have slots:∀ (i:Nat) d v,ss[i]? = some (.pure d)->vs[i]? = some v->Rep H' (Av c σ' δ') v d:=λi d v h1 h2=>by
  obtain⟨w,e1,r⟩:=(k.ext n).slot i d (lq (fY.mpr h1));rw[lq (gm.mpr h2)] at e1
  cases e1;exact Rep.dW r x
 refine⟨⟨Ef rfl x.ok (λ_ z=>z) slots,λa o e m=>x.keep a o e λz=>m (Own.ext.mp z),λa z=>(x.own a (sub a z)).elim (λz=>.inl (Own.ext.mp z)) .inr,x.there⟩,λv r hr=>?_⟩
 cases r with
 | pure d=>exact Rep.aW hr λb z=>.inl (jq b z)
 | own d =>
  obtain⟨a,ea,o,nb,h0,kp,hs⟩:=hr;refine⟨a,ea,o.aW λb z=>.inl (z.elim .inl λz=>.inr (sub b z)),nb,h0,Ef rfl kp (λ_ z=>.inl z) λi d v h1 h2=>?_,hs⟩;obtain⟨w,e1,r⟩:=(k.ext n).slot i d (lq (fY.mpr h1));rw[lq (gm.mpr h2)] at e1
  cases e1;have pM:H a=none:=hs;have r1:Rep H (Av c (dm vs ++ Wc n none) (dq ss ++ Wc n none)) v d:=r;have r2:Rep H (λb=>Av c (dm vs ++ Wc n none) (dq ss ++ Wc n none) b\/Av (c.plus a) σ' δ' b) v d:=r1.aW λb z=>by
   rcases z with z | (z | z) | z
   ·exact .inl z
   ·exact .inl (.inl z)
   ·exact .inr (by rw[z]; exact pM)
   ·rcases x.own b z with q | q
    ·exact .inl (.inr q)
    ·exact .inr q
  exact(r2.keep λb o e m=>x.keep b o e λz=>m (.inl (.inr z))).aW λb z=>.inl (.inr z)
end
section
variable {P:Wm} {w:Wr} {K:W1} {mg:Str->Option Value} {base:Heap}
theorem Eh{x qual:Str}{st:Stmt}{f:Addr}{fd:Qj}{N ps:List Str}{k:Nat}{np:List Nat}{fb:DS}{G:DF}(F:cC K x qual st f fd)(S:cY N ps (cq st))
  (nE:∀ (c:Fc) (bE:Value) (A:Wt) (outer:List Env) (s:W2) (H:Hp) (E:XK),fB k (A.deeper (envOfC qual (cq st) s.heap.objs.size f bE))->Np c np->jm (lX jO P w K mg base N qual (cq st) f bE A outer s H E).pe c (jN st) fb)
  (hG:∀ ss y,G ss=some y->cV np 0 ss=true/\ik fb N.length ss=some y):jL P w K mg base jO (k + 1) f fd ps (mw ps.length G):=by
 refine F.ok S (λvs H Q E h=>?_) λbE A outer s H vs Q E hr h=>?_
 ·obtain⟨ss,B,hl,_⟩:=h;exact hl
 ·obtain⟨ss,B,hl,ok,r,bc,hg,q⟩:=h;obtain⟨jW,hrun⟩:=hG ss _ hg;have n8:ss.length=vs.length:=by have:=ok.len; simpa using this
  have Nz:Np ⟨H,B,eG 0 ss vs,λ_ _=>False⟩ np:=λp hp=>by
   obtain⟨j,d,e,h1,_⟩:=rJ (i:=p.1) (a:=p.2) hp;rw[e];exact Ed jW h1
  refine⟨rA ⟨H,B,eG 0 ss vs,λ_ _=>False⟩ fb,nE ⟨H,B,eG 0 ss vs,λ_ _=>False⟩ bE A outer s H E hr Nz,?_⟩;have kh:dB N vs=dm vs ++ Wc (N.length - ss.length) none:=by rw[n8]; rfl
  refine⟨bq N.length ss,by rw[kh]; exact ok.ext _,?_⟩;unfold ik at hrun;unfold fQ
  cases e:fb (bq N.length ss) with
  | exc x δx=>rw[e] at hrun; cases hrun
  | stuck=>rw[e] at hrun; cases hrun
  | ok fl δ' =>
   rw[e] at hrun;show ∀ σ' H',ba _ (dB N vs) (bq N.length ss) H σ' δ' H'->fin _ _ σ' δ' H' fl;intro σ' H' a;rw[kh] at a;simp only at hrun
   cases fl with
   | brk=>cases hrun
   | cont=>cases hrun
   | next =>
    simp only[dw,QZ] at hrun
    cases eo:cH 0 ss δ' with
    | none=>rw[eo] at hrun; cases hrun
    | some os =>
     rw[eo] at hrun
     cases hrun;obtain⟨l1,l2⟩:=Ee rfl ok a eo;exact q .aI H' l1 .aI
   | ret r' =>
    simp only[dw,QZ] at hrun
    cases eo:cH 0 ss δ' with
    | none=>rw[eo] at hrun; cases hrun
    | some os =>
     rw[eo] at hrun
     cases hrun;obtain⟨l1,l2⟩:=Ee rfl ok a eo;exactλv rv=>q v H' l1 (l2 v _ rv)
theorem ef{x qual:Str}{st:Stmt}{f:Addr}{fd:Qj}{N ps:List Str}{k:Nat}{np:List Nat}{fb:DS}{G:DF}(F:cC K x qual st f fd)(hm:mg x=some (.ref f))(hb:Binds K fd ps [])(S:cY N ps (cq st))
  (nE:∀ (c:Fc) (bE:Value) (A:Wt) (outer:List Env) (s:W2) (H:Hp) (E:XK),fB k (A.deeper (envOfC qual (cq st) s.heap.objs.size f bE))->Np c np->jm (lX jO P w K mg base N qual (cq st) f bE A outer s H E).pe c (jN st) fb)
  (hG:∀ ss y,G ss=some y->cV np 0 ss=true/\ik fb N.length ss=some y):aS P w K mg base (k + 1) x ps.length G:=⟨f,fd,ps,hm,F.kp,hb,Eh F S nE hG⟩
end
inductive Ak where
 | val (f:DE)
 | io (i:Nat)
def bJ:List Ak->Dl->Rs (List (Option D))
 | [],δ=>.ok [] δ
 | .val f :: r,δ=>(f δ).bind λx δ1=>(bJ r δ1).bind λxs δ2=>.ok (some x.d :: xs) δ2
 | .io _ :: r,δ=>(bJ r δ).bind λxs δ2=>.ok (none :: xs) δ2
inductive lr (c:Fc) (σ:St) (δ:Dl) (H:Hp):List V->List Ak->List (Option D)->Prop
 | nil:lr c σ δ H [] [] []
 | val {v:V} {d:D} {f:DE} {vs:List V} {as:List Ak} {ds:List (Option D)}:Rep H (Av c σ δ) v d->lr c σ δ H vs as ds->lr c σ δ H (v :: vs) (.val f :: as) (some d :: ds)
 | io {v:V} {i:Nat} {vs:List V} {as:List Ak} {ds:List (Option D)}:σ[i]? = some (some v)->lr c σ δ H vs as ds->lr c σ δ H (v :: vs) (.io i :: as) (none :: ds)
def tX(c:Fc)(as:List Ak):TA:=λσ H Q=>∃ δ,Ok c σ δ H/\(∀ i,Ak.io i ∈ as->∃ v,σ[i]? = some (some v))/\post c (bJ as δ) λds δ'=>∀ vs H',ba c σ δ H σ δ' H'->lr c σ δ' H' vs as ds->Q vs H'
abbrev SX(X:Cx)(c:Fc)(es:List Expr)(as:List Ak):Prop:=PA X es (tX c as)
section
variable {X:Cx} {c:Fc} {e:Expr} {es:List Expr} {fe:DE} {as:List Ak} {pos pp:Pos}
theorem b_:SX X c [] []:=PA.weak jd λσ H Q ⟨δ,k,_,q⟩=>q [] H (.refl k) .nil
theorem NA(ha:SE X c e fe)(hr:SX X c es as)(hs:Wk (e :: es) X.env=(false,eval e X.env) :: Wk es X.env:=by rfl):SX X c (e :: es) (.val fe :: as):=PA.weak (gv ha hr hs) λσ H Q ⟨δ,k,jW,q⟩=>by
 unfold bJ at q;rw[bM] at q;refine⟨δ,k,aY q λx δ1 q1 v H1 a1 r1=>⟨δ1,a1.ok,λi hi=>jW i (Wa _ hi),?_⟩⟩;rw[bM] at q1;exact aY q1 λxs δ2 q2 vs H2 a2 r2=>q2 (v :: vs) H2 (a1.trans a2) (.val (Rep.dW r1.rep a2) r2)
theorem NB(ha:PE X e (cJ i))(hr:SX X c es as)(hs:Wk (e :: es) X.env=(false,eval e X.env) :: Wk es X.env:=by rfl):SX X c (e :: es) (.io i :: as):=PA.weak (gv ha hr hs) λσ H Q ⟨δ,k,jW,q⟩=>by
 obtain⟨v,ev⟩:=jW i Wj;unfold bJ at q;rw[bM] at q;exact⟨v,ev,δ,k,λi hi=>jW i (Wa _ hi),aY q λxs δ2 q2 vs H2 a2 r2=>q2 (v :: vs) H2 a2 (.io ev r2)⟩
end
def bu:List Ak->List (Option D)->Dl->Option (List S)
 | [],[],_=>some []
 | .val _ :: as,some d :: ds,δ=>(bu as ds δ).map (.pure d :: ·)
 | .io i :: as,none :: ds,δ=>match δ[i]? with
  | some (some (.own d))=>(bu as ds δ).map (.own d :: ·)
  | _=>none
 | _,_,_=>none
def a_:List Ak->List Nat
 | []=>[]
 | .val _ :: as=>a_ as
 | .io i :: as=>i :: a_ as
def aT:List Ak->List S->Dl->Dl
 | .io i :: as,r :: rs,δ=>aT as rs (δ.set i (some r))
 | .val _ :: as,_ :: rs,δ=>aT as rs δ
 | _,_,δ=>δ
def bN:List Nat->Bool
 | []=>true
 | i :: r=>!r.contains i && bN r
def aA(G:DF)(as:List Ak):DE:=λδ=>if (a_ as).all (cj δ) && bN (a_ as) then(bJ as δ).bind λds δ1=>match bu as ds δ1 with
  | none=>.stuck
  | some ss=>match G ss with
   | none=>.stuck
   | some (r,bc)=>.ok r (aT as bc δ1)
 else .stuck
theorem Ei:∀ {l:List Nat},bN l=true->l.Nodup
 | [],_=>.nil
 | i :: r,h=>by
  simp only[bN,Ww,Bool.not_eq_true'] at h;exact List.nodup_cons.mpr ⟨λhm=>by have:=h.1; simp at this; exact this hm,Ei h.2⟩
theorem n9:∀ {as:List Ak} {i:Nat},i ∈ a_ as ↔ Ak.io i ∈ as
 | [],i=>by simp[a_]
 | .val f :: as,i=>by simp[a_,n9 (as:=as)]
 | .io j :: as,i=>by simp[a_,n9 (as:=as)]
theorem xM:∀ {as:List Ak} {i j k:Nat},(a_ as).Nodup->as[j]? = some (.io i)->as[k]? = some (.io i)->j=k
 | [],i,j,k,_,h,_=>by simp at h
 | .val f :: as,i,j,k,nd,h1,h2=>by
  cases j with
  | zero=>simp at h1
  | succ j =>
   cases k with
   | zero=>simp at h2
   | succ k=>exact congrArg (· + 1) (xM (as:=as) nd (by simpa using h1) (by simpa using h2))
 | .io n :: as,i,j,k,nd,h1,h2=>by
  have pN:=QM.mp nd
  cases j with
  | zero =>
   simp at h1;subst h1
   cases k with
   | zero=>rfl
   | succ k=>exact absurd (n9.mpr (WO (by simpa using h2))) pN.1
  | succ j =>
   cases k with
   | zero =>
    simp at h2;subst h2;exact absurd (n9.mpr (WO (by simpa using h1))) pN.1
   | succ k=>exact congrArg (· + 1) (xM (as:=as) pN.2 (by simpa using h1) (by simpa using h2))
section
variable {c:Fc} {σ:St} {δ:Dl} {H:Hp} {vs:List V} {as:List Ak} {ds:List (Option D)} {ss:List S}
theorem xN(h:lr c σ δ H vs as ds):∀ {ss:List S},bu as ds δ=some ss->ss.length=vs.length/\as.length=vs.length/\∀ (j:Nat) s v,ss[j]? = some s->vs[j]? = some v ->
  (∃ d f,s = .pure d/\as[j]? = some (.val f)/\Rep H (Av c σ δ) v d)\/∃ d i,s = .own d/\as[j]? = some (.io i)/\σ[i]? = some (some v)/\δ[i]? = some (some (.own d)):=by
 induction h with
 | nil =>
  intro ss h;simp only[bu,W8] at h;subst h;exact⟨rfl,rfl,λj s v e _=>by simp at e⟩
 | @val v d f vs as ds r _ ih =>
  intro ss h;simp only[bu] at h
  cases e:bu as ds δ with
  | none=>rw[e] at h; cases h
  | some rs =>
   rw[e] at h;simp only[WF,W8] at h;subst h;obtain⟨h1,h2,h3⟩:=ih e;refine⟨by simp[h1],by simp[h2],λj s v' e1 e2=>?_⟩
   cases j with
   | zero=>simp at e1 e2; subst e1 e2; exact .inl ⟨d,f,rfl,rfl,r⟩
   | succ j=>simpa using h3 j s v' (by simpa using e1) (by simpa using e2)
 | @io v i vs as ds ev _ ih =>
  intro ss h;simp only[bu] at h;split at h
  ·rename_i d ed
   cases e:bu as ds δ with
   | none=>rw[e] at h; cases h
   | some rs =>
    rw[e] at h;simp only[WF,W8] at h;subst h;obtain⟨h1,h2,h3⟩:=ih e;refine⟨by simp[h1],by simp[h2],λj s v' e1 e2=>?_⟩
    cases j with
    | zero=>simp at e1 e2; subst e1 e2; exact .inr ⟨d,i,rfl,rfl,ev,ed⟩
    | succ j=>simpa using h3 j s v' (by simpa using e1) (by simpa using e2)
  ·cases h
theorem xO:∀ (as:List Ak) (rs:List S) (δ:Dl),(aT as rs δ).length=δ.length
 | [],rs,δ=>by simp[aT]
 | .val f :: as,[],δ=>by simp[aT]
 | .io i :: as,[],δ=>by simp[aT]
 | .val f :: as,r :: rs,δ=>by simp[aT,xO as rs δ]
 | .io i :: as,r :: rs,δ=>by simp[aT,xO as rs]
theorem rK:∀ (as:List Ak) (rs:List S) (δ:Dl) (i:Nat),i ∉ a_ as->(aT as rs δ)[i]? = δ[i]?
 | [],rs,δ,i,_=>by simp[aT]
 | .val f :: as,[],δ,i,_=>by simp[aT]
 | .io j :: as,[],δ,i,_=>by simp[aT]
 | .val f :: as,r :: rs,δ,i,h=>by rw[aT]; exact rK as rs δ i h
 | .io j :: as,r :: rs,δ,i,h=>by
  simp only[a_,Wl,not_or] at h;rw[aT,rK as rs _ i h.2,W5 (Ne.symm h.1)]
theorem uH:∀ (as:List Ak) (rs:List S) (δ:Dl) (i j:Nat) (r:S),(a_ as).Nodup->as[j]? = some (.io i)->rs[j]? = some r->i < δ.length->(aT as rs δ)[i]? = some (some r)
 | [],rs,δ,i,j,r,_,h,_,_=>by simp at h
 | a :: as,[],δ,i,j,r,_,_,h,_=>by simp at h
 | .val f :: as,r0 :: rs,δ,i,j,r,nd,h1,h2,hi=>by
  cases j with
  | zero=>simp at h1
  | succ j=>rw[aT]; exact uH as rs δ i j r nd (by simpa using h1) (by simpa using h2) hi
 | .io k :: as,r0 :: rs,δ,i,j,r,nd,h1,h2,hi=>by
  have pN:=QM.mp nd
  cases j with
  | zero =>
   simp at h1 h2;subst h1 h2;rw[aT,rK as rs _ k pN.1,Wb hi]
  | succ j=>rw[aT]; exact uH as rs _ i j r pN.2 (by simpa using h1) (by simpa using h2) (by simpa using hi)
theorem NC(k:Ok c σ δ H)(hr:lr c σ δ H vs as ds)(hm:bu as ds δ=some ss)(nd:(a_ as).Nodup) :
  Ok ⟨H,λa=>Av c σ δ a/\¬ ∃ (j:Nat) (d:D),ss[j]? = some (S.own d)/\vs[j]? = some (V.ref a),eG 0 ss vs,λ_ _=>False⟩ (dm vs) (dq ss) H:=by
 obtain⟨h1,h2,h3⟩:=xN hr hm;have at':∀ (j:Nat) s,ss[j]? = some s->∃ v,vs[j]? = some v:=λj s e=>by
  have:j < vs.length:=by rw[<- h1]; exact(W6.mp e).1
  exact⟨vs[j],by simp[this]⟩
 have Ej:∀ a,Own (dm vs) (dq ss) a ↔ ∃ (j:Nat) (d:D),ss[j]? = some (S.own d)/\vs[j]? = some (V.ref a):=λa =>
  ⟨λ⟨j,d,e1,e2⟩=>⟨j,d,fY.mp e1,gm.mp e2⟩,λ⟨j,d,e1,e2⟩=>⟨j,d,fY.mpr e1,gm.mpr e2⟩⟩
 have Ek:∀ a,Own (dm vs) (dq ss) a->Own σ δ a:=λa z=>by
  obtain⟨j,d,e1,e2⟩:=(Ej a).mp z;rcases h3 j _ _ e1 e2 with ⟨d',f,e,_⟩ | ⟨d',i,e,_,es,ed⟩
  ·cases e
  ·exact⟨i,d',ed,es⟩
 have sub:∀ a,Av ⟨H,λa=>Av c σ δ a/\¬ ∃ (j:Nat) (d:D),ss[j]? = some (S.own d)/\vs[j]? = some (V.ref a),eG 0 ss vs,λ_ _=>False⟩ (dm vs) (dq ss) a->Av c σ δ a:=λa z=>z.elim (λz=>z.1) λz=>.inr (Ek a z)
 refine⟨λa o e _=>e,λa z=>k.C7 z.1,λa ⟨i,hi⟩=>?_,by simp[h1],λj d e=>?_,λj d e=>?_,λi j a d d' e1 e2 e3 e4=>?_,λp hp=>?_⟩
 ·obtain⟨j,d,_,e1,e2⟩:=rJ hi;exact k.me (Ek a ((Ej a).mpr ⟨j,d,e1,e2⟩))
 ·have e':=fY.mp e;obtain⟨v,ev⟩:=at' j _ e';rcases h3 j _ v e' ev with ⟨d',f,e,_,r⟩ | ⟨d',i,e,_⟩
  ·cases e;exact⟨v,gm.mpr ev,r.aW λb z=>.inl (sub b z)⟩
  ·cases e
 ·have e':=fY.mp e;obtain⟨v,ev⟩:=at' j _ e';rcases h3 j _ v e' ev with ⟨d',f,e,_,r⟩ | ⟨d',i,e,_,es,ed⟩
  ·cases e
  ·cases e;obtain⟨a,g1,g2,g3⟩:=k.own i d ed;rw[es] at g1
   cases g1;refine⟨a,gm.mpr ev,g2.aW λb z=>.inl (sub b z),.inl ⟨0 + j,uE e' ev⟩,λz=>z.2 ⟨j,d,e',ev⟩⟩
 ·have f1:=fY.mp e1;have f2:=fY.mp e2;rcases h3 i _ _ f1 (gm.mp e3) with ⟨_,_,e,_⟩ | ⟨d1,i1,e,a1,s1,x1⟩
  ·cases e
  ·rcases h3 j _ _ f2 (gm.mp e4) with ⟨_,_,e',_⟩ | ⟨d2,i2,e',a2,s2,x2⟩
   ·cases e'
   ·have:=k.inj i1 i2 a d1 d2 x1 x2 s1 s2;subst this;exact xM nd a1 a2
 ·obtain⟨j,d,e,e1,e2⟩:=rJ (i:=p.1) (a:=p.2) hp;rw[QD] at e;rw[e];exact gm.mpr e2
theorem ND(k:Ok c σ δ H)(hr:lr c σ δ H vs as ds)(hm:bu as ds δ=some ss)(nd:(a_ as).Nodup)(hB:B=λa=>Av c σ δ a/\¬ ∃ (j:Nat) (d:D),ss[j]? = some (S.own d)/\vs[j]? = some (V.ref a))
  (x:ba ⟨H,B,eG 0 ss vs,λ_ _=>False⟩ (dm vs) (dq ss) H (dm vs) (dq bc) H') (jW:∀ (j:Nat) d,ss[j]? = some (.own d)->∃ d',bc[j]? = some (.own d')) (VT:∀ (j:Nat) d,ss[j]? = some (.pure d)->∃ d',bc[j]? = some (.pure d')) :
  ba c σ δ H σ (aT as bc δ) H'/\∀ v r,bA ⟨H,B,eG 0 ss vs,λ_ _=>False⟩ (dm vs) (dq bc) H H' v r->bA c σ (aT as bc δ) H H' v r:=by
 obtain⟨h1,h2,h3⟩:=xN hr hm;have uI:∀ i,i ∈ a_ as->∃ (j:Nat) (d:D) (a:Addr),as[j]? = some (.io i)/\ss[j]? = some (.own d)/\vs[j]? = some (.ref a)/\σ[i]? = some (some (.ref a))/\δ[i]? = some (some (.own d)):=λi hi=>by
  obtain⟨j,hj,ej⟩:=List.mem_iff_getElem.mp (n9.mp hi);have hv:j < vs.length:=by omega
  have hs:j < ss.length:=by omega
  have xP:as[j]? = some (.io i):=by rw[W4 hj,ej]
  rcases h3 j ss[j] vs[j] (by simp[hs]) (by simp[hv]) with ⟨d,f,e,a1,_⟩ | ⟨d,i',e,a1,s1,x1⟩
  ·rw[xP] at a1; cases a1
  ·rw[xP] at a1; cases a1
   obtain⟨a,g1,_⟩:=k.own i d x1;rw[s1] at g1;have g2:vs[j] = .ref a:=by
    have:=Wz g1;exact Wz this
   exact⟨j,d,a,xP,by rw[W4 hs,e],by rw[W4 hv,g2],by rw[s1,g2],x1⟩
 have rL:∀ a,(∃ (j:Nat) (d:D),ss[j]? = some (S.own d)/\vs[j]? = some (V.ref a))->Own σ δ a:=λa ⟨j,d,e1,e2⟩=>by
  rcases h3 j _ _ e1 e2 with ⟨d',f,e,_⟩ | ⟨d',i,e,_,es,ed⟩
  ·cases e
  ·exact⟨i,d',ed,es⟩
 have VU:∀ a,(⟨H,B,eG 0 ss vs,λ_ _=>False⟩:Fc).I a ↔ ∃ (j:Nat) (d:D),ss[j]? = some (S.own d)/\vs[j]? = some (V.ref a):=λa =>
  ⟨λ⟨i,hi⟩=>by obtain⟨j,d,_,e1,e2⟩:=rJ hi; exact⟨j,d,e1,e2⟩,λ⟨j,d,e1,e2⟩=>⟨0 + j,uE e1 e2⟩⟩
 have ownIn:∀ a,Own (dm vs) (dq ss) a->∃ (j:Nat) (d:D),ss[j]? = some (S.own d)/\vs[j]? = some (V.ref a):=λa ⟨j,d,e1,e2⟩=>⟨j,d,fY.mp e1,gm.mp e2⟩
 -- the owned addresses are the same
 have uJ:∀ (i:Nat) (d:D),(aT as bc δ)[i]? = some (some (.own d))->(i ∉ a_ as/\δ[i]? = some (some (.own d)))\/(i ∈ a_ as/\∃ (j:Nat) (d0:D) (a:Addr),as[j]? = some (.io i)/\ss[j]? = some (.own d0)/\vs[j]? = some (.ref a)/\σ[i]? = some (some (.ref a))/\bc[j]? = some (.own d)):=λi d e=>by
  by_cases hi:i ∈ a_ as
  ·right
   obtain⟨j,d0,a,a1,a2,a3,a4,a5⟩:=uI i hi;obtain⟨d',ed'⟩:=jW j d0 a2;have bx:i < δ.length:=(W6.mp a5).1;have:=uH as bc δ i j (.own d') nd a1 ed' bx;rw[e] at this
   cases this;exact⟨hi,j,d0,a,a1,a2,a3,a4,ed'⟩
  ·rw[rK as bc δ i hi] at e;exact .inl ⟨hi,e⟩
 have rM:∀ b,Own σ (aT as bc δ) b->Own σ δ b:=λb ⟨i,d,e1,e2⟩=>by
  rcases uJ i d e1 with ⟨_,e⟩ | ⟨hi,j,d0,a,_,a2,a3,a4,_⟩
  ·exact⟨i,d,e,e2⟩
  ·rw[e2] at a4;have:b=a:=by injection (Wz (Wz a4))
   subst this;exact rL b ⟨j,d0,a2,a3⟩
 have NF:∀ (i:Nat) (d:D),(aT as bc δ)[i]? = some (some (.pure d))->i ∉ a_ as/\δ[i]? = some (some (.pure d)):=λi d e=>by
  by_cases hi:i ∈ a_ as
  ·obtain⟨j,d0,a,a1,a2,a3,a4,a5⟩:=uI i hi;obtain⟨d',ed'⟩:=jW j d0 a2;have bx:i < δ.length:=(W6.mp a5).1;have:=uH as bc δ i j (.own d') nd a1 ed' bx;rw[e] at this
   cases this
  ·rw[rK as bc δ i hi] at e;exact⟨hi,e⟩
 have Em:∀ a o,H a=some o->¬ Av c σ δ a->H' a=some o:=λa o e n=>x.keep a o e λz=>n (.inr (rL a (ownIn a z)))
 have jq:∀ b,Av c σ (aT as bc δ) b->Av c σ δ b:=λb z=>z.elim .inl λz=>.inr (rM b z)
 -- the callee's set holds ours
 have big:∀ {c':Fc},c'.B=B->∀ b,Av c σ δ b->Av c' (dm vs) (dq bc) b:=λ{c'} hB' b z=>by
  by_cases hp:∃ (j:Nat) (d:D),ss[j]? = some (S.own d)/\vs[j]? = some (V.ref b)
  ·obtain⟨j,d,e1,e2⟩:=hp;obtain⟨d',ed'⟩:=jW j d e1;exact .inr ⟨j,d',fY.mpr ed',gm.mpr e2⟩
  ·exact .inl (by rw[hB',hB]; exact⟨z,hp⟩)
 have En:∀ (c1 c2:Fc),c1.H₀=c.H₀->c1.pin=c.pin->(∀ b,c1.B b->c.B b\/(c2.B b/\H b=none))->c2.pin=eG 0 ss vs->(∀ b,B b->c2.B b)->Ok c2 (dm vs) (dq bc) H'->(∀ b,c1.B b->∃ o,H' b=some o)->Ok c1 σ (aT as bc δ) H':=λc1 c2 e0 e1 e2 e3 e4 k2 hex=>by
  have Eo:∀ b,Av c1 σ (aT as bc δ) b->Av c σ δ b\/H b=none:=λb z=>by
   rcases z with z | z
   ·rcases e2 b z with z | ⟨_,z⟩
    ·exact .inl (.inl z)
    ·exact .inr z
   ·exact .inl (.inr (rM b z))
  have ub:∀ b,Av c1 σ (aT as bc δ) b->Av c2 (dm vs) (dq bc) b:=λb z=>by
   have bg:∀ b,Av c σ δ b->Av c2 (dm vs) (dq bc) b:=λb z=>by
    by_cases hp:∃ (j:Nat) (d:D),ss[j]? = some (S.own d)/\vs[j]? = some (V.ref b)
    ·obtain⟨j,d,e1,e2⟩:=hp;obtain⟨d',ed'⟩:=jW j d e1;exact .inr ⟨j,d',fY.mpr ed',gm.mpr e2⟩
    ·exact .inl (e4 b (by rw[hB]; exact⟨z,hp⟩))
   rcases z with z | z
   ·rcases e2 b z with z | ⟨z,_⟩
    ·exact bg b (.inl z)
    ·exact .inl z
   ·exact bg b (.inr (rM b z))
  have NG:∀ {v:V} {d:D},Rep H (Av c σ δ) v d->Rep H' (Av c1 σ (aT as bc δ)) v d:=λ{v d} r=>by
   have r1:Rep H (λb=>Av c σ δ b\/Av c1 σ (aT as bc δ) b) v d:=r.aW λb z=>z.elim .inl (Eo b)
   exact(r1.keep λb o e n=>Em b o e λz=>n (.inl z)).aW λb z=>.inl (.inr z)
  refine⟨λa o e n=>?_,hex,λa z=>?_,by rw[xO]; exact k.len,λi d e=>?_,λi d e=>?_,λi j a d d' f1 f2 f3 f4=>?_,by rw[e1]; exact k.pinned⟩
  ·rw[e0] at e;have n':¬ c.I a:=λz=>n (by unfold Fc.I at z ⊢; rw[e1]; exact z)
   refine x.keep a o (k.keep a o e n') λz=>?_
   obtain⟨i,d,g1,g2⟩:=rL a (ownIn a z);obtain⟨a',g3,_,g4,_⟩:=k.own i d g1;rw[g2] at g3; cases g3
   rcases g4 with g4 | g4
   ·exact n' g4
   ·rw[g4] at e; cases e
  ·have z':c.I a:=by unfold Fc.I at z ⊢; rw[<- e1]; exact z
   obtain⟨o,e⟩:=k.eQ a z';exact x.there a o e
  ·obtain⟨hi,e'⟩:=NF i d e;obtain⟨v,g1,g2⟩:=k.slot i d e';exact⟨v,g1,NG g2⟩
  ·rcases uJ i d e with ⟨hi,e'⟩ | ⟨hi,j,d0,a,b1,b2,b3,b4,b5⟩
   ·obtain⟨a,g1,g2,g3,g4⟩:=k.own i d e';have na:¬ Own (dm vs) (dq ss) a:=λz=>by
     obtain⟨j,d1,q1,q2⟩:=ownIn a z;rcases h3 j _ _ q1 q2 with ⟨d',f,ee,_⟩ | ⟨d',i',ee,ai,es,ed⟩
     ·cases ee
     ·have:=k.inj i i' a d d' e' ed g1 es;subst this;exact hi (n9.mpr (WO ai))
    have rN:gQ H' (Av c1 σ (aT as bc δ)) a d:=by
     have o1:gQ H (λb=>Av c σ δ b\/Av c1 σ (aT as bc δ) b) a d:=g2.aW λb z=>z.elim .inl (Eo b)
     exact(o1.keep (λb o e n=>Em b o e λz=>n (.inl z)) λo e=>x.keep a o e na).aW λb z=>.inl (.inr z)
    refine⟨a,g1,rN,by unfold Fc.I at g3 ⊢; rw[e0,e1]; exact g3,λz=>?_⟩;rcases e2 a z with z | ⟨_,z⟩
    ·exact g4 z
    ·obtain⟨o,eo⟩:=g2.some;rw[z] at eo; cases eo
   ·obtain⟨a',g1,g2,g3,g4⟩:=k2.own j d (fY.mpr b5);rw[gm.mpr b3] at g1
    cases g1;obtain⟨i0,d1,q1,q2⟩:=rL a ⟨j,d0,b2,b3⟩;obtain⟨a'',q3,q4,q5,q6⟩:=k.own i0 d1 q1;rw[q2] at q3; cases q3
    refine⟨a,b4,g2.aW λb z=>.inl (ub b z),by unfold Fc.I at q5 ⊢; rw[e0,e1]; exact q5,λz=>?_⟩;rcases e2 a z with z | ⟨_,z⟩
    ·exact q6 z
    ·obtain⟨o,eo⟩:=q4.some;rw[z] at eo; cases eo
  ·obtain⟨d1,g1⟩:∃ d1,δ[i]? = some (some (.own d1)):=by
    rcases uJ i d f1 with ⟨_,e'⟩ | ⟨hi,_⟩
    ·exact⟨d,e'⟩
    ·obtain⟨_,d1,_,_,_,_,_,a5⟩:=uI i hi;exact⟨d1,a5⟩
   obtain⟨d2,g2⟩:∃ d2,δ[j]? = some (some (.own d2)):=by
    rcases uJ j d' f2 with ⟨_,e'⟩ | ⟨hi,_⟩
    ·exact⟨d',e'⟩
    ·obtain⟨_,d1,_,_,_,_,_,a5⟩:=uI j hi;exact⟨d1,a5⟩
   exact k.inj i j a d1 d2 g1 g2 f3 f4
 have lu:Ok c σ (aT as bc δ) H':=En c ⟨H,B,eG 0 ss vs,λ_ _=>False⟩ rfl rfl (λb z=>.inl z) rfl (λb z=>z) x.ok λb z=>by
  obtain⟨o,e⟩:=k.bd b z;exact x.there b o e
 refine⟨⟨lu,λa o e n=>x.keep a o e λz=>n (rL a (ownIn a z)),λa z=>.inl (rM a z),x.there⟩,λv r hr=>?_⟩
 cases r with
 | pure d=>exact Rep.aW hr λb z=>.inl (big rfl b (jq b z))
 | own d =>
  obtain⟨a,ea,o,nb,h0,kp,hs⟩:=hr;have pM:H a=none:=hs;have mf:¬ Av c σ δ a:=k.mf pM;refine⟨a,ea,o.aW λb z=>.inl ?_,λz=>mf (.inl z),k.qV pM,?_,pM⟩
  ·rcases z with (z | z) | z
   ·exact(big rfl b (.inl z)).elim (λz=>.inl (.inl z)) .inr
   ·exact .inl (.inr z)
   ·exact(big rfl b (.inr (rM b z))).elim (λz=>.inl (.inl z)) .inr
  ·refine En (c.plus a) (Fc.plus ⟨H,B,eG 0 ss vs,λ_ _=>False⟩ a) rfl rfl (λb z=>?_) rfl (λb z=>.inl z) kp λb z=>?_
   ·rcases z with z | z
    ·exact .inl z
    ·exact .inr ⟨.inr z,by rw[z]; exact pM⟩
   ·rcases z with z | z
    ·obtain⟨o,e⟩:=k.bd b z;exact x.there b o e
    ·rw[z]; exact o.some
end
def de(G:DF):Prop:=∀ ss r bc,G ss=some (r,bc)->bc.length=ss.length/\∀ (j:Nat),(∀ d,ss[j]? = some (.own d)->∃ d',bc[j]? = some (.own d'))/\∀ d,ss[j]? = some (.pure d)->∃ d',bc[j]? = some (.pure d')
theorem NH(hG:∀ ss y,G ss=some y->ik fb n ss=some y):de G:=λss r bc h=>by
 have:=hG ss _ h;unfold ik at this
 cases e:fb (bq n ss) with
 | exc x δx=>rw[e] at this; cases this
 | stuck=>rw[e] at this; cases this
 | ok fl δ =>
  rw[e] at this;simp only at this
  cases e1:dw fl with
  | none=>rw[e1] at this; cases this
  | some r' =>
   rw[e1] at this;simp only[QZ] at this
   cases e2:cH 0 ss δ with
   | none=>rw[e2] at this; cases this
   | some os =>
    rw[e2] at this
    cases this;obtain⟨h1,h2⟩:=uF e2;refine⟨h1,λj=>⟨λd ed=>?_,λd ed=>?_⟩⟩
    ·rcases h2 j _ ed with ⟨d',z,_⟩ | ⟨d',d'',_,_,z⟩
     ·cases z
     ·exact⟨d'',z⟩
    ·rcases h2 j _ ed with ⟨d',z,z'⟩ | ⟨d',d'',z,_⟩
     ·exact⟨d',z'⟩
     ·cases z
section
variable {X:Cx} {c:Fc} {e:Expr} {es:List Expr} {as:List Ak} {k n:Nat} {x:Str} {G:DF} {pp pos:Pos}
theorem NI{ps:List Str}(hK:de G){σ:St}{H:Hp}{Q:VK}(hl:as.length=n)(h:tD c (aA G as) σ H Q):B8 (mw n G) [] E0 (tX c as) σ H Q:=by
 obtain⟨δ,kk,q⟩:=h;unfold aA at q;split at q
 ·rename_i hc;rw[Ww] at hc;have nd:=Ei hc.2;rw[bM] at q;refine⟨δ,kk,λi hi=>?_,aY q λds δ1 q1 vs H1 a1 r1=>?_⟩
  ·have:=Q5.mp hc.1 i (n9.mpr hi);unfold cj at this;split at this
   ·rename_i d ed;exact uk kk ed
   ·cases this
  ·cases em:bu as ds δ1 with
   | none=>rw[em] at q1; exact q1.elim
   | some ss =>
    rw[em] at q1;simp only at q1
    cases eg:G ss with
    | none=>rw[eg] at q1; exact q1.elim
    | some y =>
     obtain⟨r,bc⟩:=y;rw[eg] at q1;have xQ:=NC a1.ok r1 em nd;obtain⟨m1,m2,_⟩:=xN r1 em;obtain⟨g1,g2⟩:=hK ss r bc eg;refine⟨ss,_,by rw[Jy,<- m2]; exact hl,by rw[Jy]; exact xQ,r,bc,eg,λv H2 a2 r2=>?_⟩;rw[Jy] at a2 r2;obtain⟨o1,o2⟩:=ND a1.ok r1 em nd rfl a2 (λj d ed=>(g2 j).1 d ed) λj d ed=>(g2 j).2 d ed
     exact q1 v H2 (a1.trans o1) (bA.back (o2 v r r2) a1)
 ·exact q.elim
theorem cf (F:aS X.prog X.w X.K X.mg X.base k x n G) (hK:de G) (hr:fB k X.A) (hg:Gl X x) (ha:SX X c (e :: es) as) (hl:as.length=n) (jM:(x == ("__debug__" : Str))=false:=by decide)
  (he:Wk (e :: es) X.env=(false,eval e X.env) :: Wk es X.env:=by rfl) (eE:(QW pos (Wk es X.env)).any (·.1)=false:=by rfl):SE X c (.Call (.Name x pp) (e :: es) [] pos) (aA G as):=by
 obtain⟨f,fd,ps,hm,hk,hb,ok⟩:=F;exact PE.weak (KP ok hr hg hm hk hb .nil LW ha jM he eE) λσ H Q h=>NI (ps:=ps) hK hl h
end
def cy(np:List Nat)(n:Nat)(b:DS):DF:=λss=>if cV np 0 ss then ik b n ss else none
theorem dE(h:cy np n b ss=some y):cV np 0 ss=true/\ik b n ss=some y:=by
 unfold cy at h;split at h
 ·rename_i hi; exact⟨hi,h⟩
 ·cases h
theorem dM:de (cy np n b):=NH λ_ _ h=>(dE h).2
theorem dO(r:fB k A):A.units + 64 < WT:=by have:=r.un; omega
theorem e7{c:Fc}{np cs:List Nat}(h:Np c np)(hc:cs.all (λi=>!np.contains i)=true):∀ p ∈ c.pin,p.1 ∉ cs:=λp hp z=>by
 have h1:=h p hp;have h2:=Q5.mp hc p.1 z;rw[h1] at h2
 cases h2
def uK:List Str->Bool
 | []=>true
 | x :: r=>!r.contains x && uK r
theorem Ep:∀ {l:List Str},uK l=true->l.Nodup
 | [],_=>.nil
 | x :: r,h=>by
  simp only[uK,Ww,Bool.not_eq_true'] at h;exact List.nodup_cons.mpr ⟨λhm=>by have:=h.1; simp at this; exact this hm,Ep h.2⟩
def iQ(names:List (Str×NameKind))(x:Str)(k:NameKind):Bool:=match names.lookup x with
 | some j=>j == k
 | none=>false
theorem xR(h:iQ names x k=true):names.lookup x=some k:=by
 unfold iQ at h;split at h
 ·rename_i j e; rw[e,eq_of_beq h]
 ·cases h
def Er(names:List (Str×NameKind))(N:List Str)(sc:List (Str×NameKind))(cs:List Nat):Bool :=
 sc.all (λx=>!(x.2 == .local) || iQ sc x.1 .local) && sc.all (λx=>!(x.2 == .free) || (iQ names x.1 .cell || iQ names x.1 .free)) && uK (sc.map (·.1)) &&
 (W3 N.length).all λi=>match N[i]? with
  | some x=>!(iQ sc x .local || iQ sc x .cell) || cs.contains i
  | none=>true
theorem Es(h:names.lookup x=some k):iQ names x k=true:=by
 unfold iQ; rw[h]; simp
theorem e8{X:Cx}{scope:Scope}{cs:List Nat}(hk:scope.kind = .function)(h:Er X.env.scope.names X.N scope.names cs=true):nL X scope cs:=by
 unfold Er at h;simp only[Ww] at h;obtain⟨⟨⟨h1,h2⟩,h3⟩,h4⟩:=h;refine⟨hk,λx hx hl=>?_,λx hx hf=>?_,Ep h3,λi x hi hl=>?_⟩
 ·have:=Q5.mp h1 x hx;rw[hl] at this;exact xR (by simpa using this)
 ·have:=Q5.mp h2 x hx;rw[hf] at this;have:iQ X.env.scope.names x.1 .cell=true\/iQ X.env.scope.names x.1 .free=true:=by simpa using this
  exact this.elim (λz=>.inl (xR z)) λz=>.inr (xR z)
 ·have jV:i < X.N.length:=(W6.mp hi).1;have:=Q5.mp h4 i (WA.mpr jV);rw[hi] at this;have gL:(iQ scope.names x .local || iQ scope.names x .cell)=true:=by
   rcases hl with z | z
   ·rw[Es z]; rfl
   ·rw[Es z]; simp
  simp only[gL,Bool.not_true,Bool.false_or] at this;simpa using this
theorem NJ {K:W1}:lh K "int":=⟨rfl,rfl,rfl,rfl,rfl,rfl,rfl⟩
theorem NL {K:W1}:lh K "bool":=⟨rfl,rfl,rfl,rfl,rfl,rfl,rfl⟩
theorem NM {K:W1}:lh K "tuple":=⟨rfl,rfl,rfl,rfl,rfl,rfl,rfl⟩
def n_:Expr->Bool
 | .Starred ..=>false
 | _=>true
theorem pO(h:n_ e=true):Wk (e :: es) env=(false,eval e env) :: Wk es env:=by
 cases e <;> first | (cases h; done) | rw[Wk] | rfl
 all_goals (intros; contradiction)
section
variable {X:Cx} {c:Fc} {e:Expr} {es:List Expr} {f fe:DE} {g:DA} {as:List Ak}
theorem bw(ha:SE X c e f)(hr:SA X c es g)(hs:n_ e=true:=by rfl):SA X c (e :: es) (aG f g):=DH ha hr (pO hs)
theorem bj(ha:SE X c e fe)(hr:SX X c es as)(hs:n_ e=true:=by rfl):SX X c (e :: es) (.val fe :: as):=NA ha hr (pO hs)
theorem fu{i:Nat}(ha:PE X e (cJ i))(hr:SX X c es as)(hs:n_ e=true:=by rfl):SX X c (e :: es) (.io i :: as):=NB ha hr (pO hs)
end
mutual
def jX:Nat->Expr->Option D
 | _,.Constant (.int i) _ _=>some (.int i)
 | _,.Constant (.bool b) _ _=>some (.bl b)
 | _,.Constant .none _ _=>some .aI
 | _,.Constant (.str x) _ _=>some (.str x.cps.toList)
 | n + 1,.Tuple es _ _=>if es.length<=1000 then(og n es).map .tup else none
 | _,_=>none
def og:Nat->List Expr->Option (List D)
 | _,[]=>some []
 | n,e :: es=>match jX n e,og n es with
  | some d,some ds=>some (d :: ds)
  | _,_=>none
end
theorem NN:∀ {n:Nat} {e:Expr} {d:D},jX n e=some d->n_ e=true:=λ{n e d} h=>by
 cases e <;> first | rfl | (cases n <;> simp[jX] at h)
mutual
theorem Et:∀ {n:Nat} {e:Expr} {d:D},jX n e=some d->SE X c e (eD d)
 | _,.Constant (.int i) _ _,d,h=>by
  simp only[jX,W8] at h; subst h; exact aL
 | _,.Constant (.bool b) _ _,d,h=>by
  simp only[jX,W8] at h; subst h; exact iI
 | _,.Constant .none _ _,d,h=>by
  simp only[jX,W8] at h; subst h; exact qW
 | _,.Constant (.str x) _ _,d,h=>by
  simp only[jX,W8] at h; subst h; exact C8 _ (C5 x)
 | 0,.Tuple es k pos,d,h=>by simp[jX] at h
 | n + 1,.Tuple es k pos,d,h=>by
  simp only[jX] at h;split at h
  ·rename_i hl
   cases e:og n es with
   | none=>rw[e] at h; cases h
   | some ds =>
    rw[e] at h;simp only[WF,W8] at h;subst h;exact fN (xS e) hl
  ·cases h
theorem xS:∀ {n:Nat} {es:List Expr} {ds:List D},og n es=some ds->SA X c es (λδ=>.ok ds δ)
 | _,[],ds,h=>by
  simp only[og,W8] at h; subst h; exact c7
 | n,e :: es,ds,h=>by
  simp only[og] at h;split at h
  ·rename_i d eN h1 h2
   cases h;exact DH (Et h1) (xS h2) (pO (NN h1))
  ·cases h
end
def iS(ds:List D):DE:=λδ=>.ok (.own (.lst ds)) δ
theorem xT{X:Cx}{c:Fc}{e:Expr}{d:D}(h:jX 9 e=some d):SE X c e (eD d):=Et h
theorem xU{X:Cx}{c:Fc}{es:List Expr}{ds:List D}{pos:Pos}(h:og 9 es=some ds)(hl:es.length<=1000):SE X c (.List es pos) (iS ds):=jk (xS h) hl
section
variable {X:Cx} {c:Fc} {e:Expr} {fe:DE} {pos:Pos} {tg:Expr}
theorem rO{i:Nat}{o:Expr}{apos cg:Pos}(ho:PE X o (cJ i))(he:SE X c e fe)
  (kY:QT o "append" X.env (eval o X.env)=eval o X.env:=by rfl)
  (kZ:((QW cg (Wk [e] X.env)).all (λx=>!x.1) && (backToKw cg (keywordEach [] X.env)).all (λx=>x.1.isSome)
   && decide ([e].length + ([]:List Keyword).length + (if ([]:List Keyword).isEmpty then 0 else 1) < 30))=true:=by rfl)
  (fU:(apos.endLine == cg.line)=true:=by rfl) (hs:Wk [e] X.env=(false,eval e X.env) :: Wk [] X.env:=by rfl)
  (qU:Jp (.Call (.Attribute o "append" apos) [e] [] cg) none pos.line X.env=pure false:=by rfl):SS X c (.Expr (.Call (.Attribute o "append" apos) [e] [] cg) pos) (ft i fe) :=
 Ng (p0:=apos) ho he (IP (tN PySem.F.plainAttrs_list PySem.F.slot_list_append PySem.F.type_list_append Cy ho (gv he jd hs) kY kZ fU hs rfl) qU)
end
def xV(K:W1):Bool:=K.all λp=>match p.2.cls with
 | .type t=>!(t == "list")
 | _=>true
theorem Eu[BEq α][LawfulBEq α]:∀ {K:List (α×β)} {a:α} {o:β},K.lookup a=some o->(a,o) ∈ K
 | [],a,o,e=>by simp at e
 | (b,o') :: r,a,o,e=>by
  rw[Qk] at e
  cases hb:a == b with
  | true =>
   rw[hb] at e;have h1:o'=o:=Wz e;have h2:a=b:=eq_of_beq hb;rw[h1,h2];exact Wj
  | false =>
   rw[hb] at e;exact Wa _ (Eu e)
theorem NO {K:W1} {a:Addr} {o:Obj} (h:xV K=true) (e:K.lookup a=some o) (hc:o.cls = .type "list"):False:=by
 have hm:(a,o) ∈ (K:List (Addr×Obj)):=Eu e;have h1:=Q5.mp h (a,o) hm;have h2:(match o.cls with | .type t=>!(t == "list") | _=>true)=true:=h1;rw[hc] at h2;have h3:(!(("list" : String) == "list"))=true:=h2;rw[beq_self_eq_true] at h3
 cases h3
theorem NP{K:W1}{G:DF}{H:Hp}{a:Addr}{ns:List Int}{E:XK}(hK:xV K=true)(hS:cK K H a (ns.map V.int))(hG:∃ bc,G [.pure (.lst (ns.map .int))]=some (.pure (.bl true),bc)) :
  mw 1 G [.ref a] H (λv _=>v = .bl true) E:=by
 have hR:Rd H a (.lst (ns.map V.int)):=by
  rcases hS with h | ⟨o,aj,n,e,hc,_⟩
  ·exact h
  ·exact(NO hK e hc).elim
 obtain⟨bc,hg⟩:=hG;have rep:∀ O:Addr->Prop,¬ O a->Rep H O (.ref a) (.lst (ns.map D.int)):=λO hO=>.lst hO hR (by simp) λi v d e1 e2=>by
  rw[Wh] at e1 e2
  cases e:ns[i]? with
  | none=>rw[e] at e1; cases e1
  | some k=>rw[e] at e1 e2; cases e1; cases e2; exact .int k
 refine⟨[.pure (.lst (ns.map .int))],λ_=>False,rfl,⟨λb o e _=>e,λb z=>z.elim,λb ⟨i,z⟩=>?_,rfl,λi d e=>?_,λi d e=>?_,λi j b d d' e1 e2 e3 e4=>?_,λp z=>?_⟩,_,bc,hg,λv H' x r=>?_⟩
 ·simp[eG] at z
 ·cases i with
  | zero =>
   simp at e;subst e;refine⟨.ref a,rfl,rep _ λz=>?_⟩;rcases z with z | ⟨j,d',z1,z2⟩
   ·exact z
   ·cases j with
    | zero=>simp at z1
    | succ j=>simp at z1
  | succ i=>simp at e
 ·cases i with
  | zero=>simp at e
  | succ i=>simp at e
 ·cases i with
  | zero=>simp at e1
  | succ i=>simp at e1
 ·simp[eG] at z
 ·cases r;rfl
theorem NQ{l:PySem.W.OpenLaw}{q:Wm}{loose:List Str}{XP:(Str->Option Value)->Heap->Prop}{YP:Wr->Heap->Prop}{d:DefRec}{K:Params->W1}{k:Nat}{G:DF}(hn:l.most=some 63)(qP:d.params.defaults=[])(hr:fB k callerA)
  (hY:∀ (w:Wr) (h:Heap),YP w h->(K w.params).In h) (hL:∀ p:Params,xV (K p)=true)
  (hG:∀ ns:List Int,ns.length<=63->∃ bc,G [.pure (.lst (ns.map .int))]=some (.pure (.bl true),bc))
  (F:∀ (w:Wr) (mg:Str->Option Value) (fa:Addr) (h:Heap),(K w.params).In h->h.Ns WE mg->mg d.name=some (.ref fa) ->
   ∃ fd:Qj,(∀ (s:W2) (u:Value),BindsTo s fd ⟨[u],[]⟩ [("script",u)])/\∀ base:Heap,(K w.params).In base->base.Ns WE mg->jL l.prog w (K w.params) mg base jO k fa fd ["script"] (mw 1 G)) :
  PySem.W.WalkO q loose XP YP l.row.toRowW d [] (λf vs=>PySem.call f vs) :=
 L2.LU (n:=63) (k:=k) (x:="script") (CX:=λ_=>jO) (sp:=λ_=>mw 1 G) hn (by decide) qP hr hY F (λw H a ns hl _ hS=>NP (hL w.params) hS (hG ns hl)) λ_ _ _ _ _ z=>z
end DV
set_option maxHeartbeats 400000
namespace L2
open PySem PySem.Spec PyProof.Rows
def xW(x:Str):It:=⟨λi _=>i < x.cps.size,λi H y H'=>H'=H/\∃ c,x.cps[i]? = some c/\y = .str ⟨#[c]⟩,λi _=>i=x.cps.size⟩
theorem NR {P:Wm} {w:Wr} {K:W1} {tg:Expr} (x:Str) (t:Tok) (it:Addr) (T:String) (hT:T = "str_ascii_iterator"\/T = "str_iterator"):Turn P w K tg (xW x) [it] it (λi h=>h.IsStrIter it T x t i):=by
 have W:∀ A:Wt,A.handled=none->Walks P w A it [it] [it] x.cps.size (SignAt x) (λi h=>h.IsStrIter it T x t i):=λA hh=>by
  rcases hT with rfl | rfl
  ·exact Walks.strAscii hh it x t
  ·exact Walks.strWide hh it x t
 refine⟨by simp,λi h st b hb=>?_,λi h h' st k=>?_,?_,?_,λA i s Q E st h=>?_⟩
 ·have e:b=it:=by simpa using hb
  subst e;obtain⟨o,e,c,d⟩:=st;exact⟨o,e,λv z=>by rw[d] at z; cases z⟩
 ·obtain⟨o,e,r⟩:=st;exact⟨o,k it (by simp) o e,r⟩
 ·intro X hP hw hK hc i pins s σ H E I hf st hg;subst hP hw hK;obtain⟨f0,f1,f2,f3,f4,f5⟩:=hf it (by simp);refine(W X.A (I.ok.hd hc)).item i s _ _ hg st λv h' tk hv hJ kk=>?_
  obtain⟨c,u,hx,rfl⟩:=hv;have I1:Inv X pins σ H { s with heap:=h',toks:=tk }:=I.turned (λb o hb e=>kk b o (by simpa using hb) e) f0 f1 f3 f4 f5;obtain⟨o,e,c',d⟩:=id hJ;refine⟨_,rfl,tm (s:={ s with heap:=h',toks:=tk }) e c' d (by rcases hT with rfl | rfl <;> decide) ⟨.str ⟨#[c]⟩,H,I1,⟨u,rfl⟩,⟨rfl,c,hx,rfl⟩,hJ,λb hb=>(hf b hb).1⟩⟩
 ·intro X hP hw hK hc i pins s σ H E I hf st hg;subst hP hw hK;have tZ:i=x.cps.size:=hg;subst tZ;obtain⟨f0,f1,f2,f3,f4,f5⟩:=hf it (by simp);exact(W X.A (I.ok.hd hc)).done s _ _ st λh' tk eb=>⟨rfl,I.turned (λb o hb e=>eb b o (by simpa using hb) e) f0 f1 f3 f4 f5⟩
 ·rcases hT with rfl | rfl
  ·exact wpAny_pyIter_striter_ascii st h
  ·exact wpAny_pyIter_striter_wide st h
end L2
namespace DV
open PySem PySem.Spec PyProof.Rows L2
section
variable {X:Cx} {c:Fc} {tg e:Expr} {fe:DE} {pos pp:Pos}
def NS(K:W1)(tl:TE):TI:=λσ H R=>tl σ H λx H1=>(∃ a,x = .ref a/\(∃ xs,cK K H1 a xs)/\R (BS K a) H1)\/(∃ a,x = .ref a/\(∃ xs,cR K H1 a xs)/\R (vN K a) H1)\/∃ z,x = .str z/\R (xW z) H1
theorem Ew{l:Expr}{tl:TE}(hl:PE X l tl):PI X tg l (NS X.K tl):=by
 intro pins s σ H R I h;refine a0 (hl pins s σ H _ I h) λv s1 ⟨x,H1,I1,r1,q1⟩=>?_
 rcases q1 with q1 | q1 | ⟨z,e,q⟩
 ·obtain⟨a,e,⟨xs,hq⟩,q⟩:=q1;subst e
  cases r1;obtain⟨aj,rv,p,hz⟩:=I1.list hq;refine JO p.isList ?_;refine⟨s1.heap.objs.size,[s1.heap.objs.size],_,_,H1,rfl,I1.kept (t':=s1.toks) λb o e=>Wd _ e,I0 a _,⟨_,Wn _ rfl,rfl,rfl⟩,λb hb=>?_,q⟩;have e:b=s1.heap.objs.size:=by simpa using hb
  subst e;exact I1.ki (Wg _) (I1.aM.fresh (Wg _))
 ·obtain⟨a,e,⟨xs,hq⟩,q⟩:=q1;subst e
  cases r1;obtain⟨aj,rv,p,hz⟩:=I1.tuple hq;refine wpAny_pyIter_tuple (show s1.heap.IsTuple a aj.toArray from p) ?_;refine⟨s1.heap.objs.size,[s1.heap.objs.size],_,_,H1,rfl,I1.kept (t':=s1.toks) λb o e=>Wd _ e,I_ a _,⟨_,Wn _ rfl,rfl,rfl⟩,λb hb=>?_,q⟩;have e:b=s1.heap.objs.size:=by simpa using hb
  subst e;exact I1.ki (Wg _) (I1.aM.fresh (Wg _))
 ·subst e;obtain⟨t,rfl⟩:=r1;refine wpAny_pyIter_strU ?_;have hT:strIterType z = "str_ascii_iterator"\/strIterType z = "str_iterator":=by
   unfold strIterType;split
   ·exact .inl rfl
   ·exact .inr rfl
  refine⟨s1.heap.objs.size,[s1.heap.objs.size],_,_,H1,rfl,I1.kept (t':=s1.toks) λb o e=>Wd _ e,NR z t _ _ hT,⟨_,Wn _ rfl,rfl,rfl⟩,λb hb=>?_,q⟩;have e:b=s1.heap.objs.size:=by simpa using hb
  subst e;exact I1.ki (Wg _) (I1.aM.fresh (Wg _))
theorem NT(z:Tx):nZ c σ δ H (xW (toS z)) (z.map λn=>D.str [n]):=by
 intro H2 kp;have hsz:(toS z).cps.size=z.length:=by simp[toS]
 refine⟨by show(z.map _).length=_; rw[hsz]; simp,λi d e=>?_⟩;rw[Wh] at e
 cases ez:z[i]? with
 | none=>rw[ez] at e; cases e
 | some n =>
  rw[ez] at e
  cases e;have hi:i < z.length:=(W6.mp ez).1;refine⟨by show i < _; rw[hsz]; exact hi,λx H3 ⟨e3,cc,hc,hx⟩=>.inl ⟨e3,?_⟩⟩;have:(toS z).cps[i]? = z[i]?:=by simp[toS]
  rw[this,ez] at hc
  cases hc;rw[hx];exact .str [n]
def bG(f:DE):DI:=λδ=>(f δ).bind λr δ1=>match r.d with
 | .lst ds=>.ok ds δ1
 | .tup ds=>.ok ds δ1
 | .str x=>.ok (x.map λn=>.str [n]) δ1
 | _=>.stuck
theorem fw(he:SE X c e fe):SI X c tg e (bG fe):=PI.weak (Ew he) λσ H R ⟨δ,k,q⟩=>by
 unfold bG at q;rw[bM] at q;refine⟨δ,k,aY q λr δ1 q1 v H1 a1 r1=>?_⟩;have rr:=r1.rep;generalize r.d=d at q1 rr
 cases d <;> first | exact q1.elim | skip
 ·cases rr;exact .inr (.inr ⟨_,rfl,q1 _ H1 a1 (NT _)⟩)
 ·cases rr with
  | tup h1 h2 h3 h4=>exact .inr (.inl ⟨_,rfl,⟨_,.of h2⟩,q1 _ H1 a1 (Nh _ h2 (λz=>h1 (.inr z)) ⟨h3,h4⟩)⟩)
 ·cases rr with
  | lst h1 h2 h3 h4 =>
   refine .inl ⟨_,rfl,⟨_,.inl h2⟩,q1 _ H1 a1 ?_⟩;intro H2 kp;rename_i a vs;have h5:Rd H2 a (.lst vs):=Rd.keep h2 λo e=>kp a o e λz=>h1 (.inr z)
   have r':aN H1 (Av c σ δ1) vs _:=⟨h3,h4⟩
   refine⟨⟨vs,.inl h5,by rw[r'.1]; exact Wg _⟩,λi d e=>?_⟩;obtain⟨v,ev,rv⟩:=r'.get e;refine⟨⟨vs,v,.inl h5,ev⟩,λx H3 ⟨e3,y⟩=>.inl ⟨e3,?_⟩⟩;have:=y vs (.inl h5);rw[ev] at this
   cases this;exact rv
end
end DV
namespace L2
open PySem PySem.Spec PyProof.Rows
theorem xX(a:Int)(t:Tok)(l:Addr)(dd:Option Addr)(items:Array Value)(n:Nat)(sl:Array (Option Value)) :
  Meets (Builtin.«int.__rmul__» ⟨[.int a t,.ref l],[]⟩) (λ_ R s=>s.heap.get? l=some { cls:=.type "tuple",dict:=dd,data:=.seq items n,slots:=sl }/\R (.ok (.ret Value.notImplemented)) s) :=
 .of_wp λprog w A R s h=>by obtain⟨hp,g,d,tk,os⟩:=s; obtain⟨hl,h⟩:=h; wp_walk; exact⟨_,rfl,h⟩
theorem xY:fillsNumberSlot (.type "tuple") "mul" = pure false :=
 PySem.fillsNumberSlot_seq (id:="tuple.__mul__") (r:=some (.builtin "tuple.__rmul__")) F.slot_tuple_mul.lookup (by decide +kernel) F.slot_tuple_rmul.lookup (by decide +kernel)
theorem xZ:seqRepeat? (.type "tuple")=pure (some (.builtin "tuple.__mul__")):=by
 unfold seqRepeat?;rw[PySem.seqSlot_of (T:="tuple") (name:="__mul__") (id:="tuple.__mul__") F.slot_tuple_mul.lookup (by decide +kernel),PySem.seqSlot_of (T:="tuple") (name:="__rmul__") (id:="tuple.__rmul__") F.slot_tuple_rmul.lookup (by decide +kernel)];rfl
theorem NU(l:Addr)(dd:Option Addr)(items:Array Value)(n:Nat)(sl:Array (Option Value))(x:Int)(u:Tok)(h1:¬ (decide (x < -(2 ^ 63)) || decide (x ≥ 2 ^ 63))=true)(h2:¬ (items.isEmpty || x == 1)=true)(h3:¬ (decide (x<=0) || items.isEmpty)=true)(h4:¬ items.size * x > (2 ^ 63 - 1) / 8)(h5:¬ Builtin.Tuple.tupleTooMany (items.size * x)=true)(h6:((Wc x.toNat items).foldl (· ++ ·) #[]).size<=We) :
  Meets (Builtin.«tuple.__mul__» ⟨[.ref l,.int x u],[]⟩) (λ_ R s=>s.heap.get? l=some { cls:=.type "tuple",dict:=dd,data:=.seq items n,slots:=sl } /\
   R (.ok (.ret (.ref s.heap.objs.size))) { s with heap:=s.heap.push { cls:=.type "tuple",data:=.seq ((Wc x.toNat items).foldl (· ++ ·) #[]) } }) :=
 .of_wp λprog w A R s h=>by
  obtain⟨hp,g,d,tk,os⟩:=s; obtain⟨hl,h⟩:=h
  wp_walk
  rw[if_neg h1];wp_walk
  try rw[if_neg h2]
  try wp_walk
  try rw[if_neg h3]
  try wp_walk
  try rw[if_neg h4]
  try wp_walk
  try rw[if_neg h5]
  try wp_walk
  exact⟨_,rfl,h⟩
theorem x5(aj:List α):∀ (k:Nat) (acc:List α),List.foldl (λx1 x2:Array α=>x1 ++ x2) acc.toArray (Wc k aj.toArray)=(acc ++ (Wc k aj).flatten).toArray
 | 0,acc=>by simp
 | k + 1,acc=>by
  rw[Q7,Jl,show acc.toArray ++ aj.toArray=(acc ++ aj).toArray by simp,x5 aj k];simp[Q7]
section
variable {X:Cx}
def Ex(K:W1):R2:=λx y H Q=>∃ l k xs,x = .ref l/\y = .int k/\cR K H l xs/\xs≠[]/\2<=k/\k<=1000000/\xs.length * k.toNat<=We/\∀ p,H p=none->Q (.ref p) (upd H p (.tup (Wc k.toNat xs).flatten))
theorem NV:bP X (WV .Mult) (Ex X.K):=by
 intro pins s σ H x y v u Q I rx ry h;obtain⟨l,k,xs,rfl,rfl,hH,cZ,h1,h2,hz,q⟩:=h
 cases rx;obtain⟨t,rfl⟩:=ry;obtain⟨aj,r,pl,hl⟩:=I.tuple hH;obtain⟨⟨cls,dd,data,sl⟩,ho,hc,n,hd⟩:=id pl;simp only at hc hd;subst hc hd;have hlen:aj.toArray.size=xs.length:=by rw[Wo]; exact r.length.symm
 have kz:aj.toArray.isEmpty=false:=by
  cases aj with
  | nil=>exact absurd (r.ph.mp rfl) cZ
  | cons a b=>rfl
 have fU:We=16777216:=rfl;have hk:(k.toNat:Int)=k:=by omega
 have hmul:((aj.toArray.size:Nat):Int) * k=((xs.length * k.toNat:Nat):Int):=by rw[hlen,WQ,hk]
 have uL:List.foldl (λx1 x2=>x1 ++ x2) #[] (Wc k.toNat aj.toArray)=(Wc k.toNat aj).flatten.toArray:=by
  have:=we aj k.toNat [];rw[J4] at this;exact this
 refine Jc (T:="tuple") (U:="int") (by decide) ⟨_,ho,rfl⟩ (λs'=>QG s' k t) xY F.fills_int_mul QP xZ F.slot_int_index.lookup
  (QO QP (QG s k t) F.entry_int_rmul (JP _ _) (xX k t l dd aj.toArray n sl)
   ⟨ho,rfl,⟨_,ho,rfl⟩,QO F.slot_tuple_mul ⟨_,ho,rfl⟩ F.entry_tuple_mul (F.args_tuple_mul_2 _ _) (NU l dd aj.toArray n sl k t ?_ ?_ ?_ ?_ ?_ ?_) ⟨ho,?_⟩⟩)
 ·simp; omega
 ·rw[kz]; simp; omega
 ·rw[kz]; simp; omega
 ·rw[hmul]; omega
 ·rw[hmul];unfold Builtin.Tuple.tupleTooMany;rw[fU] at hz;generalize xs.length * k.toNat=m at hz;simp only[fU,decide_eq_true_eq];omega
 ·rw[uL,Wo,tO,<- r.length,JH]; exact hz
 ·rw[uL];have I1:Inv X pins σ (upd H s.heap.objs.size (.tup (Wc k.toNat xs).flatten)) { s with heap:=s.heap.push { cls:=.type "tuple",data:=.seq (Wc k.toNat aj).flatten.toArray } } :=
   I.laid (t':=s.toks) (λb o e=>Wd _ e) (Wg _) (show cn X.prog X.w _ _ _ (.tup (Wc k.toNat xs).flatten) from⟨by rw[tO,JH]; exact hz,(Wc k.toNat aj).flatten,r.rep k.toNat,iD.new _ _⟩)
  exact⟨.ref _,_,I1,rfl,q _ (I.aM.fresh (Wg _))⟩
def Ey:R2:=λx y H Q=>∃ z k,x = .str z/\y = .int k/\2<=k/\k<=1000000/\0 < z.length/\z.length * k.toNat<=We/\Q (.str ⟨(Wc k.toNat z.cps).foldl (· ++ ·) #[]⟩) H
theorem NW:bP X (WV .Mult) Ey:=by
 intro pins s σ H x y v u Q I rx ry h;obtain⟨z,k,rfl,rfl,h1,h2,h0,hz,q⟩:=h;obtain⟨t,rfl⟩:=rx;obtain⟨t',rfl⟩:=ry;have fU:We=16777216:=rfl;have c1:¬ k < 1:=by omega
 have c2:(k == 1 || z.length == 0)=false:=by
  simp;omega
 refine PySem.P.mul_str (by simp; omega) (λ_ _=>?_) (λ_ _=>?_) ?_
 ·have hm:(z.length:Int) * k<=16777216:=by
   have:(z.length:Int) * k=((z.length * k.toNat:Nat):Int):=by rw[WQ,show(k.toNat:Int)=k by omega]
   rw[this];rw[fU] at hz;omega
  have:(z.length:Int)<=(2 ^ 63 - 1) / k:=(Int.le_ediv_iff_mul_le (by omega)).mpr (by omega);omega
 ·unfold Builtin.Str.tooLong;rw[fU] at hz;generalize z.length * k.toNat=m at hz;simp only[fU,decide_eq_false_iff_not];omega
 ·rw[if_neg c1,if_neg (by rw[c2]; simp)];have hsz:((Wc k.toNat z.cps).foldl (· ++ ·) #[]).size=k.toNat * z.length:=by
   have h:=x5 z.cps.toList k.toNat [];simp only[J4,Array.toArray_toList] at h;rw[h,Wo,tO];simp[Str.length]
  exact⟨by show((Wc k.toNat z.cps).foldl (· ++ ·) #[]).size<=_; rw[hsz,JH]; exact hz,.str _,H,I.tok _,⟨_,rfl⟩,q⟩
theorem Ez:∀ {xs:List Nat} {us:List Value},us.length=xs.length->(∀ (j n:Nat) (v:Value),xs[j]? = some n->us[j]? = some v->∃ w,v = .str ⟨#[n]⟩ w)->Vals (xs.map λn=>V.str ⟨#[n]⟩) us
 | [],[],_,_=>.nil
 | [],u :: us,h,_=>by simp at h
 | x :: xs,[],h,_=>by simp at h
 | x :: xs,u :: us,h,k=>.cons (by obtain⟨w,e⟩:=k 0 x u rfl rfl; exact⟨w,e⟩) (Ez (by simpa using h) λj n v h1 h2=>k (j + 1) n v (by simpa using h1) (by simpa using h2))
theorem NX (hc:X.calm=true):eK X (.type "list") (λxs H Q=>∃ z:Str,xs=[.str z]/\z.cps.size<=We/\∀ l,H l=none->Q (.ref l) (upd H l (.lst (z.cps.toList.map λn=>V.str ⟨#[n]⟩)))):=by
 intro pins s σ H xs us Q I r h;obtain⟨z,rfl,hz,q⟩:=h;obtain⟨u,rfl,t,rfl⟩:=gO r;refine call_list_str (hn:=hz) (I.ok.hd hc) z t λh' tk acc c' kp e EA=>?_
 have hv:Vals (z.cps.toList.map λn=>V.str ⟨#[n]⟩) acc.toList:=Ez (by simp[EA.1]) λj n v h1 h2=>by
  obtain⟨c,w,h3,h4⟩:=EA.2 j v (by simpa using h2);rw[show z.cps[j]? = some n by simpa using h1] at h3
  cases h3;exact⟨w,h4⟩
 exact⟨.ref s.heap.objs.size,_,I.laid (t':=tk) kp (Wg _) (show cn X.prog X.w _ h' _ (.lst _) from⟨by simpa using hz,acc.toList,c',hv,by simpa using e⟩),rfl,q _ (I.aM.fresh (Wg _))⟩
end
end L2
namespace DV
open PySem PySem.Spec PyProof.Rows L2
def e9:D->D->Option S
 | .int i,.int j=>pE (.int i) (.int j)
 | .str x,.int k=>if 2<=k/\k<=1000000/\0 < x.length/\x.length * k.toNat<=We then some (.pure (.str (Wc k.toNat x).flatten)) else none
 | .tup xs,.int k=>if 2<=k/\k<=1000000/\0 < xs.length/\xs.length * k.toNat<=We then some (.pure (.tup (Wc k.toNat xs).flatten)) else none
 | _,_=>none
def x8(K:W1):R2:=λx y H Q=>rI qF (λi j=>V.int (i * j)) x y H Q\/Ey x y H Q\/Ex K x y H Q
theorem oh:bP X (WV .Mult) (x8 X.K):=Kh.or (NW.or NV)
theorem aN.rep(h:aN H O vs ds):∀ k:Nat,aN H O (Wc k vs).flatten (Wc k ds).flatten
 | 0=>.nil
 | k + 1=>by rw[Q7,Q7,Qx,Qx]; exact h.append (aN.rep h k)
theorem my{K:W1}:cF (x8 K) e9:=by
 intro c σ δ H x y d e s Q k rx ry hp q
 cases d <;> cases e <;> first | (simp[e9] at hp; done) | skip
 ·exact .inl (MN c σ δ H x y _ _ s Q k rx ry hp q)
 ·rename_i z n;simp only[e9] at hp;split at hp
  ·rename_i h
   cases hp;refine .inr (.inl ⟨toS z,n,rx.str,ry.int,h.1,h.2.1,by rw[jQ]; exact h.2.2.1,by rw[jQ]; exact h.2.2.2,?_⟩);have e:(⟨(Wc n.toNat (toS z).cps).foldl (· ++ ·) #[]⟩:Str)=toS (Wc n.toNat z).flatten:=by
    unfold toS;congr 1
    have:=x5 z n.toNat [];rw[J4] at this;exact this
   rw[e];exact q _ H (.refl k) (.str _)
  ·cases hp
 ·rename_i ds n;simp only[e9] at hp;split at hp
  ·rename_i h
   cases hp;obtain⟨a,vs,ex,ha,r⟩:=rx.tup;refine .inr (.inr ⟨a,n,vs,ex,ry.int,.of ha,?_,h.1,h.2.1,by rw[r.1]; exact h.2.2.2,λp oi=>?_⟩)
   ·intro z;rw[z] at r;have:=r.1;simp at this;omega
   ·exact q _ _ (.alloc k oi _) (bA.nN k (aN.rep r _) oi)
  ·cases hp
theorem bA.newD(k:Ok c σ δ H)(hp:H p=none):bA c σ δ H (upd H p (.dK [])) (.ref p) (.own (.aC [])):=by
 refine⟨p,rfl,⟨[],dH,rfl,λi p q e=>by simp at e⟩,λz=>k.mf hp (.inl z),k.qV hp,k.plus hp _,hp⟩
def rP:DE:=λδ=>.ok (.own (.aC [])) δ
theorem EB{X:Cx}{c:Fc}{pos:Pos}:SE X c (.Dict [] [] pos) rP:=PE.weak LH λσ H Q ⟨δ,k,q⟩=>λp hp=>q _ _ (.alloc k hp _) (bA.newD k hp)
def mz:D->Option S
 | .lst ds=>some (.own (.lst ds))
 | .tup ds=>some (.own (.lst ds))
 | .str x=>if x.length<=We then some (.own (.lst (x.map λn=>.str [n]))) else none
 | _=>none
section
variable {X:Cx} {c:Fc} {e a x y:Expr} {fb:BE} {f g fa:DE} {pos pp p p2:Pos}
theorem EC:∀ z:Tx,aN H O (z.map λn=>V.str ⟨#[n]⟩) (z.map λn=>D.str [n])
 | []=>.nil
 | n :: r=>.cons (.str [n]) (EC r)
theorem ED (hc:X.calm=true) (hg:Gl X "list") (hm:X.mg "list" = none) (he:SB X c e fb) (hs:n_ e=true:=by rfl):SE X c (.Call (.Name "list" pp) [e] [] pos) (aH mz fb) :=
 rm (r:=λv H Q=>(∃ p ys,v = .ref p/\(cK X.K H p ys\/cR X.K H p ys)/\∀ l,H l=none->Q (.ref l) (upd H l (.lst ys)))\/∃ z:Str,v = .str z/\z.cps.size<=We/\∀ l,H l=none->Q (.ref l) (upd H l (.lst (z.cps.toList.map λn=>V.str ⟨#[n]⟩))))
  (Ln.or (NX hc)) (λv H Q h=>by
   rcases h with ⟨p,ys,e,h⟩ | ⟨z,e,h⟩
   ·exact .inl ⟨p,ys,by rw[e],h⟩
   ·exact .inr ⟨z,by rw[e],h⟩)
  (λc σ δ H x d s Q k rx hp q=>by
   cases d with
   | lst ds =>
    cases hp;obtain⟨a,vs,ex,ha,r⟩:=rx.lst;exact .inl ⟨a,vs,ex,.inl (.inl ha),λl hl=>q _ _ (.alloc k hl _) (bA.mh k r hl)⟩
   | tup ds =>
    cases hp;obtain⟨a,vs,ex,ha,r⟩:=rx.tup;exact .inl ⟨a,vs,ex,.inr (.of ha),λl hl=>q _ _ (.alloc k hl _) (bA.mh k r hl)⟩
   | str z =>
    simp only[mz] at hp;split at hp
    ·rename_i hz
     cases hp;refine .inr ⟨toS z,rx.str,by simpa[toS] using hz,λl hl=>?_⟩;have:(toS z).cps.toList=z:=by simp[toS]
     rw[this];exact q _ _ (.alloc k hl _) (bA.mh k (EC z) hl)
    ·cases hp
   | _=>simp[mz] at hp) hg hm PyProof.Rows.boot_list he (by decide) (by decide) (pO hs)
def NY(neg:Bool)(fa f g:DE):DE:=λδ=>(fa δ).bind λv δ1=>(f δ1).bind λlo δ2=>(g δ2).bind λhi δ3=>match v.d,lo.d,hi.d with
 | .int i,.int l,.int h=>.ok (.pure (.bl (if neg then !(decide (l<=i) && decide (i < h)) else(decide (l<=i) && decide (i < h))))) δ3
 | _,_,_=>.stuck
end
end DV
set_option maxHeartbeats 1000000
namespace L2
open PySem PySem.Spec PyProof.Rows
theorem EE:entryFor table "dict.update.loop" = some Builtin.«dict.update.loop»:=entryFor_of_tree (by kernel_rfl)
theorem rQ:plainId "dict.update.loop" = true:=by decide +kernel
theorem NZ:typeLookup (.type "tuple") "keys" = pure none:=by rw[typeLookup_type,builtinLookup_eq_fast]; kernel_rfl
theorem N0:typeLookup (.type "list") "keys" = pure none:=by rw[typeLookup_type,builtinLookup_eq_fast]; kernel_rfl
set_option maxRecDepth 8000 in
theorem N1
  (hx:s.heap.get? a=some o) (hc:o.cls = .type "tuple") (mC:o.data = .seq xs k) (hd:o.dict=none) (hA:A.handled=none)
  (h:∀ h' tk,(∀ b ob,s.heap.get? b=some ob->h'.get? b=some ob)->Q none { s with heap:=h',toks:=tk }) :
  Wf (model prog w) A (getAttr? (.ref a) "keys") Q E s:=by
 obtain⟨c,aC,dat,sl⟩:=o;simp only at hc mC hd;subst hc mC hd;obtain⟨hp,g,d,tk,os⟩:=s;have hT:∀ mD,(⟨hp,g,d,mD,os⟩:W2).TypeIs (.ref a) "tuple":=λ_=>⟨_,hx,rfl⟩
 have f1:=sub_AttributeError;have f3:=F.slot_tuple_getattribute.lookup;have f4:=F.slot_tuple_getattribute.bind (.ref a);have f5:=am_tuple_getattr_none;have x9:=NZ;unfold getAttr? getAttrBy? getAttrBy;repeat (any_goals (first | assumption | exact hT _ | ((with_reducible show Wf _ _ (call (Value.builtin "tuple.__getattribute__") _ _) _ _ _); refine QO F.slot_tuple_getattribute (hT _) am_entry_tuple_getattribute (F.args_tuple_getattribute_2 _ _) (meets_getattribute_miss_tuple a xs k sl "keys" _ x9 (by decide +kernel)) ⟨hx,hA,λh' mD e gM=>?_⟩) | wp_step))
 obtain⟨t',u',he⟩:=gM.there;show Wf _ _ (JI _ _ _ _ _ _ _) _ _ _;unfold JI;repeat (any_goals (first | assumption | wp_step))
 exact h _ _ gM.keeps
set_option maxRecDepth 8000 in
theorem N2
  (hx:s.heap.get? a=some o) (hc:o.cls = .type "list") (mC:o.data = .seq xs k) (hd:o.dict=none) (hA:A.handled=none)
  (h:∀ h' tk,(∀ b ob,s.heap.get? b=some ob->h'.get? b=some ob)->Q none { s with heap:=h',toks:=tk }) :
  Wf (model prog w) A (getAttr? (.ref a) "keys") Q E s:=by
 obtain⟨c,aC,dat,sl⟩:=o;simp only at hc mC hd;subst hc mC hd;obtain⟨hp,g,d,tk,os⟩:=s;have hT:∀ mD,(⟨hp,g,d,mD,os⟩:W2).TypeIs (.ref a) "list":=λ_=>⟨_,hx,rfl⟩
 have f1:=sub_AttributeError;have f3:=F.slot_list_getattribute.lookup;have f4:=F.slot_list_getattribute.bind (.ref a);have f5:=am_list_getattr_none;have x9:=N0;unfold getAttr? getAttrBy? getAttrBy;repeat (any_goals (first | assumption | exact hT _ | ((with_reducible show Wf _ _ (call (Value.builtin "list.__getattribute__") _ _) _ _ _); refine QO F.slot_list_getattribute (hT _) am_entry_list_getattribute (F.args_list_getattribute_2 _ _) (meets_getattribute_miss_list a xs k sl "keys" _ x9 (by decide +kernel)) ⟨hx,hA,λh' mD e gM=>?_⟩) | wp_step))
 obtain⟨t',u',he⟩:=gM.there;show Wf _ _ (JI _ _ _ _ _ _ _) _ _ _;unfold JI;repeat (any_goals (first | assumption | wp_step))
 exact h _ _ gM.keeps
def gn(kps:List (Key×V))(acc:List (Key×V)):List (Key×V):=kps.foldl (λa kv=>putK a kv.1 kv.2) acc
theorem N3{prog:Wm}{w:Wr}{A:Wt}{R:Result->W2->Prop}{s:W2}{dl it:Addr}{i:Int}{t0:Tok}
  (hn:Wf (model prog w) A.in1 (J8 (.ref it)) (λr s1=>∃ (q:Addr) (k v:Value) (n:Nat),r=some (.ref q)/\s1.heap.get? q=some { cls:=.type "tuple",dict:=none,data:=.seq #[k,v] n,slots:=#[] } /\
   Wf (model prog w) A.in1 (dictSet dl k v) (λ_ s2=>Jn (model prog w) A (.builtin "dict.update.loop" ⟨[.ref dl,.ref it,rawInt (i + 1),.none],[]⟩) R s2) (λ_ _=>False) s1) (λ_ _=>False) s) :
  Jn (model prog w) A (.builtin "dict.update.loop" ⟨[.ref dl,.ref it,.int i t0,.none],[]⟩) R s:=by
 refine codeAny_builtin EE ?_;rw[Around.under_plainId rQ _];show Wf _ A.in1 (J8 (.ref it) >>= _) _ _ s;refine W0 (QF hn (λr s1 hr=>?_) λ_ _ z=>z.elim);obtain⟨q,k,v,n,rfl,hq,hd⟩:=hr;dsimp only;refine W0 ?_;try with_reducible refine Ql ?_
 refine W0 (wpAny_tryCatch ?_);have hT:s1.TypeIs (.ref q) "tuple":=⟨_,hq,rfl⟩
 unfold Builtin.Dict.pairItems;refine W0 (JC hT ?_);rw[if_pos (by decide)];refine W0 ?_;unfold seqItems?;refine W0 (wpAny_load hq (W7 ?_));refine W7 ?_;show Wf _ A.in1 (holding [k,v] (dictSet dl k v)) _ _ s1;try with_reducible refine Ql ?_
 refine QF hd (λ_ s2 h2=>?_) λ_ _ z=>z.elim
 exact W7 ⟨plainId_quiet rQ _,h2⟩
theorem N4{prog:Wm}{w:Wr}{A:Wt}{R:Result->W2->Prop}{s:W2}{dl it:Addr}{i:Int}{t0:Tok}
  (hn:Wf (model prog w) A.in1 (J8 (.ref it)) (λr s1=>r=none/\R (.ok (.ret .none)) s1) (λ_ _=>False) s) :
  Jn (model prog w) A (.builtin "dict.update.loop" ⟨[.ref dl,.ref it,.int i t0,.none],[]⟩) R s:=by
 refine codeAny_builtin EE ?_;rw[Around.under_plainId rQ _];show Wf _ A.in1 (J8 (.ref it) >>= _) _ _ s;refine W0 (QF hn (λr s1 hr=>?_) λ_ _ z=>z.elim);obtain⟨rfl,hd⟩:=hr;dsimp only;show Wf _ A.in1 (Builtin.Dict.addKeywords dl [] >>= _) _ _ s1;exact W0 (W7 (W7 hd))
section
variable {X:Cx} {pins:List (Addr×Obj)} {σ:St} {H:Hp}
theorem Rd.sub(h:Rd H a u)(k:∀ b o,H b=some o->H' b=some o):Rd H' a u:=by
 rcases h with h | ⟨o,h⟩
 ·exact .inl (k _ _ h)
 ·exact .inr ⟨o,k _ _ h⟩
def uM(H:Hp)(ys:List V)(kps:List (Key×V)):Prop:=ys.length=kps.length/\∀ (i:Nat) y kv,ys[i]? = some y->kps[i]? = some kv->∃ q,y = .ref q/\H q=some (.tup [kV kv.1,kv.2])
theorem EF:∀ (kps acc:List (Key×V)),(gn kps acc).length<=acc.length + kps.length
 | [],acc=>Wg _
 | kv :: r,acc=>by
  have h1:=EF r (putK acc kv.1 kv.2);have h2:=tQ acc kv.1 kv.2;show(gn r (putK acc kv.1 kv.2)).length<=_;simp only[WP];omega
theorem N5(kps:List (Key×V))(kv:Key×V)(acc:List (Key×V)):gn (kps ++ [kv]) acc=putK (gn kps acc) kv.1 kv.2:=by
 unfold gn;rw[List.foldl_append];rfl
theorem EG{A:Wt}{R:Result->W2->Prop}{dl it:Addr}{ys:List V}{kps:List (Key×V)}{tn:Nat->Heap->Prop}(hP:uM H ys kps)(jY:H dl=none)(hz:kps.length<=We)
  (item:∀ (i:Nat) (y:V) (H':Hp) (s:W2) (Q:Option Value->W2->Prop),(∀ b o,H b=some o->H' b=some o)->H' it=none->Inv X pins σ H' s->tn i s.heap->ys[i]? = some y->(∀ u s',RelV y u->Inv X pins σ H' s'->tn (i + 1) s'.heap->Q (some u) s')->Wf (model X.prog X.w) A.in1 (J8 (.ref it)) Q (λ_ _=>False) s)
  (done:∀ (H':Hp) (s:W2) (Q:Option Value->W2->Prop),(∀ b o,H b=some o->H' b=some o)->H' it=none->Inv X pins σ H' s->tn ys.length s.heap->(∀ s',Inv X pins σ H' s'->Q none s')->Wf (model X.prog X.w) A.in1 (J8 (.ref it)) Q (λ_ _=>False) s)
  (keep:∀ (i:Nat) (h h':Heap),tn i h->(∀ o,h.get? it=some o->h'.get? it=some o)->tn i h') (hit:H it=none) (cZ:it≠dl) (hR:∀ s',Inv X pins σ (upd H dl (.dK (gn kps []))) s'->R (.ok (.ret .none)) s') :
  ∀ (k i:Nat) (s:W2) (j:Int) (t0:Tok),ys.length - i=k->i<=ys.length->Inv X pins σ (upd H dl (.dK (gn (kps.take i) []))) s->tn i s.heap ->
   Jn (model X.prog X.w) A (.builtin "dict.update.loop" ⟨[.ref dl,.ref it,.int j t0,.none],[]⟩) R s:=by
 have up:∀ (acc:List (Key×V)) b o,H b=some o->upd H dl (.dK acc) b=some o:=λacc b o e=>by rw[bh (gK e jY)]; exact e
 have lP:∀ acc:List (Key×V),upd H dl (.dK acc) it=none:=λacc=>by rw[bh cZ]; exact hit
 intro k;induction k with
 | zero =>
  intro i s j t0 hk hi I st;have e:i=ys.length:=by omega
  subst e;rw[hP.1,Jm (Wg _)] at I;refine N4 (done _ s _ (up _) (lP _) I st λs' I'=>⟨rfl,hR s' I'⟩)
 | succ k ih =>
  intro i s j t0 hk hi I st;have bx:i < ys.length:=by omega
  have mE:i < kps.length:=by rw[<- hP.1]; exact bx
  obtain⟨q,ey,hq⟩:=hP.2 i ys[i] kps[i] (by simp[bx]) (by simp[mE]);-- the item is a tuple of two
  have main:∀ s1,Inv X pins σ (upd H dl (.dK (gn (kps.take i) []))) s1->tn (i + 1) s1.heap->∃ (kk vv:Value) (n:Nat),s1.heap.get? q=some { cls:=.type "tuple",dict:=none,data:=.seq #[kk,vv] n,slots:=#[] }/\RelV (kV kps[i].1) kk/\RelV kps[i].2 vv:=λs1 I1 _=>by
   obtain⟨_,aj,r,n,e⟩:=(show cn X.prog X.w _ s1.heap q (.tup [kV kps[i].1,kps[i].2]) from I1.aM q _ (up _ q _ hq))
   obtain⟨u,v,rfl,r1,r2⟩:=Vals.two r;exact⟨u,v,n,e,r1,r2⟩
  refine N3 (item i ys[i] _ s _ (up _) (lP _) I st (by simp[bx]) λu s' ru I' hJ=>?_);rw[ey] at ru
  cases ru;obtain⟨kk,vv,n,e,r1,r2⟩:=main s' I' hJ;refine⟨q,kk,vv,n,rfl,e,?_⟩;obtain⟨z,hd,vs,rel,dd⟩:=tR I'.aM dH;have n8:vs.length<=We:=by rw[<- rel.length]; exact z
  have hl:(putK (gn (kps.take i) []) kps[i].1 kps[i].2).length<=We:=by
   have h1:=tQ (gn (kps.take i) []) kps[i].1 kps[i].2;have h2:=EF (kps.take i) [];simp at h2;omega
  refine wpAny_dictSet_pairs (hsz:=n8) (nG r1) dd λh' nH hs=>?_
  have he:∃ q,h'.get? dl=some q:=let ⟨q,_,_,hq,_⟩:=nH; ⟨q,hq⟩
  have I2:=wj (t':=s'.toks + 1) I' (by rw[dH]; exact True.intro) hs he (CF hl hd (rel.put kps[i].1 r2) nH);rw[HV] at I2;have et:kps.take (i + 1)=kps.take i ++ [kps[i]]:=by rw[List.take_add_one]; simp[mE]
  rw[show putK (gn (kps.take i) []) kps[i].1 kps[i].2=gn (kps.take (i + 1)) [] by rw[et,N5]] at I2;exact ih (i + 1) _ (j + 1) _ (by omega) bx I2 (keep (i + 1) _ _ hJ λo eo=>(hs.2 it cZ).trans eo)
theorem N6 (hc:X.calm=true):eK X (.type "dict") (λxs H Q=>∃ p ys kps,xs=[.ref p]/\(H p=some (.tup ys)\/Rd H p (.lst ys))/\uM H ys kps/\kps.length<=We/\∀ l,H l=none->Q (.ref l) (upd H l (.dK (gn kps [])))):=by
 intro pins s σ H xs us Q I r h;obtain⟨p,ys,kps,rfl,hp,hP,hz,q⟩:=h;obtain⟨u,rfl,rx⟩:=gO r
 cases rx;have hA:X.A.handled=none:=I.ok.hd hc;refine callType_codes (Q₁:=λobj s₁=>obj = .ref s.heap.objs.size/\s₁ = { s with heap:=s.heap.push { cls:=.type "dict",data:=.dict #[] } }) F.kt_called_dict (F.kt_typeCall_dict_1 _) F.entry_dict_init (kt_code_dict_new _ ⟨rfl,rfl⟩) ?_;rintro obj s₁ ⟨rfl,rfl⟩;have jY:H s.heap.objs.size=none:=I.aM.fresh (Wg _);have I1:Inv X pins σ (upd H s.heap.objs.size (.dK [])) { s with heap:=s.heap.push { cls:=.type "dict",data:=.dict #[] } }:=I.laid (t':=s.toks) (λ_ _ q=>Wd _ q) (Wg _) (CH s.heap I.big);generalize kn:s.heap.objs.size=dl at jY I1;have up:∀ (acc:List (Key×V)) b o,H b=some o->upd H dl (.dK acc) b=some o:=λacc b o e=>by rw[bh (gK e jY)]; exact e
 have EH:({ s with heap:=s.heap.push { cls:=.type "dict",data:=.dict #[] } }:W2).TypeIs (.ref dl) "dict":=⟨_,by rw[<- kn]; exact Wn _ rfl,rfl⟩
 refine⟨EH,F.args_dict_init_2 _ _,?_⟩;unfold Builtin.«dict.__init__»;refine W0 ?_;unfold Builtin.Dict.selfAndRest;refine W0 (wpAny_notOrdered_dict EH ?_);show Wf _ _ (pure (dl,[Value.ref p])) _ _ _;refine W7 ?_;show Wf _ _ (Builtin.Dict.updateFrom "dict.__init__" dl (.ref p) [] .none) _ _ _;unfold Builtin.Dict.updateFrom;have fin:∀ s',Inv X pins σ (upd H dl (.dK (gn kps []))) s'->EP X pins σ Q (.ref dl) s':=λs' I'=>⟨.ref dl,_,I',rfl,q dl jY⟩
 rcases hp with hp | hp
 ·obtain⟨_,aj,r,n,e⟩:=(show cn X.prog X.w _ (s.heap.push { cls:=.type "dict",data:=.dict #[] }) p (.tup ys) from I1.aM p _ (up _ p _ hp))
  refine W0 (JC ⟨_,e,rfl⟩ ?_);rw[if_pos (by decide)];refine W0 (N1 e rfl rfl rfl hA λh' tk kp=>?_);rw[if_pos (show(none:Option Value).isNone=true from rfl)];refine W0 (Ja ?_);have I2:Inv X pins σ (upd H dl (.dK [])) { s with heap:=h',toks:=tk }:=I1.kept kp;have x_:h'.IsTuple p aj.toArray:=⟨_,kp _ _ e,rfl,n,rfl⟩
  refine W0 (wpAny_pyIter_tuple (s:={ s with heap:=h',toks:=tk }) x_ ?_);refine W7 ⟨plainId_quiet rQ _,?_⟩;have jP:upd H dl (.dK []) h'.objs.size=none:=I2.aM.fresh (Wg _);have cZ:h'.objs.size≠dl:=λz=>by rw[z,dH] at jP; cases jP
  have hit:H h'.objs.size=none:=by rw[bh cZ] at jP; exact jP
  have fp:∀ H':Hp,H' h'.objs.size=none->gN X pins H' h'.objs.size:=λH' hn=>I2.ki (Wg _) hn
  refine EG (X:=X) (pins:=pins) (σ:=σ) (H:=H) (dl:=dl) (it:=h'.objs.size) (ys:=ys) (kps:=kps) (tn:=λi h=>h.IsTupleIter h'.objs.size p i) hP jY hz ?_ ?_ (λi h h2 st k=>st.at k) hit cZ (λs' I'=>⟨rfl,fin s' I'⟩) ys.length 0 _ 0 _ (Nat.sub_zero _) (Qg _) ?_ ?_
  ·intro i y H' s' Q' sub hn I' st hy k;obtain⟨_,its2,r2,n2,e2⟩:=(show cn X.prog X.w _ s'.heap p (.tup ys) from I'.aM p _ (sub p _ hp))
   obtain⟨v,hv,rv⟩:=r2.get hy;obtain⟨f0,f1,f2,f3,f4,f5⟩:=fp H' hn;refine wpAny_pyNext_tuple_item st (items:=its2.toArray) ⟨_,e2,rfl,n2,rfl⟩ (x:=v) (by simpa using hv) λh3 lS sb=>?_
   exact k v { s' with heap:=h3 } rv (I'.turned (t':=s'.toks) (λb o hb e=>(sb.2 b hb).trans e) f0 f1 f3 f4 f5) lS
  ·intro H' s' Q' sub hn I' st k;obtain⟨_,its2,r2,n2,e2⟩:=(show cn X.prog X.w _ s'.heap p (.tup ys) from I'.aM p _ (sub p _ hp))
   obtain⟨f0,f1,f2,f3,f4,f5⟩:=fp H' hn;have ko:=r2.length;exact wpAny_pyNext_tuple_end (show X.A.in1.in1.handled=none from hA) st (items:=its2.toArray) ⟨_,e2,rfl,n2,rfl⟩ (by simp; omega) λh3 eb=>k { s' with heap:=h3 } (I'.turned (t':=s'.toks) (λb o hb e=>eb b o hb e) f0 f1 f3 f4 f5)
  ·exact I2.kept (t':=tk) λb o e=>Wd _ e
  ·exact⟨_,Wn _ rfl,rfl,rfl⟩
 ·obtain⟨_,aj,n,r,e⟩:=(show cn X.prog X.w _ (s.heap.push { cls:=.type "dict",data:=.dict #[] }) p (.lst ys) from(Rd.sub hp (up _)).ok I1.aM)
  refine W0 (JC ⟨_,e,rfl⟩ ?_);rw[if_pos (by decide)];refine W0 (N2 e rfl rfl rfl hA λh' tk kp=>?_);rw[if_pos (show(none:Option Value).isNone=true from rfl)];refine W0 (Ja ?_);have I2:Inv X pins σ (upd H dl (.dK [])) { s with heap:=h',toks:=tk }:=I1.kept kp;have x_:h'.IsList p aj.toArray:=⟨_,kp _ _ e,rfl,n,rfl⟩
  refine W0 (JO (s:={ s with heap:=h',toks:=tk }) x_ ?_);refine W7 ⟨plainId_quiet rQ _,?_⟩;have jP:upd H dl (.dK []) h'.objs.size=none:=I2.aM.fresh (Wg _);have cZ:h'.objs.size≠dl:=λz=>by rw[z,dH] at jP; cases jP
  have hit:H h'.objs.size=none:=by rw[bh cZ] at jP; exact jP
  have fp:∀ H':Hp,H' h'.objs.size=none->gN X pins H' h'.objs.size:=λH' hn=>I2.ki (Wg _) hn
  refine EG (X:=X) (pins:=pins) (σ:=σ) (H:=H) (dl:=dl) (it:=h'.objs.size) (ys:=ys) (kps:=kps) (tn:=λi h=>h.IsListIter h'.objs.size p i) hP jY hz ?_ ?_ (λi h h2 st k=>st.at k) hit cZ (λs' I'=>⟨rfl,fin s' I'⟩) ys.length 0 _ 0 _ (Nat.sub_zero _) (Qg _) ?_ ?_
  ·intro i y H' s' Q' sub hn I' st hy k;obtain⟨_,its2,n2,r2,e2⟩:=(show cn X.prog X.w _ s'.heap p (.lst ys) from(Rd.sub hp sub).ok I'.aM)
   obtain⟨v,hv,rv⟩:=r2.get hy;obtain⟨f0,f1,f2,f3,f4,f5⟩:=fp H' hn;refine wpAny_pyNext_list_item st (items:=its2.toArray) ⟨_,e2,rfl,n2,rfl⟩ (x:=v) (by simpa using hv) λh3 lS sb=>?_
   exact k v { s' with heap:=h3 } rv (I'.turned (t':=s'.toks) (λb o hb e=>(sb.2 b hb).trans e) f0 f1 f3 f4 f5) lS
  ·intro H' s' Q' sub hn I' st k;obtain⟨_,its2,n2,r2,e2⟩:=(show cn X.prog X.w _ s'.heap p (.lst ys) from(Rd.sub hp sub).ok I'.aM)
   obtain⟨f0,f1,f2,f3,f4,f5⟩:=fp H' hn;have ko:=r2.length;exact wpAny_pyNext_list_end (show X.A.in1.in1.handled=none from hA) st (items:=its2.toArray) ⟨_,e2,rfl,n2,rfl⟩ (by simp; omega) λh3 eb=>k { s' with heap:=h3 } (I'.turned (t':=s'.toks) (λb o hb e=>eb b o hb e) f0 f1 f3 f4 f5)
  ·exact I2.kept (t':=tk) λb o e=>Wd _ e
  ·exact⟨_,Wn _ rfl,rfl,rfl⟩
end
end L2
set_option maxHeartbeats 400000
namespace DV
open PySem PySem.Spec PyProof.Rows L2
def gX(kvs:List (bU×D))(k:bU):Option D:=(kvs.find? λkv=>decide (kv.1=k)).map (·.2)
def putD(kvs:List (bU×D))(k:bU)(v:D):List (bU×D) :=
 if (kvs.any λkv=>decide (kv.1=k))=true then kvs.map (λkv=>if kv.1=k then(kv.1,v) else kv) else kvs ++ [(k,v)]
def mF(kps acc:List (bU×D)):List (bU×D):=kps.foldl (λa kv=>putD a kv.1 kv.2) acc
theorem N7(h:dU k=dU j):k=j:=by
 cases k <;> cases j <;> simp[dU] at h
 ·rw[h]
 ·rw[wL h]
def DR(H:Hp)(O:Addr->Prop):List (Key×V)->List (bU×D)->Prop
 | [],[]=>True
 | p :: ws,q :: ds=>p.1=dU q.1/\Rep H O p.2 q.2/\DR H O ws ds
 | _,_=>False
section
variable {H H':Hp} {O O':Addr->Prop}
theorem DR.of:∀ {ws:List (Key×V)} {ds:List (bU×D)},ws.map (·.1)=ds.map (λp=>dU p.1)->(∀ (i:Nat) p q,ws[i]? = some p->ds[i]? = some q->Rep H O p.2 q.2)->DR H O ws ds
 | [],[],_,_=>trivial
 | [],_ :: _,h,_=>by simp at h
 | _ :: _,[],h,_=>by simp at h
 | p :: ws,q :: ds,h,k=>by
  simp only[Wu,List.cons.injEq] at h;exact⟨h.1,k 0 p q rfl rfl,DR.of h.2 λi p' q' e1 e2=>k (i + 1) p' q' (by simpa using e1) (by simpa using e2)⟩
theorem DR.keys:∀ {ws:List (Key×V)} {ds:List (bU×D)},DR H O ws ds->ws.map (·.1)=ds.map (λp=>dU p.1)
 | [],[],_=>rfl
 | [],_ :: _,h=>h.elim
 | _ :: _,[],h=>h.elim
 | p :: ws,q :: ds,h=>by simp only[Wu,h.1,DR.keys h.2.2]
theorem DR.vals:∀ {ws:List (Key×V)} {ds:List (bU×D)},DR H O ws ds->∀ (i:Nat) p q,ws[i]? = some p->ds[i]? = some q->Rep H O p.2 q.2
 | [],[],_,i,p,q,e,_=>by simp at e
 | [],_ :: _,h,_,_,_,_,_=>h.elim
 | _ :: _,[],h,_,_,_,_,_=>h.elim
 | p :: ws,q :: ds,h,i,p',q',e1,e2=>by
  cases i with
  | zero=>simp at e1 e2; subst e1 e2; exact h.2.1
  | succ i=>exact DR.vals h.2.2 i p' q' (by simpa using e1) (by simpa using e2)
theorem DR.map:∀ {ws:List (Key×V)} {ds:List (bU×D)},DR H O ws ds->(∀ v d,Rep H O v d->Rep H' O' v d)->DR H' O' ws ds
 | [],[],_,_=>trivial
 | [],_ :: _,h,_=>h.elim
 | _ :: _,[],h,_=>h.elim
 | p :: ws,q :: ds,h,k=>⟨h.1,k _ _ h.2.1,DR.map h.2.2 k⟩
theorem oj(h:p=dU q):(p=dU k) ↔ q=k:=⟨λe=>N7 (by rw[<- h]; exact e),λe=>by rw[h,e]⟩
theorem DR.any:∀ {ws:List (Key×V)} {ds:List (bU×D)} (k:bU),DR H O ws ds->(ws.any λkv=>decide (kv.1=dU k))=ds.any λkv=>decide (kv.1=k)
 | [],[],_,_=>rfl
 | [],_ :: _,_,h=>h.elim
 | _ :: _,[],_,h=>h.elim
 | p :: ws,q :: ds,k,h=>by
  rw[Qd,Qd,DR.any k h.2.2];congr 1
  exact decide_eq_decide.mpr (oj h.1)
theorem DR.val:∀ {ws:List (Key×V)} {ds:List (bU×D)} (k:bU),DR H O ws ds->(gX ds k=none/\dI ws (dU k)=none)\/∃ v d,gX ds k=some d/\dI ws (dU k)=some v/\Rep H O v d
 | [],[],_,_=>.inl ⟨rfl,rfl⟩
 | [],_ :: _,_,h=>h.elim
 | _ :: _,[],_,h=>h.elim
 | p :: ws,q :: ds,k,h=>by
  by_cases e:q.1=k
  ·have e':=(oj h.1).mpr e;exact .inr ⟨p.2,q.2,by simp[gX,Q4,e],je e',h.2.1⟩
  ·have e':¬ p.1=dU k:=λz=>e ((oj h.1).mp z)
   have ev:gX (q :: ds) k=gX ds k:=by simp[gX,Q4,e]
   rw[ev,jf e'];exact DR.val k h.2.2
theorem DR.append:∀ {ws EI:List (Key×V)} {ds eN:List (bU×D)},DR H O ws ds->DR H O EI eN->DR H O (ws ++ EI) (ds ++ eN)
 | [],_,[],_,_,h'=>h'
 | [],_,_ :: _,_,h,_=>h.elim
 | _ :: _,_,[],_,h,_=>h.elim
 | p :: ws,_,q :: ds,_,h,h'=>⟨h.1,h.2.1,DR.append h.2.2 h'⟩
theorem DR.store:∀ {ws:List (Key×V)} {ds:List (bU×D)} {k:bU} {v:V} {d:D},DR H O ws ds->Rep H O v d->DR H O (ws.map λkv=>if kv.1=dU k then(kv.1,v) else kv) (ds.map λkv=>if kv.1=k then(kv.1,d) else kv)
 | [],[],_,_,_,_,_=>trivial
 | [],_ :: _,_,_,_,h,_=>h.elim
 | _ :: _,[],_,_,_,h,_=>h.elim
 | p :: ws,q :: ds,k,v,d,h,r=>by
  refine⟨?_,?_,DR.store h.2.2 r⟩
  ·by_cases e:q.1=k
   ·dsimp only; rw[if_pos ((oj h.1).mpr e),if_pos e]; exact h.1
   ·dsimp only; rw[if_neg λz=>e ((oj h.1).mp z),if_neg e]; exact h.1
  ·by_cases e:q.1=k
   ·dsimp only; rw[if_pos ((oj h.1).mpr e),if_pos e]; exact r
   ·dsimp only; rw[if_neg λz=>e ((oj h.1).mp z),if_neg e]; exact h.2.1
theorem DR.put(h:DR H O ws ds)(r:Rep H O v d):DR H O (putK ws (dU k) v) (putD ds k d):=by
 unfold putK putD;rw[DR.any k h];split
 ·exact DR.store h r
 ·exact DR.append h ⟨rfl,r,trivial⟩
theorem DR.ya:∀ {kps:List (Key×V)} {uN:List (bU×D)} {ws:List (Key×V)} {ds:List (bU×D)},DR H O kps uN->DR H O ws ds->DR H O (gn kps ws) (mF uN ds)
 | [],[],_,_,_,h=>h
 | [],_ :: _,_,_,h,_=>h.elim
 | _ :: _,[],_,_,h,_=>h.elim
 | p :: kps,q :: uN,ws,ds,h,h'=>by
  show DR H O (gn kps (putK ws p.1 p.2)) (mF uN (putD ds q.1 q.2));rw[h.1];exact DR.ya h.2.2 (DR.put h' h.2.1)
end
def iT:D->Option bU
 | .int i=>some (.inl i)
 | .str x=>some (.inr x)
 | _=>none
theorem EJ(h:iT d=some k)(r:Rep H O v d):v=kV (dU k):=by
 cases d <;> simp[iT] at h <;> subst h <;> cases r <;> rfl
theorem yb(h:iT d=some k)(r:da c σ δ H v d):v=kV (dU k):=by
 rcases r with r | ⟨a,rfl,r⟩
 ·exact EJ h r
 ·cases d <;> simp[iT] at h <;> exact r.elim
def kA:List D->Option (List (bU×D))
 | []=>some []
 | .tup [k,v] :: r=>match iT k,kA r with
  | some k',some r'=>some ((k',v) :: r')
  | _,_=>none
 | _ :: _=>none
def mG:D->Option S
 | .lst ds=>(kA ds).bind λps=>if ps.length<=We then some (.own (.aC (mF ps []))) else none
 | .tup ds=>(kA ds).bind λps=>if ps.length<=We then some (.own (.aC (mF ps []))) else none
 | _=>none
theorem yc:∀ {ds:List D} {vs:List V} {ps:List (bU×D)},kA ds=some ps->aN H O vs ds->∃ kps,uM H vs kps/\DR H O kps ps/\kps.length=ps.length
 | [],[],ps,h,_=>by
  simp[kA] at h;subst h;exact⟨[],⟨rfl,λi y kv e=>by simp at e⟩,trivial,rfl⟩
 | [],_ :: _,_,_,r=>by have:=r.1; simp at this
 | _ :: _,[],_,_,r=>by have:=r.1; simp at this
 | d :: ds,v :: vs,ps,h,r=>by
  unfold kA at h;split at h
  ·rename_i heq; cases heq
  ·rename_i k w r' heq
   cases heq;split at h
   ·rename_i k' r'' hk hr
    cases h;obtain⟨kps,hP,hD,hL⟩:=yc hr r.tail;have rp:=r.head
    cases rp with
    | tup h1 h2 h3 h4 =>
     rename_i a us;match us,h3,h4,h2 with
     | [x,y],_,h4,h2 =>
      have rk:=h4 0 x k rfl rfl;have rv:=h4 1 y w rfl rfl;have ek:=EJ hk rk;subst ek;refine⟨(dU k',y) :: kps,⟨by simp[hP.1],λi z kv e1 e2=>?_⟩,⟨rfl,rv,hD⟩,by simp[hL]⟩
      cases i with
      | zero=>simp at e1 e2; subst e1 e2; exact⟨a,rfl,h2⟩
      | succ i=>exact hP.2 i z kv (by simpa using e1) (by simpa using e2)
   ·cases h
  ·cases h
theorem bA.EK(k:Ok c σ δ H)(hp:H p=none)(r:DR H (Av c σ δ) ws ds):bA c σ δ H (upd H p (.dK ws)) (.ref p) (.own (.aC ds)):=by
 have up:∀ a w,H a=some w->upd H p (.dK ws) a=some w:=λa w e=>by rw[bh (gK e hp)]; exact e
 have r1:DR (upd H p (.dK ws)) (Av (c.plus p) σ δ) ws ds:=r.map λv d h=>(h.aW λb z=>by
  rcases z with (z | z) | z
  ·exact .inl (.inl z)
  ·exact .inr (by rw[z]; exact hp)
  ·exact .inl (.inr z)).keep λb w e _=>up b w e
 exact⟨p,rfl,⟨ws,dH,r1.keys,r1.vals⟩,λz=>k.mf hp (.inl z),k.qV hp,k.plus hp _,hp⟩
section
variable {X:Cx} {c:Fc} {e:Expr} {fb:BE} {pos pp:Pos}
theorem N8:QB "dict" = some (.type "dict"):=by decide +kernel
theorem N9 (hc:X.calm=true) (hg:Gl X "dict") (hm:X.mg "dict" = none) (he:SB X c e fb) (hs:n_ e=true:=by rfl):SE X c (.Call (.Name "dict" pp) [e] [] pos) (aH mG fb) :=
 rm (r:=λv H Q=>∃ p ys kps,v = .ref p/\(H p=some (.tup ys)\/Rd H p (.lst ys))/\uM H ys kps/\kps.length<=We/\∀ l,H l=none->Q (.ref l) (upd H l (.dK (gn kps []))))
  (N6 hc) (λv H Q ⟨p,ys,kps,e,h⟩=>⟨p,ys,kps,by rw[e],h⟩)
  (λc σ δ H x d s Q k rx hp q=>by
   cases d with
   | lst ds =>
    simp only[mG] at hp
    cases hps:kA ds with
    | none=>rw[hps] at hp; cases hp
    | some ps =>
     rw[hps] at hp;simp only[QZ] at hp;split at hp
     ·rename_i hz
      cases hp;obtain⟨a,vs,ex,ha,r⟩:=rx.lst;obtain⟨kps,hP,hD,hL⟩:=yc hps r;exact⟨a,vs,kps,ex,.inr ha,hP,by rw[hL]; exact hz,λl hl=>q _ _ (.alloc k hl _) (bA.EK k hl (DR.ya hD (ws:=[]) (ds:=[]) trivial))⟩
     ·cases hp
   | tup ds =>
    simp only[mG] at hp
    cases hps:kA ds with
    | none=>rw[hps] at hp; cases hp
    | some ps =>
     rw[hps] at hp;simp only[QZ] at hp;split at hp
     ·rename_i hz
      cases hp;obtain⟨a,vs,ex,ha,r⟩:=rx.tup;obtain⟨kps,hP,hD,hL⟩:=yc hps r;exact⟨a,vs,kps,ex,.inl ha,hP,by rw[hL]; exact hz,λl hl=>q _ _ (.alloc k hl _) (bA.EK k hl (DR.ya hD (ws:=[]) (ds:=[]) trivial))⟩
     ·cases hp
   | _=>simp[mG] at hp) hg hm N8 he (by decide) (by decide) (pO hs)
end
theorem EL(r:da c σ δ H v (.aC ds)):∃ a ws,v = .ref a/\H a=some (.dK ws)/\DR H (Av c σ δ) ws ds:=by
 obtain⟨a,ws,e,h,k1,k2⟩:=r.aC;exact⟨a,ws,e,h,DR.of k1 k2⟩
def yd(neg:Bool):R2:=λx y H Q=>∃ a kvs k,y = .ref a/\H a=some (.dK kvs)/\x=kV k/\Q (.bl (if neg then !(dI kvs k).isSome else(dI kvs k).isSome)) H
theorem VV(hu:X.A.units + 64 < WT):bP X (WL .In) (yd false):=by
 intro pins s σ H x y v u Q I rx ry h;obtain⟨a,kvs,k,rfl,ha,rfl,q⟩:=h
 cases ry;exact LA (by omega) I (l8.k ha) rx λs' I'=>⟨.bl _,H,I',rfl,q⟩
theorem N_(hu:X.A.units + 64 < WT):bP X (WL .NotIn) (yd true):=by
 intro pins s σ H x y v u Q I rx ry h;obtain⟨a,kvs,k,rfl,ha,rfl,q⟩:=h
 cases ry;exact LB (by omega) I (l8.k ha) rx λs' I'=>⟨.bl _,H,I',rfl,q⟩
def EM(K:W1)(neg:Bool):R2:=λx y H Q=>yd neg x y H Q\/Cu K neg x y H Q\/∃ i j,x = .str i/\y = .str j/\Q (.bl (if neg then !(!(Builtin.Str.occurrences j i 0 j.length 1).isEmpty) else !(Builtin.Str.occurrences j i 0 j.length 1).isEmpty)) H
theorem Oa{X:Cx}(hu:X.A.units + 64 < WT):bP X (WL .NotIn) (EM X.K true):=(N_ hu).or (Lk.or Ku)
def jZ(neg:Bool)(x y:D):Option S:=match y with
 | .aC ds=>(iT x).map λk=>.pure (.bl (if neg then !(gX ds k).isSome else(gX ds k).isSome))
 | .str y=>match x with
  | .str [n]=>some (.pure (.bl (if neg then !decide (n ∈ y) else decide (n ∈ y))))
  | _=>none
 | .lst ds=>match x,fW ds with
  | .str z,some ts=>some (.pure (.bl (if neg then !ts.contains z else ts.contains z)))
  | _,_=>none
 | .tup ds=>match x,fW ds with
  | .str z,some ts=>some (.pure (.bl (if neg then !ts.contains z else ts.contains z)))
  | _,_=>none
 | _=>none
theorem EN(z:Tx)(ts:List Tx):tM (V.str (toS z)) (ts.map λz=>V.str (toS z))=ts.contains z:=by
 unfold tM;rw[List.any_map];induction ts with
 | nil=>rfl
 | cons t r ih =>
  rw[Qd,List.contains_cons,ih];congr 1
  show(toS t == toS z)=(z == t);rw[pD,Bool.beq_comm]
theorem EO(ts:List Tx):(ts.map λz=>V.str (toS z)).all kW=true:=by
 rw[JF];exact List.all_eq_true.mpr λ_ _=>rfl
theorem Ob{K:W1}(neg:Bool):cF (EM K neg) (jZ neg):=by
 intro c σ δ H x y d e s Q k rx ry hp q
 cases e <;> first | (simp[jZ] at hp; done) | skip
 ·rename_i z;simp only[jZ] at hp;split at hp <;> first | (cases hp; done) | skip
  rename_i n
  cases hp;refine .inr (.inr ⟨toS [n],toS z,rx.str,ry.str,?_⟩);rw[show toS [n] = ⟨#[n]⟩ from rfl,PySem.StrLaws.found_one,show(toS z).cps.toList=z by simp[toS]];exact q _ H (.refl k) (.bl _)
 ·rename_i ds;simp only[jZ] at hp;split at hp <;> first | (cases hp; done) | skip
  rename_i z ts ht
  cases hp;obtain⟨a,vs,ea,ha,r⟩:=ry.tup;have ev:=pH ht r;refine .inr (.inl ⟨a,vs,ea,.inr (.of ha),by rw[rx.str]; rfl,by rw[ev]; exact EO ts,?_⟩);rw[rx.str,ev,EN];exact q _ H (.refl k) (.bl _)
 ·rename_i ds;simp only[jZ] at hp;split at hp <;> first | (cases hp; done) | skip
  rename_i z ts ht
  cases hp;obtain⟨a,vs,ea,ha,r⟩:=ry.lst;have ev:=pH ht r;refine .inr (.inl ⟨a,vs,ea,.inl (.inl ha),by rw[rx.str]; rfl,by rw[ev]; exact EO ts,?_⟩);rw[rx.str,ev,EN];exact q _ H (.refl k) (.bl _)
 ·rename_i ds;simp only[jZ] at hp
  cases hk:iT d with
  | none=>rw[hk] at hp; cases hp
  | some kk =>
   rw[hk] at hp
   cases hp;obtain⟨a,ws,ea,ha,dr⟩:=EL ry;refine .inl ⟨a,ws,dU kk,ea,ha,yb hk rx,?_⟩;have:(dI ws (dU kk)).isSome=(gX ds kk).isSome:=by
    rcases dr.val kk with ⟨e1,e2⟩ | ⟨v,d,e1,e2,_⟩
    ·rw[e1,e2]; rfl
    ·rw[e1,e2]; rfl
   rw[this];exact q _ H (.refl k) (.bl _)
def rR:R2:=λx y H Q=>∃ a kvs k v,x = .ref a/\H a=some (.dK kvs)/\y=kV k/\dI kvs k=some v/\Q v H
def pP:D->D->Option S
 | .aC ds,k=>(iT k).bind λk=>(gX ds k).map .pure
 | x,y=>ay x y
theorem ye(hu:X.A.units + 64 < WT):hU X rR:=by
 intro value slice pins s σ H x y v u Q I rx ry h hs;obtain⟨a,kvs,k,w,rfl,ha,rfl,hv,q⟩:=h
 cases rx;obtain⟨_,_,vs,_,dd⟩:=tR I.aM ha;have hT:s.TypeIs (.ref a) "dict":=dd.typeIs;exact tail_any hT F.slot_dict_getitem.lookup (Lz (v:=w) (by omega) I (by rw[<- hv]; exact l8.k ha) ry λw' s' I' aP=>⟨w,H,I',aP,q⟩) hs
theorem Oc{K:W1}:cF (λx y H Q=>rR x y H Q\/qK K x y H Q) pP:=by
 intro c σ δ H x y d e s Q k rx ry hp q
 cases d with
 | aC ds =>
  simp only[pP] at hp
  cases hk:iT e with
  | none=>rw[hk] at hp; cases hp
  | some kk =>
   rw[hk] at hp;simp only[QZ,WG] at hp;obtain⟨dv,hv,rfl⟩:=hp;obtain⟨a,ws,ea,ha,dr⟩:=EL rx;rcases dr.val kk with ⟨e1,e2⟩ | ⟨v,d',e1,e2,r⟩
   ·rw[e1] at hv; cases hv
   ·rw[e1] at hv; cases hv
    exact .inl ⟨a,ws,dU kk,v,ea,ha,yb hk ry,e2,q v H (.refl k) r⟩
 | _=>exact .inr (bK c σ δ H x y _ e s Q k rx ry hp q)
end DV
namespace PySem
open Sem (wp)
open AutoSeq1 (wpAny_loadPart')
section
variable {prog:Wm} {w:Wr} {A:Wt} {E:Value->W2->Prop} {s:W2}
theorem Od{items}(hit:s.heap.IsTupleIter it l i)(hl:s.heap.IsTuple l items)(hx:items[i]? = some x)
  (hQ:∀ h',h'.IsTupleIter it l (i + 1)->QK it s.heap h'->Q x { s with heap:=h' }):Wf (model prog w) A (Q0 (.ref it)) Q E s:=by
 obtain⟨o,ho,hc,hd⟩:=id hit;obtain⟨ol,hol,_,nl,jY⟩:=hl;unfold Q0;refine W0 (WY (name:=Str.ofString "__next__") hit.typeIs J7
  (WW J7 hit.typeIs F.entry_tuple_iterator_next ?_ (F.args_tuple_iterator_next_1 _)))
 show Wf _ _ (field (.ref it) 0 >>= _) _ _ s;refine W0 (WU ho hd (x:=.ref l) rfl ?_);show Wf _ _ (if (Value.ref l == Value.none)=true then _ else _) _ _ s;rw[if_neg (show ¬ ((Value.ref l == Value.none)=true) from WH)];show Wf _ _ (field (.ref it) 1 >>= _) _ _ s;refine W0 (WU ho hd (x:=.int i 0) rfl ?_);show Wf _ _ (seqItems? (.ref l) >>= _) _ _ s;refine W0 (QI hol jY ?_);simp only[Qy,hx];refine W0 (wpAny_setField ho hd (by simp) (W7 ⟨x,rfl,W7 (hQ _ ?_ (Heap.SameBut.update ..))⟩));exact⟨_,Heap.get?_update_self _ ho (Obj.isFreed_of_fields (Obj.data_mapFields hd _)),(Obj.cls_mapFields ..).trans hc,by
  rw[Obj.data_mapFields hd]; simp[rawInt]⟩
theorem Oe{items}(hh:A.handled=none)(hit:s.heap.IsTupleIter it l i)(hl:s.heap.IsTuple l items)(hx:items[i]? = none)
  (hE:∀ h' e,Heap.ExtBut it s.heap h'->(∃ o,h'.get? e=some o/\o.cls = .type "StopIteration")->E (.ref e) { s with heap:=h' }):Wf (model prog w) A (Q0 (.ref it)) Q E s:=by
 obtain⟨o,ho,hc,hd⟩:=id hit;obtain⟨ol,hol,_,nl,jY⟩:=hl;unfold Q0;refine W0 (WY (name:=Str.ofString "__next__") hit.typeIs J7
  (WW J7 hit.typeIs F.entry_tuple_iterator_next ?_ (F.args_tuple_iterator_next_1 _)))
 show Wf _ _ (field (.ref it) 0 >>= _) _ _ s;refine W0 (WU ho hd (x:=.ref l) rfl ?_);show Wf _ _ (if (Value.ref l == Value.none)=true then _ else _) _ _ s;rw[if_neg (show ¬ ((Value.ref l == Value.none)=true) from WH)];show Wf _ _ (field (.ref it) 1 >>= _) _ _ s;refine W0 (WU ho hd (x:=.int i 0) rfl ?_);show Wf _ _ (seqItems? (.ref l) >>= _) _ _ s;refine W0 (QI hol jY ?_);simp only[Qy,hx];refine W0 (Ja (W0 (wpAny_setField ho hd (by simp) ?_)));show Wf _ _ (newExc (.type "StopIteration") [] >>= _) _ _ _;refine W0 ?_;simp only[newExc,newTuple];refine W0 (WZ ?_ (by size_fits));refine W0 (m:=firstArgMember _ _) (wpAny_of_eq (a:=Value.none) (by first | rfl | (simp only[firstArgMember]; rfl)) ?_);refine WZ ?_ (by size_fits);simp only[raiseNew];refine W0 (wpAny_handled ?_);first | rw[show A.in1.handled=none from hh] | rw[hh]
 refine W0 (W7 (wpAny_throw ?_));exact hE _ _ (((Heap.SameBut.update ..).extBut.push _).push _) ⟨_,Wn _ rfl,rfl⟩
end
theorem IsTuple.at'{h h':Heap}{l:Addr}{items:Array Value}(x:h.IsTuple l items)(k:∀ o,h.get? l=some o->h'.get? l=some o):h'.IsTuple l items:=by
 obtain⟨o,ho,r⟩:=x;exact⟨o,k o ho,r⟩
theorem Draws.tuple'{prog:Wm}{w:Wr}{A:Wt}(hh:A.handled=none)(it l:Addr)(cZ:l≠it)(items:Array Value) :
  Draws prog w A it [it,l] items.size (λi v=>items[i]? = some v) (λi h=>h.IsTupleIter it l i/\h.IsTuple l items) where
 live:=λ_ _ st=>let ⟨o,ho,_⟩:=st.1; ⟨o,ho⟩
 frame:=λ_ _ _ st hk=>⟨st.1.at λo e=>hk it (by simp) o e,IsTuple.at' st.2 λo e=>hk l (by simp) o e⟩
 item:=λi s Q E hi st hQ=>by
  refine Od st.1 st.2 (x:=items[i]) (by simp[hi]) λh' Of pA=>?_
  exact hQ _ h' s.toks (by simp[hi]) ⟨Of,IsTuple.at' st.2 λo e=>(pA.2 l cZ).trans e⟩ pA
 done:=λs Q E st hE=>Oe hh st.1 st.2 (by simp) hE
end PySem
namespace L2
open PySem PySem.Spec PyProof.Rows
section
variable {X:Cx} {pins:List (Addr×Obj)} {σ:St} {H:Hp} {s:W2} {h':Heap}
theorem Inv.uO(fp:List Addr)(I:Inv X pins σ H s)(k:∀ b o,b ∉ fp->s.heap.get? b=some o->h'.get? b=some o)(hf:∀ b ∈ fp,gN X pins H b):Inv X pins σ H { s with heap:=h',toks:=t' }:=by
 have lP:∀ b u,H b=some u->b ∉ fp:=λb u e z=>by rw[(hf b z).1] at e; cases e
 refine I.step (g':=s.gens) (d':=s.drawn) (ch:=fp) (λb hb=>?_) (λb o _ _ hc e _=>k b o hc e) (λb o _ _ hc e _=>⟨o.slots,k b o hc e⟩) (λ_ _ _ _ n=>n)
  (λb o hc e=>⟨o,k b o hc e⟩) (λ_ _ e=>e) (λ_ _ _ e=>e) (λb ps e=>⟨#[],by rw[e]; simp⟩) (λm hm=>?_) (λb u e=>?_) I.bare
 ·obtain⟨f0,f1,f2,f3,f4,f5⟩:=hf b hb;exact⟨f3,f1,f4,f5⟩
 ·obtain⟨o,es,ep,ho,r⟩:=hm;exact⟨o,es,ep,k _ o (λz=>(hf _ z).2.1 rfl) ho,r⟩
 ·refine(I.aM b u e).oY (λc v hc q=>k c v ?_ q) (λ_ q=>q) (λ_ _ q=>q) λ_ _ _ q=>q
  rcases hc with z | z
  ·rw[z]; exact lP b u e
  ·exact lP c _ z
end
end L2
namespace DV
open PySem PySem.Spec PyProof.Rows L2
section
variable {X:Cx} {c:Fc} {tg e:Expr} {fe:DE} {pos pp:Pos}
end
end DV
namespace HT
open PySem PySem.Spec PyProof.Rows
section
variable {prog:Wm} {w:Wr} {A:Wt} {E:Value->W2->Prop} {s:W2}
end
end HT
namespace DV
open PySem PySem.Spec PyProof.Rows L2
section
variable {X:Cx} {c:Fc} {e:Expr} {fb:BE} {pos p2:Pos}
def jr:D->Option S
 | .int i=>some (.pure (.int (-i)))
 | _=>none
theorem yf(he:SB X c e fb):SE X c (.UnaryOp .USub e pos) (aH jr fb) :=
 PE.weak (Kg Km he) λσ H Q h=>ur (λc σ δ H x d s Q k rx hp q=>by
  cases d with
  | int i =>
   simp only[jr,W8] at hp;subst hp;exact⟨i,rx.int,q _ H (.refl k) (.int _)⟩
  | _=>simp[jr] at hp) h
def uP:D->Bool
 | .aI=>true
 | _=>false
def om(neg:Bool)(d e:D):Option S:=match e with
 | .aI=>some (.pure (.bl (neg != uP d)))
 | _=>none
theorem Og:cF (λx y H Q=>y = .aI/\Q (.bl (!decide (x = .aI))) H) (om true):=by
 intro c σ δ H x y d e s Q k rx ry hp q
 cases e with
 | aI =>
  simp only[om,W8] at hp;subst hp;have ey:y = .aI:=by
   rcases ry with r | ⟨a,e,o⟩
   ·cases r; rfl
   ·exact o.elim
  have:(!decide (x=V.aI))=(true != uP d):=by
   rcases rx with r | ⟨a,e,o⟩
   ·cases r <;> simp[uP]
   ·subst e
    cases d <;> first | exact o.elim | simp[uP]
  exact⟨ey,by rw[this]; exact q _ H (.refl k) (.bl _)⟩
 | _=>simp[om] at hp
end
def Fc.dt(c:Fc)(i:Nat)(a:Addr):Fc:=⟨c.H₀,λb=>c.B b\/b=a,(i,a) :: c.pin,c.xc⟩
theorem Np.dt(h:Np c np):Np (c.dt i a) (i :: np):=λp hp=>by
 rcases Wl.mp hp with e | hp
 ·subst e; simp
 ·have:=h p hp;simp at this ⊢;exact .inr this
section
variable {c:Fc} {σ σ':St} {δ δ':Dl} {H H':Hp} {i:Nat} {a:Addr} {ds:List D}
theorem Own.unset(h:Own σ (δ.set i none) b):Own σ δ b:=by
 obtain⟨j,d',e1,e2⟩:=h;by_cases hj:i=j
 ·subst hj;rw[Q8] at e1;split at e1
  ·split at e1 <;> cases e1
  ·rename_i q; exact absurd rfl q
 ·rw[W5 hj] at e1;exact⟨j,d',e1,e2⟩
theorem Oh(k:Ok c σ δ H)(e:δ[i]? = some (some (.own (.lst ds))))(ea:σ[i]? = some (some (.ref a)))(b:Addr)(z:Av (c.dt i a) σ (δ.set i none) b):Av c σ δ b:=by
 rcases z with (z | z) | z
 ·exact .inl z
 ·subst z; exact .inr ⟨i,_,e,ea⟩
 ·exact .inr z.unset
theorem Ok.dt(k:Ok c σ δ H)(e:δ[i]? = some (some (.own (.lst ds))))(ea:σ[i]? = some (some (.ref a))):Ok (c.dt i a) σ (δ.set i none) H:=by
 have sub:=Oh k e ea;have ne:∀ j d,(δ.set i none)[j]? = some (some d)->i≠j/\δ[j]? = some (some d):=λj d q=>by
  by_cases hj:i=j
  ·subst hj;rw[Wb (W6.mp e).1] at q; cases q
  ·rw[W5 hj] at q; exact⟨hj,q⟩
 refine⟨λb o h n=>k.keep b o h λ⟨j,z⟩=>n ⟨j,Wa _ z⟩,λb z=>?_,λb ⟨j,z⟩=>?_,by rw[Q3]; exact k.len,λj d q=>?_,λj d q=>?_,λj l b d d' q1 q2=>?_,λp hp=>?_⟩
 ·rcases z with z | z
  ·exact k.bd b z
  ·subst z; exact k.me ⟨i,_,e,ea⟩
 ·rcases Wl.mp z with z | z
  ·cases z; exact k.me ⟨i,_,e,ea⟩
  ·exact k.eQ b ⟨j,z⟩
 ·obtain⟨_,q⟩:=ne j _ q;obtain⟨v,g1,g2⟩:=k.slot j d q;exact⟨v,g1,g2.aW λb z=>.inl (sub b z)⟩
 ·obtain⟨hj,q⟩:=ne j _ q;obtain⟨b,g1,g2,g3,g4⟩:=k.own j d q;refine⟨b,g1,g2.aW λb z=>.inl (sub b z),g3.imp (λ⟨l,z⟩=>⟨l,Wa _ z⟩) id,λz=>?_⟩;rcases z with z | z
  ·exact g4 z
  ·subst z; exact hj (k.inj i j b _ _ e q ea g1)
 ·exact k.inj j l b d d' (ne j _ q1).2 (ne l _ q2).2
 ·rcases Wl.mp hp with z | z
  ·subst z; exact ea
  ·exact k.pinned p z
end
def VW(i:Nat)(g:DG)(b:DS):DS:=λδ=>match δ[i]? with
 | some (some (.own (.lst ds)))=>(forL g b ds (δ.set i none)).bind λfl δ'=>match fl with
  | .ret (.own _)=>.stuck
  | fl=>.ok fl (δ'.set i (some (.own (.lst ds))))
 | _=>.stuck
section
variable {X:Cx} {c:Fc} {tg iter:Expr} {body:List Stmt} {g:DG} {b:DS} {i:Nat} {pos:Pos}
def mH(np:List Nat)(i:Nat):DS:=λδ=>match δ[i]? with
 | some (some (.own d))=>if np.contains i || !np.all (cj δ) then .ok (.ret (.pure d)) (δ.set i (some (.pure d))) else .ok (.ret (.own d)) (δ.set i none)
 | some (some (.pure d))=>.ok (.ret (.pure d)) δ
 | _=>.stuck
theorem yg{np:List Nat}{e:Expr}(aw:Np c np)(he:PE X e (cJ i)):SS X c (.Return (some e) pos) (mH np i):=PS.weak (BG he) λD σ H ⟨δ,k,q⟩=>by
 unfold mH fQ at q;split at q
 ·rename_i d e;obtain⟨a,ea,oa,ia,nb⟩:=k.own i d e;refine⟨.ref a,ea,?_⟩;split at q
  ·obtain⟨a',d_,x,r⟩:=k.give e;rw[ea] at d_; cases d_
   exact q σ H x _ r
  ·rename_i hc;simp only[Bool.or_eq_true,not_or,Bool.not_eq_true,Bool.not_eq_false',Q5] at hc;obtain⟨hc1,hc2⟩:=hc;have nI:¬ c.I a:=λ⟨j,z⟩=>by
    have z1:=aw (j,a) z;have z2:=k.pinned (j,a) z;have z3:=hc2 j (by simpa using z1);unfold cj at z3;split at z3
    ·rename_i d' ej;have:=k.inj i j a _ _ e ej ea z2;subst this;rw[z1] at hc1; cases hc1
    ·cases z3
   have h0:c.H₀ a=none:=ia.resolve_left nI;have hi:i < δ.length:=(W6.mp e).1;have ne:∀ j d,(δ.set i none)[j]? = some (some d)->i≠j/\δ[j]? = some (some d):=λj d q=>by
    by_cases hj:i=j
    ·subst hj;rw[Wb hi] at q; cases q
    ·rw[W5 hj] at q; exact⟨hj,q⟩
   have sub:∀ b,Av (c.plus a) σ (δ.set i none) b->Av c σ δ b:=λb z=>by
    rcases z with (z | z) | z
    ·exact .inl z
    ·subst z; exact .inr ⟨i,_,e,ea⟩
    ·exact .inr z.unset
   have kp:Ok (c.plus a) σ (δ.set i none) H:=by
    refine⟨k.keep,λb z=>?_,k.eQ,by rw[Q3]; exact k.len,λj d q=>?_,λj d q=>?_,λj l b d d' q1 q2=>k.inj j l b d d' (ne j _ q1).2 (ne l _ q2).2,k.pinned⟩
    ·rcases z with z | z
     ·exact k.bd b z
     ·subst z; exact k.me ⟨i,_,e,ea⟩
    ·obtain⟨_,q⟩:=ne j _ q;obtain⟨v,g1,g2⟩:=k.slot j d q;exact⟨v,g1,g2.aW λb z=>.inl (sub b z)⟩
    ·obtain⟨hj,q⟩:=ne j _ q;obtain⟨b,g1,g2,g3,g4⟩:=k.own j d q;refine⟨b,g1,g2.aW λb z=>.inl (sub b z),g3,λz=>?_⟩;rcases z with z | z
     ·exact g4 z
     ·subst z; exact hj (k.inj i j b _ _ e q ea g1)
   have x:ba c σ δ H σ (δ.set i none) H:=by
    refine⟨⟨k.keep,k.bd,k.eQ,by rw[Q3]; exact k.len,λj d q=>?_,λj d q=>?_,λj l b d d' q1 q2=>k.inj j l b d d' (ne j _ q1).2 (ne l _ q2).2,k.pinned⟩,λ_ _ w _=>w,λb z=>.inl z.unset,λ_ o w=>⟨o,w⟩⟩
    ·obtain⟨_,q⟩:=ne j _ q;obtain⟨v,g1,g2⟩:=k.slot j d q;exact⟨v,g1,g2.aW λb z=>.inl (z.elim .inl λz=>.inr z.unset)⟩
    ·obtain⟨hj,q⟩:=ne j _ q;obtain⟨b,g1,g2,g3,g4⟩:=k.own j d q;exact⟨b,g1,g2.aW λb z=>.inl (z.elim .inl λz=>.inr z.unset),g3,g4⟩
   exact q σ H x _ ⟨a,rfl,oa.aW λb z=>.inl (sub b z),nb,h0,kp,h0⟩
 ·rename_i d e;obtain⟨v,e1,r⟩:=k.slot i d e;exact⟨v,e1,q σ H (.refl k) v r⟩
 ·exact q.elim
end
theorem Oi(hu:X.A.units + 64 < WT):hU X (λx y H Q=>rR x y H Q\/qK X.K x y H Q):=(ye hu).or bH
end DV
namespace L2
open PySem PySem.Spec PyProof.Rows
section
variable {X:Cx}
end
end L2
namespace DV
open PySem PySem.Spec PyProof.Rows L2
section
variable {X:Cx} {c:Fc} {e:Expr} {fe:DE} {pos:Pos}
end
section
variable {c:Fc} {σ:St} {δ δ':Dl} {H H':Hp} {i:Nat} {a p:Addr} {ds:List D}
end
open Classical in
noncomputable def itAt (δ₀:Dl) (ds:List D):DI:=λδ=>if δ=δ₀ then .ok ds δ else .stuck
section
variable {X:Cx} {c:Fc} {cs:List Nat} {tg iter elt:Expr} {ifs:List Expr} {scope:Scope} {pos:Pos} {g:DG} {t:DT} {el:DE} {i:Nat}
end
section
variable {X:Cx} {c:Fc} {e:Expr} {fe:DE} {pos pos':Pos}
end
section
variable {X:Cx} {c:Fc} {pp pos:Pos}
end
section
variable {c:Fc} {σ:St} {δ:Dl} {H:Hp} {a:Addr} {d:D}
end
section
variable {X:Cx} {c:Fc} {e:Expr} {es:List Expr} {as:List Ak} {f0:DE} {k n:Nat} {x:Str} {G:DF} {pp pos:Pos}
end
section
variable {X:Cx} {c:Fc} {e:Expr} {fe:DE} {pos:Pos}
theorem Ok.Oj(k:Ok c σ δ H)(e:δ[i]? = some (some (.own (.aC ds))))(ea:σ[i]? = some (some (.ref a)))(r:DR H (Av c σ δ) gf eN) :
  ba c σ δ H σ (δ.set i (some (.own (.aC eN)))) (upd H a (.dK gf)):=by
 have hi:i < δ.length:=(W6.mp e).1;obtain⟨a',d_,oa,ia,nb⟩:=k.own i _ e;rw[ea] at d_; cases d_
 obtain⟨vs,ha,_⟩:=oa;have rC:Own σ δ a:=⟨i,_,e,ea⟩
 have xq:Av c σ δ a:=.inr rC;have rD:∀ b,Own σ (δ.set i (some (.own (.aC eN)))) b ↔ Own σ δ b:=λb=>by
  constructor
  ·rintro ⟨j,d,e1,e2⟩;by_cases hj:i=j
   ·subst hj;exact⟨i,_,e,e2⟩
   ·rw[W5 hj] at e1;exact⟨j,d,e1,e2⟩
  ·rintro ⟨j,d,e1,e2⟩;by_cases hj:i=j
   ·subst hj;exact⟨i,_,by rw[Wb hi],e2⟩
   ·exact⟨j,d,by rw[W5 hj]; exact e1,e2⟩
 have nY:∀ b,Av c σ (δ.set i (some (.own (.aC eN)))) b->Av c σ δ b:=λb z=>z.elim .inl λz=>.inr ((rD b).mp z)
 have ne:∀ b,¬ Av c σ δ b->b≠a:=λb n z=>n (by rw[z]; exact xq)
 have kp:∀ b o,H b=some o->¬ Av c σ δ b->upd H a (.dK gf) b=some o:=λb o h n=>by rw[bh (ne b n)]; exact h
 have ku:∀ b o,H b=some o->∃ o',upd H a (.dK gf) b=some o':=λb o h=>by
  by_cases hb:b=a
  ·exact⟨_,by rw[hb]; exact dH⟩
  ·exact⟨o,by rw[bh hb]; exact h⟩
 refine⟨⟨λb o h n=>?_,λb z=>?_,λb z=>?_,by rw[Q3]; exact k.len,λj d h=>?_,λj d h=>?_,λj l b d d' h1 h2 h3 h4=>?_,k.pinned⟩,λb o h n=>?_,λb z=>.inl ((rD b).mp z),ku⟩
 ·have hb:b≠a:=λz=>by
   subst z;rcases ia with z | z
   ·exact n z
   ·rw[z] at h; cases h
  rw[bh hb];exact k.keep b o h n
 ·obtain⟨o,h⟩:=k.bd b z;exact ku b o h
 ·obtain⟨o,h⟩:=k.eQ b z;exact ku b o h
 ·have hj:i≠j:=λz=>by subst z; rw[Wb hi] at h; cases h
  rw[W5 hj] at h;obtain⟨v,h1,h2⟩:=k.slot j d h;exact⟨v,h1,(h2.keep kp).aW λb z=>.inl (nY b z)⟩
 ·by_cases hj:i=j
  ·subst hj;rw[Wb hi] at h
   cases h;exact⟨a,ea,(let r':=r.map λv d h=>(Rep.keep h kp).aW λb z=>.inl (nY b z); ⟨gf,dH,r'.keys,r'.vals⟩),ia,nb⟩
  ·rw[W5 hj] at h;obtain⟨b,h1,h2,h3,h4⟩:=k.own j d h;have hb:b≠a:=λz=>by subst z; exact hj (k.inj i j b _ d e h ea h1)
   exact⟨b,h1,(h2.keep kp λo q=>by rw[bh hb]; exact q).aW λb z=>.inl (nY b z),h3,h4⟩
 ·have f1:∃ d,δ[j]? = some (some (.own d)):=by
   by_cases hj:i=j
   ·subst hj; exact⟨_,e⟩
   ·rw[W5 hj] at h1; exact⟨d,h1⟩
  have f2:∃ d,δ[l]? = some (some (.own d)):=by
   by_cases hj:i=l
   ·subst hj; exact⟨_,e⟩
   ·rw[W5 hj] at h2; exact⟨d',h2⟩
  obtain⟨_,f1⟩:=f1;obtain⟨_,f2⟩:=f2;exact k.inj j l b _ _ f1 f2 h3 h4
 ·have hb:b≠a:=λz=>n (by rw[z]; exact rC)
  rw[bh hb]; exact h
def oo(δ:Dl)(i:Nat):Bool:=match δ[i]? with
 | some (some (.own (.aC _)))=>true
 | _=>false
def pQ(i:Nat)(fi fe:DE):DS:=λδ=>if oo δ i then(fe δ).bind λr δ1=>if oo δ1 i then(fi δ1).bind λk δ2=>match δ2[i]? with
  | some (some (.own (.aC ds)))=>match iT k.d with
   | some kk=>if ds.length < We then .ok .next (δ2.set i (some (.own (.aC (putD ds kk r.d))))) else .stuck
   | none=>.stuck
  | _=>.stuck else .stuck else .stuck
theorem ER(h:oo δ i=true):∃ ds,δ[i]? = some (some (.own (.aC ds))):=by
 unfold oo at h;split at h
 ·rename_i ds e; exact⟨ds,e⟩
 ·cases h
theorem Ol{i:Nat}{o ix:Expr}{fi:DE}{sp:Pos}(hu:X.A.units + 64 < WT)(ho:PE X o (cJ i))(hi:SE X c ix fi)(he:SE X c e fe)
  (hs:Jp e (some (.Subscript o ix sp)) pos.line X.env=pure false:=by rfl):SS X c (.Assign [.Subscript o ix sp] e pos) (pQ i fi fe) :=
 PS.weak (CG (by omega) ho hi he hs) λD σ H ⟨δ,k,q⟩=>by
  unfold pQ fQ at q;split at q
  case isFalse=>exact q.elim
  rename_i gz;rw[bM] at q;refine⟨δ,k,aY q λr δ1 q1 v H1 a1 r1=>?_⟩;split at q1
  case isFalse=>exact q1.elim
  rename_i hown1;obtain⟨ds1,e1⟩:=ER hown1;obtain⟨a,ea,_,_⟩:=a1.ok.own i _ e1;refine⟨.ref a,ea,δ1,a1.ok,?_⟩;rw[bM] at q1;refine aY q1 λkx δ2 q2 u H2 a2 r2=>?_
  split at q2
  ·rename_i ds e2;split at q2
   ·rename_i kk hk;split at q2
    ·rename_i hz;obtain⟨a',d_,oa,_⟩:=a2.ok.own i _ e2;rw[ea] at d_; cases d_
     obtain⟨ws,ha,hk1,hk2⟩:=id oa;have dr:DR H2 (Av c σ δ2) ws ds:=DR.of hk1 hk2;have wQ:=yb hk r2.b;subst wQ;have hlen:ws.length=ds.length:=by have:=congrArg Js hk1; simpa using this
     have rv:Rep H2 (Av c σ δ2) v r.d:=Rep.dW r1.rep a2;refine⟨a,_,rfl,pq.k ha (by rw[hlen]; exact hz),?_⟩;exact q2 σ _ (a1.trans (a2.trans (Ok.Oj a2.ok e2 ea (dr.put rv))))
    ·exact q2.elim
   ·exact q2.elim
  ·exact q2.elim
end
section
variable {X:Cx} {c:Fc} {o e f:Expr} {fe ff:DE} {i:Nat} {apos cg:Pos}
end
section
variable {X:Cx}
end
end DV
namespace L2
open PySem PySem.Spec PyProof.Rows
section
variable {X:Cx} {tg:Expr}
end
end L2
namespace DV
open PySem PySem.Spec PyProof.Rows L2
variable {X:Cx} {c:Fc} {tg e:Expr} {fe:DE} {pp pos:Pos}
section
variable {X:Cx}
end
theorem qR:∀ {ns:List Int} {us:List Value},Vals (ns.map V.int) us->∃ ys:List (Int×Tok),us=(ys.map λp=>Value.int p.1 p.2)/\ns=ys.map (·.1)
 | [],us,r=>by cases r; exact⟨[],rfl,rfl⟩
 | n :: ns,us,r=>by
  cases r with
  | cons r1 r2 =>
   obtain⟨ys,e1,e2⟩:=qR r2;obtain⟨t,rfl⟩:=r1;exact⟨(n,t) :: ys,by rw[e1]; rfl,by rw[e2]; rfl⟩
section
variable {X:Cx}
end
def kB:List D->Option (List Int)
 | []=>some []
 | .int i :: r=>(kB r).map (i :: ·)
 | _ :: _=>none
theorem ES:∀ {ds:List D} {vs:List V} {ns:List Int},kB ds=some ns->aN H O vs ds->vs=ns.map V.int
 | [],vs,bs,h,r=>by
  simp only[kB,W8] at h;subst h;have:=r.1;simpa using this
 | d :: ds,[],bs,h,r=>by have:=r.1; simp at this
 | d :: ds,v :: vs,bs,h,r=>by
  cases d with
  | int b =>
   simp only[kB] at h
   cases e:kB ds with
   | none=>rw[e] at h; cases h
   | some bs' =>
    rw[e] at h;simp only[WF,W8] at h;subst h;have:=r.head
    cases this;rw[ES e r.tail];rfl
  | _=>simp[kB] at h
theorem ints_map(ns:List Int):kB (ns.map D.int)=some ns:=by
 induction ns with
 | nil=>rfl
 | cons n r ih=>simp[kB,ih]
section
variable {X:Cx} {c:Fc} {e:Expr} {fb:BE} {pos pp:Pos}
end
end DV
namespace L2
open PySem PySem.Spec PyProof.Rows
section
variable {prog:Wm} {w:Wr} {A:Wt} {E:Value->W2->Prop} {s:W2}
end
section
variable {X:Cx} {pos:Pos}
end
end L2
namespace DV
open PySem PySem.Spec PyProof.Rows L2
section
variable {X:Cx} {c:Fc} {pos:Pos}
end
open PySem PySem.Builtin PySem.Builtin.Str PySem.StrLaws
def oq(c:Nat)(z:List Nat)(a n:Nat):List Nat:=(List.range' a n).filter λi=>decide (z[i]? = some c)
theorem Om(z:List Nat)(c i:Nat):subAt ⟨z.toArray⟩ ⟨#[c]⟩ i=decide (z[i]? = some c):=by
 unfold subAt;have e:(⟨#[c]⟩:Str).length=1:=rfl;rw[e];show(z.toArray.extract i (i + 1) == #[c])=_;rw[List.extract_toArray,List.extract_eq_take_drop,Nat.add_sub_cancel_left];have hb:((List.take 1 (List.drop i z)).toArray == #[c])=((List.take 1 (List.drop i z)) == [c]):=by simp
 rw[hb]
 cases h:z[i]? with
 | none =>
  rw[List.getElem?_eq_none_iff] at h;rw[List.drop_of_length_le h];simp
 | some a =>
  have hi:i < z.length:=(W6.mp h).1;have ha:z[i]=a:=(W6.mp h).2;rw[Qr hi,ha];by_cases hac:a=c <;> simp[hac]
theorem yh(c:Nat)(z:List Nat):∀ (n k:Nat) (st:Array Nat×Nat),st.2<=k->st.1.size<=k->k + n=z.length + 1 ->
  (forIn (List.range' k n) st (occBody ⟨z.toArray⟩ ⟨#[c]⟩ z.length (z.length + 1))).run.fst.toList=st.1.toList ++ oq c z k n
 | 0,k,st,_,_,_=>by simp[oq]
 | n + 1,k,st,h1,h2,h3=>by
  rw[JX,JZ];unfold occBody;have e1:(⟨#[c]⟩:Str).length=1:=rfl;rw[Om,e1];by_cases hc:z[k]? = some c
  ·have hk:k < z.length:=(W6.mp hc).1;rw[if_pos ⟨⟨⟨by omega,h1⟩,by omega⟩,by simpa using hc⟩];have ih:=yh c z n (k + 1) (st.1.push k,k + 1) (Wg _) (by simp; omega) (by omega);show(forIn (List.range' (k + 1) n) (st.1.push k,k + 1) (occBody ⟨z.toArray⟩ ⟨#[c]⟩ z.length (z.length + 1))).run.fst.toList=_;rw[ih];simp[oq,JX,hc]
  ·rw[if_neg (λh=>hc (by simpa using h.2))];have ih:=yh c z n (k + 1) (st.1,st.2) (by show st.2<=k + 1; omega) (by show st.1.size<=k + 1; omega) (by omega);show(forIn (List.range' (k + 1) n) (st.1,st.2) (occBody ⟨z.toArray⟩ ⟨#[c]⟩ z.length (z.length + 1))).run.fst.toList=_;rw[ih];simp[oq,JX,hc]
theorem Oo(c:Nat)(z:List Nat):occurrences ⟨z.toArray⟩ ⟨#[c]⟩ 0 z.length (z.length + 1)=oq c z 0 z.length:=by
 rw[occ_eq,yh c z (z.length + 1 - 0) 0 (#[],0) (Wg _) (Wg _) (by omega)];have:z.length + 1 - 0=z.length + 1:=rfl;rw[this];unfold oq;rw[List.range'_concat];simp
section
variable {X:Cx}
end
section
variable {X:Cx} {c:Fc} {e:Expr} {fb:BE}
end
end DV
set_option maxHeartbeats 1000000
namespace PySem
open Sem (wp)
open AutoSeq1 (wpAny_loadPart')
section
variable {prog:Wm} {w:Wr} {A:Wt} {E:Value->W2->Prop} {s:W2}
end
end PySem
namespace PyProof.Rows
open PySem
section
variable {M:Model} {A:Wt} {E:Value->W2->Prop} {s:W2} {env:Env}
end
end PyProof.Rows
set_option maxHeartbeats 400000
namespace L2
open PySem PySem.Spec PyProof.Rows
end L2
namespace DV
open PySem PySem.Spec PyProof.Rows L2
section
variable {X:Cx} {c:Fc} {tg e:Expr} {fe:DE} {pos pp:Pos}
end
end DV
namespace L2
open PySem PySem.Spec PyProof.Rows
section
variable {M:Model} {A:Wt} {E:Value->W2->Prop} {s:W2}
end
section
variable {X:Cx} {x:Str} {C:Addr} {np cg pos:Pos}
end
section
variable {X:Cx} {pins:List (Addr×Obj)} {σ:St} {H:Hp} {s:W2} {h':Heap}
end
section
variable {X:Cx} {pins:List (Addr×Obj)} {σ:St} {H:Hp} {s:W2} {h':Heap} {a T:Addr}
end
section
variable {prog:Wm} {w:Wr} {A:Wt} {E:Value->W2->Prop} {K:W1}
end
def Cx.wt(X:Cx)(pn:List (Addr×Obj))(xe:Value->W2->Prop):Cx:={ X with pn:=pn,xe:=xe }
section
variable {X:Cx} {pins ps:List (Addr×Obj)} {σ:St} {H:Hp} {s:W2} {a:Addr} {xe:Value->W2->Prop} {pn:List (Addr×Obj)}
section
variable {M:Model} {E:Value->W2->Prop} {C L:Addr} {dx:Option Addr} {Q:Unit->W2->Prop}
end
end
section
variable {X:Cx} {pins:List (Addr×Obj)} {σ:St} {H:Hp} {s:W2} {b:Addr}
end
section
variable {X:Cx} {k:Nat} {f:Addr} {fd:Qj} {ps:List Str} {sp:Sp} {x:Str} {p pos:Pos} {e:Expr} {es:List Expr} {t:TA} {W:Addr->Option Addr->St->Hp->Prop}
end
section
variable {P:Wm} {w:Wr} {K:W1} {mg:Str->Option Value} {base:Heap} {N:List Str} {qual:Str} {scope:Scope} {f:Addr} {cd:Value} {A:Wt} {outer:List Env} {s₀:W2} {H₀:Hp} {E:XK}
end
def Cx.loop(X:Cx):Cx:={ X with xe:=notedBy (model X.prog X.w) X.A X.env (cameBackBy (model X.prog X.w) X.A X.env X.xe) }
section
variable {X:Cx} {pins ps:List (Addr×Obj)} {σ:St} {H:Hp} {s:W2}
end
end L2
namespace DV
open PySem PySem.Spec PyProof.Rows L2
section
variable {c:Fc} {σ σ':St} {δ δ':Dl} {H H':Hp} {g:Xc->Dl->Prop}
end
abbrev DX:=List S->Option ((S×List S) ⊕ (Xc×List S))
section
variable {P:Wm} {w:Wr} {K:W1} {mg:Str->Option Value} {base:Heap}
end
section
variable {X:Cx} {c:Fc} {e:Expr} {es:List Expr} {as:List Ak} {k n:Nat} {x:Str} {G:DX} {pp pos:Pos}
end
section
variable {c:Fc} {σ σ':St} {δ δ':Dl} {H H':Hp}
end
section
variable {c:Fc} {σ σ':St} {δ δ':Dl} {H H':Hp} {B':Addr->Prop} {g:Xc->Dl->Prop}
end
end DV
namespace L2
open PySem PySem.Spec PyProof.Rows PySem.W Builtin Builtin.ObjectAttr Builtin.Getset_descriptor
section
variable {prog:Wm} {w:Wr} {A:Wt} {E:Value->W2->Prop} {K:W1} {C e:Addr} {oe:Obj} {h:Heap} {g:Array GenState} {d:Drawn} {t:Nat} {os:OsState}
end
section
variable {X:Cx} {y:Str} {D:Addr} {pos:Pos}
end
section
variable {P:Wm} {w:Wr} {K:W1} {mg:Str->Option Value} {base:Heap} {k:Nat} {f:Addr}
end
section
variable {X:Cx} {k:Nat} {f:Addr} {fd:Qj} {ps:List Str} {sp:Sp} {x:Str} {p pos:Pos} {e:Expr} {es:List Expr} {t:TA}
end
end L2
namespace DV
open PySem PySem.Spec PyProof.Rows L2
section
variable {X:Cx} {c:Fc} {e:Expr} {fb:BE} {pp py pos:Pos} {y:Str} {ce:Tx->Nat} {ys:List Tx} {tab:Tx->Bool}
end
section
variable {P:Wm} {w:Wr} {K:W1} {mg:Str->Option Value} {base:Heap}
end
section
variable {X:Cx} {c:Fc} {e:Expr} {es:List Expr} {as:List Ak} {k n:Nat} {x:Str} {G:DF} {pp pos:Pos}
end
end DV
namespace L2
open PySem PySem.Spec PyProof.Rows PySem.SeqAt
section
variable {X:Cx}
end
end L2
namespace DV
open PySem PySem.Spec PyProof.Rows L2
section
variable {X:Cx} {c:Fc} {e:Expr} {fb:BE}
end
end DV
namespace L2
open PySem PySem.Spec PyProof.Rows
section
variable {X:Cx}
end
end L2
namespace DV
open PySem PySem.Spec PyProof.Rows L2
end DV
namespace PySem
open Sem (wp)
structure ZA(z TI TO i1 i2:Addr)(f1 f2:List Addr):Prop where
 m1:i1 ∈ f1
 m2:i2 ∈ f2
 z1:z ∉ f1
 z2:z ∉ f2
 t1:TO ∉ f1
 t2:TO ∉ f2
 k1:i1 ∉ f2
 k2:i2 ∉ f1
 tz:TO≠z
 iz:TI≠z
 io:TI≠TO
 n1:TI≠i1
 n2:TI≠i2
section
variable {prog:Wm} {w:Wr} {A:Wt} {E:Value->W2->Prop} {s:W2}
theorem Oq{z TI TO i1 i2:Addr}{f1 f2:List Addr}{n1 n2 i:Nat}{P1 P2:Nat->Value->Prop}{S1 S2:Nat->Heap->Prop}{a b:Value}{Q:Value->W2->Prop}(D1:Draws prog w A i1 f1 n1 P1 S1)(D2:Draws prog w A i2 f2 n2 P2 S2)(C:ZA z TI TO i1 i2 f1 f2)
  (hz:IsZip s.heap z TI TO .none) (hI:IsPair s.heap TI (.ref i1) (.ref i2)) (hO:IsPair s.heap TO a b) (g1:S1 i s.heap) (g2:S2 i s.heap) (l1:i < n1) (l2:i < n2)
  (q:∀ x y h' tk,P1 i x->P2 i y->IsZip h' z TI TO (rawInt s.heap.objs.size)->IsPair h' TO x y->S1 (i + 1) h'->S2 (i + 1) h'->IsPair h' s.heap.objs.size x y ->
   (∀ c o,c≠z->c≠TO->c≠i1->c≠i2->s.heap.get? c=some o->h'.get? c=some o)->Q (.ref s.heap.objs.size) { s with heap:=h',toks:=tk }) :
  Wf (model prog w) A (Builtin.«zip.__next__» ⟨[.ref z],[]⟩) (λfin s'=>∃ v,fin = .done (.ret v)/\Q v s') E s:=by
 have i1z:i1≠z:=λe=>C.z1 (e ▸ C.m1)
 have i2z:i2≠z:=λe=>C.z2 (e ▸ C.m2)
 have yj:TO≠i1:=λe=>C.t1 (e ▸ C.m1)
 have Ot:TO≠i2:=λe=>C.t2 (e ▸ C.m2)
 have i12:i1≠i2:=λe=>C.k1 (e ▸ C.m2)
 show Wf _ _ (field (.ref z) 2 >>= _) _ _ _; refine W0 (WU hz rfl (x:=.bool false) rfl ?_)
 show Wf _ _ (field (.ref z) 3 >>= _) _ _ _; refine W0 (WU hz rfl (x:=.ref TI) rfl (W0 (QI hI rfl ?_)))
 show Wf _ _ (Qw (.ref z) >>= _) _ _ _; refine W0 ?_
 unfold Qw; refine W0 (WU hz rfl (x:=.none) rfl (W7 ?_))
 simp only[if_true]; refine W0 (Ja (W0 (WU hz rfl (x:=.ref TO) rfl (W0 (Q2 hz (by simp) λh1 mI s1=>?_)))))
 replace mI:IsZip h1 z TI TO .ellipsis:=mI;refine W0 ?_; simp only[List.zipIdx_cons,List.zipIdx_nil,JZ,List.forIn_nil]
 refine W0 (W0 (wpAny_onRaise ?_)); show Wf _ _ (Q0 (.ref i1) >>= _) _ _ _
 have e1:S1 i h1:=D1.frame _ _ _ g1 λc hc o e=>s1.extBut _ _ (λx=>C.z1 (x ▸ hc)) e
 refine W0 (D1.item i _ _ _ l1 e1 λx h2 Ou p1 e2 s2=>W7 ?_);have rS:IsPair h2 TO a b:=s2.extBut _ _ yj (s1.extBut _ _ C.tz hO);refine W0 (QI rS rfl (W0 (wpAny_updateSeq_pair rS λh3 uQ s3=>?_)));replace uQ:IsPair h3 TO x b:=uQ;refine W0 (wpAny_letGo (W7 (W0 (W0 (wpAny_onRaise ?_))))); show Wf _ _ (Q0 (.ref i2) >>= _) _ _ _
 have e3:S2 i h3:=D2.frame _ _ _ g2 λc hc o e=>s3.extBut _ _ (λx=>C.t2 (x ▸ hc)) (s2.extBut _ _ (λx=>C.k1 (x ▸ hc)) (s1.extBut _ _ (λx=>C.z2 (x ▸ hc)) e))
 refine W0 (D2.item i _ _ _ l2 e3 λy h4 VX p2 e4 s4=>W7 ?_);have ET:IsPair h4 TO x b:=s4.extBut _ _ Ot uQ;refine W0 (QI ET rfl (W0 (wpAny_updateSeq_pair ET λh5 uR s5=>?_)));replace uR:IsPair h5 TO x y:=uR;refine W0 (wpAny_letGo (W7 (W7 (W0 (QI uR rfl (W0 (wpAny_newTuple ?_)))))));have hsz:h5.objs.size=s.heap.objs.size:=by rw[s5.1,s4.1,s3.1,s2.1,s1.1]
 have EU:IsZip h5 z TI TO .ellipsis:=s5.extBut _ _ C.tz.symm (s4.extBut _ _ i2z.symm (s3.extBut _ _ C.tz.symm (s2.extBut _ _ i1z.symm mI)));have k5:∀ c o,c≠z->c≠TO->c≠i1->c≠i2->s.heap.get? c=some o->h5.get? c=some o:=λc o c1 c2 c3 c4 e=>s5.extBut _ _ c2 (s4.extBut _ _ c4 (s3.extBut _ _ c2 (s2.extBut _ _ c3 (s1.extBut _ _ c1 e))))
 have r1:S1 (i + 1) h5:=D1.frame _ _ _ e2 λc hc o e=>s5.extBut _ _ (λx=>C.t1 (x ▸ hc)) (s4.extBut _ _ (λx=>C.k2 (x ▸ hc)) (s3.extBut _ _ (λx=>C.t1 (x ▸ hc)) e))
 have r2:S2 (i + 1) h5:=D2.frame _ _ _ e4 λc hc o e=>s5.extBut _ _ (λx=>C.t2 (x ▸ hc)) e
 have zl:z < h5.objs.size:=Wp EU;show Wf _ _ (Builtin.SmallTypes.ownedTupleHandOut (.ref z) (.ref h5.objs.size) >>= _) _ _ _; refine W0 ?_
 unfold Builtin.SmallTypes.ownedTupleHandOut;have Ov:IsZip (h5.push { cls:=.type "tuple",data:=.seq #[x,y] }) z TI TO .ellipsis:=Wd _ EU;refine W0 (Q2 Ov (by simp) λh7 yk s7=>?_);replace yk:IsZip h7 z TI TO (rawInt h5.objs.size):=yk;refine Q2 yk (by simp) λh8 uS s8=>?_
 replace uS:IsZip h8 z TI TO (rawInt h5.objs.size):=uS;have up:∀ c o,c≠z->h5.get? c=some o->h8.get? c=some o:=λc o c1 e=>s8.extBut _ _ c1 (s7.extBut _ _ c1 (Wd _ e))
 have hT:IsPair h8 h5.objs.size x y:=s8.extBut _ _ (Jf zl) (s7.extBut _ _ (Jf zl) (Wn _ rfl));rw[hsz] at uS hT;refine W7 ⟨_,rfl,?_⟩; show Q (.ref h5.objs.size) _; rw[hsz]
 exact q x y h8 _ p1 p2 uS (up _ _ C.tz uR) (D1.frame _ _ _ r1 λc hc o e=>up c o (λx=>C.z1 (x ▸ hc)) e) (D2.frame _ _ _ r2 λc hc o e=>up c o (λx=>C.z2 (x ▸ hc)) e) hT λc o c1 c2 c3 c4 e=>up c o c1 (k5 c o c1 c2 c3 c4 e)
theorem Ow(D1:Draws prog w A i1 f1 n1 P1 S1)(D2:Draws prog w A i2 f2 n2 P2 S2)(C:ZA z TI TO i1 i2 f1 f2)
  (hz:IsZip s.heap z TI TO .none) (hI:IsPair s.heap TI (.ref i1) (.ref i2)) (hO:IsPair s.heap TO a b) (g1:S1 i s.heap) (g2:S2 i s.heap) (l:i=n1\/(i < n1/\i=n2))
  (q:∀ h' tk e,(∀ c o,c≠z->c≠TO->c≠i1->c≠i2->s.heap.get? c=some o->h'.get? c=some o)->(∃ o,h'.get? e=some o/\o.cls = .type "StopIteration")->E (.ref e) { s with heap:=h',toks:=tk }) :
  Wf (model prog w) A (Builtin.«zip.__next__» ⟨[.ref z],[]⟩) Q E s:=by
 have i1z:i1≠z:=λe=>C.z1 (e ▸ C.m1)
 have i2z:i2≠z:=λe=>C.z2 (e ▸ C.m2)
 have yj:TO≠i1:=λe=>C.t1 (e ▸ C.m1)
 show Wf _ _ (field (.ref z) 2 >>= _) _ _ _; refine W0 (WU hz rfl (x:=.bool false) rfl ?_)
 show Wf _ _ (field (.ref z) 3 >>= _) _ _ _; refine W0 (WU hz rfl (x:=.ref TI) rfl (W0 (QI hI rfl ?_)))
 show Wf _ _ (Qw (.ref z) >>= _) _ _ _; refine W0 ?_
 unfold Qw; refine W0 (WU hz rfl (x:=.none) rfl (W7 ?_))
 simp only[if_true]; refine W0 (Ja (W0 (WU hz rfl (x:=.ref TO) rfl (W0 (Q2 hz (by simp) λh1 mI s1=>?_)))))
 replace mI:IsZip h1 z TI TO .ellipsis:=mI;refine W0 ?_; simp only[List.zipIdx_cons,List.zipIdx_nil,JZ,List.forIn_nil]
 refine W0 (W0 (wpAny_onRaise ?_)); show Wf _ _ (Q0 (.ref i1) >>= _) _ _ _
 have e1:S1 i h1:=D1.frame _ _ _ g1 λc hc o e=>s1.extBut _ _ (λx=>C.z1 (x ▸ hc)) e
 rcases l with l | ⟨l,l'⟩
 ·subst l;refine W0 (D1.done _ _ _ e1 λh2 e s2 ⟨oe,he,ce⟩=>?_);have uT:IsZip h2 z TI TO .ellipsis:=s2 _ _ i1z.symm mI;have ez:e≠z:=λx=>by subst x; rw[uT] at he; cases he; simp at ce
  exact Q2 uT (by simp) λh3 _ s3=>q h3 _ e (λc o c1 _ c3 _ x=>s3.extBut _ _ c1 (s2 _ _ c3 (s1.extBut _ _ c1 x))) ⟨oe,s3.extBut _ _ ez he,ce⟩
 ·refine W0 (D1.item i _ _ _ l e1 λx h2 Ou p1 e2 s2=>W7 ?_);have rS:IsPair h2 TO a b:=s2.extBut _ _ yj (s1.extBut _ _ C.tz hO);refine W0 (QI rS rfl (W0 (wpAny_updateSeq_pair rS λh3 uQ s3=>?_)));refine W0 (wpAny_letGo (W7 (W0 (W0 (wpAny_onRaise ?_))))); show Wf _ _ (Q0 (.ref i2) >>= _) _ _ _
  have e3:S2 i h3:=D2.frame _ _ _ g2 λc hc o e=>s3.extBut _ _ (λx=>C.t2 (x ▸ hc)) (s2.extBut _ _ (λx=>C.k1 (x ▸ hc)) (s1.extBut _ _ (λx=>C.z2 (x ▸ hc)) e))
  subst l';refine W0 (D2.done _ _ _ e3 λh4 e s4 ⟨oe,he,ce⟩=>?_);have EV:IsZip h4 z TI TO .ellipsis:=s4 _ _ i2z.symm (s3.extBut _ _ C.tz.symm (s2.extBut _ _ i1z.symm mI));have ez:e≠z:=λx=>by subst x; rw[EV] at he; cases he; simp at ce
  exact Q2 EV (by simp) λh5 _ s5=>q h5 _ e (λc o c1 c2 c3 c4 x=>s5.extBut _ _ c1 (s4 _ _ c4 (s3.extBut _ _ c2 (s2.extBut _ _ c3 (s1.extBut _ _ c1 x))))) ⟨oe,s5.extBut _ _ ez he,ce⟩
theorem Ox{z TI TO i1 i2:Addr}{f1 f2:List Addr}{n1 n2 i:Nat}{P1 P2:Nat->Value->Prop}{S1 S2:Nat->Heap->Prop}{a b:Value}{Q:Option Value->W2->Prop}(D1:Draws prog w A.in1 i1 f1 n1 P1 S1)(D2:Draws prog w A.in1 i2 f2 n2 P2 S2)(C:ZA z TI TO i1 i2 f1 f2)
  (hz:IsZip s.heap z TI TO .none) (hI:IsPair s.heap TI (.ref i1) (.ref i2)) (hO:IsPair s.heap TO a b) (g1:S1 i s.heap) (g2:S2 i s.heap) (l1:i < n1) (l2:i < n2)
  (q:∀ x y h' tk,P1 i x->P2 i y->IsZip h' z TI TO (rawInt s.heap.objs.size)->IsPair h' TO x y->S1 (i + 1) h'->S2 (i + 1) h'->IsPair h' s.heap.objs.size x y ->
   (∀ c o,c≠z->c≠TO->c≠i1->c≠i2->s.heap.get? c=some o->h'.get? c=some o)->Q (some (.ref s.heap.objs.size)) { s with heap:=h',toks:=tk }) :
  Wf (model prog w) A (J8 (.ref z)) Q E s:=by
 have ty:s.TypeIs (.ref z) "zip":=⟨_,hz,rfl⟩
 unfold J8;exact W0 (wpAny_attempt (WY (name:=Str.ofString "__next__") ty F.slot_zip_next (WW F.slot_zip_next ty F.entry_zip_next
  (Oq D1 D2 C hz hI hO g1 g2 l1 l2 λx y h' tk b1 b2 b3 b4 b5 b6 b7 b8=>W7 (q x y h' tk b1 b2 b3 b4 b5 b6 b7 b8)) (F.args_zip_next_1 _))))
theorem Oy(D1:Draws prog w A.in1 i1 f1 n1 P1 S1)(D2:Draws prog w A.in1 i2 f2 n2 P2 S2)(C:ZA z TI TO i1 i2 f1 f2)
  (hz:IsZip s.heap z TI TO .none) (hI:IsPair s.heap TI (.ref i1) (.ref i2)) (hO:IsPair s.heap TO a b) (g1:S1 i s.heap) (g2:S2 i s.heap) (l:i=n1\/(i < n1/\i=n2))
  (q:∀ h' tk,(∀ c o,c≠z->c≠TO->c≠i1->c≠i2->s.heap.get? c=some o->h'.get? c=some o)->Q none { s with heap:=h',toks:=tk }) :
  Wf (model prog w) A (J8 (.ref z)) Q E s:=by
 have ty:s.TypeIs (.ref z) "zip":=⟨_,hz,rfl⟩
 unfold J8;refine W0 (wpAny_attempt (WY (name:=Str.ofString "__next__") ty F.slot_zip_next (WW F.slot_zip_next ty F.entry_zip_next
  (Ow D1 D2 C hz hI hO g1 g2 l λh' tk e k ⟨o,ho,hc⟩=>?_) (F.args_zip_next_1 _))))
 exact W0 (wpAny_isInstance (T:="StopIteration") (b:=true) ⟨o,ho,hc⟩ isSubtype_stop (W7 (q _ _ k)))
end
def il(b:Bool)(h:Heap)(a:Addr)(aj:Array Value):Prop:=match b with
 | true=>h.IsList a aj
 | false=>h.IsTuple a aj
def mJ(b:Bool)(h:Heap)(it a:Addr)(i:Nat):Prop:=match b with
 | true=>h.IsListIter it a i
 | false=>h.IsTupleIter it a i
def pR (b:Bool) (a:Addr):Obj:={ cls:=.type (match b with | true=>"list_iterator" | false=>"tuple_iterator"),data:=.fields #[.ref a,.int 0 0] }
theorem il.lt(q:il b h a aj):a < h.objs.size:=by
 cases b
 ·obtain⟨o,e,_⟩:=(q:h.IsTuple a aj); exact Wp e
 ·obtain⟨o,e,_⟩:=(q:h.IsList a aj); exact Wp e
theorem il.push(q:il b h a aj)(o:Obj):il b (h.push o) a aj:=by
 cases b
 ·obtain⟨o,e,r⟩:=(q:h.IsTuple a aj); exact⟨o,Wd _ e,r⟩
 ·obtain⟨o,e,r⟩:=(q:h.IsList a aj); exact⟨o,Wd _ e,r⟩
theorem EW(h:il b s.heap a aj)(q:Q (.ref s.heap.objs.size) { s with heap:=s.heap.push (pR b a) }):Wf (model prog w) A (pyIter (.ref a)) Q E s:=by
 cases b
 ·exact wpAny_pyIter_tuple h q
 ·exact JO h q
theorem uU(b:Bool)(hh:A.handled=none)(it a:Addr)(cZ:a≠it)(aj:Array Value):Draws prog w A it [it,a] aj.size (λi v=>aj[i]? = some v) (λi h=>mJ b h it a i/\il b h a aj):=by
 cases b
 ·exact Draws.tuple' hh it a cZ aj
 ·exact Draws.list hh it a cZ aj
abbrev uV(h:Heap)(b1:Bool)(l1:Addr):Heap:=h.push (pR b1 l1)
abbrev uW(h:Heap)(b1 b2:Bool)(l1 l2:Addr):Heap:=(uV h b1 l1).push (pR b2 l2)
abbrev uX (h:Heap) (b1 b2:Bool) (l1 l2:Addr):Heap:=(uW h b1 b2 l1 l2).push { cls:=.type "tuple",data:=.seq #[.ref h.objs.size,.ref (uV h b1 l1).objs.size] }
abbrev uY (h:Heap) (b1 b2:Bool) (l1 l2:Addr):Heap:=(uX h b1 b2 l1 l2).push { cls:=.type "tuple",data:=.seq #[.none,.none] }
abbrev pS (h:Heap) (b1 b2:Bool) (l1 l2:Addr):Heap:=(uY h b1 b2 l1 l2).push { cls:=.type "zip",data:=.fields #[.none,.bool false,.bool false,.ref (uW h b1 b2 l1 l2).objs.size,.ref (uX h b1 b2 l1 l2).objs.size] }
theorem Oz(b1 b2:Bool)(l1 l2:Addr)(xs ys:Array Value) :
  Meets (Builtin.«zip.__new__» ⟨[.type "zip",.ref l1,.ref l2],[]⟩) (λ_ R s=>il b1 s.heap l1 xs/\il b2 s.heap l2 ys /\
   R (.ok (.ret (.ref (uY s.heap b1 b2 l1 l2).objs.size))) { s with heap:=pS s.heap b1 b2 l1 l2 }) :=
 .of_wp λprog w A R s h=>by
  obtain⟨hp,g,d,tk,os⟩:=s; obtain⟨yl,ko,h⟩:=h
  have VY:=sub_zip;have OA:il b1 (Shared.heap ⟨hp,g,d,tk,os⟩) l1 xs:=yl;have OB:il b2 (Shared.heap ⟨hp.push (pR b1 l1),g,d,tk,os⟩) l2 ys:=ko.push _;wp_walk using EW OA,EW OB
  exact⟨_,rfl,h⟩
theorem OC(yl:il b1 s.heap l1 xs)(ko:il b2 s.heap l2 ys)
  (h:∀ h',IsZip h' (s.heap.objs.size + 4) (s.heap.objs.size + 2) (s.heap.objs.size + 3) .none->IsPair h' (s.heap.objs.size + 2) (.ref s.heap.objs.size) (.ref (s.heap.objs.size + 1)) ->
   IsPair h' (s.heap.objs.size + 3) .none .none->mJ b1 h' s.heap.objs.size l1 0->mJ b2 h' (s.heap.objs.size + 1) l2 0 ->
   (∀ c o,s.heap.get? c=some o->h'.get? c=some o)->Q (.ref (s.heap.objs.size + 4)) { s with heap:=h' }) :
  Wf (model prog w) A (call (.type "zip") [.ref l1,.ref l2]) Q E s:=by
 refine callType_new F.called_zip (by decide) (F.typeCall_zip_2 _ _) (F.newCall_zip_2 _ _) (λobj=>F.args_object_init_3 obj _ _) F.entry_zip_new (Oz b1 b2 l1 l2 xs ys) ⟨yl,ko,?_⟩;have z1:(uV s.heap b1 l1).objs.size=s.heap.objs.size + 1:=Qv ..;have z2:(uW s.heap b1 b2 l1 l2).objs.size=s.heap.objs.size + 2:=by rw[Qv,z1]
 have z3:(uX s.heap b1 b2 l1 l2).objs.size=s.heap.objs.size + 3:=by rw[Qv,z2]
 have z4:(uY s.heap b1 b2 l1 l2).objs.size=s.heap.objs.size + 4:=by rw[Qv,z3]
 have up:∀ {h:Heap} {o:Obj} {c:Addr} {o':Obj},h.get? c=some o'->(h.push o).get? c=some o':=λe=>Wd _ e
 have g5:(pS s.heap b1 b2 l1 l2).get? (uY s.heap b1 b2 l1 l2).objs.size=some _:=Wn _ rfl;have g4:(pS s.heap b1 b2 l1 l2).get? (uX s.heap b1 b2 l1 l2).objs.size=some _:=up (Wn _ rfl);have g3:(pS s.heap b1 b2 l1 l2).get? (uW s.heap b1 b2 l1 l2).objs.size=some _:=up (up (Wn _ rfl));have g2:(pS s.heap b1 b2 l1 l2).get? (uV s.heap b1 l1).objs.size=some (pR b2 l2):=up (up (up (Wn _ (by cases b2 <;> rfl))));have g1:(pS s.heap b1 b2 l1 l2).get? s.heap.objs.size=some (pR b1 l1):=up (up (up (up (Wn _ (by cases b1 <;> rfl)))));show _/\_;rw[z2,z3,z4] at g5;rw[z1,z2] at g3;rw[z3] at g4;rw[z1] at g2;rw[z4];exact⟨⟨_,g5,rfl⟩,h _ g5 g3 g4 (by cases b1 <;> exact⟨_,g1,rfl,rfl⟩) (by cases b2 <;> exact⟨_,g2,rfl,rfl⟩) λc o x=>up (up (up (up (up x))))⟩
end PySem
namespace L2
open PySem PySem.Spec PyProof.Rows
section
variable {X:Cx} {pins:List (Addr×Obj)} {σ:St} {H:Hp} {s:W2} {h':Heap}
theorem Inv.ym(fp:List Addr)(I:Inv X pins σ H s)(hf:∀ b ∈ fp,gN X pins H b)(bx:∀ b ∈ fp,b < s.heap.objs.size)(ru:RelV x u)(rv:RelV y v)
  (hT:h'.get? s.heap.objs.size=some { cls:=.type "tuple",data:=.seq #[u,v] }) (k:∀ b o,b ∉ fp->s.heap.get? b=some o->h'.get? b=some o) :
  Inv X pins σ (upd H s.heap.objs.size (.tup [x,y])) { s with heap:=h',toks:=t' }:=by
 have I1:Inv X pins σ (upd H s.heap.objs.size (.tup [x,y])) { s with heap:=s.heap.push { cls:=.type "tuple",data:=.seq #[u,v] },toks:=t' } :=
  I.laid (t':=t') (λb o e=>Wd _ e) (Wg _) (show cn X.prog X.w _ _ _ (.tup [x,y]) from
   ⟨by simp only[WP,List.length_nil]; rw[sizeLine_eq]; decide,[u,v],.cons ru (.cons rv .nil),iD.new _ _⟩)
 have:=Inv.uO (t':=t') (h':=h') fp I1 (λb o hb eb=>?_) λb hb=>?_
 ·exact this
 ·rcases Heap.get?_push_cases eb with ⟨z,z'⟩ | eb
  ·subst z z'; exact hT
  ·exact k b o hb eb
 ·obtain⟨f0,r⟩:=hf b hb;exact⟨by rw[bh (WS (bx b hb))]; exact f0,r⟩
def iU(b:Bool)(K:W1)(H:Hp)(a:Addr)(xs:List V):Prop:=match b with
 | true=>cK K H a xs
 | false=>cR K H a xs
theorem Inv.pT(I:Inv X pins σ H s)(h:iU b X.K H a xs):∃ aj,Vals xs aj/\il b s.heap a aj.toArray:=by
 cases b
 ·obtain⟨aj,rv,p,_⟩:=I.tuple (h:cR X.K H a xs);exact⟨aj,rv,p⟩
 ·obtain⟨aj,rv,p,_⟩:=I.list (h:cK X.K H a xs);exact⟨aj,rv,p.isList⟩
theorem Inv.EX(I:Inv X pins σ H s)(h:iU b X.K H a xs)(h':iU b X.K H a ys):xs=ys:=by
 cases b
 ·exact I.BB h h'
 ·exact I.BA h h'
end
def EY(K:W1)(b1 b2:Bool)(a1 a2:Addr):It :=
 ⟨λi H=>∃ xs ys x y,iU b1 K H a1 xs/\iU b2 K H a2 ys/\xs[i]? = some x/\ys[i]? = some y,
  λi H v H'=>∃ p x y,H p=none/\(∀ xs,iU b1 K H a1 xs->xs[i]? = some x)/\(∀ ys,iU b2 K H a2 ys->ys[i]? = some y)/\H'=upd H p (.tup [x,y])/\v = .ref p,
  λi H=>∃ xs ys,iU b1 K H a1 xs/\iU b2 K H a2 ys/\(i=xs.length\/(i < xs.length/\i=ys.length))⟩
theorem OD{P:Wm}{w:Wr}{K:W1}{elts:List Expr}{ctx}{pos:Pos}(b1 b2:Bool)(a1 a2 n:Addr)(h1:a1 < n)(h2:a2 < n) :
  Turn P w K (.Tuple elts ctx pos) (EY K b1 b2 a1 a2) [n + 4,n + 2,n + 3,n,n + 1] (n + 4) (λi h=>IsZip h (n + 4) (n + 2) (n + 3) .none/\IsPair h (n + 2) (.ref n) (.ref (n + 1))/\(∃ a b,IsPair h (n + 3) a b)/\mJ b1 h n a1 i/\mJ b2 h (n + 1) a2 i):=by
 have ne:∀ (i j:Nat),i≠j->n + i≠n + j:=λi j h e=>h (Nat.add_left_cancel e)
 have n1:∀ i:Nat,a1≠n + i:=λi=>WS (Wv h1 (Nat.le_add_right n i))
 have n2:∀ i:Nat,a2≠n + i:=λi=>WS (Wv h2 (Nat.le_add_right n i))
 have nm:∀ {x a b:Addr},x≠a->x≠b->x ∉ [a,b]:=λh1 h2 h=>by
  rcases Wl.mp h with e | h
  ·exact h1 e
  ·exact h2 (List.mem_singleton.mp h)
 have C:ZA (n + 4) (n + 2) (n + 3) n (n + 1) [n,a1] [n + 1,a2] :=
  ⟨Wj,Wj,nm (ne 4 0 (by decide)) (n1 4).symm,nm (ne 4 1 (by decide)) (n2 4).symm,nm (ne 3 0 (by decide)) (n1 3).symm,nm (ne 3 1 (by decide)) (n2 3).symm,nm (ne 0 1 (by decide)) (n2 0).symm,nm (ne 1 0 (by decide)) (n1 1).symm,
   ne 3 4 (by decide),ne 2 4 (by decide),ne 2 3 (by decide),ne 2 0 (by decide),ne 2 1 (by decide)⟩
 have EZ:∀ {b:Bool} {h:Heap} {it a:Addr} {i:Nat},mJ b h it a i->∃ o,h.get? it=some o/\∀ v,o.data≠.cell v:=λ{b h it a i} q=>by
  cases b
  ·obtain⟨o,e,c,d⟩:=(q:h.IsTupleIter it a i)
   exact⟨o,e,λv z=>by rw[d] at z; cases z⟩
  ·obtain⟨o,e,c,d⟩:=(q:h.IsListIter it a i)
   exact⟨o,e,λv z=>by rw[d] at z; cases z⟩
 have uZ:∀ {b:Bool} {h h':Heap} {it a:Addr} {i:Nat},mJ b h it a i->(∀ o,h.get? it=some o->h'.get? it=some o)->mJ b h' it a i:=λ{b h h' it a i} q k=>by
  cases b
  ·obtain⟨o,e,r⟩:=(q:h.IsTupleIter it a i)
   exact⟨o,k o e,r⟩
  ·obtain⟨o,e,r⟩:=(q:h.IsListIter it a i)
   exact⟨o,k o e,r⟩
 have mm:∀ {b:Addr},b ∈ [n + 4,n + 2,n + 3,n,n + 1]->b=n + 4\/b=n + 2\/b=n + 3\/b=n\/b=n + 1:=λh=>by simpa using h
 refine⟨by simp,?_,?_,?_,?_,?_⟩
 ·rintro i h ⟨hz,hI,⟨a,b,hO⟩,q1,q2⟩ c hc;rcases mm hc with e | e | e | e | e <;> subst e
  ·exact⟨_,hz,λv z=>by
    have z':Data.fields _=Data.cell v:=z
    cases z'⟩
  ·exact⟨_,hI,λv z=>by
    have z':Data.seq _ _=Data.cell v:=z
    cases z'⟩
  ·exact⟨_,hO,λv z=>by
    have z':Data.seq _ _=Data.cell v:=z
    cases z'⟩
  ·exact EZ q1
  ·exact EZ q2
 ·rintro i h h' ⟨hz,hI,⟨a,b,hO⟩,q1,q2⟩ k;exact⟨k _ (by simp) _ hz,k _ (by simp) _ hI,⟨a,b,k _ (by simp) _ hO⟩,uZ q1 λo e=>k _ (by simp) o e,uZ q2 λo e=>k _ (by simp) o e⟩
 ·intro X hP hw hK hc i pins s σ H E I hf st hg;subst hP hw hK;obtain⟨hz,hI,⟨a,b,hO⟩,q1,q2⟩:=st;obtain⟨xs,ys,x,y,c1,c2,hx,hy⟩:=hg;obtain⟨is,rv1,p1⟩:=I.pT c1;obtain⟨js,rv2,p2⟩:=I.pT c2;obtain⟨u,hu,ru⟩:=rv1.get hx;obtain⟨v,hv,rv⟩:=rv2.get hy;have D1:=uU (prog:=X.prog) (w:=X.w) (A:=X.A.in1) b1 (I.ok.hd hc) n a1 (n1 0) is.toArray;have D2:=uU (prog:=X.prog) (w:=X.w) (A:=X.A.in1) b2 (I.ok.hd hc) (n + 1) a2 (n2 1) js.toArray;have bx:∀ c ∈ [n + 4,n + 2,n + 3,n,n + 1],c < s.heap.objs.size:=λc hc=>by
   have z:=Wp hz;have le:∀ k:Nat,k<=4->n + k < s.heap.objs.size:=λk hk=>Wx (Nat.add_le_add_left hk n) z
   rcases mm hc with e | e | e | e | e <;> subst e
   ·exact z
   ·exact le 2 (by decide)
   ·exact le 3 (by decide)
   ·exact le 0 (by decide)
   ·exact le 1 (by decide)
  have l1:i < is.toArray.size:=by simpa using (W6.mp hu).1
  have l2:i < js.toArray.size:=by simpa using (W6.mp hv).1
  refine Ox D1 D2 C hz hI hO ⟨q1,p1⟩ ⟨q2,p2⟩ l1 l2 λx' y' h' tk e1 e2 OE OF s1 s2 hT k=>?_
  have ex:x'=u:=by
   rw[List.getElem?_toArray,hu] at e1
   cases e1; rfl
  have ey:y'=v:=by
   rw[List.getElem?_toArray,hv] at e2
   cases e2; rfl
  subst ex ey;refine⟨_,rfl,wpAny_letOwnedTupleGo_zip OE λh2 uT sb=>?_⟩;have nz:s.heap.objs.size≠n + 4:=Jf (bx (n + 4) (by simp));have k2:∀ c o,c ∉ [n + 4,n + 2,n + 3,n,n + 1]->s.heap.get? c=some o->h2.get? c=some o:=λc o hc e=>by
   have g1:c≠n + 4:=λz=>hc (by simp[z])
   have g2:c≠n + 3:=λz=>hc (by simp[z])
   have g3:c≠n:=λz=>hc (by simp[z])
   have g4:c≠n + 1:=λz=>hc (by simp[z])
   exact(sb.2 c g1).trans (k c o g1 g2 g3 g4 e)
  have I2:Inv X pins σ (upd H s.heap.objs.size (.tup [x,y])) { s with heap:=h2,toks:=tk }:=Inv.ym (t':=tk) _ I hf bx ru rv ((sb.2 _ nz).trans hT) k2;refine⟨.ref s.heap.objs.size,_,I2,rfl,⟨s.heap.objs.size,x,y,I.aM.fresh (Wg _),λzs yn=>by rw[I.EX yn c1]; exact hx,λzs yn=>by rw[I.EX yn c2]; exact hy,rfl,rfl⟩,⟨uT,(sb.2 _ (ne 2 4 (by decide))).trans (k _ _ (ne 2 4 (by decide)) (ne 2 3 (by decide)) (ne 2 0 (by decide)) (ne 2 1 (by decide)) hI),⟨_,_,(sb.2 _ (ne 3 4 (by decide))).trans OF⟩,uZ s1.1 λo e=>(sb.2 _ (ne 0 4 (by decide))).trans e,uZ s2.1 λo e=>(sb.2 _ (ne 1 4 (by decide))).trans e⟩,λc hc=>?_⟩;rw[bh (WS (bx c hc))];exact(hf c hc).1
 ·intro X hP hw hK hc i pins s σ H E I hf st hg;subst hP hw hK;obtain⟨hz,hI,⟨a,b,hO⟩,q1,q2⟩:=st;obtain⟨xs,ys,c1,c2,hl⟩:=hg;obtain⟨is,rv1,p1⟩:=I.pT c1;obtain⟨js,rv2,p2⟩:=I.pT c2;have D1:=uU (prog:=X.prog) (w:=X.w) (A:=X.A.in1) b1 (I.ok.hd hc) n a1 (n1 0) is.toArray;have D2:=uU (prog:=X.prog) (w:=X.w) (A:=X.A.in1) b2 (I.ok.hd hc) (n + 1) a2 (n2 1) js.toArray;have r1:=rv1.length;have r2:=rv2.length;refine Oy D1 D2 C hz hI hO ⟨q1,p1⟩ ⟨q2,p2⟩ (by simp; omega) λh' tk k=>⟨rfl,Inv.uO (t':=tk) [n + 4,n + 2,n + 3,n,n + 1] I (λc o hc e=>?_) hf⟩
  exact k c o (λz=>hc (by simp[z])) (λz=>hc (by simp[z])) (λz=>hc (by simp[z])) (λz=>hc (by simp[z])) e
 ·intro A i s Q E st h;exact wpAny_pyIter_zip st.1 h
end L2
namespace DV
open PySem PySem.Spec PyProof.Rows L2
section
variable {X:Cx} {c:Fc} {tg e:Expr} {fe:DE} {pos pp:Pos}
def OG(K:W1)(ta:TA):TI:=λσ H R=>ta σ H λvs H1=>∃ (b1 b2:Bool) (a1 a2:Addr),vs=[.ref a1,.ref a2]/\(∃ xs,iU b1 K H1 a1 xs)/\(∃ ys,iU b2 K H1 a2 ys)/\R (EY K b1 b2 a1 a2) H1
theorem OH {ctx} (hg:Gl X "zip") (hm:X.mg "zip" = none) (ha:PA X [a,b] ta) (hs:Wk [a,b] X.env=(false,eval a X.env) :: Wk [b] X.env:=by rfl) (eE:(QW pos (Wk [b] X.env)).any (·.1)=false:=by rfl):PI X (.Tuple elts ctx tp) (.Call (.Name "zip" pp) [a,b] [] pos) (OG X.K ta):=by
 intro pins s σ H R I h;refine Call_ (qA I hg hm boot_zip (PyProof.Rows.callWith_type1 (a0 (ha pos pins s σ H _ I h) λus s1 ⟨vs,H1,I1,r1,q1⟩=>?_) hs eE));obtain⟨b1,b2,a1,a2,ev,⟨xs,hx⟩,⟨ys,hy⟩,q⟩:=q1;subst ev
 cases r1 with
 | cons r rr =>
  cases rr with
  | cons r' rr =>
   cases rr
   cases r
   cases r';obtain⟨is,rv1,p1⟩:=I1.pT hx;obtain⟨js,rv2,p2⟩:=I1.pT hy;refine OC p1 p2 λh' hz hI hO q1 q2 kp=>wpAny_pyIter_zip hz ?_
   refine⟨s1.heap.objs.size + 4,_,_,_,H1,rfl,I1.kept (t':=s1.toks) kp,OD b1 b2 a1 a2 s1.heap.objs.size p1.lt p2.lt,⟨hz,hI,⟨_,_,hO⟩,q1,q2⟩,λb hb=>?_,q⟩;have hb:b=s1.heap.objs.size + 4\/b=s1.heap.objs.size + 2\/b=s1.heap.objs.size + 3\/b=s1.heap.objs.size\/b=s1.heap.objs.size + 1:=by simpa using hb
   have hle:s1.heap.objs.size<=b:=by rcases hb with z | z | z | z | z <;> subst z <;> first | exact Wg _ | exact Nat.le_add_right _ _
   exact I1.ki hle (I1.aM.fresh hle)
def kC(xs ys:List D):List D:=Qm (λx y=>D.tup [x,y]) xs ys
theorem OI{xs ys:List D}{i:Nat}{d:D}(h:(kC xs ys)[i]? = some d):∃ x y,xs[i]? = some x/\ys[i]? = some y/\d = .tup [x,y]:=by
 unfold kC at h;rw[List.getElem?_zipWith] at h
 cases e1:xs[i]? with
 | none=>rw[e1] at h; cases h
 | some x =>
  cases e2:ys[i]? with
  | none=>rw[e1,e2] at h; cases h
  | some y =>
   rw[e1,e2] at h
   cases h;exact⟨x,y,rfl,rfl,rfl⟩
theorem aN.two(r:Rep H O u x)(r':Rep H O v y):aN H O [u,v] [x,y]:=by
 refine⟨rfl,λj v' d' e1 e2=>?_⟩;match j with
 | 0=>simp at e1 e2; subst e1 e2; exact r
 | 1=>simp at e1 e2; subst e1 e2; exact r'
 | j + 2=>simp at e1
def j3:D->Option (List D)
 | .lst ds=>some ds
 | .tup ds=>some ds
 | _=>none
def gA(f g:DE):DI:=λδ=>(f δ).bind λx δ1=>(g δ1).bind λy δ2=>match j3 x.d,j3 y.d with
 | some xs,some ys=>.ok (kC xs ys) δ2
 | _,_=>.stuck
theorem Rep.sq{K:W1}{H:Hp}{O:Addr->Prop}{v:V}{d:D}{ds:List D}(r:Rep H O v d)(e:j3 d=some ds) :
  ∃ (b:Bool) (a:Addr) (vs:List V),v = .ref a/\iU b K H a vs/\aN H O vs ds/\∀ H2,(∀ p o,H p=some o->¬ O p->H2 p=some o)->iU b K H2 a vs:=by
 cases d <;> first | (simp[j3] at e; done) | skip
 ·cases r with
  | tup h1 h2 h3 h4 =>
   simp only[j3,W8] at e;subst e;exact⟨false,_,_,rfl,cR.of h2,⟨h3,h4⟩,λH2 k=>cR.of (k _ _ h2 h1)⟩
 ·cases r with
  | lst h1 h2 h3 h4 =>
   simp only[j3,W8] at e;subst e;exact⟨true,_,_,rfl,.inl h2,⟨h3,h4⟩,λH2 k=>.inl (Rd.keep h2 λo e=>k _ o e h1)⟩
theorem yo {a b:Expr} {f g:DE} {elts:List Expr} {ctx} {tp:Pos} (hg:Gl X "zip") (hm:X.mg "zip" = none) (ha:SE X c a f) (hb:SE X c b g) (hs:Wk [a,b] X.env=(false,eval a X.env) :: Wk [b] X.env:=by rfl)
  (rq:Wk [b] X.env=(false,eval b X.env) :: Wk [] X.env:=by rfl) (eE:(QW pos (Wk [b] X.env)).any (·.1)=false:=by rfl):SI X c (.Tuple elts ctx tp) (.Call (.Name "zip" pp) [a,b] [] pos) (gA f g) :=
 PI.weak (OH hg hm (gv ha (gv hb jd rq) hs) hs eE) λσ H R ⟨δ,k,q⟩=>by
  unfold gA at q;rw[bM] at q;refine⟨δ,k,aY q λx δ1 q1 v H1 a1 r1=>⟨δ1,a1.ok,?_⟩⟩;rw[bM] at q1;refine aY q1 λy δ2 q2 u H2 a2 r2=>?_
  have hx:Rep H2 (Av c σ δ2) v x.d:=Rep.dW r1.rep a2;have hy:Rep H2 (Av c σ δ2) u y.d:=r2.rep;generalize x.d=dx at q2 hx;generalize y.d=dy at q2 hy
  cases e1:j3 dx with
  | none=>rw[e1] at q2; exact q2.elim
  | some xs =>
   cases e2:j3 dy with
   | none=>rw[e1,e2] at q2; exact q2.elim
   | some ys =>
    rw[e1,e2] at q2;obtain⟨b1,p1,vs,ev,s1,w1,k1⟩:=hx.sq (K:=X.K) e1;obtain⟨b2,p2,us,eu,s2,w2,k2⟩:=hy.sq (K:=X.K) e2;subst ev eu;refine⟨b1,b2,p1,p2,rfl,⟨vs,s1⟩,⟨us,s2⟩,q2 _ H2 (a1.trans a2) λH3 kp=>?_⟩;have t1:=k1 H3 λp o e n=>kp p o e λz=>n (.inr z)
    have t2:=k2 H3 λp o e n=>kp p o e λz=>n (.inr z)
    refine⟨⟨vs,us,t1,t2,?_⟩,λi d e=>?_⟩
    ·rw[w1.1,w2.1];simp only[kC,List.length_zipWith];omega
    ·obtain⟨x,y,ex,ey,rfl⟩:=OI e;obtain⟨v,ev,rv⟩:=w1.get ex;obtain⟨u,eu,ru⟩:=w2.get ey;refine⟨⟨vs,us,v,u,t1,t2,ev,eu⟩,λz H4 ⟨p,v',u',hp,hv,hu,e3,ez⟩=>.inr ⟨p,_,_,hp,e3,ez,rfl,?_⟩⟩;have h1:=hv vs t1;have h2:=hu us t2;rw[ev] at h1;rw[eu] at h2
     cases h1
     cases h2;exact aN.two rv ru
end
section
variable {X:Cx} {c:Fc} {e:Expr} {es:List Expr} {as:List Ak} {k n:Nat} {x:Str} {G:DX} {pp pos:Pos}
end
end DV
namespace PySem
open Sem (wp)
section
variable {prog:Wm} {w:Wr} {A:Wt} {E:Value->W2->Prop} {hp:Heap} {g:Array GenState} {d:Drawn} {t:Nat} {os:OsState}
variable {nm qn:Str} {C N:Addr} {bs bm VZ:List Value} {V0:Bool} {sn:List Str} {sub:List Value} {ab:Bool} {col:Option Bool} {dd:Option Addr} {k0 k1 k2 k3 k5:Option Value} {B newId V1:String}
end
end PySem
namespace L2
open PySem PySem.Spec PyProof.Rows PySem.W PySem.Builtin PySem.Builtin.ObjectAttr
section
variable {prog:Wm} {w:Wr} {A:Wt} {E:Value->W2->Prop} {s:W2} {K:W1} {x C:Addr} {name:Str} {v:Value} {R:Result->W2->Prop}
end
section
variable {P:Wm} {w:Wr} {H:Hp} {h:Heap} {C a:Addr}
end
section
variable {X:Cx} {o value:Expr} {f:Str} {ta tv:TE} {pos pos':Pos}
end
section
variable {X:Cx} {k:Nat} {f C:Addr} {fd:Qj} {ps:List Str} {sp:Sp} {x:Str} {p pos:Pos} {e:Expr} {es:List Expr} {t:TA}
end
section
variable {P:Wm} {w:Wr} {K:W1} {mg:Str->Option Value} {base:Heap} {x qual f1 f2:Str} {st:Stmt} {f:Addr} {fd:Qj} {N ps:List Str} {k:Nat}
end
section
variable {X:Cx} {C f:Addr} {call:Expr} {te:TE} {pos:Pos}
end
end L2
namespace DV
open PySem PySem.Spec PyProof.Rows L2 PySem.W
section
variable {X:Cx} {c:Fc} {e:Expr} {fb:BE}
end
end DV
namespace L2
open PySem PySem.Spec PyProof.Rows
section
variable {X:Cx} {tg:Expr}
end
end L2
namespace DV
open PySem PySem.Spec PyProof.Rows L2
section
variable {X:Cx} {c:Fc} {tg e:Expr} {fe:DE} {pos pp:Pos}
end
end DV
namespace PySem.SeqAt
open AutoSeq1 (wpAny_loadPart')
open MeetsSeq
section
variable {A:Wt} {s:W2}
end
end PySem.SeqAt
namespace DV
open PySem PySem.Spec PyProof.Rows L2
end DV
namespace PySem.SeqAt
open AutoSeq1 (wpAny_loadPart')
open MeetsSeq
abbrev prO (dd:Option Addr) (a1 a2:Int) (t1 t2:Tok) (n:Nat) (sl:Array (Option Value)):Obj:={ cls:=.type "tuple",dict:=dd,data:=.seq #[.int a1 t1,.int a2 t2] n,slots:=sl }
def ltP(a1 a2 b1 b2:Int):Bool:=if a1 == b1 then decide (a2 < b2) else decide (a1 < b1)
theorem zai(l b:Addr)(a1 a2 b1 b2:Int)(t1 t2 u1 u2:Tok)(n n2:Nat)(dd nF:Option Addr)(sl l5:Array (Option Value)) :
  Meets (Builtin.«tuple.__lt__» ⟨[.ref l,.ref b],[]⟩)
   (λ_ R s=>s.heap.get? l=some (prO dd a1 a2 t1 t2 n sl)/\s.heap.get? b=some (prO nF b1 b2 u1 u2 n2 l5)/\R (.ok (.ret (.bool (ltP a1 a2 b1 b2)))) s) :=
 .of_wp λprog w A R s h=>by
  obtain⟨hp,g,d,tk,os⟩:=s; obtain⟨hl,hb,h⟩:=h
  have f2:=AutoSeq1.sub_tuple_tuple;wp_walk using J3 hl,J3 hb,wpAny_forIn_list _ (λrest c s'=>c.1=none/\s' = ⟨hp,g,d,tk,os⟩ /\
   (rest=[(.int a1 t1,.int b1 u1),(.int a2 t2,.int b2 u2)]\/(rest=[(.int a2 t2,.int b2 u2)]/\a1=b1)\/(rest=[]/\a1=b1/\a2=b2))) _
  case turn =>
   rintro ⟨y,x⟩ rest c s' ⟨hc,rfl,hz⟩;rcases hz with hz | ⟨hz,e1⟩ | ⟨hz,_⟩
   ·injection hz with hyx hrest
    cases hyx;refine W0 (EqAt.int_int a1 t1 b1 u1 prog w _ _ ?_);by_cases e:a1=b1
    ·rw[show(a1 == b1)=true by simp[e]];wp_walk
     exact⟨rfl,rfl,.inr (.inl ⟨hrest,e⟩)⟩
    ·rw[show(a1 == b1)=false by simp[e]];have bx:ltP a1 a2 b1 b2=decide (a1 < b1):=by simp[ltP,e]
     rw[bx] at h;simp only[Bool.not_false,if_true];refine W0 (Ja ?_);refine W0 (richCompare_gives (op:=.Lt) (QG _ _ t1) (QG _ _ u1) F.slot_int_lt F.entry_int_lt (F.args_int_lt_2 _ _) (gives_int_lt _ _ t1 u1) (λx=>nomatch x) ?_);refine W0 (W7 ?_);exact W7 (W7 ⟨_,rfl,h⟩)
   ·injection hz with hyx hrest
    cases hyx;refine W0 (EqAt.int_int a2 t2 b2 u2 prog w _ _ ?_);by_cases e:a2=b2
    ·rw[show(a2 == b2)=true by simp[e]];wp_walk
     exact⟨rfl,rfl,.inr (.inr ⟨hrest,e1,e⟩)⟩
    ·rw[show(a2 == b2)=false by simp[e]];have bx:ltP a1 a2 b1 b2=decide (a2 < b2):=by simp[ltP,e1]
     rw[bx] at h;simp only[Bool.not_false,if_true];refine W0 (Ja ?_);refine W0 (richCompare_gives (op:=.Lt) (QG _ _ t2) (QG _ _ u2) F.slot_int_lt F.entry_int_lt (F.args_int_lt_2 _ _) (gives_int_lt _ _ t2 u2) (λx=>nomatch x) ?_);refine W0 (W7 ?_);exact W7 (W7 ⟨_,rfl,h⟩)
   ·cases hz
  case fin =>
   rintro ⟨c1,c2⟩ s' ⟨hc,rfl,hz⟩;simp only at hc;subst hc;rcases hz with hz | ⟨hz,e1⟩ | ⟨_,e1,e2⟩
   ·cases hz
   ·cases hz
   ·have bx:ltP a1 a2 b1 b2=false:=by simp[ltP,e1,e2]
    rw[bx] at h;wp_walk
    exact⟨_,rfl,h⟩
  case h=>exact⟨rfl,rfl,.inl rfl⟩
end PySem.SeqAt
namespace PySem
open SeqAt (prO ltP zai)
section
variable {prog:Wm} {w:Wr} {A:Wt} {R:Result->W2->Prop} {I:Addr} {fp wr:List Addr} {n:Nat} {P:Nat->Value->Prop} {St:Nat->Heap->Prop}
end
section
variable {prog:Wm} {w:Wr} {A:Wt} {E:Value->W2->Prop} {s:W2}
end
end PySem
namespace DV
open PySem PySem.Spec PyProof.Rows L2
open PySem.SeqAt (prO ltP)
section
variable {X:Cx} {c:Fc} {e:Expr} {fb:BE} {pos pp:Pos}
end
section
variable {c:Fc} {σ:St} {δ δ':Dl} {H H':Hp} {p:Addr}
end
end DV
namespace L2
open PySem PySem.Spec PyProof.Rows
end L2
namespace DV
open PySem PySem.Spec PyProof.Rows L2
section
variable {X:Cx} {c:Fc} {tg e:Expr} {fe:DE} {pos pp:Pos}
end
section
variable {K:W1} {h:Heap} {mg:Str->Option Value} {x q:Str} {st:Stmt} {f:Addr} {fd:Qj}
abbrev dP(K:W1)(x:Str)(st:Stmt):Prop:=∃ (f:Addr) (oc:Value) (od:Option Addr) (kV dc pm:Value) (an:Option Addr) (cd ct:Value) (sl:Array (Option Value)),
 PySem.W.nsIn K WE x=some (some (.ref f))/\K.lookup f=some ⟨oc,od,.func (QN x x (l9 st) (jN st) (cq st) .none kV dc pm an cd ct),sl⟩/\PySem.W.codeIn K cd x=true/\JK K (.ref f)=true
theorem eh(X:K.In h)(G:h.Ns WE mg)(d:dP K x st):∃ f fd,cC K x x st f fd/\mg x=some (.ref f):=by
 obtain⟨f,oc,od,kV,dc,pm,an,cd,ct,sl,a,l,c,k⟩:=d;exact⟨f,_,CL l c k,PySem.W.mg_of X G a⟩
abbrev Bd(x q:Str)(st:Stmt)(ps:List Str)(us:List Value):Prop:=∀ (kV doc pm:Value) (an:Option Addr) (bE ct:Value),bindArgs (QN x q (l9 st) (jN st) (cq st) .none kV doc pm an bE ct) ⟨us,[]⟩=pure (ps.zip us)
variable {p1 p2 p3 p4 p5 p6:Str}
theorem iV(F:cC K x q st f fd)(h:∀ a,Bd x q st [p1] [a]):Binds K fd [p1] []:=F.binds λ_ _ _ _ _ _ us hl=>match us,hl with
 | [a],_=>h a _ _ _ _ _ _
theorem j4(F:cC K x q st f fd)(h:∀ a b,Bd x q st [p1,p2] [a,b]):Binds K fd [p1,p2] []:=F.binds λ_ _ _ _ _ _ us hl=>match us,hl with
 | [a,b],_=>h a b _ _ _ _ _ _
theorem OJ(F:cC K x q st f fd)(h:∀ a b c,Bd x q st [p1,p2,p3] [a,b,c]):Binds K fd [p1,p2,p3] []:=F.binds λ_ _ _ _ _ _ us hl=>match us,hl with
 | [a,b,c],_=>h a b c _ _ _ _ _ _
theorem OK(F:cC K x q st f fd)(h:∀ a b c d,Bd x q st [p1,p2,p3,p4] [a,b,c,d]):Binds K fd [p1,p2,p3,p4] []:=F.binds λ_ _ _ _ _ _ us hl=>match us,hl with
 | [a,b,c,d],_=>h a b c d _ _ _ _ _ _
end
end DV
namespace L2
open PySem PySem.Spec PyProof.Rows
section
variable {X:Cx} {tg:Expr}
end
section
variable {X:Cx} {e:Expr} {ta:TE} {f:Str} {pos:Pos}
end
end L2
namespace DV
open PySem PySem.Spec PyProof.Rows L2
section
variable {X:Cx} {c:Fc} {tg e:Expr} {fe:DE} {pos pp:Pos}
end
end DV
namespace L2
open PySem PySem.Spec PyProof.Rows
theorem OL(l:Addr)(dd:Option Addr)(items:Array Value)(n:Nat)(sl:Array (Option Value))(u:Tok) :
  Meets (Builtin.«tuple.__mul__» ⟨[.ref l,.int 1 u],[]⟩) (λ_ R s=>s.heap.get? l=some { cls:=.type "tuple",dict:=dd,data:=.seq items n,slots:=sl }/\R (.ok (.ret (.ref l))) s) :=
 .of_wp λprog w A R s h=>by
  obtain⟨hp,g,d,tk,os⟩:=s; obtain⟨hl,h⟩:=h
  wp_walk
  exact⟨_,rfl,h⟩
def E1(K:W1):R2:=λx y H Q=>∃ l xs,x = .ref l/\y = .int 1/\cR K H l xs/\Q (.ref l) H
section
variable {X:Cx}
theorem OM:bP X (WV .Mult) (E1 X.K):=by
 intro pins s σ H x y v u Q I rx ry h;obtain⟨l,xs,rfl,rfl,hH,q⟩:=h
 cases rx;obtain⟨t,rfl⟩:=ry;obtain⟨aj,r,pl,hl⟩:=I.tuple hH;obtain⟨⟨cls,dd,data,sl⟩,ho,hc,n,hd⟩:=id pl;simp only at hc hd;subst hc hd;exact Jc (T:="tuple") (U:="int") (by decide) ⟨_,ho,rfl⟩ (λs'=>QG s' 1 t) xY F.fills_int_mul QP xZ F.slot_int_index.lookup
  (QO QP (QG s 1 t) F.entry_int_rmul (JP _ _) (xX 1 t l dd aj.toArray n sl)
   ⟨ho,rfl,⟨_,ho,rfl⟩,QO F.slot_tuple_mul ⟨_,ho,rfl⟩ F.entry_tuple_mul (F.args_tuple_mul_2 _ _) (OL l dd aj.toArray n sl t) ⟨ho,⟨.ref l,H,I,rfl,q⟩⟩⟩)
end
end L2
namespace DV
open PySem PySem.Spec PyProof.Rows L2
def rT(x y:D):Option S:=match x,y with
 | .tup xs,.int k=>if k=1 then some (.pure (.tup xs)) else e9 (.tup xs) (.int k)
 | x,y=>e9 x y
def yp(K:W1):R2:=λx y H Q=>E1 K x y H Q\/x8 K x y H Q
theorem ON:bP X (WV .Mult) (yp X.K):=OM.or oh
theorem E2{K:W1}:cF (yp K) rT:=by
 intro c σ δ H x y d e s Q k rx ry hp q;unfold rT at hp;split at hp
 ·rename_i xs n;split at hp
  ·rename_i hn;subst hn
   cases hp;obtain⟨a,vs,ex,ha,r⟩:=rx.tup;subst ex;refine .inl ⟨a,vs,rfl,ry.int,.of ha,q _ H (.refl k) ?_⟩;rcases rx with rx | ⟨a',_,o⟩
   ·exact rx
   ·exact o.elim
  ·exact .inr (my c σ δ H x y _ _ s Q k rx ry hp q)
 ·exact .inr (my c σ δ H x y _ _ s Q k rx ry hp q)
end DV
namespace L2
open PySem PySem.Spec PyProof.Rows PySem.SeqAt DV
def yq(z:Str):Value->Bool
 | .str x _=>x == z
 | _=>false
theorem OO(h:Vals xs us):∀ (j:Nat) (u:Value),us[j]? = some u->∃ v,xs[j]? = some v/\RelV v u:=by
 induction h with
 | nil=>intro j u e; simp at e
 | cons r rs ih =>
  intro j u e
  cases j with
  | zero=>simp at e; subst e; exact⟨_,rfl,r⟩
  | succ j=>simpa using ih j u (by simpa using e)
def E3(K:W1):V->List V->Hp->VK->Prop:=λx xs H Q=>∃ (a:Addr) (ts:List Tx) (z:Tx),x = .ref a/\xs=[.str (toS z)]/\cK K H a (ts.map λt=>V.str (toS t))/\z ∈ ts/\ts.length<=1000/\Q (.int (ts.idxOf z:Nat)) H
section
variable {X:Cx}
theorem OP:tL X "list.index" (E3 X.K):=by
 intro pins s σ H x xs v us Q I rx rs h;obtain⟨a,ts,z,rfl,rfl,hq,hm,hl,q⟩:=h;obtain⟨u,rfl,ru⟩:=gO rs;obtain⟨tk,rfl⟩:=ru
 cases rx;obtain⟨aj,r',p,_⟩:=I.list hq;obtain⟨⟨cls,dd,data,sl⟩,ho,hc,n,hd⟩:=p.isList;simp only at hc hd;subst hc; subst hd
 have at':∀ j (hj:j < aj.length),∃ t tk,ts[j]? = some t/\aj[j] = .str (toS t) tk:=λj hj=>by
  obtain⟨v,e1,r1⟩:=OO r' j _ (W4 hj);rw[Wh] at e1;obtain⟨t,e2,e3⟩:=WG.mp e1;subst e3;obtain⟨tk,e4⟩:=r1;exact⟨t,tk,e2,e4⟩
 have hlen:aj.length=ts.length:=by have:=r'.length; simpa using this.symm
 have hj:ts.idxOf z < ts.length:=List.idxOf_lt_length_iff.mpr hm;have pU:ts.idxOf z < aj.length:=by omega
 refine QO PySem.F.slot_list_index ⟨_,ho,rfl⟩ PySem.F.entry_list_index (PySem.F.args_list_index_2 _ _) (list_indexAt a _ n dd sl (.str (toS z) tk) (yq (toS z)) (ts.idxOf z) (by simpa using pU) (by omega) ?_ ?_) ⟨ho,λy hy=>?_,⟨.int (ts.idxOf z:Nat),H,I.tok _,⟨_,rfl⟩,q⟩⟩
 ·obtain⟨t,mD,e1,e2⟩:=at' _ pU;have e3:ts[ts.idxOf z]=z:=List.getElem_idxOf hj;rw[W4 hj,e3] at e1
  cases e1;simp only[List.getElem_toArray,e2,yq];exact beq_self_eq_true _
 ·intro m rV bx;have E4:m < aj.length:=by simpa using rV
  obtain⟨t,mD,e1,e2⟩:=at' m E4;have cZ:t≠z:=λe=>by
   subst e;have OQ:m < ts.length:=by omega
   have z2:=List.not_of_lt_findIdx (p:=(· == t)) (xs:=ts) (i:=m) bx;rw[W4 OQ] at e1
   cases e1;simp at z2
  simp only[List.getElem_toArray,e2,yq];rw[pD];exact beq_false_of_ne cZ
 ·have OR:y ∈ aj:=by simpa using hy
  obtain⟨j,hjj,rfl⟩:=Qp OR;obtain⟨t,mD,e1,e2⟩:=at' j hjj;rw[e2];exact EqAt.str_str _ _ _ _
end
end L2
namespace DV
open PySem PySem.Spec PyProof.Rows L2
def E5:D->Bool
 | .lst _=>true
 | _=>false
def ot(x y:D):Option S:=match x,y with
 | .lst ds,.str z=>match fW ds with
  | some ts=>if z ∈ ts/\ts.length<=1000 then some (.pure (.int (ts.idxOf z:Nat))) else none
  | none=>none
 | _,_=>none
def kD(i:Nat)(fb:DE):DE:=λδ=>match δ[i]? with
 | some (some s)=>if E5 s.d then(fb δ).bind λy δ1=>match δ1[i]? with
  | some (some s)=>p2 ot s.d y.d δ1
  | _=>.stuck else .stuck
 | _=>.stuck
section
variable {X:Cx} {c:Fc} {o e:Expr} {fa fb:DE}
theorem OS{K:W1}:cF (λx y H Q=>E3 K x [y] H Q) ot:=by
 intro c σ δ H x y d e s Q k rx ry hp q
 cases d with
 | lst ds =>
  cases e with
  | str z =>
   simp only[ot] at hp;split at hp
   ·rename_i ts ht;split at hp
    ·rename_i hz
     cases hp;obtain⟨a,vs,ea,ha,r⟩:=rx.lst;have ev:=pH ht r;subst ev;exact⟨a,ts,z,ea,by rw[ry.str],.inl ha,hz.1,hz.2,q _ H (.refl k) (.int _)⟩
    ·cases hp
   ·cases hp
  | _=>simp[ot] at hp
 | _=>simp[ot] at hp
theorem OT(he:PE X o (cJ i))(hx:SE X c e fb)
  (kY:QT o "index" X.env (eval o X.env)=eval o X.env:=by rfl)
  (kZ:((QW cg (Wk [e] X.env)).all (λx=>!x.1) && (backToKw cg (keywordEach [] X.env)).all (λx=>x.1.isSome)
   && decide ([e].length + ([]:List Keyword).length + (if ([]:List Keyword).isEmpty then 0 else 1) < 30))=true:=by rfl)
  (fU:(apos.endLine == cg.line)=true:=by rfl) (hs:Wk [e] X.env=(false,eval e X.env) :: Wk [] X.env:=by rfl) :
  SE X c (.Call (.Attribute o "index" apos) [e] [] cg) (kD i fb):=by
 refine PE.weak (tN PySem.F.plainAttrs_list PySem.F.slot_list_index PySem.F.type_list_index OP he (gv hx jd hs) kY kZ fU hs rfl) λσ H Q h=>?_
 obtain⟨δ,k,q⟩:=h;unfold kD at q
 cases e0:δ[i]? with
 | none=>rw[e0] at q; exact q.elim
 | some o =>
  cases o with
  | none=>rw[e0] at q; exact q.elim
  | some w =>
   rw[e0] at q;simp only at q;split at q
   case isFalse=>exact q.elim
   rename_i hL;obtain⟨v,ev⟩:=uk k e0;have rb:=xm k e0 ev;have ty:wc X.K "list" v H:=by
    cases hd:w.d <;> rw[hd] at hL <;> try cases hL
    rw[hd] at rb;obtain⟨a,vs,ea,ha,_⟩:=rb.lst;subst ea;exact .inl ⟨rfl,_,.inl ha⟩
   rw[bM] at q;refine⟨v,ev,ty,δ,k,aY q λy δ1 q1 u H1 a1 r1=>?_⟩
   cases e:δ1[i]? with
   | none=>rw[e] at q1; exact q1.elim
   | some o =>
    cases o with
    | none=>rw[e] at q1; exact q1.elim
    | some w1 =>
     rw[e] at q1;have OU:=xm a1.ok e ev;exact wZ OS a1.ok OU (.inl r1.rep) (aY q1 λs δ3 q3 v' H3 a3 r3=>q3 v' H3 (a1.trans a3) (bA.back r3 a1))
end
end DV
namespace L2
open PySem PySem.Spec PyProof.Rows PySem.W DV
section
variable {α β:Type} {n:Nat}
end
section
variable {n:Nat} {p:Array Nat}
end
section
variable {prog:Wm} {w:Wr} {A:Wt} {E:Value->W2->Prop} {s:W2} {vs:List Value} {ks:List Tx}
end
section
variable {X:Cx}
end
end L2
namespace DV
open PySem PySem.Spec PyProof.Rows L2
section
variable {X:Cx} {c:Fc} {e:Expr} {fb:BE} {pp pos:Pos}
end
section
variable {X:Cx} {c:Fc} {e:Expr} {fe:DE} {fb:BE} {pos:Pos}
end
section
variable {X:Cx}
end
section
variable {X:Cx} {c:Fc} {e:Expr} {fb:BE}
end
def nz:D->Bool
 | .aI=>true
 | .int _=>true
 | _=>false
section
variable {X:Cx} {c:Fc} {e:Expr} {fe:DE}
end
section
variable {H H':Hp} {O:Addr->Prop} {v:V} {a:Addr} {us:List V}
end
section
variable {c:Fc} {σ:St} {δ δ1:Dl} {H H1:Hp} {i:Nat} {ds:List D} {g:Xc->Dl->Prop}
end
section
variable {X:Cx} {c:Fc} {e:Expr} {es:List Expr} {as:List Ak} {k n i:Nat} {x:Str} {G:DX} {pp pos:Pos}
end
section
variable {c:Fc} {σ σ':St} {δ δ':Dl} {H H':Hp} {B':Addr->Prop} {g:Xc->Dl->Prop} {i0:Nat} {a:Addr} {ds:List D}
end
end DV
namespace L2
open PySem PySem.Spec PyProof.Rows PySem.W DV
section
variable {prog:Wm} {w:Wr} {A:Wt} {E:Value->W2->Prop} {s:W2} {vs:List Value}
end
section
variable {lt:Nat->Nat->Bool} {r:Nat->Nat} {n:Nat} {α β:Type}
structure Lt(lt:Nat->Nat->Bool)(r:Nat->Nat)(n:Nat):Prop where
 lt:∀ i j,i < n->j < n->lt i j=decide (r i < r j)
 inj:∀ i j,i < n->j < n->i≠j->r i≠r j
end
end L2
namespace DV
open PySem PySem.Spec PyProof.Rows L2
section
variable {X:Cx} {c:Fc} {e:Expr} {fb:BE} {pp pos:Pos}
end
end DV
set_option maxHeartbeats 1000000
namespace SU
open PySem PyProof.Rows
section
variable {prog:Wm} {w:Wr} {A:Wt} {E:Value->W2->Prop} {s:W2}
section
variable {h:Heap} {a:Addr} {ks:List Str} {o:Obj} {es:Array (Int×Value)} {ep:Nat} {t:SetTable} {xs:List (Str×Tok)}
end
end
section
variable {prog:Wm} {w:Wr} {A:Wt} {R:Result->W2->Prop} {I:Addr} {fp wr:List Addr} {G:Array GenState->Array GenState->Prop} {n:Nat} {P:Nat->Value->Prop} {St:Nat->W2->Prop}
end
section
variable {prog:Wm} {w:Wr} {A:Wt} {E:Value->W2->Prop} {s:W2}
end
section
variable {mask:Nat} {owner:Array (Option Nat)}
end
section
variable {prog:Wm} {w:Wr} {A:Wt} {E:Value->W2->Prop} {s:W2}
end
section
variable {prog:Wm} {w:Wr} {A:Wt} {E:Value->W2->Prop} {s:W2}
end
section
variable {prog:Wm} {w:Wr} {A:Wt} {E:Value->W2->Prop} {s:W2}
section
variable {a it:Addr} {ks:List Str} {o:Obj} {es:Array (Int×Value)} {ep:Nat} {t:SetTable} {xs:List (Str×Tok)} {i:Nat}
end
end
section
variable {prog:Wm} {w:Wr} {A:Wt} {E:Value->W2->Prop} {s:W2}
variable {a it:Addr} {ks:List Str} {o:Obj} {es:Array (Int×Value)} {ep:Nat} {t:SetTable} {xs:List (Str×Tok)} {i:Nat}
end
section
variable {prog:Wm} {w:Wr} {A:Wt} {E:Value->W2->Prop} {s:W2}
variable {a it:Addr} {ks:List Str} {o:Obj} {es:Array (Int×Value)} {ep:Nat} {t:SetTable} {xs:List (Str×Tok)} {i:Nat}
end
section
variable {prog:Wm} {w:Wr} {A:Wt} {E:Value->W2->Prop} {s:W2}
end
end SU
set_option maxHeartbeats 400000
namespace L2
open PySem PySem.Spec PyProof.Rows PySem.W DV SU
section
variable {X:Cx}
end
end L2
namespace DV
open PySem PySem.Spec PyProof.Rows L2 SU
section
variable {X:Cx} {c:Fc} {a b:Expr} {f g:DE} {pp pos p1 V2 p3 p4 p5:Pos}
end
end DV
namespace L2
open PySem PySem.Spec PyProof.Rows PySem.W DV
section
variable {X:Cx}
end
end L2
namespace DV
open PySem PySem.Spec PyProof.Rows L2
section
variable {X:Cx} {c:Fc} {e:Expr} {fb:BE} {pp pos:Pos}
end
theorem OV(c:Nat)(z:List Nat):(oq c z 0 z.length).length=z.count c:=by
 have key:∀ (z pre:List Nat),((List.range' pre.length z.length).filter λi=>decide ((pre ++ z)[i]? = some c)).length=z.count c:=λz=>by
  induction z with
  | nil=>intro pre; rfl
  | cons x z ih =>
   intro pre;have h:=ih (pre ++ [x]);rw[Qi,List.length_singleton] at h;rw[WP,JX,List.filter_cons];have e:(pre ++ x :: z)[pre.length]? = some x:=by simp
   have e2:pre ++ [x] ++ z=pre ++ x :: z:=by simp
   rw[e2] at h;rw[e,List.count_cons];by_cases hc:x=c
   ·subst hc;simp[h]
   ·have:¬ (some x=some c):=by simpa using hc
    simp[hc,h]
 exact key z []
section
variable {X:Cx}
theorem OW:tL X "str.count" (λx vs H Q=>∃ (z:Tx) (c:Nat),x = .str (toS z)/\vs=[.str (toS [c])]/\Q (.int (z.count c:Nat)) H):=by
 intro pins s σ H x vs v us Q I rx rv h;obtain⟨z,c,rfl,rfl,q⟩:=h;obtain⟨t,rfl⟩:=rx;obtain⟨u,rfl,ru⟩:=rv.one;obtain⟨tu,rfl⟩:=ru;refine call_gives PySem.F.slot_str_count (typeIs_str _ _ _) PySem.F.entry_str_count (PySem.F.args_str_count_2 _ _) (gives_str_count (toS z) (toS [c]) t tu) ?_;have e:(PySem.Builtin.Str.occurrences (toS z) (toS [c]) 0 (toS z).length ((toS z).length + 1)).length=z.count c:=by
  have:=Oo c z;have e1:toS z = ⟨z.toArray⟩:=rfl;have e2:toS [c] = ⟨#[c]⟩:=rfl;rw[jQ,e1,e2,this,OV]
 rw[e];exact⟨.int (z.count c:Nat),H,I.tok _,⟨_,rfl⟩,q⟩
end
def E6:D->D->Option S
 | .str z,.str [c]=>some (.pure (.int (z.count c:Nat)))
 | _,_=>none
def E7:D->Bool
 | .str _=>true
 | _=>false
def ou(fa fb:DE):DE:=λδ=>(fa δ).bind λx δ1=>if E7 x.d=true then(fb δ1).bind λy δ2=>p2 E6 x.d y.d δ2 else .stuck
section
variable {X:Cx} {c:Fc} {o e:Expr} {fa fb:DE}
theorem OX(he:SE X c o fa)(hx:SE X c e fb)
  (kY:QT o "count" X.env (eval o X.env)=eval o X.env:=by rfl)
  (kZ:((QW cg (Wk [e] X.env)).all (λx=>!x.1) && (backToKw cg (keywordEach [] X.env)).all (λx=>x.1.isSome)
   && decide ([e].length + ([]:List Keyword).length + (if ([]:List Keyword).isEmpty then 0 else 1) < 30))=true:=by rfl)
  (fU:(apos.endLine == cg.line)=true:=by rfl) (hs:Wk [e] X.env=(false,eval e X.env) :: Wk [] X.env:=by rfl) :
  SE X c (.Call (.Attribute o "count" apos) [e] [] cg) (ou fa fb):=by
 refine PE.weak (tN PySem.F.plainAttrs_str PySem.F.slot_str_count PySem.F.type_str_count OW he (gv hx jd hs) kY kZ fU hs rfl) λσ H Q h=>?_
 obtain⟨δ,k,q⟩:=h;unfold ou at q;rw[bM] at q;refine⟨δ,k,aY q λr δ1 q1 v H1 a1 r1=>?_⟩;split at q1
 case isFalse=>exact q1.elim
 rename_i hL;obtain⟨z,ez⟩:∃ z,r.d = .str z:=by
  cases hd:r.d <;> first | exact⟨_,rfl⟩ | (rw[hd] at hL; cases hL)
 have yr:da c σ δ1 H1 v (.str z):=by rw[<- ez]; exact .inl r1.rep
 have ev:=yr.str;subst ev;rw[bM] at q1;refine⟨rfl,δ1,a1.ok,aY q1 λy δ2 q2 u H2 a2 r2=>?_⟩;rw[ez] at q2;unfold p2 at q2;have hy:=r2.b;generalize y.d=dy at q2 hy
 cases dy with
 | str w =>
  match w,q2,hy with
  | [n],q2,hy =>
   have eu:=hy.str;subst eu;exact⟨z,n,rfl,rfl,q2 _ H2 (a1.trans a2) (.int _)⟩
  | [],q2,_=>exact q2.elim
  | _ :: _ :: _,q2,_=>exact q2.elim
 | _=>exact q2.elim
end
end DV
set_option maxHeartbeats 3200000
namespace SU
open PySem PyProof.Rows
section
variable {prog:Wm} {w:Wr} {A:Wt} {E:Value->W2->Prop} {s:W2}
end
end SU
set_option maxHeartbeats 1000000
namespace DV
open PySem (sizeLine)
open L2
section
variable {α β:Type}
@[simp] theorem eB (a:α) (δ:Dl) (f:α->Dl->Rs β):(Rs.ok a δ).bind f=f a δ:=id rfl
@[simp] theorem V3 (f:α->Dl->Rs β):(Rs.stuck:Rs α).bind f = .stuck:=id rfl
@[simp] theorem E8 (d:D):(S.pure d).d=d:=id rfl
@[simp] theorem ow (d:D):(S.own d).d=d:=id rfl
end
section
variable (δ:Dl) (i:Nat) (d e:D) (f g:DE) (fb:BE) (t u:DT) (p:D->D->Option S)
@[simp] theorem E9:eD d δ = .ok (.pure d) δ:=id rfl
@[simp] theorem kE:ao f δ=(f δ).bind λr δ'=>.ok r.d δ':=id rfl
@[simp] theorem yt:aE p f fb δ=(f δ).bind λx δ1=>(fb δ1).bind λy δ2=>p2 p x.d y δ2:=id rfl
@[simp] theorem V4:mi t u δ=(t δ).bind λb δ1=>if b then u δ1 else .ok false δ1:=id rfl
@[simp] theorem V5:jh t u δ=(t δ).bind λb δ1=>if b then .ok true δ1 else u δ1:=id rfl
@[simp] theorem E_:gw t δ=(t δ).bind λb δ1=>.ok (!b) δ1:=id rfl
@[simp] theorem OY:q_ t f g δ=(t δ).bind λb δ1=>if b then f δ1 else g δ1:=id rfl
@[simp] theorem V6:cG δ = .ok .next δ:=id rfl
@[simp] theorem V7:aV δ = .ok true δ:=id rfl
@[simp] theorem V8:Nc f δ=(f δ).bind λ_ δ1=>.ok .next δ1:=id rfl
@[simp] theorem yu:bC f δ=(f δ).bind λr δ1=>.ok (.ret r) δ1:=id rfl
@[simp] theorem yv (a b:DS):cE t a b δ=(t δ).bind λx δ1=>if x then a δ1 else b δ1:=id rfl
@[simp] theorem V9 (it:DI) (gg:DG) (b:DS):er it gg b δ=(it δ).bind λds δ1=>forL gg b ds δ1:=id rfl
@[simp] theorem V_ (a:DA):cD a δ=(a δ).bind λds δ'=>.ok (.pure (.tup ds)) δ':=id rfl
@[simp] theorem W_ (a:DA):eV a δ=(a δ).bind λds δ'=>.ok (.own (.lst ds)) δ':=id rfl
@[simp] theorem Xa (ds:List D):iS ds δ = .ok (.own (.lst ds)) δ:=id rfl
@[simp] theorem Xb:bB δ = .ok [] δ:=id rfl
@[simp] theorem Xd (a:DA):aG f a δ=(f δ).bind λx δ1=>(a δ1).bind λxs δ2=>.ok (x.d :: xs) δ2:=id rfl
@[simp] theorem ox (q:D->Option S):aH q fb δ=(fb δ).bind λx δ1=>p1 q x δ1:=id rfl
@[simp] theorem Xe:uu f g δ=(f δ).bind λx δ1=>(g δ1).bind λy δ2=>p2 xl x.d y.d δ2:=id rfl
@[simp] theorem Xf (fl fh:mv):M9 f fl fh δ=(f δ).bind λx δ1=>(fl δ1).bind λl δ2=>(fh δ2).bind λh δ3=>p1 (iO l h) x.d δ3:=id rfl
@[simp] theorem Xg:iN δ = .ok none δ:=id rfl
@[simp] theorem yw (cs:List Nat) (it:DI) (gg:DG) (el:DE):bD cs it gg t el δ=(it δ).bind λds δ1=>if cs.any (cj δ1) then .stuck else
 (cU cs gg t el ds (bT cs δ1) []).bind λacc δ2=>.ok (.own (.lst acc)) (dh cs δ1 δ2):=id rfl
@[simp] theorem Xh (np:List Nat) (r:S):ag np i r δ=if np.contains i then none else some (δ.set i (some r)):=id rfl
@[simp] theorem Xi (gg:DG) (b:DS):forL gg b [] δ = .ok .next δ:=id rfl
end
section
variable (δ:Dl) (i:Nat) (d e:D) (f g:DE) (fb:BE) (p:D->D->Option S) (s:S)
@[simp] theorem yx (x y:D):p2 p x y δ=match p x y with | some s=>.ok s δ | none=>.stuck:=id rfl
@[simp] theorem pV (q:D->Option S) (x:D):p1 q x δ=match q x with | some s=>.ok s δ | none=>.stuck:=id rfl
@[simp] theorem Xj (a b:DS):az a b δ=(a δ).bind λfl δ1=>match fl with | .next=>b δ1 | .ret r=>.ok (.ret r) δ1 | .brk=>.ok .brk δ1 | .cont=>.ok .cont δ1:=id rfl
@[simp] theorem Xk {α β:Type} (c:Prop) [Decidable c] (x y:Rs α) (k:α->Dl->Rs β):(if c then x else y).bind k=if c then x.bind k else y.bind k:=by split <;> rfl
end
theorem cW:We=16777216:=rfl
theorem gY(xs:List α)(i:Nat):dC xs (i:Int)=xs[i]?:=by
 unfold dC dS;by_cases h:i < xs.length
 ·rw[if_pos (by omega),if_pos (by omega)];simp
 ·rw[if_pos (by omega),if_neg (by omega)];simp[WB (Nat.le_of_not_lt h)]
theorem yz(xs:List α):dC xs 2=xs[2]?:=gY xs 2
theorem rW(xs:List α):dC xs 0=xs[0]?:=gY xs 0
theorem yG(xs:List α):dC xs 1=xs[1]?:=gY xs 1
theorem yH(I:Dl->Prop)(R:D->D->Prop) :
  ∀ (ds:List D) (δ:Dl) (acc:List D),I δ->acc.length + ds.length<=We ->
   (∀ d ∈ ds,∀ δ,I δ->∃ δ1 δ2 x δ3,g (.pure d) δ=some δ1/\t δ1 = .ok true δ2/\el δ2 = .ok x δ3/\I (bT cs δ3)/\R d x.d) ->
   ∃ xs δ',cU cs g t el ds δ acc = .ok (acc ++ xs) δ'/\I δ'/\xs.length=ds.length/\∀ (i:Nat) d x,ds[i]? = some d->xs[i]? = some x->R d x
 | [],δ,acc,h,_,_=>⟨[],δ,by simp[cU],h,rfl,λi d x e=>by simp at e⟩
 | d :: r,δ,acc,h,hl,hs=>by
  obtain⟨δ1,δ2,x,δ3,e1,e2,e3,h3,hr⟩:=hs d Wj δ h;have gL:acc.length < We:=by simp at hl; omega
  obtain⟨xs,δ',e4,h4,hn,hf⟩:=yH (g:=g) (t:=t) (el:=el) I R r (bT cs δ3) (acc ++ [x.d]) h3 (by simp at hl ⊢; omega) (λd hd=>hs d (Wa _ hd));refine⟨x.d :: xs,δ',?_,h4,by simp[hn],λi d' x' f1 f2=>?_⟩
  ·unfold cU;rw[e1];simp only[e2,eB,if_true,e3,if_pos gL,e4];simp
  ·cases i with
   | zero=>simp at f1 f2; subst f1 f2; exact hr
   | succ i=>exact hf i d' x' (by simpa using f1) (by simpa using f2)
theorem Fb(F:D->D)(δ:Dl) :
  ∀ (ds:List D) (acc:List D),acc.length + ds.length<=We ->
   (∀ d ∈ ds,∃ δ1 δ2 x δ3,g (.pure d) δ=some δ1/\t δ1 = .ok true δ2/\el δ2 = .ok x δ3/\bT cs δ3=δ/\x.d=F d) ->
   cU cs g t el ds δ acc = .ok (acc ++ ds.map F) δ:=by
 intro ds acc hl hs;obtain⟨xs,δ',e,h,hn,hf⟩:=yH (cs:=cs) (g:=g) (t:=t) (el:=el) (λδ'=>δ'=δ) (λd x=>x=F d) ds δ acc rfl hl (λd hd δ' h=>by
  subst h;obtain⟨δ1,δ2,x,δ3,a,b,c,d,e⟩:=hs d hd;exact⟨δ1,δ2,x,δ3,a,b,c,d,e⟩)
 subst h;rw[e];congr 2
 apply Qc;intro i;by_cases hi:i < ds.length
 ·have:=hf i ds[i] (xs[i]'(by omega)) (by simp[hi]) (by simp[hn,hi]);simp[hn,hi,this]
 ·rw[WB (by omega),WB (by simp; omega)]
theorem j5(I:Nat->Dl->Prop) :
  ∀ (ds:List D) (n:Nat) (δ:Dl),I n δ ->
   (∀ (i:Nat) d δ,ds[i]? = some d->I (n + i) δ->∃ δ1 δ2,g (.pure d) δ=some δ1/\b δ1 = .ok .next δ2/\I (n + i + 1) δ2) ->
   ∃ δ',forL g b ds δ = .ok .next δ'/\I (n + ds.length) δ'
 | [],n,δ,h,_=>⟨δ,rfl,h⟩
 | d :: r,n,δ,h,hs=>by
  obtain⟨δ1,δ2,e1,e2,h2⟩:=hs 0 d δ rfl h;obtain⟨δ',e3,h3⟩:=j5 (g:=g) (b:=b) I r (n + 1) δ2 h2 (λi d' δ' e hi=>by
   have:=hs (i + 1) d' δ' (by simpa using e) (by rw[show n + (i + 1)=n + 1 + i by omega]; exact hi);rw[show n + (i + 1) + 1=n + 1 + i + 1 by omega] at this;exact this)
  refine⟨δ',?_,by rw[WP,show n + (r.length + 1)=n + 1 + r.length by omega]; exact h3⟩;unfold forL;rw[e1];simp only[e2,eB,e3]
theorem u0(xs:List Tx):fW (xs.map .str)=some xs:=by
 induction xs with
 | nil=>rfl
 | cons x r ih=>simp[fW,ih]
theorem yI:∀ ts:List Tx,jT [] ts=ts.flatten
 | []=>rfl
 | [x]=>by simp[jT]
 | x :: y :: r=>by rw[jT,yI (y :: r)]; simp
theorem OZ(xs:List Nat):jl (xs.map λn=>[n])=xs.length:=by
 unfold jl;induction xs with
 | nil=>rfl
 | cons x r ih=>simp at ih ⊢; omega
theorem O0(xs:List Nat):(xs.map λn=>[n]).flatten=xs:=by
 induction xs with
 | nil=>rfl
 | cons x r ih=>simp[ih]
theorem O1(xs:List Nat)(h:xs.length<=16777216):fq [] (.lst (xs.map λn=>.str [n]))=some (.pure (.str xs)):=by
 have e:(xs.map λn=>D.str [n])=(xs.map λn=>[n]).map D.str:=by simp
 unfold fq;simp only[e,u0,OZ,yI,O0];rw[if_pos (by simpa using h)]
theorem O2(bs:List Bool):kq (bs.map .bl)=some bs:=by
 induction bs with
 | nil=>rfl
 | cons x r ih=>simp[kq,ih]
theorem O3(r:Tx)(c:Nat)(h:c < r.length)(hl:r.length<=64):ay (.str r) (.int c)=some (.pure (.str [r.getD c 0])):=by
 unfold ay;have:We=16777216:=rfl;simp only;rw[if_pos (by omega),gY];simp[h]
abbrev fZ(fl:List Tx):D:=.tup (fl.map .str)
def kQ(r:S)(δ1:Dl):Rs (List D):=match r with
 | .pure (.int j)=>if pK j then .ok (cx 0 j.toNat) δ1 else .stuck
 | _=>.stuck
@[simp] theorem Xl (f:DE) (δ:Dl):dD f δ=(f δ).bind λr δ1=>kQ r δ1:=id rfl
theorem O4(w:Nat)(hw:w<=1000000):pK (w:Int)=true:=by
 have h1 : -(4611686018427387904:Int)<=(w:Int):=by omega
 have h2:(w:Int) < 4611686018427387904:=by omega
 unfold pK;rw[Ww];exact⟨decide_eq_true h1,decide_eq_true h2⟩
theorem O5(j:Int)(hs:pK j=true)(δ:Dl):kQ (.pure (.int j)) δ = .ok (cx 0 j.toNat) δ:=by unfold kQ; simp only[hs,if_true]
theorem kF(w:Nat)(hw:w<=1000000)(δ:Dl):kQ (.pure (.int w)) δ = .ok (cx 0 w) δ:=by
 have:=O5 (w:Int) (O4 w hw) δ;rwa [Qy] at this
theorem yJ(h:(cx 0 n)[i]? = some d):i < n/\d = .int (i:Int):=by
 unfold cx at h;rw[Wh] at h;by_cases hi:i < n
 ·rw[WR hi] at h;simp at h;exact⟨hi,h.symm⟩
 ·rw[WB (by simpa using hi)] at h
  cases h
theorem u3(h:d ∈ cx 0 n):∃ i:Nat,i < n/\d = .int (i:Int):=by
 obtain⟨i,hi⟩:=List.getElem?_of_mem h;exact⟨i,yJ hi⟩
@[simp] theorem Xm (lo:Int) (n:Nat):(cx lo n).length=n:=by simp[cx]
def jt(x:Nat):List Nat->List Nat
 | []=>[x]
 | y :: r=>if y < x then y :: jt x r else x :: y :: r
def iW:List Nat->List Nat
 | []=>[]
 | x :: r=>jt x (iW r)
theorem Fd(a b:Nat):(([a]:Tx) < [b]) ↔ a < b:=by
 constructor
 ·intro h
  cases h with
  | cons h=>cases h
  | rel h=>exact h
 ·intro h; exact List.Lex.rel h
theorem Fe(x:Nat):∀ xs:List Nat,k_ [x] (xs.map λn=>[n])=(jt x xs).map λn=>[n]
 | []=>rfl
 | y :: r=>by
  simp only[Wu,k_,jt];by_cases h:y < x
  ·rw[if_pos ((Fd y x).mpr h),if_pos h,Fe x r]; rfl
  ·rw[if_neg λz=>h ((Fd y x).mp z),if_neg h]; rfl
theorem Ff:∀ xs:List Nat,iJ (xs.map λn=>[n])=(iW xs).map λn=>[n]
 | []=>rfl
 | x :: r=>by rw[Wu,iJ,Ff r,Fe]; rfl
theorem yK:∀ {xs:List Nat},y ∈ jt x xs ↔ y=x\/y ∈ xs
 | []=>by simp[jt]
 | z :: r=>by
  unfold jt;split
  ·simp[yK (xs:=r)]; constructor <;> (rintro (h | h | h) <;> simp[h])
  ·simp
theorem yM:∀ {xs:List Nat},y ∈ iW xs ↔ y ∈ xs
 | []=>by simp[iW]
 | x :: r=>by rw[iW,yK,yM (xs:=r)]; simp
theorem Fg(x:Nat):∀ xs:List Nat,(jt x xs).length=xs.length + 1
 | []=>rfl
 | y :: r=>by unfold jt; split <;> simp[Fg x r]
theorem Fh:∀ xs:List Nat,(iW xs).length=xs.length
 | []=>rfl
 | x :: r=>by rw[iW,Fg,Fh r]; rfl
theorem Fi:∀ {xs:List Nat},xs.Pairwise (· < ·)->x ∉ xs->(jt x xs).Pairwise (· < ·)
 | [],_,_=>by simp[jt]
 | y :: r,h,hx=>by
  rw[List.pairwise_cons] at h;simp at hx;unfold jt;split
  ·rename_i hl;rw[List.pairwise_cons];refine⟨λz hz=>?_,Fi h.2 hx.2⟩;rcases yK.mp hz with rfl | hz
   ·exact hl
   ·exact h.1 z hz
  ·rename_i hl;rw[List.pairwise_cons];refine⟨λz hz=>?_,JG.mpr h⟩;rcases Wl.mp hz with rfl | hz
   ·omega
   ·have:=h.1 z hz; omega
theorem Fj:∀ {xs:List Nat},xs.Nodup->(iW xs).Pairwise (· < ·)
 | [],_=>by simp[iW]
 | x :: r,h=>by
  rw[List.nodup_cons] at h;exact Fi (Fj h.2) λz=>h.1 (yM.mp z)
theorem Fm{P:Nat->Prop}:∀ {xs:List D},(∀ x ∈ xs,∃ n,P n/\x = .str [n])->∃ row:List Nat,xs=row.map (λn=>.str [n])/\∀ n ∈ row,P n
 | [],_=>⟨[],rfl,by simp⟩
 | x :: r,h=>by
  obtain⟨n,hn,rfl⟩:=h x Wj;obtain⟨row,rfl,hr⟩:=Fm (xs:=r) λy hy=>h y (Wa _ hy)
  exact⟨n :: row,rfl,by simpa using ⟨hn,hr⟩⟩
theorem O6{R:D->D->Prop}{ds xs:List D}{Q:D->Prop}(hn:xs.length=ds.length)(hf:∀ (i:Nat) d x,ds[i]? = some d->xs[i]? = some x->R d x)(hq:∀ d x,d ∈ ds->R d x->Q x):∀ x ∈ xs,Q x:=λx hx=>by
 obtain⟨i,hi⟩:=List.getElem?_of_mem hx;have h1:=(W6.mp hi).1;have h2:ds[i]? = some (ds[i]'(by omega)):=by simp[show i < ds.length by omega]
 exact hq _ x (WX _) (hf i _ x h2 hi)
theorem Fn(w:Nat)(hw:w<=100000)(δ:Dl):kQ (.pure (.int (1 + (w:Int)))) δ = .ok (cx 0 (1 + w)) δ:=by
 have:=kF (1 + w) (by omega) δ;rwa [show(((1 + w:Nat):Int))=1 + (w:Int) by omega] at this
abbrev cI(b:Nat×List Tx):D:=.tup [.str [b.1],fZ b.2]
abbrev au(h w:Nat)(bs:List (Nat×List Tx)):D:=.tup [.int h,.int w,.tup (bs.map cI)]
structure dQ(h w:Nat)(bs:List (Nat×List Tx)):Prop where
 h0:0 < h
 h1:h<=4
 w0:0 < w
 w1:w<=4
 hw:2 < h + w
 n0:0 < bs.length
 n1:bs.length<=26
 up:(bs.map (·.1)).Pairwise (· < ·)
 Xn:∀ b ∈ bs,97<=b.1/\b.1<=122
 oy:∀ b ∈ bs,b.2.length=h/\∀ r ∈ b.2,r.length=w/\∀ n ∈ r,n ∈ bs.map (·.1)
theorem gC(f F:A->D)(δ:Dl):∀ (as:List A) (acc:List D),acc.length + as.length<=We ->
  (∀ a ∈ as,∃ δ1 δ2 x δ3,g (.pure (f a)) δ=some δ1/\t δ1 = .ok true δ2/\el δ2 = .ok x δ3/\bT cs δ3=δ/\x.d=F a)->cU cs g t el (as.map f) δ acc = .ok (acc ++ as.map F) δ
 | [],acc,_,_=>by simp[cU]
 | a :: r,acc,hl,hs=>by
  obtain⟨δ1,δ2,x,δ3,e1,e2,e3,e4,e5⟩:=hs a Wj;have gL:acc.length < We:=by simp at hl; omega
  have ih:=gC (cs:=cs) (g:=g) (t:=t) (el:=el) f F δ r (acc ++ [x.d]) (by simp at hl ⊢; omega) (λa ha=>hs a (Wa _ ha));rw[Wu];unfold cU;rw[e1];rw[e5] at ih;simp only[e2,eB,if_true,e3,if_pos gL,e4,e5,ih];simp
end DV
set_option maxHeartbeats 400000
namespace L2
open PySem PySem.Spec PyProof.Rows PySem.W DV SU
section
variable {X:Cx}
end
end L2
namespace DV
open PySem PySem.Spec PyProof.Rows L2 SU
section
variable {X:Cx} {c:Fc} {e:Expr} {fb:BE} {pp pos Xo Xp:Pos}
end
end DV
namespace PySem
theorem O7:entryFor table "dict_itemiterator.__iter__" = some Builtin.«dict_keyiterator.__iter__» :=
 entryFor_alias (id':="dict_keyiterator.__iter__") (by kernel_rfl) rfl (by decide +kernel) (by kernel_rfl)
theorem Fo(hit:IsItemIter s.heap it d i n ep ok ov)(h:Q (.ref it) s):Wf (model prog w) A (pyIter (.ref it)) Q E s:=by
 have hT:s.TypeIs (.ref it) "dict_itemiterator":=⟨_,hit,rfl⟩
 refine wpAny_pyIter_slot hT F.slot_dict_itemiterator_iter (WW F.slot_dict_itemiterator_iter hT O7 ?_ (F.args_dict_itemiterator_iter_1 _));show Wf _ _ (ret (.ref it)) _ _ s;exact W7 ⟨_,rfl,"dict_itemiterator",_,hT,F.slot_dict_itemiterator_next.lookup,h⟩
end PySem
namespace L2
open PySem PySem.Spec PyProof.Rows
theorem Fp(h:(dA P w).is k u=true):RelV (kV k) u:=by
 rw[Br] at h;rcases jb h with ⟨i,t,rfl,rfl⟩ | ⟨x,t,rfl,rfl⟩
 ·exact⟨t,rfl⟩
 ·exact⟨t,rfl⟩
def Fq(a:Addr)(ob:Obj)(kvs:List (Key×V)):It :=
 ⟨λi H=>H a=some (.frz ob (.dK kvs))/\i < kvs.length,
  λi H v H'=>∃ p k x,H p=none/\kvs[i]? = some (k,x)/\H'=upd H p (.tup [kV k,x])/\v = .ref p,
  λi H=>H a=some (.frz ob (.dK kvs))/\i=kvs.length⟩
theorem KV.get{κ:Type}{kvs:List (κ×V)}{vs:List (κ×Value)}(r:KV kvs vs):∀ {i:Nat} {k:κ} {x:V},kvs[i]? = some (k,x)->∃ u,vs[i]? = some (k,u)/\RelV x u:=by
 unfold KV at r;induction r with
 | nil=>intro i k x e; simp at e
 | cons h t ih =>
  intro i k x e
  cases i with
  | zero =>
   simp at e;subst e;rename_i q _ _;obtain⟨q1,q2⟩:=q;obtain⟨h1,h2⟩:=h;simp at h1 h2;subst h1;exact⟨q2,by simp,h2⟩
  | succ i=>exact ih (by simpa using e)
theorem O8{P:Wm}{w:Wr}{K:W1}{elts:List Expr}{ctx}{pos:Pos}(a it:Addr)(ob:Obj)(kvs:List (Key×V))(es:Array DictEntry)(ep:Nat)(he:ob.data = .dict es ep) :
  Turn P w K (.Tuple elts ctx pos) (Fq a ob kvs) [it] it (λi h=>∃ ok ov,IsItemIter h it a i kvs.length ep ok ov):=by
 have at_:∀ {X:Cx} {pins s σ H},X.prog=P->X.w=w->Inv X pins σ H s->H a=some (.frz ob (.dK kvs))->∃ vs,KV kvs vs/\s.heap.DictAt (dA P w) a vs ep:=by
  intro X pins s σ H hP hw I e;subst hP hw;obtain⟨h1,h2⟩:s.heap.get? a=some ob/\cn X.prog X.w H s.heap a (.dK kvs):=I.aM a _ e;obtain⟨_,_,vs,r,o,es',ep',q1,q2,q3,q4⟩:=h2;rw[h1] at q1
  cases q1;rw[he] at q3
  cases q3;exact⟨vs,r,ob,es,h1,q2,he,q4⟩
 refine⟨by simp,?_,?_,?_,?_,?_⟩
 ·rintro i h ⟨ok,ov,q⟩ b hb;have e:b=it:=by simpa using hb
  subst e;exact⟨_,q,λv z=>by
   have z':Data.fields _=Data.cell v:=z
   cases z'⟩
 ·rintro i h h' ⟨ok,ov,q⟩ k;exact⟨ok,ov,k it (by simp) _ q⟩
 ·intro X hP hw hK hc i pins s σ H E I hf ⟨ok,ov,st⟩ ⟨hg,hi⟩;obtain⟨vs,r,hd⟩:=at_ hP hw I hg;subst hP hw hK;have hl:=r.length;have hx:kvs[i]? = some (kvs[i].1,kvs[i].2):=by simp[hi]
  obtain⟨u,hu,ru⟩:=KV.get r hx;have jV:it < s.heap.objs.size:=Wp st;rw[hl] at st;refine wpAny_pyNext_items_item st hd hu λkey h' hk hit hT hsz kp=>⟨_,rfl,wpAny_letOwnedTupleGo_items hit λh2 yN sb=>?_⟩
  have nz:s.heap.objs.size≠it:=Jf jV;have bx:∀ b ∈ [it],b < s.heap.objs.size:=λb hb=>by
   have e:b=it:=by simpa using hb
   subst e;exact jV
  have I2:Inv X pins σ (upd H s.heap.objs.size (.tup [kV kvs[i].1,kvs[i].2])) { s with heap:=h2,toks:=s.toks } :=
   Inv.ym (t':=s.toks) [it] I hf bx (Fp hk) ru ((sb.2 _ nz).trans hT) λb o hb e=>by
    have g:b≠it:=λz=>hb (by simp[z])
    exact(sb.2 b g).trans (kp b o g e)
  refine⟨.ref s.heap.objs.size,_,I2,rfl,⟨s.heap.objs.size,_,_,I.aM.fresh (Wg _),hx,rfl,rfl⟩,⟨_,_,by rw[hl]; exact yN⟩,λb hb=>?_⟩;have e:b=it:=by simpa using hb
  subst e;rw[bh (Ne.symm nz)];exact(hf _ hb).1
 ·intro X hP hw hK hc i pins s σ H E I hf ⟨ok,ov,st⟩ ⟨hg,hi⟩;obtain⟨vs,r,hd⟩:=at_ hP hw I hg;subst hP hw hK;have hl:=r.length;rw[hl] at st;refine wpAny_pyNext_items_end (I.ok.hd hc) st hd (by simp; omega) λh' eb=>⟨rfl,Inv.uO (t':=s.toks) [it] I (λb o hb e=>eb b o (λz=>hb (by simp[z])) e) hf⟩
 ·intro A i s Q E ⟨ok,ov,st⟩ h;exact Fo st h
section
variable {X:Cx} {o:Expr} {apos cg:Pos} {elts:List Expr} {ctx:Nat} {tp:Pos} {td:TE}
def O9(td:TE):TI:=λσ H R=>td σ H λv H1=>∃ a kvs,v = .ref a/\H1 a=some (.dK kvs)/\∀ ob,R (Fq a ob kvs) (upd H1 a (.frz ob (.dK kvs)))
theorem O_ (ho:PE X o td) (hb:QT o "items" X.env (eval o X.env)=eval o X.env:=by rfl) (hl:(apos.endLine == cg.line)=true:=by rfl) :
  PI X (.Tuple elts ctx tp) (.Call (.Attribute o "items" apos) [] [] cg) (O9 td):=by
 intro pins s σ H R I h;refine wpAny_Call_method (T:="dict") (id:="dict.items") hb rfl hl F.plainAttrs_dict JQ F.type_dict_items (a0 (ho pins s σ H _ I h) λu s1 ⟨x,H1,I1,rx,a,kvs,ex,ea,q⟩=>?_);subst ex;obtain rfl:u=Value.ref a:=rx;obtain⟨z,hS,vs,r,hm⟩:=tR I1.aM ea;refine⟨hm.typeIs,hm.mapOf.noDict,?_⟩;refine method_meetsIn JQ F.entry_dict_items rfl (PySem.evalArgs_none ⟨rfl,hm.typeIs,F.args_dict_items_1 _,_,meets_dict_items (dA X.prog X.w) a hS,⟨vs,hm⟩,?_⟩);obtain⟨ob,es,ep,g1,g2,g3,g4⟩:=id hm;have Pa:s1.heap.DictAt (dA X.prog X.w) a vs ep:=⟨ob,es,g1,g2,g3,g4⟩
 refine wpAny_pyIter_items (knd:=dA X.prog X.w) (d:=a) (kvs:=vs) (ep:=ep) ⟨_,Wn _ rfl,rfl,rfl⟩ (Pa.push _) ?_;generalize hh1:s1.heap.push { cls:=.type "dict_items",data:=.fields #[.ref a] } = h1;have up1:∀ b u,s1.heap.get? b=some u->h1.get? b=some u:=λb u e=>by rw[<- hh1]; exact Wd _ e
 have pW:s1.heap.objs.size<=h1.objs.size:=by rw[<- hh1,Qv]; exact Nat.le_succ _
 generalize hh2:h1.push { cls:=.type "dict_itemiterator",data:=.fields #[.none,.bool false,.ref a,.int 0 0,.int vs.length 0,.int ep 0,.none,.none] } = h2;have pX:∀ b u,s1.heap.get? b=some u->h2.get? b=some u:=λb u e=>by rw[<- hh2]; exact Wd _ (up1 b u e)
 have hit:IsItemIter h2 h1.objs.size a 0 kvs.length ep .none .none:=by rw[r.length,<- hh2]; exact Wn _ rfl
 have I2:Inv X pins σ (upd H1 a (.frz ob (.dK kvs))) { s1 with heap:=h2,toks:=s1.toks } :=
  I1.write (x:=a) (e:=a) (o:=.frz ob (.dK kvs)) (t':=s1.toks) (by rw[ea]; trivial) (.inl rfl) (λb u _ e=>pX b u e) ⟨ob,pX a ob g1⟩
   ⟨pX a ob g1,z,hS,vs,r,ob,es,ep,pX a ob g1,g2,g3,g4⟩
 refine⟨h1.objs.size,[h1.objs.size],_,_,_,rfl,I2,O8 a h1.objs.size ob kvs es ep g3,⟨_,_,hit⟩,λb hb=>?_,q ob⟩;have e:b=h1.objs.size:=by simpa using hb
 subst e;refine I1.ki pW ?_;rw[bh (Jf (Wv (Wp g1) pW))];exact I1.aM.fresh pW
end
end L2
namespace DV
open PySem PySem.Spec PyProof.Rows L2
def u4:bU->D
 | .inl i=>.int i
 | .inr x=>.str x
theorem Fs(k:bU):Rep H O (kV (dU k)) (u4 k):=by
 cases k with
 | inl i=>exact .int i
 | inr x=>exact .str x
def pY(ds:List (bU×D)):List D:=ds.map λp=>D.tup [u4 p.1,p.2]
section
variable {X:Cx} {c:Fc} {o:Expr} {i:Nat} {apos cg:Pos} {elts:List Expr} {ctx:Nat} {tp:Pos}
def rX(i:Nat):DI:=λδ=>match δ[i]? with
 | some (some (.own (.aC ds)))=>.ok (pY ds) (δ.set i none)
 | _=>.stuck
theorem Ok.freeze(k:Ok c σ δ H)(e:δ[i]? = some (some (.own (.aC ds))))(ea:σ[i]? = some (some (.ref a))) :
  ba c σ δ H σ (δ.set i none) (upd H a u):=by
 obtain⟨a',d_,oa,hI,nB⟩:=k.own i _ e;rw[ea] at d_
 cases d_;have hO:Own σ δ a:=⟨i,_,e,ea⟩
 have hi:i < δ.length:=(W6.mp e).1;have sub:∀ b,Own σ (δ.set i none) b->Own σ δ b:=λb ⟨j,d,f1,f2⟩=>by
  by_cases hj:i=j
  ·subst hj;rw[Wb hi] at f1
   cases f1
  ·rw[W5 hj] at f1;exact⟨j,d,f1,f2⟩
 have jq:∀ b,Av c σ (δ.set i none) b->Av c σ δ b:=λb z=>z.elim .inl λz=>.inr (sub b z)
 have kp:∀ b o,H b=some o->¬ Av c σ δ b->upd H a u b=some o:=λb o h n=>by
  rw[bh λz=>n (.inr (by rw[z]; exact hO))];exact h
 have th:∀ b o,H b=some o->∃ o',upd H a u b=some o':=λb o h=>by
  by_cases hb:b=a
  ·subst hb; exact⟨u,dH⟩
  ·exact⟨o,by rw[bh hb]; exact h⟩
 have up:∀ {v d},Rep H (Av c σ δ) v d->Rep (upd H a u) (Av c σ (δ.set i none)) v d:=λr=>(r.keep kp).aW λb z=>.inl (jq b z)
 refine⟨⟨λb o h n=>?_,λb h=>?_,λb h=>?_,by rw[Q3]; exact k.len,λj d f=>?_,λj d f=>?_,λj l b d1 d2 f1 f2 g1 g2=>?_,k.pinned⟩,λb o h n=>?_,λb z=>.inl (sub b z),th⟩
 ·have hb:b≠a:=λz=>by
   subst z;rcases hI with q | q
   ·exact n q
   ·rw[q] at h; cases h
  rw[bh hb];exact k.keep b o h n
 ·obtain⟨o,h'⟩:=k.bd b h;exact th b o h'
 ·obtain⟨o,h'⟩:=k.eQ b h;exact th b o h'
 ·have hj:i≠j:=λz=>by subst z; rw[Wb hi] at f; cases f
  rw[W5 hj] at f;obtain⟨v,g1,g2⟩:=k.slot j d f;exact⟨v,g1,up g2⟩
 ·have hj:i≠j:=λz=>by subst z; rw[Wb hi] at f; cases f
  rw[W5 hj] at f;obtain⟨b,g1,g2,g3⟩:=k.own j d f;have hb:b≠a:=λz=>by subst z; exact hj (k.inj i j b _ _ e f ea g1)
  exact⟨b,g1,(g2.keep kp λo h=>by rw[bh hb]; exact h).aW λb z=>.inl (jq b z),g3⟩
 ·have h1:i≠j:=λz=>by subst z; rw[Wb hi] at f1; cases f1
  have h2:i≠l:=λz=>by subst z; rw[Wb hi] at f2; cases f2
  rw[W5 h1] at f1;rw[W5 h2] at f2;exact k.inj j l b d1 d2 f1 f2 g1 g2
 ·rw[bh λz=>n (by rw[z]; exact hO)];exact h
theorem Pb (ho:PE X o (cJ i)) (hb:QT o "items" X.env (eval o X.env)=eval o X.env:=by rfl) (hl:(apos.endLine == cg.line)=true:=by rfl) :
  SI X c (.Tuple elts ctx tp) (.Call (.Attribute o "items" apos) [] [] cg) (rX i) :=
 PI.weak (O_ ho hb hl) λσ H R ⟨δ,k,q⟩=>by
  unfold rX at q;split at q
  case h_2=>exact q.elim
  rename_i ds e;obtain⟨a,ea,⟨ws,hw,hk,hr⟩,hI,nB⟩:=k.own i _ e;refine⟨.ref a,ea,a,ws,rfl,hw,λob=>?_⟩;have af:=k.freeze (u:=.frz ob (.dK ws)) e ea;refine q _ _ af λH2 kp=>?_
  have hi:i < δ.length:=(W6.mp e).1;have na:¬ Own σ (δ.set i none) a:=λ⟨j,d,f1,f2⟩=>by
   by_cases hj:i=j
   ·subst hj;rw[Wb hi] at f1
    cases f1
   ·rw[W5 hj] at f1;exact hj (k.inj i j a _ _ e f1 ea f2)
  have h2:H2 a=some (.frz ob (.dK ws)):=kp a _ dH na;have hlen:ws.length=ds.length:=by simpa using congrArg Js hk
  refine⟨⟨h2,by simp[pY,hlen]⟩,λj d f=>?_⟩;unfold pY at f;rw[Wh] at f
  cases ej:ds[j]? with
  | none=>rw[ej] at f; cases f
  | some qd =>
   rw[ej] at f
   cases f;have hj:j < ws.length:=by rw[hlen]; exact(W6.mp ej).1
   refine⟨⟨h2,hj⟩,λx H3 ⟨p,kk,xv,hp,hkv,e3,ex⟩=>.inr ⟨p,_,_,hp,e3,ex,rfl,?_⟩⟩;have vU:kk=dU qd.1:=by
    have:=congrArg (λl=>l[j]?) hk;simp only[Wh,hkv,ej,WF] at this;exact Wz this
   subst vU;have rv:Rep H (Av c σ δ) xv qd.2:=hr j _ _ hkv ej;have hO:Own σ δ a:=⟨i,_,e,ea⟩
   have Pc:Rep (upd H a (.frz ob (.dK ws))) (Av c σ (δ.set i none)) xv qd.2:=(rv.keep λb o h n=>by
    rw[bh λz=>n (.inr (by rw[z]; exact hO))];exact h).aW λb z=>.inl (z.elim .inl λ⟨j,d,f1,f2⟩=>.inr (by
     by_cases hj:i=j
     ·subst hj;rw[Wb hi] at f1
      cases f1
     ·rw[W5 hj] at f1;exact⟨j,d,f1,f2⟩))
   exact aN.two (Fs _) Pc
end
end DV
namespace L2
open PySem PySem.Spec PyProof.Rows
section
variable {X:Cx}
def Ft(K:W1):R2:=λx y H Q=>∃ l k xs,x = .ref l/\y = .int k/\cK K H l xs/\xs≠[]/\0<=k/\k<=1000/\xs.length<=1000/\∀ p,H p=none->Q (.ref p) (upd H p (.lst (Wc k.toNat xs).flatten))
theorem Pd:bP X (WV .Mult) (Ft X.K):=by
 intro pins s σ H x y v u Q I rx ry h;obtain⟨l,k,xs,rfl,rfl,hH,cZ,h1,h2,hz,q⟩:=h
 cases rx;obtain⟨t,rfl⟩:=ry;obtain⟨aj,r,pl,hl⟩:=I.list hH;obtain⟨⟨cls,dd,data,sl⟩,ho,hc,n,hd⟩:=pl.isList;simp only at hc hd;subst hc hd;have hlen:aj.toArray.size=xs.length:=by rw[Wo]; exact r.length.symm
 have kz:aj.toArray.isEmpty=false:=by
  cases aj with
  | nil=>exact absurd (r.ph.mp rfl) cZ
  | cons a b=>rfl
 have fU:We=16777216:=rfl;have Xq:xs.length * k.toNat<=1000000:=by
  have:xs.length * k.toNat<=1000 * 1000:=Qe hz (by omega);omega
 have uL:List.foldl (λx1 x2=>x1 ++ x2) #[] (Wc k.toNat aj.toArray)=(Wc k.toNat aj).flatten.toArray:=by
  have:=we aj k.toNat [];rw[J4] at this;exact this
 refine Jc (T:="list") (U:="int") (by decide) ⟨_,ho,rfl⟩ (λs'=>QG s' k t) noFill_list_mul F.fills_int_mul QP repeat_list F.slot_int_index.lookup
  (QO QP (QG s k t) F.entry_int_rmul (JP _ _) (lm_int_rmul_list_any k t l aj.toArray n dd sl)
   ⟨ho,rfl,⟨_,ho,rfl⟩,QO F.slot_list_mul ⟨_,ho,rfl⟩ F.entry_list_mul (F.args_list_mul_2 _ _) (lm_list_mul_any l aj.toArray n dd sl k t ?_ ?_ ?_) ⟨ho,?_⟩⟩)
 ·unfold Builtin.List.listFitsIndex;simp;omega
 ·rw[hlen]; omega
 ·rw[hlen];unfold Builtin.List.listTooLong;simp only[fU,decide_eq_true_eq];omega
 ·rw[if_neg (by rw[kz]; exact WH),uL];have I1:Inv X pins σ (upd H s.heap.objs.size (.lst (Wc k.toNat xs).flatten)) { s with heap:=s.heap.push { cls:=.type "list",data:=.seq (Wc k.toNat aj).flatten.toArray } } :=
   I.laid (t':=s.toks) (λb o e=>Wd _ e) (Wg _) (show cn X.prog X.w _ _ _ (.lst (Wc k.toNat xs).flatten) from⟨by rw[tO,JH]; omega,(Wc k.toNat aj).flatten,0,r.rep k.toNat,Wn _ rfl⟩)
  exact⟨.ref _,_,I1,rfl,q _ (I.aM.fresh (Wg _))⟩
end
end L2
namespace DV
open PySem PySem.Spec PyProof.Rows L2
def ly:D->D->Option S
 | .lst xs,.int k=>if 0<=k/\k<=1000/\0 < xs.length/\xs.length<=1000 then some (.own (.lst (Wc k.toNat xs).flatten)) else none
 | _,_=>none
theorem Pe{K:W1}:cF (Ft K) ly:=by
 intro c σ δ H x y d e s Q k rx ry hp q
 cases d <;> cases e <;> first | (simp[ly] at hp; done) | skip
 rename_i ds n;simp only[ly] at hp;split at hp
 ·rename_i h
  cases hp;obtain⟨a,vs,ex,ha,r⟩:=rx.lst;refine⟨a,n,vs,ex,ry.int,.inl ha,?_,h.1,h.2.1,by rw[r.1]; exact h.2.2.2,λp oi=>?_⟩
  ·intro z;rw[z] at r;have:=r.1;simp at this;omega
  ·exact q _ _ (.alloc k oi _) (bA.mh k (aN.rep r _) oi)
 ·cases hp
end DV
namespace L2
open PySem PySem.Spec PyProof.Rows
section
variable {X:Cx} {a b:Expr} {ta:TA} {pp pos yO yP:Pos}
end
end L2
namespace DV
open PySem PySem.Spec PyProof.Rows L2
section
variable {X:Cx} {c:Fc} {a b:Expr} {f g:DE} {pp pos yO yP:Pos}
end
section
variable {c:Fc} {σ σ':St} {δ δ':Dl} {H H':Hp} {i:Nat} {a p d:Addr} {dd:D}
theorem Fu(e:δ[i]? = some (some (.own dd)))(ea:σ[i]? = some (some (.ref a)))(b:Addr)(z:Av (c.dt i a) σ (δ.set i none) b):Av c σ δ b:=by
 rcases z with (z | z) | z
 ·exact .inl z
 ·subst z; exact .inr ⟨i,_,e,ea⟩
 ·exact .inr z.unset
theorem Ok.Pf(k:Ok c σ δ H)(e:δ[i]? = some (some (.own dd)))(ea:σ[i]? = some (some (.ref a))):Ok (c.dt i a) σ (δ.set i none) H:=by
 have sub:=Fu (c:=c) e ea;have ne:∀ j d,(δ.set i none)[j]? = some (some d)->i≠j/\δ[j]? = some (some d):=λj d q=>by
  by_cases hj:i=j
  ·subst hj;rw[Wb (W6.mp e).1] at q; cases q
  ·rw[W5 hj] at q; exact⟨hj,q⟩
 refine⟨λb o h n=>k.keep b o h λ⟨j,z⟩=>n ⟨j,Wa _ z⟩,λb z=>?_,λb ⟨j,z⟩=>?_,by rw[Q3]; exact k.len,λj d q=>?_,λj d q=>?_,λj l b d d' q1 q2=>?_,λp hp=>?_⟩
 ·rcases z with z | z
  ·exact k.bd b z
  ·subst z; exact k.me ⟨i,_,e,ea⟩
 ·rcases Wl.mp z with z | z
  ·cases z; exact k.me ⟨i,_,e,ea⟩
  ·exact k.eQ b ⟨j,z⟩
 ·obtain⟨_,q⟩:=ne j _ q;obtain⟨v,g1,g2⟩:=k.slot j d q;exact⟨v,g1,g2.aW λb z=>.inl (sub b z)⟩
 ·obtain⟨hj,q⟩:=ne j _ q;obtain⟨b,g1,g2,g3,g4⟩:=k.own j d q;refine⟨b,g1,g2.aW λb z=>.inl (sub b z),g3.imp (λ⟨l,z⟩=>⟨l,Wa _ z⟩) id,λz=>?_⟩;rcases z with z | z
  ·exact g4 z
  ·subst z; exact hj (k.inj i j b _ _ e q ea g1)
 ·exact k.inj j l b d d' (ne j _ q1).2 (ne l _ q2).2
 ·rcases Wl.mp hp with z | z
  ·subst z; exact ea
  ·exact k.pinned p z
theorem yQ{O:Addr->Prop}{u:HO}(hO:O a):∀ b o,H b=some o->¬ O b->upd H a u b=some o:=λb o h n=>by
 rw[bh λz=>n (by rw[z]; exact hO)];exact h
theorem Ok.u5(k:Ok c σ δ H)(hB:c.B a)(h0:c.I a\/c.H₀ a=none):Ok c σ δ (upd H a u):=by
 have kp:∀ b o,H b=some o->¬ Av c σ δ b->upd H a u b=some o:=yQ (.inl hB);have th:∀ b o,H b=some o->∃ o',upd H a u b=some o':=λb o h=>by
  by_cases hb:b=a
  ·subst hb; exact⟨u,dH⟩
  ·exact⟨o,by rw[bh hb]; exact h⟩
 refine⟨λb o h n=>?_,λb z=>(k.bd b z).elim λo h=>th b o h,λb z=>(k.eQ b z).elim λo h=>th b o h,k.len,λj d q=>?_,λj d q=>?_,k.inj,k.pinned⟩
 ·have hb:b≠a:=λz=>by
   subst z;rcases h0 with z | z
   ·exact n z
   ·rw[z] at h; cases h
  rw[bh hb];exact k.keep b o h n
 ·obtain⟨v,g1,g2⟩:=k.slot j d q;exact⟨v,g1,g2.keep kp⟩
 ·obtain⟨b,g1,g2,g3,g4⟩:=k.own j d q;have hb:b≠a:=λz=>g4 (by rw[z]; exact hB)
  exact⟨b,g1,g2.keep kp λo h=>by rw[bh hb]; exact h,g3,g4⟩
end
structure Gh(c:Fc)(i:Nat)(p d:Addr)(σ0:St)(δ0:Dl)(H0:Hp)(ws:List (Key×V))(ds:List (bU×D))(t:Tx)(σ:St)(δ:Dl)(H:Hp)(vs:List V)(xs:List D):Prop where
 ok:Ok ((c.plus p).dt i d) σ δ H
 hd:H d=some (.dK (putK ws (.inr (toS t)) (.ref p)))
 hp:H p=some (.lst vs)
 rv:aN H (Av ((c.plus p).dt i d) σ δ) vs xs
 dr:DR H (Av ((c.plus p).dt i d) σ δ) ws ds
 keep:∀ a o,H0 a=some o->¬ Own σ0 δ0 a->H a=some o
 own:∀ a,Own σ δ a->Own σ0 δ0 a\/H0 a=none
 there:∀ a o,H0 a=some o->∃ o',H a=some o'
section
variable {c:Fc} {i:Nat} {p d:Addr} {σ0 σ σ':St} {δ0 δ δ':Dl} {H0 H H':Hp} {ws:List (Key×V)} {ds:List (bU×D)} {t:Tx} {vs gf:List V} {xs j6:List D}
theorem yR(k:Ok c σ δ H)(h:c.B a):¬ Own σ δ a:=λ⟨j,e,f1,f2⟩=>by
 obtain⟨b,g1,_,_,g4⟩:=k.own j e f1;rw[f2] at g1
 cases g1;exact g4 h
theorem Gh.dW(g:Gh c i p d σ0 δ0 H0 ws ds t σ δ H vs xs)(x:ba ((c.plus p).dt i d) σ δ H σ' δ' H'):Gh c i p d σ0 δ0 H0 ws ds t σ' δ' H' vs xs:=by
 have nd:¬ Own σ δ d:=yR g.ok (.inr rfl);have np:¬ Own σ δ p:=yR g.ok (.inl (.inr rfl));refine⟨x.ok,x.keep _ _ g.hd nd,x.keep _ _ g.hp np,aN.dW g.rv x,g.dr.map λv d h=>Rep.dW h x,λa o e n=>x.keep a o (g.keep a o e n) λz=>?_,λa z=>?_,λa o e=>?_⟩
 ·rcases g.own a z with q | q
  ·exact n q
  ·rw[q] at e; cases e
 ·rcases x.own a z with q | q
  ·exact g.own a q
  ·refine .inr ?_
   cases h:H0 a with
   | none=>rfl
   | some o =>
    obtain⟨o',e⟩:=g.there a o h;rw[q] at e; cases e
 ·obtain⟨o',e'⟩:=g.there a o e;exact x.there a o' e'
theorem Gh.u5(g:Gh c i p d σ0 δ0 H0 ws ds t σ δ H vs xs)(h0:H0 p=none)(h1:c.H₀ p=none)(oz:d≠p)(r:aN H (Av ((c.plus p).dt i d) σ δ) gf j6):Gh c i p d σ0 δ0 H0 ws ds t σ δ (upd H p (.lst gf)) gf j6:=by
 have hB:((c.plus p).dt i d).B p:=.inl (.inr rfl);have kp:∀ b o,H b=some o->¬ Av ((c.plus p).dt i d) σ δ b->upd H p (.lst gf) b=some o:=yQ (.inl hB);refine⟨g.ok.u5 hB (.inr h1),by rw[bh oz]; exact g.hd,dH,aN.keep r kp,g.dr.map λv d h=>h.keep kp,λa o e n=>?_,g.own,λa o e=>?_⟩
 ·rw[bh λz=>by rw[z,h0] at e; cases e];exact g.keep a o e n
 ·by_cases ha:a=p
  ·subst ha; exact⟨_,dH⟩
  ·rw[bh ha]; exact g.there a o e
theorem Gh.done(g:Gh c i p d σ0 δ0 H0 ws ds t σ δ H vs xs)(hI:c.I d\/c.H₀ d=none)(nB:¬ c.B d)(hO:Own σ0 δ0 d)(yS:¬ c.B p)(oz:d≠p) :
  ba c σ0 δ0 H0 σ (δ.set i (some (.own (.aC (putD ds (.inr t) (.lst xs)))))) H:=by
 have k':=g.ok;have d_:σ[i]? = some (some (.ref d)):=k'.pinned (i,d) Wj;have k7:i < δ.length:=by rw[k'.len]; exact(W6.mp d_).1
 generalize hD:putD ds (.inr t) (.lst xs)=dz;have ne:∀ j e,(δ.set i (some (.own (.aC dz))))[j]? = some (some e)->(j=i/\e = .own (.aC dz))\/(i≠j/\δ[j]? = some (some e)):=λj e q=>by
  by_cases hj:i=j
  ·subst hj;rw[Wb k7] at q
   cases q; exact .inl ⟨rfl,rfl⟩
  ·rw[W5 hj] at q; exact .inr ⟨hj,q⟩
 have own:∀ b,Own σ (δ.set i (some (.own (.aC dz)))) b->b=d\/Own σ δ b:=λb ⟨j,e,q1,q2⟩=>by
  rcases ne j _ q1 with ⟨z,_⟩ | ⟨_,z⟩
  ·subst z; rw[d_] at q2; cases q2; exact .inl rfl
  ·exact .inr ⟨j,e,z,q2⟩
 have sub:∀ b,Av c σ (δ.set i (some (.own (.aC dz)))) b->Av ((c.plus p).dt i d) σ δ b:=λb z=>by
  rcases z with z | z
  ·exact .inl (.inl (.inl z))
  ·rcases own b z with z | z
   ·exact .inl (.inr z)
   ·exact .inr z
 have Fv:∀ (j:Nat) (e:D) (b:Addr),δ[j]? = some (some (.own e))->σ[j]? = some (some (.ref b))->b≠d:=λj e b q1 q2 z=>by
  obtain⟨b',g1,_,_,g4⟩:=k'.own j e q1;rw[q2] at g1; cases g1
  exact g4 (.inr z)
 have np:¬ Av c σ (δ.set i (some (.own (.aC dz)))) p:=λz=>by
  rcases z with z | z
  ·exact yS z
  ·rcases own p z with z | z
   ·exact oz z.symm
   ·exact yR k' (.inl (.inr rfl)) z
 have an:∀ {v e},Rep H (Av ((c.plus p).dt i d) σ δ) v e->Rep H (Av c σ (δ.set i (some (.own (.aC dz))))) v e:=λr=>r.aW λb z=>.inl (sub b z)
 refine⟨⟨λb o h n=>?_,λb z=>k'.bd b (.inl (.inl z)),λb ⟨j,z⟩=>k'.eQ b ⟨j,Wa _ z⟩,by rw[Q3]; exact k'.len,λj e q=>?_,λj e q=>?_,λj l b e e' q1 q2 s1 s2=>?_,λp hp=>k'.pinned p (Wa _ hp)⟩,g.keep,λb z=>?_,g.there⟩
 ·refine k'.keep b o h λ⟨j,z⟩=>?_
  rcases Wl.mp z with z | z
  ·cases z;rcases hI with f3 | f3
   ·exact n f3
   ·rw[show c.H₀ d=some o from h] at f3; cases f3
  ·exact n ⟨j,z⟩
 ·rcases ne j _ q with ⟨_,z⟩ | ⟨_,q⟩
  ·cases z
  ·obtain⟨v,g1,g2⟩:=k'.slot j e q;exact⟨v,g1,an g2⟩
 ·rcases ne j _ q with ⟨z,z'⟩ | ⟨hj,q⟩
  ·subst z; cases z'
   have rl:Rep H (Av c σ (δ.set j (some (.own (.aC dz))))) (.ref p) (.lst xs):=.lst np (.inl g.hp) g.rv.1 λn v e e1 e2=>an (g.rv.2 n v e e1 e2)
   have dr:=(g.dr.map λv e h=>an h).put (k:=.inr t) rl;rw[hD] at dr;exact⟨d,d_,⟨_,g.hd,dr.keys,dr.vals⟩,hI,nB⟩
  ·obtain⟨b,g1,g2,g3,g4⟩:=k'.own j e q;refine⟨b,g1,g2.aW λb z=>.inl (sub b z),g3.imp (λ⟨l,z⟩=>?_) id,λz=>g4 (.inl (.inl z))⟩;rcases Wl.mp z with z | z
   ·cases z; exact absurd (.inr rfl) g4
   ·exact⟨l,z⟩
 ·rcases ne j _ q1 with ⟨z,_⟩ | ⟨hj,z1⟩ <;> rcases ne l _ q2 with ⟨z',_⟩ | ⟨hl,z2⟩
  ·rw[z,z']
  ·subst z; rw[d_] at s1; cases s1; exact absurd rfl (Fv l _ _ z2 s2)
  ·subst z'; rw[d_] at s2; cases s2; exact absurd rfl (Fv j _ _ z1 s1)
  ·exact k'.inj j l b e e' z1 z2 s1 s2
 ·rcases own b z with z | z
  ·subst z; exact .inl hO
  ·exact g.own b z
end
def lz(j m:Nat)(t:Tx)(g:DG)(b:DS):Tx->List D->Dl->Rs (List D)
 | [],xs,δ=>.ok xs δ
 | ch :: r,xs,δ=>match g (.pure (.str [ch])) δ with
  | none=>.stuck
  | some δ1=>(b δ1).bind λfl δ2=>match fl,δ2[j]?,δ2[m]? with
   | .next,some (some (.pure (.str t'))),some (some (.pure (.int n)))=>if t'=t/\0<=n then match xs[n.toNat]? with
    | some (.int q)=>lz j m t g b r (xs.set n.toNat (.int (q + 1))) δ2
    | _=>.stuck else .stuck
   | _,_,_=>.stuck
def oA(i j m:Nat)(f1 fi:DE)(g:DG)(b:DS):DS:=λδ=>if oo δ i then(f1 δ).bind λr δ1=>match r,δ1[i]?,δ1[j]? with
 | .own (.lst xs),some (some (.own (.aC ds))),some (some (.pure (.str t)))=>if ds.length < We then
   (fi (δ1.set i none)).bind λz δ2=>match z with
    | .pure (.str tx)=>(lz j m t g b tx xs δ2).bind λj6 δ3=>.ok .next (δ3.set i (some (.own (.aC (putD ds (.inr t) (.lst j6))))))
    | _=>.stuck
   else .stuck
 | _,_,_=>.stuck else .stuck
section
variable {X:Cx} {c:Fc}
def Pg(K:W1)(i j m:Nat):TS :=
 qB (jJ (iG λi j=>.int (i + j)) (jJ (qK K) (jJ rR (cJ i) (cJ j)) (cJ m)) (tC (.int 1))) (BN (jJ rR (cJ i) (cJ j)) (cJ m) Cq)
theorem Ph{i j m:Nat}{o1 o2 o3 x1 x2 x3 y2 y3 e1 iter tg:Expr}{st:Stmt}{rest:List Stmt}{f1 fi:DE}{g:DG}{b fr:DS}{p1 p2 p3 p4 p5 p6 p7 p8 p9 Pj:Pos}{jj}
  (hu:X.A.units + 64 < WT) (hp:PassesOwn (model X.prog X.w) X.A X.env X.xe) (hc:X.calm=true)
  (Pk:PE X o1 (cJ i)) (rY:PE X x1 (cJ j)) (he:SE X c e1 f1)
  (kT:PE X o2 (cJ i)) (u6:PE X x2 (cJ j)) (Pl:PE X y2 (cJ m)) (Pm:PE X o3 (cJ i)) (Pn:PE X x3 (cJ j)) (Po:PE X y3 (cJ m))
  (hi:∀ p d,SE X ((c.plus p).dt i d) iter fi) (hg:∀ p d,SG X ((c.plus p).dt i d) tg g) (hb:∀ p d,SS X ((c.plus p).dt i d) st b) (hr:jm X c rest fr)
  (n2:pj x2) (n3:pj x3) (m2:pj y2)
  (Pp:Jp e1 (some (.Subscript o1 x1 p1)) p2.line X.env=pure false:=by rfl)
  (rq:∀ x,QS iter X.env x=pure x:=by intro _; rfl)
  (ha:∀ v,assign (.Subscript (.Subscript o3 x3 p7) y3 p8) X.env v=(do
   let ov <- holding [v] (eval (.Subscript o3 x3 p7) X.env)
   let iv <- holding [v,ov] (eval y3 X.env)
   standAt p8
   holding [v,ov,iv] (setItem ov iv v)
   release [v,ov,iv] []):=by intro _; rfl)
  (wJ:Jq [.Subscript (.Subscript o3 x3 p7) y3 p8] (.BinOp (.Subscript (.Subscript o2 x2 p3) y2 p4) .Add (.Constant (.int 1) jj p5) p6) p9.line X.env=pure false:=by rfl)
  (Pq:Jr [.Subscript (.Subscript o3 x3 p7) y3 p8] (.BinOp (.Subscript (.Subscript o2 x2 p3) y2 p4) .Add (.Constant (.int 1) jj p5) p6) X.env=pure none:=by rfl)
  (h1:(Qb [.Subscript (.Subscript o3 x3 p7) y3 p8] X.env).map (·.2)=[assign (.Subscript (.Subscript o3 x3 p7) y3 p8) X.env]:=by rfl) :
  jm X c (.Assign [.Subscript o1 x1 p1] e1 p2 :: .For tg iter [st,.Assign [.Subscript (.Subscript o3 x3 p7) y3 p8] (.BinOp (.Subscript (.Subscript o2 x2 p3) y2 p4) .Add (.Constant (.int 1) jj p5) p6) p9] [] Pj :: rest) (az (oA i j m f1 fi g b) fr):=by
 have Pr:PS X (.Assign [.Subscript (.Subscript o3 x3 p7) y3 p8] (.BinOp (.Subscript (.Subscript o2 x2 p3) y2 p4) .Add (.Constant (.int 1) jj p5) p6) p9) (Pg X.K i j m) :=
  vM (vR BZ (qJ bH (qJ (ye hu) kT u6 n2) Pl m2) By) (BO (qJ (ye hu) Pm Pn n3) Po Cr ha) wJ Pq h1
 refine fg.weak (s_ (CG (by omega) Pk rY he Pp) (s_ (BU hp hc (Ew (tl:=λσ H Q=>∃ p d,tD ((c.plus p).dt i d) fi σ H Q) λpins s σ H Q I ⟨p,d,q⟩=>hi p d pins s σ H Q I q)
  (g:=λv σ H Q=>∃ p d,uw ((c.plus p).dt i d) g v σ H Q) (λpins s σ H v u Q I r ⟨p,d,q⟩=>hg p d pins s σ H v u Q I r q)
  (s_ (t:=λD σ H=>∃ p d,rA ((c.plus p).dt i d) b D σ H) (λpins s σ H D I ⟨p,d,q⟩=>hb p d pins s σ H D I q) (BC Pr)) rq) hr)) λD σ H ⟨δ,k,q⟩=>?_
 unfold az oA fQ at q;rw[bM] at q;split at q
 case isFalse=>exact q.elim
 rename_i gz;obtain⟨ds0,e0⟩:=ER gz;obtain⟨d,ed,_,hI,nB⟩:=k.own i _ e0;have hO:Own σ δ d:=⟨i,_,e0,ed⟩
 rw[bM] at q;refine⟨δ,k,aY q λr δ1 q1 v H1 a1 r1=>?_⟩;split at q1
 case h_2=>exact q1.elim
 rename_i xs ds t eI eJ;split at q1
 case isFalse=>exact q1.elim
 rename_i hlen;obtain⟨p,ev,⟨vs,n8,rvs⟩,yS,hp0,kp1,hHp⟩:=r1;subst ev;obtain⟨d',ed',⟨ws,hws,hkeys,hvals⟩,hI',nB'⟩:=kp1.own i _ eI;rw[ed] at ed'
 cases ed';obtain⟨vt,et,rt⟩:=a1.ok.slot j _ eJ
 cases rt;have oz:d≠p:=λz=>by
  obtain⟨o,e⟩:=k.me hO;rw[z,hHp] at e
  cases e
 have Pt:DR H1 (Av (c.plus p) σ δ1) ws ds:=DR.of hkeys hvals;have qO:ws.length < We:=by
  have:ws.length=ds.length:=by simpa using congrArg Js hkeys
  omega
 refine⟨.ref d,ed,.str (toS t),et,d,_,rfl,pq.k (k:=.inr (toS t)) hws qO,?_⟩;have av:=Fu (c:=c.plus p) eI ed;have Fw:((c.plus p).dt i d).B d:=.inr rfl;have Pu:∀ b o,H1 b=some o->¬ Av ((c.plus p).dt i d) σ (δ1.set i none) b->upd H1 d (.dK (putK ws (.inr (toS t)) (.ref p))) b=some o:=yQ (.inl Fw);have up:∀ {v e},Rep H1 (Av (c.plus p) σ δ1) v e->Rep (upd H1 d (.dK (putK ws (.inr (toS t)) (.ref p)))) (Av ((c.plus p).dt i d) σ (δ1.set i none)) v e:=λr=>(r.aW λb z=>.inl (av b z)).keep Pu
 have G0:Gh c i p d σ δ H ws ds t σ (δ1.set i none) (upd H1 d (.dK (putK ws (.inr (toS t)) (.ref p)))) vs xs:=by
  refine⟨(kp1.Pf eI ed).u5 Fw (.inl ⟨i,Wj⟩),dH,by rw[bh oz.symm]; exact n8,⟨rvs.1,λn v e e1 e2=>up (rvs.2 n v e e1 e2)⟩,Pt.map λv e h=>up h,λa o e n=>?_,λa z=>?_,λa o e=>?_⟩
  ·rw[bh λz=>n (by rw[z]; exact hO)];exact a1.keep a o e n
  ·exact a1.own a z.unset
  ·obtain⟨o',e'⟩:=a1.there a o e;by_cases ha:a=d
   ·subst ha; exact⟨_,dH⟩
   ·exact⟨o',by rw[bh ha]; exact e'⟩
 rw[bM] at q1;refine⟨p,d,δ1.set i none,G0.ok,?_⟩;have w8:post ((c.plus p).dt i d) (fi (δ1.set i none)) _:=q1;refine aY w8 λz δ2 q2 u H2 a2 r2=>?_
 split at q2
 case h_2=>exact q2.elim
 rename_i tx
 cases r2;have G2:=G0.dW a2;rw[bM] at q2;refine .inr (.inr ⟨toS tx,rfl,?_⟩);have hsz:(toS tx).cps.size=tx.length:=by simp[toS]
 refine⟨λn mm σ2 H2=>∃ δ2 vs2 xs2,mm=tx.length - n/\n<=tx.length/\Gh c i p d σ δ H ws ds t σ2 δ2 H2 vs2 xs2/\post c (lz j m t g b (tx.drop n) xs2 δ2) (λj6 δ3=>post c (Rs.ok (α:=Fl) .next (δ3.set i (some (.own (.aC (putD ds (.inr t) (.lst j6))))))) λfl δ4=>post c (match fl with | .next=>fr δ4 | fl=>.ok fl δ4) λfl δ'=>∀ σ' H',ba c σ δ H σ' δ' H'->fin c D σ' δ' H' fl),⟨tx.length,δ2,vs,xs,by simp,Qg _,G2,by rw[List.drop_zero]; exact q2⟩,?_⟩;rintro n mm σ2 H2 ⟨δ2,vs2,xs2,rfl,hn,G,q3⟩;by_cases bx:n < tx.length
 ·right
  refine⟨by show n < (toS tx).cps.size; rw[hsz]; exact bx,λσ4 H4=>∃ δ4 vs4 xs4,Gh c i p d σ δ H ws ds t σ4 δ4 H4 vs4 xs4/\post c (lz j m t g b (tx.drop (n + 1)) xs4 δ4) (λj6 δ3=>post c (Rs.ok (α:=Fl) .next (δ3.set i (some (.own (.aC (putD ds (.inr t) (.lst j6))))))) λfl δ4=>post c (match fl with | .next=>fr δ4 | fl=>.ok fl δ4) λfl δ'=>∀ σ' H',ba c σ δ H σ' δ' H'->fin c D σ' δ' H' fl),
   λσ4 H4 ⟨δ4,vs4,xs4,G4,q4⟩=>⟨tx.length - (n + 1),by omega,δ4,vs4,xs4,rfl,bx,G4,q4⟩,λx H3 ⟨eH,ch,ec,ex⟩=>?_⟩
  subst eH ex;have Pw:tx[n]=ch:=by
   have:(toS tx).cps[n]? = some tx[n]:=by simp[toS,bx]
   rw[this] at ec;exact Wz ec
  rw[Qr bx,Pw] at q3;unfold lz at q3
  cases eg:g (.pure (.str [ch])) δ2 with
  | none=>rw[eg] at q3; exact q3.elim
  | some δ3 =>
   rw[eg] at q3;refine⟨p,d,σ2,δ2,H3,δ2,.pure (.str [ch]),δ3,.refl G.ok,.str [ch],eg,λσ3 a3=>?_⟩;have G3:=G.dW a3;dsimp only at q3;rw[bM] at q3;refine⟨p,d,δ3,G3.ok,?_⟩;have Px:post ((c.plus p).dt i d) (b δ3) _:=q3;refine aY Px λfl δ4 q4 σ4 H4 a4=>?_
   have G4:=G3.dW a4;split at q4
   case h_2=>exact q4.elim
   rename_i t' nn eJ4 eM4;split at q4
   case isFalse=>exact q4.elim
   rename_i hcond;obtain⟨rfl,h0⟩:=hcond;split at q4
   case h_2=>exact q4.elim
   rename_i qv eq;have Fx:σ4[i]? = some (some (.ref d)):=G4.ok.pinned (i,d) Wj;obtain⟨v1,f1',yr⟩:=G4.ok.slot j _ eJ4
   cases yr;obtain⟨v2,f2',r2'⟩:=G4.ok.slot m _ eM4
   cases r2';obtain⟨v3,ev3,r3'⟩:=G4.rv.get eq
   cases r3';have Xr:nn.toNat < vs2.length:=(W6.mp ev3).1;have Fy:dS vs2.length nn=some nn.toNat:=by
    unfold dS;rw[if_pos h0,if_pos (by omega)]
   have pL:dC vs2 nn=some (.int qv):=by
    unfold dC;rw[Fy];exact ev3
   have Fz:dI (putK ws (Sum.inr (toS t')) (.ref p)) (Sum.inr (toS t'))=some (.ref p):=by rw[Lx,if_pos rfl]
   refine⟨.ref d,Fx,.str (toS t'),f1',d,_,.inr (toS t'),.ref p,rfl,G4.hd,rfl,Fz,.int nn,f2',.inl ⟨p,vs2,nn,.int qv,rfl,rfl,.inl (.inl G4.hp),pL,qv,1,rfl,rfl,?_⟩⟩;refine⟨.ref d,Fx,.str (toS t'),f1',d,_,.inr (toS t'),.ref p,rfl,G4.hd,rfl,Fz,.int nn,f2',p,vs2,nn,nn.toNat,rfl,rfl,G4.hp,Fy,?_⟩;exact⟨δ4,_,_,G4.u5 hHp hp0 oz (G4.rv.set (.int (qv + 1)) nn.toNat),q4⟩
 ·left
  have qy:n=tx.length:=by omega
  subst qy;rw[List.drop_length] at q3;refine⟨hsz.symm,?_⟩;have aF:=G.done hI nB hO yS oz;exact⟨_,aF.ok,aY q3 λfl δ' q5 σ' H' a5=>q5 σ' H' (aF.trans a5)⟩
end
section
variable {X:Cx} {c:Fc} {σ:St} {δ:Dl} {H:Hp} {x y:Nat} {a:Addr} {d:D}
end
end DV
namespace PySem.ZW
open Sem (wp)
section
variable {prog:Wm} {w:Wr} {A:Wt} {E:Value->W2->Prop} {s:W2} {z TI TO i1 i2 l1 l2 a:Addr} {f:Bool} {oa:Obj} {k:Nat} {xs ys:Array Value} {x y:Value}
end
end PySem.ZW
namespace PySem.ZW
open Sem (wp)
section
variable {prog:Wm} {w:Wr} {A:Wt} {E:Value->W2->Prop} {s:W2} {z TI TO i1 i2 l1 l2 S:Addr} {xs ys:Array Value} {R:Result->W2->Prop} {res:Value}
end
end PySem.ZW
namespace PySem.ZW
open Sem (wp)
section
variable {prog:Wm} {w:Wr} {A:Wt} {E:Value->W2->Prop} {s:W2} {z TI TO i1 i2 l1 l2:Addr} {xs ys:Array Value}
end
end PySem.ZW
namespace L2
open PySem PySem.Spec PyProof.Rows
section
variable {X:Cx} {a b:Expr} {ta:TA} {pp pos yO yP:Pos} {elts:List Expr} {ctx:Nat} {tp:Pos}
end
end L2
namespace DV
open PySem PySem.Spec PyProof.Rows L2
section
variable {X:Cx} {c:Fc} {a b:Expr} {f g:DE} {pp pos yO yP:Pos} {elts:List Expr} {ctx:Nat} {tp:Pos}
end
section
variable {X:Cx}
theorem Py (hc:X.calm=true):eK X (.builtin "sum") (λxs H Q=>∃ (a:Addr) (ns:List Int),xs=[.ref a]/\cK X.K H a (ns.map V.int)/\Q (.int ns.sum) H):=by
 intro pins s σ H xs us Q I r h;obtain⟨a,ns,rfl,hq,q⟩:=h;obtain⟨u,rfl,ru⟩:=gO r
 cases ru;obtain⟨aj,r',p,_⟩:=I.list hq;obtain⟨ys,rfl,rfl⟩:=qR r';have hl:=p.isList;have el:(ys.map λp=>Value.int p.1 p.2).toArray=intItems ys.toArray:=by simp[intItems]
 rw[el] at hl;refine sum_intListG (I.ok.hd hc) hl λh' tk t' hk=>?_
 refine⟨.int (ys.map (·.1)).sum,H,I.kept hk,⟨t',by rw[preSum_eq,Jm (by simp)]⟩,q⟩
end
def gq:D->Option S
 | .lst ds=>match kB ds with
  | some ns=>some (.pure (.int ns.sum))
  | _=>none
 | _=>none
section
variable {X:Cx} {c:Fc} {e:Expr} {fb:BE} {pos pp:Pos}
theorem rZ (hc:X.calm=true) (hg:Gl X "sum") (hm:X.mg "sum" = none) (he:SB X c e fb) (hs:Wk [e] X.env=(false,eval e X.env) :: Wk [] X.env:=by rfl):SE X c (.Call (.Name "sum" pp) [e] [] pos) (aH gq fb) :=
 rj (r:=λv H Q=>∃ (a:Addr) (ns:List Int),v = .ref a/\cK X.K H a (ns.map V.int)/\Q (.int ns.sum) H) (Py hc) (λv H Q ⟨a,bs,e,h⟩=>⟨a,bs,by rw[e],h⟩) (λc σ δ H x d s Q k rx hp q=>by
  cases d with
  | lst ds =>
   simp only[gq] at hp
   cases e:kB ds with
   | none=>rw[e] at hp; cases hp
   | some bs =>
    rw[e] at hp;simp only[W8] at hp;subst hp;obtain⟨a,vs,ea,ha,ra⟩:=rx.lst;have:=ES e ra;subst this;exact⟨a,bs,ea,.inl ha,q _ H (.refl k) (.int _)⟩
  | _=>simp[gq] at hp) hg hm PyProof.Rows.boot_sum he (by decide) (by decide) hs
end
def mK(i j:Int):Bool:=decide (Jx i<=67108864) && decide (Jx j<=67108864)
theorem ju:bP X (WV .Mult) (rI (λi j=>mK i j=true) λi j=>.int (i * j)):=nD λi j _ _ _ _ _ hc q=>by
 have hc:mK i j=true:=hc;unfold mK at hc;simp only[Ww,decide_eq_true_eq] at hc;exact PyProof.Rows.mul_int q (IntMulOk.of_le hc.1 hc.2 (by decide))
def cL:=fj mK λi j=>.int (i * j)
theorem jv:cF (rI (λi j=>mK i j=true) λi j=>V.int (i * j)) cL:=nU (λi j h=>h) λ_ _ _ _=>.int _
theorem Pz{n k:Nat}(h:n < 2 ^ k):Jx (n:Int)<=k:=by
 unfold Jx;split
 ·exact Qg _
 ·rename_i h0;have hn:n≠0:=by simpa using h0
  have:=(Nat.log2_lt hn).mpr h;have e:(n:Int).natAbs=n:=rfl;rw[e];omega
end DV
namespace L2
open PySem PySem.Spec PyProof.Rows
section
variable {P:Wm} {w:Wr} {K:W1} {mg:Str->Option Value} {base:Heap}
end
section
variable {X:Cx} {pins:List (Addr×Obj)} {σ:St} {H:Hp} {s:W2} {fa:Addr} {qual:Str} {params:Arguments} {body:Expr} {scope:Scope} {cl:List (Str×Addr)} {fr:List Str} {fv:List V} {p:Str} {u:Value} {v:V} {k:Nat} {t:TE} {Q:VK}
end
end L2
namespace DV
open PySem PySem.Spec PyProof.Rows L2
section
variable {c:Fc} {σ:St} {δ:Dl} {H H':Hp}
end
end DV
namespace L2
open PySem PySem.Spec PyProof.Rows
end L2
namespace DV
open PySem PySem.Spec PyProof.Rows L2
section
variable {X:Cx} {c:Fc} {e:Expr} {fb:BE} {pos pp p:Pos}
end
end DV
namespace L2
open PySem PySem.Spec PyProof.Rows
section
variable {X:Cx} {pins:List (Addr×Obj)} {σ:St} {H:Hp} {s:W2} {params:Arguments} {body:Expr} {scope:Scope} {pos:Pos} {cl:List (Str×Addr)} {c P:Addr} {fr:List Str} {fv:List V} {js:List Nat} {Q:Value->W2->Prop} {E:Value->W2->Prop}
end
end L2
namespace DV
open PySem PySem.Spec PyProof.Rows L2
abbrev yT:=List (Addr×Pos×Str)
section
variable {P:Wm} {w:Wr} {K:W1} {mg:Str->Option Value} {base:Heap}
end
section
variable {P:Wm} {w:Wr} {K:W1} {mg:Str->Option Value} {base:Heap}
end
section
variable {X:Cx} {c:Fc} {e:Expr} {es:List Expr} {as:List Ak} {k n:Nat} {x:Str} {G:DF} {pp pos:Pos} {ts:yT}
end
section
variable {X:Cx} {c:Fc} {e:Expr} {fe fb:DE} {params:Arguments} {body:Expr} {scope:Scope} {Xs pos pp:Pos} {P code:Addr} {cl:List (Str×Addr)} {fr:List Str} {js:List Nat} {p x:Str} {kl kw m:Nat} {Xt:Addr->(D->Option D)->DS} {W:(D->Option D)->D->Option D} {ts:yT}
end
open PySem (sizeLine)
section
variable {P:Wm} {w:Wr} {K:W1} {mg:Str->Option Value} {base:Heap}
end
section
variable {X:Cx} {c:Fc} {e:Expr} {es:List Expr} {as:List Ak} {k n:Nat} {x:Str} {G:DX} {pp pos:Pos} {ts:yT}
end
def kG(np:List Nat)(i j:Nat)(f:Dl->Rs (List D)):DS:=λδ=>if np.contains i || np.contains j then .stuck else(f δ).bind λds δ1=>match ds with
 | [d,e]=>.ok .next ((δ1.set i (some (.pure d))).set j (some (.pure e)))
 | _=>.stuck
theorem yU{kt k2 pt2}(hp:Np c np)(hc:X.calm=true)(hN:X.N.Nodup)(hi:X.N[i]? = some x)(hj:X.N[j]? = some y)(qC:i≠j)
  (hx:X.env.scope.names.lookup x=some .local) (hy:X.env.scope.names.lookup y=some .local) (ha:SA X c [a,b] f)
  (hw:Jr [.Tuple [.Name x px,.Name y py] kt pt] (.Tuple [a,b] k2 pt2) X.env=pure (some [x,y]):=by rfl)
  (hs:Jq [.Tuple [.Name x px,.Name y py] kt pt] (.Tuple [a,b] k2 pt2) pos.line X.env=pure false:=by rfl) :
  SS X c (.Assign [.Tuple [.Name x px,.Name y py] kt pt] (.Tuple [a,b] k2 pt2) pos) (kG np i j f):=PS.weak (IZ hc hN hi hj qC hx hy ha.pa hw hs) λD σ H ⟨δ,k,q⟩=>by
 unfold kG at q;split at q
 ·exact q.elim
 ·rename_i aw;simp only[Bool.or_eq_true,not_or,Bool.not_eq_true] at aw;have ne:∀ (l:Nat),np.contains l=false->∀ p ∈ c.pin,p.1≠l:=λl hl p wY z=>by
   have:=hp p wY;rw[z,hl] at this
   cases this
  unfold fQ at q;rw[bM] at q;refine⟨δ,k,aY q λds δ1 q1 vs H1 a1 r1=>?_⟩;match ds,q1,r1 with
  | [],q1,_=>exact q1.elim
  | [_],q1,_=>exact q1.elim
  | _ :: _ :: _ :: _,q1,_=>exact q1.elim
  | [d,e],q1,r1 =>
   match vs,r1 with
   | [],r1=>exact absurd r1.1 (by simp)
   | [_],r1=>exact absurd r1.1 (by simp)
   | _ :: _ :: _ :: _,r1=>exact absurd r1.1 (by simp)
   | [v,w],r1 =>
    have x0:=Ok.set (i:=i) (v:=v) (r:=.pure d) (ba.refl a1.ok) r1.head (ne i aw.1);have x1:=Ok.set (i:=j) (v:=w) (r:=.pure e) (a1.trans x0) (Rep.dW r1.tail.head x0) (ne j aw.2);exact⟨v,w,rfl,q1 _ H1 x1⟩
end DV
namespace L2
open PySem PySem.Spec PyProof.Rows
section
variable {X:Cx} {pins:List (Addr×Obj)} {σ:St} {H:Hp} {s:W2} {a:Addr} {kvs:List (Key×V)} {k:Key} {u:Value} {A:Wt} {E:Value->W2->Prop}
end
section
variable {X:Cx} {o e f:Expr} {apos cg:Pos} {td ty tx:TE}
end
end L2
namespace DV
open PySem PySem.Spec PyProof.Rows L2
section
variable {X:Cx} {c:Fc} {e:Expr} {fe:DE} {pos:Pos}
end
section
variable {X:Cx}
end
end DV
namespace L2
open PySem PySem.Spec PyProof.Rows PySem.SeqAt DV
open Classical in
noncomputable def fnI (aj:List Value) (ds:List D) (d:D) (y:Value):Bool:=decide (∃ (i:Nat) (e:D),aj[i]? = some y/\ds[i]? = some e/\aK e d=true)
section
variable {X:Cx}
end
end L2
namespace DV
open PySem PySem.Spec PyProof.Rows L2
def mL:D->Option S
 | .int i=>some (.pure (.int (if i < 0 then -i else i)))
 | _=>none
section
variable {X:Cx} {c:Fc} {o e:Expr} {fa fb:DE}
theorem FA {fb:BE} {pp pos:Pos} (hg:Gl X "abs") (hm:X.mg "abs" = none) (he:SB X c e fb) (hs:Wk [e] X.env=(false,eval e X.env) :: Wk [] X.env:=by rfl):SE X c (.Call (.Name "abs" pp) [e] [] pos) (aH mL fb) :=
 rj (r:=λv H Q=>∃ i,v = .int i/\Q (.int (if i < 0 then -i else i)) H) Kx (λv H Q ⟨i,e,h⟩=>⟨i,by rw[e],h⟩) (λc σ δ H x d s Q k rx hp q=>by
  cases d with
  | int i =>
   simp only[mL,W8] at hp;subst hp;exact⟨i,rx.int,q _ H (.refl k) (.int _)⟩
  | _=>simp[mL] at hp) hg hm PyProof.Rows.boot_abs he (by decide) (by decide) hs
end
def u7:=fj (λ_ j=>decide (j≠0)) λi j=>.int (i.fmod j)
theorem PB:cF (rI (λ_ j=>j≠0) λi j=>V.int (i.fmod j)) u7:=nU (λi j h=>by simpa using h) λ_ _ _ _=>.int _
def mM:Nat:=2 ^ 8000
def FC(_ j:Int):Prop:=j≠0/\j.natAbs < mM
theorem mN:bP X (WV .FloorDiv) (rI FC λi j=>.int (i.fdiv j)):=nD λi j _ _ _ _ _ hc q=>by
 have h1:j≠0:=hc.1;have h2:j.natAbs < 2 ^ 8000:=hc.2;have h3:=(Nat.log2_lt (by omega:j.natAbs≠0)).mpr h2;exact floordiv_int h1 q (.inl (PyProof.noPylong_of_log2 (by omega)))
def r8(_ j:Int):Bool:=decide (j≠0) && decide (j.natAbs < mM)
def fz:=fj r8 λi j=>.int (i.fdiv j)
theorem mO:cF (rI FC λi j=>V.int (i.fdiv j)) fz:=nU (λi j h=>by
 unfold r8 at h;simp only[Ww,decide_eq_true_eq] at h;exact h) λ_ _ _ _=>.int _
theorem PD(i j:Int)(h:j≠0):u7 (.int i) (.int j)=some (.pure (.int (i.fmod j))):=by
 show(if decide (j≠0) then some (S.pure (.int (i.fmod j))) else none)=_;rw[decide_eq_true h]; rfl
theorem mP(i j:Int)(h:j≠0)(h1:j.natAbs < mM):fz (.int i) (.int j)=some (.pure (.int (i.fdiv j))):=by
 show(if r8 i j then some (S.pure (.int (i.fdiv j))) else none)=_;have:r8 i j=true:=by unfold r8; rw[decide_eq_true h,decide_eq_true h1]; rfl
 rw[this]; rfl
end DV
namespace L2
open PySem PySem.Spec PyProof.Rows PySem.SeqAt
mutual
def lA:NK->Nat
 | .i _=>1
 | .s _=>1
 | .t ks=>jw ks + 1
def jw:List NK->Nat
 | []=>0
 | k :: ks=>lA k + jw ks
end
inductive dR (h:Heap):Nat->NK->Value->Prop
 | int {n:Nat} (z:Int) (t:Tok):dR h n (.i z) (.int z t)
 | bl {n:Nat} (b:Bool):dR h n (.i (if b then 1 else 0)) (.bool b)
 | str {n:Nat} (x:Str) (t:Tok):dR h n (.s x) (.str x t)
 | tup {n:Nat} {a:Addr} {aj:Array Value} {ks:List NK}:h.IsTuple a aj->ks.length=aj.toList.length->(∀ (i:Nat) k v,ks[i]? = some k->aj.toList[i]? = some v->dR h n k v)->dR h (n + 1) (.t ks) (.ref a)
section
variable {h h':Heap} {n:Nat}
theorem PF{α β:Type}{xs ys:List α}{vs:List β}(h1:xs.length=vs.length)(h2:ys.length=vs.length)(q:∀ (i:Nat) x y v,xs[i]? = some x->ys[i]? = some y->vs[i]? = some v->x=y):xs=ys:=by
 apply List.ext_getElem (by omega);intro i a b;exact q i _ _ vs[i] (W4 a) (W4 b) (W4 (by omega))
theorem dR.inj{x:NK}{v:Value}(r:dR h n x v):∀ {m:Nat} {y:NK},dR h m y v->x=y:=by
 induction r with
 | int z t=>intro m y k; cases k; rfl
 | bl b=>intro m y k; cases k; rfl
 | str x t=>intro m y k; cases k; rfl
 | @tup n a aj ks h1 h2 h3 ih =>
  intro m y k
  cases k with
  | @tup m _ its' ks' k1 k2 k3 =>
   obtain⟨o,e,c,q,d⟩:=h1;obtain⟨o',e',c',q',d'⟩:=k1;rw[e] at e'; cases e'
   rw[d] at d'; cases d'
   rw[PF h2 k2 λi x y v e1 e2 e3=>ih i x v e1 e3 (k3 i y v e2 e3)]
theorem dR.kept(r:dR h n x v)(k:∀ b aj,h.IsTuple b aj->h'.IsTuple b aj):dR h' n x v:=by
 induction r with
 | int z t=>exact .int z t
 | bl b=>exact .bl b
 | str x t=>exact .str x t
 | tup h1 h2 h3 ih=>exact .tup (k _ _ h1) h2 ih
theorem dR.up(r:dR h n x v):∀ {m:Nat},n<=m->dR h m x v:=by
 induction r with
 | int z t=>intro m _; exact .int z t
 | bl b=>intro m _; exact .bl b
 | str x t=>intro m _; exact .str x t
 | tup h1 h2 h3 ih =>
  intro m l;obtain⟨m,rfl⟩:∃ m',m=m' + 1:=⟨m - 1,by omega⟩
  exact .tup h1 h2 λi k v e1 e2=>ih i k v e1 e2 (by omega)
end
section
variable {prog:Wm} {w:Wr} {E:Value->W2->Prop}
theorem PH(h:Q (hashInt (if b then 1 else 0)) { s with toks:=s.toks + 1 }):Wf (model prog w) A (PySem.pyHash (.bool b)) Q E s:=by
 have z:reduceHash (if b then 1 else 0)=hashInt (if b then 1 else 0):=by cases b <;> decide +kernel
 refine PySem.W.pyHash_slot (id:="int.__hash__") (T:="bool") (hT:=rfl) (slot:=F.slot_bool_hash) (entry:=entry_int_hash) (args:=args_int_hash _) (hid:=beq_builtin_none _) (hu:=.inl rfl) (body:=?_)
 cases b
 ·exact(show Wf _ _ (mkInt 0 >>= λv=>ret v) _ _ _ from W0 (wpAny_mkInt (W7 ⟨_,_,rfl,z ▸ h⟩)))
 ·exact(show Wf _ _ (mkInt 1 >>= λv=>ret v) _ _ _ from W0 (wpAny_mkInt (W7 ⟨_,_,rfl,z ▸ h⟩)))
theorem FD(w:Wr):∀ ks:List NK,sR w ks=ks.map (fT w)
 | []=>rfl
 | k :: ks=>by simp only[sR,Wu,FD w ks]
theorem FE:∀ xs ys:List NK,jw (xs ++ ys)=jw xs + jw ys
 | [],ys=>by simp[jw]
 | x :: xs,ys=>by simp only[List.cons_append,jw,FE xs ys]; omega
theorem dR.pyHash(r:dR h n k v):∀ {A:Wt} {s:W2} {Q:Int->W2->Prop},s.heap=h->A.units + n < WT->Q (fT w k) { s with toks:=s.toks + lA k }->Wf (model prog w) A (PySem.pyHash v) Q E s:=by
 induction r with
 | int z t=>intro A s Q _ _ q; exact wpAny_pyHash_int q
 | bl b=>intro A s Q _ _ q; exact PH q
 | str x t=>intro A s Q _ _ q; exact wpAny_pyHash_str q
 | @tup n a aj ks h1 h2 h3 ih =>
  intro A s Q hs hu q;subst hs;obtain⟨o,ho,hc,m,hd⟩:=id h1;have hT:s.TypeIs (.ref a) "tuple":=⟨o,ho,hc⟩
  refine PySem.W.pyHash_slot (T:="tuple") hT F.slot_tuple_hash F.entry_tuple_hash (F.args_tuple_hash_1 _) (beq_builtin_none _) (.inr (by omega)) ?_;show Wf _ _ (Builtin.Tuple.tupleItemsOf (.ref a) >>= _) _ _ s;refine W0 (wpAny_tupleItemsOf ho hd ?_);refine W0 ?_;rw[<- Array.forIn_toList];refine wpAny_forIn_list _ (λrest (b:Array Int) s'=>∃ i,i<=ks.length/\rest=aj.toList.drop i/\b.toList=(ks.take i).map (fT w)/\s' = { s with toks:=s.toks + jw (ks.take i) })
   _ ?_ ?_ _ _ ⟨0,Qg _,rfl,rfl,by simp[jw]⟩
  ·rintro x rest b s' ⟨i,hi,hr,hb,rfl⟩;have bx:i < aj.toList.length:=by
    rcases Nat.lt_or_ge i aj.toList.length with z | z
    ·exact z
    ·rw[List.drop_eq_nil_of_le z] at hr; cases hr
   rw[Qr bx] at hr;injection hr with hx hr
   have mE:i < ks.length:=by omega
   refine W0 (ih i ks[i] x (W4 mE) (by rw[hx]; exact W4 bx) rfl (show A.units + 1 + n < WT by omega) ?_);have ht:ks.take (i + 1)=ks.take i ++ [ks[i]]:=by rw[List.take_succ,W4 mE]; rfl
   have fin:∃ j,j<=ks.length/\rest=aj.toList.drop j/\(b.push (fT w ks[i])).toList=(ks.take j).map (fT w)/\({ s with toks:=s.toks + jw (ks.take i) + lA ks[i] }:W2) = { s with toks:=s.toks + jw (ks.take j) }:=by
    refine⟨i + 1,mE,hr,by rw[ht,Qh,Array.toList_push,hb]; rfl,?_⟩;rw[ht,FE];simp only[jw];rw[Nat.add_zero,Nat.add_assoc]
   first
    | exact W7 fin
    | exact W0 (W7 (W7 fin))
  ·rintro b s' ⟨i,hi,hr,hb,rfl⟩;have hz:i=ks.length:=by
    have:=congrArg Js hr;simp at this;simp at h2;omega
   subst hz;rw[List.take_length] at hb ⊢;show Wf _ _ (retInt (Builtin.Tuple.tupleHashOf b.toList)) _ _ _;rw[hb];refine W0 (wpAny_mkInt (W7 ⟨_,_,rfl,?_⟩));simp only[fT,lA,FD] at q;simpa[Nat.add_assoc] using q
theorem dR.quiet(r:dR s.heap n k v):∀ {A:Wt} {m:Nat} {Q:Bool->W2->Prop},n<=m->Q true s->Wf (model prog w) A (eqIsQuiet m v) Q E s:=by
 induction r with
 | int z t=>intro A m Q _ q; rw[eqIsQuiet_byValue _ rfl]; exact W7 q
 | bl b=>intro A m Q _ q; rw[eqIsQuiet_byValue _ rfl]; exact W7 q
 | str x t=>intro A m Q _ q; rw[eqIsQuiet_byValue _ rfl]; exact W7 q
 | @tup n a aj ks h1 h2 h3 ih =>
  intro A m Q hm q;obtain⟨o,ho,hc,mm,hd⟩:=id h1;have hT:s.TypeIs (.ref a) "tuple":=⟨o,ho,hc⟩
  obtain⟨m,rfl⟩:∃ m',m=m' + 1:=⟨m - 1,by omega⟩
  unfold eqIsQuiet;refine W0 (wpAny_specialOf hT F.slot_tuple_eq.lookup ?_);show Wf _ _ (isInstance (.ref a) (.type "tuple") >>= _) _ _ s;refine W0 (wpAny_isInstance hT isSubtype_tuple_tuple ?_);simp only[Bool.not_true,Bool.false_eq_true,if_false];refine W0 (QI ho hd ?_);refine W0 ?_;show Wf _ _ (forIn aj _ _) _ _ s;rw[<- Array.forIn_toList];refine wpAny_forIn_list _ (λrest r s'=>r.1=none/\s'=s/\∃ i,rest=aj.toList.drop i) _ ?_ ?_ _ _ ⟨rfl,rfl,0,rfl⟩
  ·rintro x rest r s' ⟨hr,rfl,i,hi⟩;have bx:i < aj.toList.length:=by
    rcases Nat.lt_or_ge i aj.toList.length with z | z
    ·exact z
    ·rw[List.drop_eq_nil_of_le z] at hi; cases hi
   rw[Qr bx] at hi;injection hi with hx hi
   have mE:i < ks.length:=by omega
   refine W0 (ih i ks[i] x (W4 mE) (by rw[hx]; exact W4 bx) (by omega) ?_);simp only[Bool.not_true,Bool.false_eq_true,if_false];exact W7 ⟨rfl,rfl,i + 1,hi⟩
  ·rintro ⟨r1,r2⟩ s' ⟨hr,rfl,_⟩;simp only at hr;subst hr;exact W7 q
theorem mQ(a b:Int):decide (NK.i a=NK.i b)=(a == b):=by
 by_cases e:a=b
 ·subst e; simp
 ·rw[decide_eq_false λq=>e (NK.i.inj q)]; exact(beq_eq_false_iff_ne.mpr e).symm
theorem yV(a b:Str):decide (NK.s a=NK.s b)=(a == b):=by
 by_cases e:a=b
 ·subst e; simp
 ·rw[decide_eq_false λq=>e (NK.s.inj q)]; exact(beq_eq_false_iff_ne.mpr e).symm
theorem yW(a b:Bool):(a == b)=(((if a then 1 else 0:Int)) == (if b then 1 else 0:Int)):=by cases a <;> cases b <;> rfl
theorem PJ(he:∀ (j:Nat) x y,xs[j]? = some x->ys[j]? = some y->e j=decide (x=y)):((W3 (min xs.length ys.length)).all e && xs.length == ys.length)=decide (NK.t xs=NK.t ys):=by
 by_cases hl:xs.length=ys.length
 ·rw[<- hl,Nat.min_self];simp only[beq_self_eq_true,Bool.and_true];by_cases hx:xs=ys
  ·subst hx;rw[decide_eq_true rfl,Q5];intro j hj;have:=WA.mp hj;rw[he j xs[j] xs[j] (W4 this) (W4 this)];simp
  ·rw[decide_eq_false λq=>hx (NK.t.inj q)];rw[List.all_eq_false];apply Classical.byContradiction;intro hn;apply hx;apply List.ext_getElem hl;intro j a b;apply Classical.byContradiction;intro cZ;refine hn ⟨j,WA.mpr a,?_⟩;rw[he j _ _ (W4 a) (W4 b)];simpa using cZ
 ·rw[decide_eq_false λq=>hl (by rw[NK.t.inj q])];simp[hl]
theorem dR.PK(r:dR s.heap n x u):∀ {A:Wt} {m:Nat} {y:NK} {v:Value},dR s.heap m y v->A.units + n < WT->EqAt A s u v (decide (x=y)):=by
 induction r with
 | int z t =>
  intro A m y v k hu
  cases k with
  | int z' t'=>rw[mQ]; exact EqAt.int_int _ _ _ _
  | bl b=>rw[mQ]; exact EqAt.int_bool _ _ _
  | str x t'=>rw[decide_eq_false (λq=>nomatch q)]; exact EqAt.int_str _ _ _ _
  | tup k1 k2 k3=>rw[decide_eq_false (λq=>nomatch q)]; exact EqAt.int_tuple _ _ k1 (by omega)
 | bl b =>
  intro A m y v k hu
  cases k with
  | int z' t'=>rw[mQ]; exact EqAt.bool_int _ _ _
  | bl b=>rw[mQ,<- yW]; exact EqAt.bool_bool _ _
  | str x t'=>rw[decide_eq_false (λq=>nomatch q)]; exact EqAt.bool_str _ _ _
  | tup k1 k2 k3=>rw[decide_eq_false (λq=>nomatch q)]; exact EqAt.bool_tuple _ k1 (by omega)
 | str x t =>
  intro A m y v k hu
  cases k with
  | int z' t'=>rw[decide_eq_false (λq=>nomatch q)]; exact EqAt.str_int _ _ _ _
  | bl b=>rw[decide_eq_false (λq=>nomatch q)]; exact EqAt.str_bool _ _ _
  | str x t'=>rw[yV]; exact EqAt.str_str _ _ _ _
  | tup k1 k2 k3=>rw[decide_eq_false (λq=>nomatch q)]; exact EqAt.str_tuple _ _ k1 (by omega)
 | @tup n a aj ks h1 h2 h3 ih =>
  intro A m y v k hu
  cases k with
  | int z' t'=>rw[decide_eq_false (λq=>nomatch q)]; exact EqAt.tuple_int _ _ h1 (by omega)
  | bl b=>rw[decide_eq_false (λq=>nomatch q)]; exact EqAt.tuple_bool _ h1 (by omega)
  | str x t'=>rw[decide_eq_false (λq=>nomatch q)]; exact EqAt.tuple_str _ _ h1 (by omega)
  | @tup m' b its' ks' k1 k2 k3 =>
   by_cases km:a=b
   ·subst km;have e:NK.t ks=NK.t ks':=dR.inj (dR.tup h1 h2 h3) (dR.tup k1 k2 k3);rw[decide_eq_true e];exact EqAt.same _
   ·refine EqAt.of_refs km ?_;let e:Nat->Bool:=λj=>match ks[j]?,ks'[j]? with
     | some x,some y=>decide (x=y)
     | _,_=>false
    have z1:aj.size=ks.length:=by simpa using h2.symm
    have z2:its'.size=ks'.length:=by simpa using k2.symm
    have q:=RcAt.tuples (A:=A) (s:=s) (e:=e) h1 k1 (by omega) λj j1 j2=>by
     have l1:j < ks.length:=by omega
     have l2:j < ks'.length:=by omega
     have ee:e j=decide (ks[j]=ks'[j]):=by simp only[e,W4 l1,W4 l2]
     rw[ee];exact ih j ks[j] aj[j] (W4 l1) (by simp[j1]) (k3 j ks'[j] its'[j] (W4 l2) (by simp[j2])) (show A.units + 1 + n < WT by omega)
    rw[z1,z2,PJ λj x y e1 e2=>by simp only[e,e1,e2]] at q;exact q
end
theorem PL{es ep}(ho:h.get? d=some o)(hd:o.data = .dict es ep)(hs:QK d h h'):∀ b aj,h.IsTuple b aj->h'.IsTuple b aj:=λb aj ⟨o',e,c,n,q⟩=>by
 have cZ:b≠d:=by
  rintro rfl;rw[e] at ho; cases ho
  rw[hd] at q; exact nomatch q
 exact⟨o',(hs.2 b cZ).trans e,c,n,q⟩
noncomputable def nkKind (prog:Wm) (w:Wr):HeapKind prog w NK where
 is:=λh k a=>dR h 6 k (.ref a)
 hash:=fT w
 draws:=lA
 room:=λA=>A.units + 6 < WT
 inj:=λhx hy=>hx.inj hy
 keeps:=λx ho hd hs=>x.kept (PL ho hd hs)
 pyHash:=λhu hk h=>hk.pyHash rfl hu h
 eqBool:=λhu hx hy h=>hx.PK hy hu _ _ _ _ h
 quiet:=λhk h=>hk.quiet (by omega) h
def kN:Key->NK
 | .inl z=>.i z
 | .inr x=>.s x
theorem PM(h:kN p=kN q):p=q:=by
 cases p <;> cases q <;> first | (cases h; rfl) | cases h
def mR(h:Heap)(m:Bool)(k:NK)(u:Value):Prop:=match m with
 | true=>∃ a,u = .ref a/\dR h 6 k u
 | false=>∃ q:Key,iC q u=true/\k=kN q
theorem PN(h1:iC p u=true)(h2:iC q u=true):p=q:=by
 rcases jb h1 with ⟨i,t,rfl,rfl⟩ | ⟨x,t,rfl,rfl⟩ <;> rcases jb h2 with ⟨j,t',rfl,e⟩ | ⟨y,t',rfl,e⟩ <;> cases e <;> rfl
def ent(w:Wr)(x:NK×Value×Value):DictEntry:=⟨fT w x.1,x.2.1,x.2.2⟩
section
variable {prog:Wm} {w:Wr} {A:Wt} {E:Value->W2->Prop} {s:W2}
theorem PR(hu:A.units + 6 < WT)(hk:mR s.heap m k u)(h:Q (fT w k) { s with toks:=s.toks + lA k }):Wf (model prog w) A (PySem.pyHash u) Q E s:=by
 cases m with
 | true=>obtain⟨a,rfl,r⟩:=hk; exact r.pyHash rfl hu h
 | false =>
  obtain⟨q,h1,rfl⟩:=hk;refine(dA prog w).pyHash (k:=q) h1 ?_
  cases q <;> exact h
theorem FG:∀ {xs:List (NK×Value×Value)},(∀ x ∈ xs,mR h true x.1 x.2.1)->∃ ys:List (NK×Addr×Value),xs=ys.map λy=>(y.1,Value.ref y.2.1,y.2.2)
 | [],_=>⟨[],rfl⟩
 | x :: xs,q=>by
  obtain⟨ys,e⟩:=FG (xs:=xs) λy hy=>q y (Wa _ hy)
  obtain⟨a,e1,_⟩:=q x Wj;exact⟨(x.1,a,x.2.2) :: ys,by rw[Wu,<- e]; simp only[<- e1]⟩
theorem PU{m:Bool}{k:NK}{u:Value}{d:Addr}{o:Obj}{es ep}{xs:List (NK×Value×Value)}{Q:Option Nat->W2->Prop}(hu:A.units + 6 < WT)(hk:mR s.heap m k u)
  (ho:s.heap.get? d=some o) (hd:o.data = .dict es ep) (he:es.toList=xs.map (ent w)) (hx:∀ x ∈ xs,mR s.heap m x.1 x.2.1) (hn:(xs.map (·.1)).Nodup)
  (FH:(∀ (j:Nat) p,xs[j]?≠some (k,p))->Q none s) (FI:∀ (j:Nat) p,xs[j]? = some (k,p)->Q (some j) s):Wf (model prog w) A (dictFind d u (fT w k)) Q E s:=by
 cases m with
 | true =>
  obtain⟨a,rfl,r⟩:=hk;obtain⟨ys,rfl⟩:=FG hx;refine wpAny_dictFind_heap (knd:=nkKind prog w) (xs:=ys) hu r ho hd (by rw[he,Wy]; rfl) (λy hy=>?_) (by rw[Wy] at hn; exact hn) (λkU=>FH λj p e=>?_) λj p e=>?_
  ·obtain⟨b,e1,e2⟩:=hx _ (Ji hy)
   cases e1;exact e2
  ·rw[Wh] at e
   cases q:ys[j]? with
   | none=>rw[q] at e; cases e
   | some y =>
    rw[q] at e;simp only[WF,W8] at e;exact kU j y.2 (by rw[q,<- show y.1=k from congrArg Prod.fst e])
  ·exact FI j (.ref p.1,p.2) (by rw[Wh,e]; rfl)
 | false =>
  obtain⟨q,h1,rfl⟩:=hk;have kz:∀ (j:Nat) e,es[j]? = some e->∃ x,xs[j]? = some x/\e=ent w x:=λj e z=>by
   rw[<- Jo,he,Wh] at z
   cases y:xs[j]? with
   | none=>rw[y] at z; cases z
   | some x=>rw[y] at z; simp only[WF,W8] at z; exact⟨x,rfl,z.symm⟩
  have ks:KeysOf (dA prog w) es:=λe xQ=>by
   obtain⟨j,hj⟩:=List.mem_iff_getElem?.mp (Array.mem_toList_iff.mpr xQ);obtain⟨x,e1,rfl⟩:=kz j e (by rw[<- Jo]; exact hj);obtain⟨q',e2,e3⟩:=hx x (WO e1);refine⟨q',e2,?_⟩;show fT w x.1=_;rw[e3]
   cases q' <;> rfl
  have hh:fT w (kN q)=(dA prog w).hash q:=by cases q <;> rfl
  rw[hh];refine wpAny_dictFind_of (knd:=dA prog w) (k:=q) h1 ho hd ks ?_
  cases hf:es.findIdx? λe=>(dA prog w).is q e.key with
  | none =>
   refine FH λj p e=>?_
   have hj:j < xs.length:=(W6.mp e).1;have hz:es.size=xs.length:=by rw[<- QX,he,Q9]
   obtain⟨x,e1,e2⟩:=kz j es[j] (by simp[hz,hj]);rw[e] at e1; cases e1
   have:=Array.findIdx?_eq_none_iff.mp hf es[j] (Array.getElem_mem _);obtain⟨q',e3,e4⟩:=hx _ (WO e);rw[PM e4] at this;rw[e2] at this;have z:iC q' p.1=false:=this;rw[show iC q' p.1=true from e3] at z
   cases z
  | some j =>
   obtain⟨bx,hp,_⟩:=Array.findIdx?_eq_some_iff_getElem.mp hf;obtain⟨x,e1,e2⟩:=kz j es[j] (by simp[bx]);obtain⟨q',e3,e4⟩:=hx x (WO e1);rw[e2] at hp;have:q=q':=PN (show iC q x.2.1=true from hp) e3;subst this;exact FI j x.2 (by rw[e1,<- e4])
noncomputable def atN (xs:List (NK×Value×Value)) (k:NK):Option (Value×Value):=(xs.find? λx=>decide (x.1=k)).map (·.2)
noncomputable def stN (xs:List (NK×Value×Value)) (k:NK) (u v:Value):List (NK×Value×Value):=if (xs.any λx=>decide (x.1=k))=true then xs.map λx=>if x.1=k then(x.1,x.2.1,v) else x else xs ++ [(k,u,v)]
theorem PV(h:∀ (j:Nat) p,xs[j]?≠some (k,p)):atN xs k=none/\(xs.any λx=>decide (x.1=k))=false:=by
 have z:∀ x ∈ xs,decide (x.1=k)=false:=λx hx=>by
  obtain⟨j,hj⟩:=List.mem_iff_getElem?.mp hx;exact decide_eq_false λe=>h j x.2 (by rw[hj,<- e])
 refine⟨?_,by rw[JN]; exactλx hx=>by rw[z x hx]; simp⟩;unfold atN;rw[List.find?_eq_none.mpr λx hx=>by rw[z x hx]; simp];rfl
theorem FJ:∀ {xs:List (NK×Value×Value)} {k:NK} {j:Nat} {p:Value×Value},(xs.map (·.1)).Nodup->xs[j]? = some (k,p)->atN xs k=some p/\(xs.any λx=>decide (x.1=k))=true
 | [],k,j,p,_,e=>by simp at e
 | x :: xs,k,j,p,hn,e=>by
  rw[Wu,List.nodup_cons] at hn
  cases j with
  | zero=>simp at e; subst e; simp[atN]
  | succ j =>
   have e':xs[j]? = some (k,p):=by simpa using e
   have cZ:¬ x.1=k:=λz=>hn.1 (by rw[z]; exact Wq.mpr ⟨_,WO e',rfl⟩)
   obtain⟨h1,h2⟩:=FJ hn.2 e';refine⟨?_,by rw[Qd,h2]; simp⟩;unfold atN at h1 ⊢;rw[Q4,decide_eq_false cZ];exact h1
theorem PX{m:Bool}{k:NK}{u:Value}{d:Addr}{o:Obj}{es ep}{xs:List (NK×Value×Value)}{Q:Option Value->W2->Prop}(hu:A.units + 6 < WT)(hk:mR s.heap m k u)
  (ho:s.heap.get? d=some o) (hd:o.data = .dict es ep) (he:es.toList=xs.map (ent w)) (hx:∀ x ∈ xs,mR s.heap m x.1 x.2.1) (hn:(xs.map (·.1)).Nodup)
  (h:Q ((atN xs k).map (·.2)) { s with toks:=s.toks + lA k }):Wf (model prog w) A (dictGet d u) Q E s:=by
 unfold dictGet;try with_reducible refine Ql ?_
 refine W0 (PR hu hk (W0 (PU (s:={ s with toks:=s.toks + lA k }) hu hk ho hd he hx hn ?_ ?_)))
 ·intro kU;rw[(PV kU).1] at h;exact W7 h
 ·intro j p hj;rw[(FJ hn hj).1] at h;refine W0 (JR (s:={ s with toks:=s.toks + lA k }) ho hd ?_);rw[<- Jo,he,Wh,hj];exact W7 h
end
inductive lC (H:Hp):Nat->NK->V->Prop
 | int {n:Nat} (z:Int):lC H n (.i z) (.int z)
 | bl {n:Nat} (b:Bool):lC H n (.i (if b then 1 else 0)) (.bl b)
 | str {n:Nat} (x:Str):lC H n (.s x) (.str x)
 | tup {n:Nat} {a:Addr} {vs:List V} {ks:List NK}:H a=some (.tup vs)->ks.length=vs.length->(∀ (i:Nat) k v,ks[i]? = some k->vs[i]? = some v->lC H n k v)->lC H (n + 1) (.t ks) (.ref a)
def oB(H:Hp)(m:Bool)(k:NK)(v:V):Prop:=match m with
 | true=>(∃ a,v = .ref a)/\lC H 6 k v
 | false=>∃ q:Key,k=kN q/\v=kV q
theorem Vals.PY{xs:List V}{us:List Value}(r:Vals xs us){i:Nat}{u:Value}(e:us[i]? = some u):∃ x,xs[i]? = some x/\RelV x u:=by
 have h1:=r.length;have h2:i < xs.length:=by have:=(W6.mp e).1; omega
 obtain⟨u',e',rr⟩:=r.get (W4 h2);rw[e] at e'; cases e'
 exact⟨_,W4 h2,rr⟩
theorem lC.nk{P:Wm}{w:Wr}{H:Hp}{h:Heap}{n:Nat}{k:NK}{v:V}(ok:cQ P w H h)(r:lC H n k v):∀ {u:Value},RelV v u->dR h n k u:=by
 induction r with
 | int z=>intro u q; obtain⟨t,rfl⟩:=q; exact .int z t
 | bl b=>intro u q; cases q; exact .bl b
 | str x=>intro u q; obtain⟨t,rfl⟩:=q; exact .str x t
 | @tup n a vs ks h1 h2 h3 ih =>
  intro u q
  cases q;obtain⟨_,aj,r,p⟩:=(show cn P w H h a (.tup vs) from ok a _ h1)
  have ht:h.IsTuple a aj.toArray:=p.tup;refine .tup ht (by rw[h2]; simpa using r.length) λi k u e1 e2=>?_
  obtain⟨x,e3,rx⟩:=r.PY (u:=u) (i:=i) (by simpa using e2);exact ih i k x e1 e3 rx
theorem oB.key(ok:cQ P w H h)(r:oB H m k v)(q:RelV v u):mR h m k u:=by
 cases m with
 | true=>obtain⟨⟨a,rfl⟩,r⟩:=r; cases q; exact⟨a,rfl,r.nk ok rfl⟩
 | false=>obtain⟨q',rfl,rfl⟩:=r; exact⟨q',by rw[<- Br P w]; exact nG q,rfl⟩
abbrev NE:=NK×V×V
def iX:List NE->List (NK×Value×Value)->Prop:=Paired λ(p:NE) (x:NK×Value×Value)=>p.1=x.1/\RelV p.2.1 x.2.1/\RelV p.2.2 x.2.2
theorem FK:∀ {kvs:List NE} {es:List DictEntry},Paired (λ(p:NE) (e:DictEntry)=>e.hash=fT w p.1/\RelV p.2.1 e.key/\RelV p.2.2 e.val) kvs es->∃ xs,iX kvs xs/\es=xs.map (ent w)
 | _,_,.nil=>⟨[],.nil,rfl⟩
 | p :: _,e :: _,.cons r t=>by
  obtain⟨xs,h1,h2⟩:=FK t;refine⟨(p.1,e.key,e.val) :: xs,.cons ⟨rfl,r.2.1,r.2.2⟩ h1,?_⟩;rw[Wu,<- h2];unfold ent;rw[<- r.1]
theorem iX.keys:∀ {kvs:List NE} {xs:List (NK×Value×Value)},iX kvs xs->kvs.map (·.1)=xs.map (·.1)
 | _,_,.nil=>rfl
 | p :: _,x :: _,.cons r t=>by rw[Wu,Wu,r.1,iX.keys t]
noncomputable def valN (kvs:List NE) (k:NK):Option V:=(kvs.find? λp=>decide (p.1=k)).map (·.2.2)
noncomputable def putN (kvs:List NE) (k:NK) (y v:V):List NE:=if (kvs.any λp=>decide (p.1=k))=true then kvs.map λp=>if p.1=k then(p.1,p.2.1,v) else p else kvs ++ [(k,y,v)]
theorem iX.val(k:NK):∀ {kvs:List NE} {xs:List (NK×Value×Value)},iX kvs xs->fJ (valN kvs k) ((atN xs k).map (·.2))/\(kvs.any λp=>decide (p.1=k))=xs.any λx=>decide (x.1=k)
 | _,_,.nil=>⟨trivial,rfl⟩
 | p :: kvs,x :: xs,.cons r t=>by
  obtain⟨i1,i2⟩:=iX.val k t;rw[Qd,Qd,i2,r.1];refine⟨?_,rfl⟩;unfold valN atN at i1 ⊢;rw[Q4,Q4,r.1];by_cases e:x.1=k
  ·rw[decide_eq_true e]; exact r.2.2
  ·rw[decide_eq_false e]; exact i1
section
variable {P:Wm} {w:Wr} {H:Hp} {h:Heap} {a:Addr} {ep:Nat} {kvs:List NE}
structure pZ(w:Wr)(h:Heap)(a:Addr)(ep:Nat)(xs:List (NK×Value×Value))(o:Obj)(es:Array DictEntry):Prop where
 get:h.get? a=some o
 ex:o.ExactDict
 data:o.data = .dict es ep
 ents:es.toList=xs.map (ent w)
 PZ:(xs.map (·.1)).Nodup
theorem u9(ok:cQ P w H h)(e:H a=some (.dN ep kvs)):kvs.length<=We/\(a == QE)=false/\∃ xs o es,iX kvs xs/\pZ w h a ep xs o es:=by
 obtain⟨z,hS,o,es,h1,h2,h3,h4,h5⟩:=(show cn P w H h a (.dN ep kvs) from ok a _ e)
 obtain⟨xs,q1,q2⟩:=FK h4;exact⟨z,hS,xs,o,es,q1,h1,h2,h3,q2,by rw[<- q1.keys]; exact h5⟩
theorem pZ.typeIs {s:W2} {xs:List (NK×Value×Value)} {o:Obj} {es:Array DictEntry} (d:pZ w s.heap a ep xs o es):s.TypeIs (.ref a) "dict":=⟨o,d.get,d.ex.1⟩
theorem pZ.noDict(d:pZ w h a ep xs o es):∀ b,Value.ref a = .ref b->∃ ob,h.get? b=some ob/\ob.dict=none:=λb e=>by cases e; exact⟨o,d.get,d.ex.2.1⟩
theorem P0(ok:cQ P w H h)(r:iX kvs xs)(hk:∀ p ∈ kvs,oB H m p.1 p.2.1):∀ x ∈ xs,mR h m x.1 x.2.1:=by
 induction r with
 | nil=>intro x hx; simp at hx
 | cons q t ih =>
  intro x hx;rcases Wl.mp hx with rfl | hx
  ·rw[<- q.1]; exact(hk _ Wj).key ok q.2.1
  ·exact ih (λp hp=>hk p (Wa _ hp)) x hx
end
def mS(H:Hp)(a:Addr)(y:V)(r:Option V):Prop:=∃ m ep kvs k,H a=some (.dN ep kvs)/\(∀ p ∈ kvs,oB H m p.1 p.2.1)/\oB H m k y/\r=valN kvs k
section
variable {X:Cx} {pins:List (Addr×Obj)} {σ:St} {H:Hp} {s:W2} {a:Addr} {y v:V} {u r:Value} {o:Option V} {A:Wt} {E:Value->W2->Prop}
theorem FL(hu:A.units + 6 < WT)(I:Inv X pins σ H s)(g:mS H a y o)(ry:RelV y u)(h:∀ w' s',Inv X pins σ H s'->fJ o w'->Q w' s') :
  Wf (model X.prog X.w) A (dictGet a u) Q E s:=by
 obtain⟨m,ep,kvs,k,e,hk,ky,rfl⟩:=g;obtain⟨z,hS,xs,ob,es,rx,d⟩:=u9 I.aM e;exact PX hu (ky.key I.aM ry) d.get d.data d.ents (P0 I.aM rx hk) d.PZ (h _ _ (I.tok _) (rx.val k).1)
theorem yX (I:Inv X pins σ H s) (g:mS H a y o):s.TypeIs (.ref a) "dict"/\(∀ b,Value.ref a = .ref b->∃ ob,s.heap.get? b=some ob/\ob.dict=none)/\(a == QE)=false:=by
 obtain⟨m,ep,kvs,k,e,hk,ky,rfl⟩:=g;obtain⟨z,hS,xs,ob,es,rx,d⟩:=u9 I.aM e;exact⟨d.typeIs,d.noDict,hS⟩
theorem P4(hu:A.units + 8 < WT)(I:Inv X pins σ H s)(g:mS H a y (some v))(ry:RelV y u)(h:∀ w' s',Inv X pins σ H s'->RelV v w'->Q w' s') :
  Wf (model X.prog X.w) A (JL (.ref a) u) Q E s:=by
 obtain⟨hT,_,_⟩:=yX I g;unfold JL;try with_reducible refine Ql ?_
 refine W0 (wpAny_sequenceKey hT (by decide) ?_);refine W0 (WY (name:=Str.ofString "__getitem__") hT slot_dict_getitem (WW slot_dict_getitem hT entry_dict_getitem ?_ (args_dict_getitem _ _)));show Wf _ _ (dictGet a u >>= _) _ _ s;refine W0 (FL (show A.units + 1 + 6 < WT by omega) I g ry λw' s' I' rr=>?_);obtain⟨w2,rfl,r2⟩:=fJ.some_of rr;exact W7 ⟨w2,rfl,W7 (h w2 s' I' r2)⟩
theorem P5(hu:A.units + 8 < WT)(I:Inv X pins σ H s)(g:mS H a y o)(ry:RelV y u)(h:∀ s',Inv X pins σ H s'->Q o.isSome s') :
  Wf (model X.prog X.w) A (contains (.ref a) u) Q E s:=by
 obtain⟨hT,_,hS⟩:=yX I g;unfold contains;try with_reducible refine Ql ?_
 refine W0 (wpAny_specialOf hT slot_dict_contains.lookup ?_);show Wf _ _ (if (some (Value.builtin "dict.__contains__") == some Value.none)=true then _ else _) _ E s;rw[if_neg (by rw[beq_builtin_none]; exact WH)];refine W0 (wpAny_callSpecialUnlessNone?_slot (name:=Str.ofString "__contains__") hT slot_dict_contains (WW slot_dict_contains hT entry_dict_contains ?_ (args_dict_contains _ _)));show Wf _ _ (dictGet a u >>= _) _ _ s;refine W0 (FL (show A.units + 1 + 6 < WT by omega) I g ry λw' s' I' rr=>?_)
 cases o with
 | some x =>
  obtain⟨w2,rfl,r2⟩:=fJ.some_of rr;show Wf _ _ (ret (.bool true)) _ _ _;exact W7 ⟨_,rfl,Qo (h s' I')⟩
 | none =>
  obtain rfl:=fJ.none_of rr;show Wf _ _ (Builtin.Dict.pendingKey? a u >>= _) _ _ _;exact W0 (wpAny_pendingKey_other hS (W7 ⟨_,rfl,Qo (h s' I')⟩))
theorem P6(hu:A.units + 8 < WT)(I:Inv X pins σ H s)(g:mS H a y o)(ry:RelV y u)(h:∀ s',Inv X pins σ H s'->Q (.bool o.isSome) s') :
  Wf (model X.prog X.w) A (WL .In u (.ref a)) Q E s:=by
 show Wf _ _ (do return .bool (<- contains (.ref a) u)) Q E s;exact W0 (P5 hu I g ry λs' I'=>W7 (h s' I'))
end
end L2
namespace DV
open PySem PySem.Spec PyProof.Rows L2
theorem P7(n:Nat)(i:Int):dJ n (.int i)=some (.i i):=by cases n <;> rfl
theorem P8(n:Nat)(b:Bool):dJ n (.bl b)=some (.i (if b then 1 else 0)):=by cases n <;> rfl
theorem P9(n:Nat)(x:Tx):dJ n (.str x)=some (.s (toS x)):=by cases n <;> rfl
theorem P_(n:Nat)(xs:List D):dJ (n + 1) (.tup xs)=(iH n xs).map .t:=rfl
theorem u_(h:dJ n d=some x):(∃ i,d = .int i/\x = .i i)\/(∃ b,d = .bl b/\x = .i (if b then 1 else 0))\/(∃ s,d = .str s/\x = .s (toS s))\/∃ m xs ks,n=m + 1/\d = .tup xs/\iH m xs=some ks/\x = .t ks:=by
 cases d with
 | int i=>rw[P7] at h; exact .inl ⟨i,rfl,(Wz h).symm⟩
 | bl b=>rw[P8] at h; exact .inr (.inl ⟨b,rfl,(Wz h).symm⟩)
 | str s=>rw[P9] at h; exact .inr (.inr (.inl ⟨s,rfl,(Wz h).symm⟩))
 | tup xs =>
  cases n with
  | zero=>cases h
  | succ m =>
   rw[P_,WG] at h;obtain⟨ks,hk,e⟩:=h;exact .inr (.inr (.inr ⟨m,xs,ks,rfl,rfl,hk,e.symm⟩))
 | _=>cases n <;> cases h
theorem FN(ih:∀ (d e:D) (x y:NK),dJ n d=some x->dJ n e=some y->aK d e=decide (x=y)):∀ (xs ys:List D) (ks ls:List NK),iH n xs=some ks->iH n ys=some ls->fL xs ys=decide (ks=ls)
 | [],[],ks,ls,h1,h2=>by
  simp[iH] at h1 h2;subst h1; subst h2
  simp[fL]
 | [],y :: ys,ks,ls,h1,h2=>by
  simp only[iH,W8,Jj,WG] at h1 h2;subst h1;obtain⟨k,_,l,_,rfl⟩:=h2;simp[fL]
 | x :: xs,[],ks,ls,h1,h2=>by
  simp only[iH,W8,Jj,WG] at h1 h2;subst h2;obtain⟨k,_,l,_,rfl⟩:=h1;simp[fL]
 | x :: xs,y :: ys,ks,ls,h1,h2=>by
  simp only[iH,Jj,WG] at h1 h2;obtain⟨k,hk,k',nJ,rfl⟩:=h1;obtain⟨l,hl,l',gL,rfl⟩:=h2;simp only[fL];rw[ih x y k l hk hl,FN ih xs ys k' l' nJ gL];by_cases e1:k=l
  ·by_cases e2:k'=l'
   ·rw[decide_eq_true e1,decide_eq_true e2,decide_eq_true (by rw[e1,e2])]; rfl
   ·rw[decide_eq_true e1,decide_eq_false e2,decide_eq_false λq=>e2 (List.cons.inj q).2]; rfl
  ·rw[decide_eq_false e1,decide_eq_false λq=>e1 (List.cons.inj q).1]; rfl
theorem Q_:∀ (n:Nat) (d e:D) (x y:NK),dJ n d=some x->dJ n e=some y->aK d e=decide (x=y):=by
 intro n;induction n with
 | zero =>
  intro d e x y h1 h2;rcases u_ h1 with ⟨i,rfl,rfl⟩ | ⟨b,rfl,rfl⟩ | ⟨s,rfl,rfl⟩ | ⟨m,xs,ks,e,_⟩ <;> rcases u_ h2 with ⟨i,rfl,rfl⟩ | ⟨b,rfl,rfl⟩ | ⟨s,rfl,rfl⟩ | ⟨m,xs,ks,e,_⟩ <;>
   first | (cases e; done) | (simp only[aK]; first | (rw[decide_eq_false (λq=>nomatch q)]; done) | (rw[mQ,<- yW]; done) | (rw[mQ]; done) | (rw[yV,pD]; done))
 | succ n ih =>
  intro d e x y h1 h2;rcases u_ h1 with ⟨i,rfl,rfl⟩ | ⟨b,rfl,rfl⟩ | ⟨s,rfl,rfl⟩ | ⟨m,xs,ks,e1,rfl,hk,rfl⟩ <;> rcases u_ h2 with ⟨i,rfl,rfl⟩ | ⟨b,rfl,rfl⟩ | ⟨s,rfl,rfl⟩ | ⟨m,ys,ls,e2,rfl,hl,rfl⟩ <;>
   first | (simp only[aK]; first | (rw[decide_eq_false (λq=>nomatch q)]; done) | (rw[mQ,<- yW]; done) | (rw[mQ]; done) | (rw[yV,pD]; done)) | skip
  cases e1
  cases e2;simp only[aK];rw[FN ih xs ys ks ls hk hl];by_cases e:ks=ls
  ·rw[decide_eq_true e,decide_eq_true (congrArg NK.t e)]
  ·rw[decide_eq_false e,decide_eq_false λq=>e (NK.t.inj q)]
theorem FO:∀ {xs:List D} {ks:List NK},iH n xs=some ks->ks.length=xs.length/\∀ (i:Nat) d k,xs[i]? = some d->ks[i]? = some k->dJ n d=some k
 | [],ks,h=>by simp[iH] at h; subst h; exact⟨rfl,λi d k e=>by simp at e⟩
 | x :: xs,ks,h=>by
  simp only[iH,Jj,WG] at h;obtain⟨k,hk,k',nJ,rfl⟩:=h;obtain⟨h1,h2⟩:=FO nJ;refine⟨by simp[h1],λi d kk e1 e2=>?_⟩
  cases i with
  | zero=>simp at e1 e2; subst e1; subst e2; exact hk
  | succ i=>exact h2 i d kk (by simpa using e1) (by simpa using e2)
theorem Ra(r:Rep H O v d):∀ {n:Nat} {k:NK},dJ n d=some k->lC H n k v:=by
 induction r with
 | int i=>intro n k h; cases n <;> (simp[dJ] at h; subst h; exact .int i)
 | bl b=>intro n k h; cases n <;> (simp only[dJ,W8] at h; subst h; exact .bl b)
 | str x=>intro n k h; cases n <;> (simp[dJ] at h; subst h; exact .str _)
 | @tup a vs ds h1 h2 h3 h4 ih =>
  intro n k h
  cases n with
  | zero=>simp[dJ] at h
  | succ n =>
   simp only[dJ,WG] at h;obtain⟨ks,hk,rfl⟩:=h;obtain⟨l,g⟩:=FO hk;refine .tup h2 (by omega) λi k v e1 e2=>?_
   have hi:i < ds.length:=by have:=(W6.mp e1).1; omega
   exact ih i v ds[i] e2 (W4 hi) (g i ds[i] k (W4 hi) e1)
 | _=>intro n k h; cases n <;> simp[dJ] at h
def jx(m:Bool)(d:D):Bool:=match d with
 | .tup _=>m
 | .int _=>!m
 | .str _=>!m
 | _=>false
theorem FP(hm:jx m d=true)(hk:dJ 6 d=some k)(r:Rep H O v d):oB H m k v:=by
 cases m with
 | true =>
  have r':=Ra r hk
  cases r <;> simp[jx] at hm
  exact⟨⟨_,rfl⟩,r'⟩
 | false =>
  cases r <;> simp[jx] at hm
  ·simp[dJ] at hk; subst hk; exact⟨.inl _,rfl,rfl⟩
  ·simp[dJ] at hk; subst hk; exact⟨.inr _,rfl,rfl⟩
def oC(m:Bool)(ds:List (D×D))(k:D):Bool:=jx m k && (dJ 6 k).isSome && ds.all λq=>jx m q.1
def va(k:D):Bool:=jx true k
def j7(ds:List (D×D))(k:D):Option D:=(ds.find? λq=>aK q.1 k).map (·.2)
section
variable {H H':Hp} {O:Addr->Prop} {ws:List NE} {ds:List (D×D)} {p:NE} {q:D×D}
theorem DN.un(r:DN H O (p :: ws) (q :: ds)):Rep H O p.2.1 q.1/\Rep H O p.2.2 q.2/\dJ 6 q.1=some p.1/\DN H O ws ds :=
 ⟨r.key 0 p q rfl rfl,r.val 0 p q rfl rfl,r.pC 0 p q rfl rfl,by simpa using r.len,λi a b e1 e2=>r.key (i + 1) a b (by simpa using e1) (by simpa using e2),λi a b e1 e2=>r.val (i + 1) a b (by simpa using e1) (by simpa using e2),λi a b e1 e2=>r.pC (i + 1) a b (by simpa using e1) (by simpa using e2)⟩
theorem DN.get(hk:dJ 6 k=some kk):∀ {ws:List NE} {ds:List (D×D)},DN H O ws ds->((j7 ds k=none/\valN ws kk=none)\/∃ v d,j7 ds k=some d/\valN ws kk=some v/\Rep H O v d)/\(ds.any λq=>aK q.1 k)=ws.any λp=>decide (p.1=kk)
 | [],[],_=>⟨.inl ⟨rfl,rfl⟩,rfl⟩
 | [],_ :: _,r=>by have:=r.len; simp at this
 | _ :: _,[],r=>by have:=r.len; simp at this
 | p :: ws,q :: ds,r=>by
  obtain⟨r1,r2,r3,r4⟩:=r.un;obtain⟨i1,i2⟩:=DN.get hk r4;have e:=Q_ 6 q.1 k p.1 kk r3 hk;refine⟨?_,by rw[Qd,Qd,i2,e]⟩;unfold j7 valN at i1 ⊢;rw[Q4,Q4,e];by_cases z:p.1=kk
  ·rw[decide_eq_true z]; exact .inr ⟨_,_,rfl,rfl,r2⟩
  ·rw[decide_eq_false z]; exact i1
theorem DN.Rb(hm:(ds.all λq=>jx m q.1)=true)(r:DN H O ws ds):∀ p ∈ ws,oB H m p.1 p.2.1:=λp hp=>by
 obtain⟨i,e⟩:=List.mem_iff_getElem?.mp hp;have hi:i < ds.length:=by have:=(W6.mp e).1; have:=r.len; omega
 exact FP (Q5.mp hm ds[i] (WX hi)) (r.pC i p ds[i] e (W4 hi)) (r.key i p ds[i] e (W4 hi))
end
theorem Rc(r:da c σ δ H v (.dic ds)):∃ a ep ws,v = .ref a/\H a=some (.dN ep ws)/\DN H (Av c σ δ) ws ds:=by
 rcases r with r | ⟨a,rfl,ep,ws,h1,h2⟩
 ·cases r with
  | dic h1 h2 h3 h4 h5 h6=>exact⟨_,_,_,rfl,h2,h3,h4,h5,h6⟩
 ·exact⟨a,ep,ws,rfl,h1,h2⟩
theorem Rf(h:jx m d=true)(r:da c σ δ H v d):Rep H (Av c σ δ) v d:=by
 rcases r with r | ⟨a,rfl,r⟩
 ·exact r
 ·cases d <;> first | exact r.elim | simp[jx] at h
theorem Rg(h:oC m ds k=true):jx m k=true/\(∃ kk,dJ 6 k=some kk)/\(ds.all λq=>jx m q.1)=true:=by
 unfold oC at h;simp only[Ww] at h;exact⟨h.1.1,Jg.mp h.1.2,h.2⟩
theorem FQ(rx:da c σ δ H x (.dic ds))(ry:da c σ δ H y k)(h:oC m ds k=true) :
  ∃ a o,x = .ref a/\mS H a y o/\((j7 ds k=none/\o=none)\/∃ v d,j7 ds k=some d/\o=some v/\Rep H (Av c σ δ) v d):=by
 obtain⟨a,ep,ws,e,ha,dn⟩:=Rc rx;obtain⟨h1,⟨kk,hk⟩,h2⟩:=Rg h;exact⟨a,valN ws kk,e,⟨m,ep,ws,kk,ha,dn.Rb h2,FP h1 hk (Rf h1 ry),rfl⟩,(dn.get hk).1⟩
def FT(neg:Bool):R2:=λx y H Q=>∃ a o,y = .ref a/\mS H a x o/\Q (.bl (if neg then !o.isSome else o.isSome)) H
theorem Rh(hu:X.A.units + 64 < WT):bP X (WL .In) (FT false):=by
 intro pins s σ H x y v u Q I rx ry h;obtain⟨a,o,rfl,g,q⟩:=h
 cases ry;exact P6 (by omega) I g rx λs' I'=>⟨.bl _,H,I',rfl,q⟩
def oD(neg:Bool)(x y:D):Option S:=match y with
 | .dic ds=>if oC (va x) ds x then some (.pure (.bl (if neg then !(j7 ds x).isSome else(j7 ds x).isSome))) else none
 | _=>none
theorem Ri(neg:Bool):cF (FT neg) (oD neg):=by
 intro c σ δ H x y d e s Q k rx ry hp q
 cases e <;> first | (simp[oD] at hp; done) | skip
 rename_i ds;simp only[oD] at hp;split at hp
 ·rename_i hg
  cases hp;obtain⟨a,o,ea,g,r⟩:=FQ ry rx hg;refine⟨a,o,ea,g,?_⟩;have:o.isSome=(j7 ds d).isSome:=by
   rcases r with ⟨r1,rfl⟩ | ⟨_,_,r1,rfl,_⟩ <;> rw[r1] <;> rfl
  rw[this];exact q _ H (.refl k) (.bl _)
 ·cases hp
def FU:R2:=λx y H Q=>∃ a v,x = .ref a/\mS H a y (some v)/\Q v H
def oE(x y:D):Option S:=match x with
 | .dic ds=>if oC (va y) ds y then(j7 ds y).map .pure else none
 | _=>none
theorem Rj(hu:X.A.units + 64 < WT):hU X FU:=by
 intro value slice pins s σ H x y v u Q I rx ry h hs;obtain⟨a,w,rfl,g,q⟩:=h
 cases rx;exact tail_any (yX I g).1 F.slot_dict_getitem.lookup (P4 (v:=w) (by omega) I g ry λw' s' I' aP=>⟨w,H,I',aP,q⟩) hs
theorem Rk:cF FU oE:=by
 intro c σ δ H x y d e s Q k rx ry hp q
 cases d <;> first | (simp[oE] at hp; done) | skip
 rename_i ds;simp only[oE] at hp;split at hp
 ·rename_i hg;obtain⟨a,o,ea,g,r⟩:=FQ rx ry hg;rcases r with ⟨r1,rfl⟩ | ⟨v,d,r1,rfl,r2⟩
  ·rw[r1] at hp; cases hp
  ·rw[r1] at hp; cases hp
   exact⟨a,v,ea,g,q v H (.refl k) r2⟩
 ·cases hp
section
variable {X:Cx} {c:Fc} {e:Expr} {fe:DE} {pos:Pos}
end
end DV
namespace L2
open PySem PySem.Spec PyProof.Rows
end L2
namespace DV
open PySem PySem.Spec PyProof.Rows L2
section
variable {X:Cx} {c:Fc} {e:Expr} {fe:DE} {pos:Pos}
end
end DV
namespace L2
open PySem PySem.Spec PyProof.Rows
section
variable {prog:Wm} {w:Wr} {A:Wt} {E:Value->W2->Prop} {s:W2}
theorem Rl (hd:(d == QE)=false) (hT:s.TypeIs (.ref d) "dict")
  (h:Q (.ref s.heap.objs.size) { s with heap:=s.heap.push { cls:=.type "dict_items",data:=.fields #[.ref d] } }):Wf (model prog w) A (call (.builtin "dict.items") [.ref d]) Q E s:=by
 refine WW JQ hT F.entry_dict_items ?_ (F.args_dict_items_1 _);unfold Builtin.«dict.items» Builtin.Dict.noArgs;refine W0 (W0 (wpAny_notOrdered_dict hT (show Wf _ _ (pure d) _ _ s from W7 ?_)));show Wf _ _ (Builtin.Dict.showsAll d >>= _) _ _ s;unfold Builtin.Dict.showsAll;rw[if_neg (by rw[hd]; exact WH)];exact W0 (W7 (W0 (WZ (W7 ⟨_,rfl,h⟩))))
theorem Rm(hv:s.heap.IsItemsView v d)(ho:s.heap.get? d=some o)(mC:o.data = .dict es ep)
  (hQ:Q (.ref s.heap.objs.size) { s with heap:=s.heap.push { cls:=.type "dict_itemiterator",data:=.fields #[.none,.bool false,.ref d,.int 0 0,.int es.size 0,.int ep 0,.none,.none] } }):Wf (model prog w) A (pyIter (.ref v)) Q E s:=by
 obtain⟨ov,hov,hcv,hdv⟩:=id hv;refine wpAny_pyIter_slot hv.typeIs F.slot_dict_items_iter (WW F.slot_dict_items_iter hv.typeIs F.entry_dict_items_iter ?_ (F.args_dict_items_iter_1 _));unfold Builtin.«dict_items.__iter__»;refine W0 (W7 (W0 ?_));unfold Builtin.Dict_items.dictOf;refine W0 (WU hov hdv (x:=.ref d) rfl (W7 (W0 ?_)));unfold Builtin.Dict_items.newIterator;refine W0 (JR ho mC (W0 (wpAny_dictEpoch ho mC ?_)));have gz:Builtin.Dict_items.ownsTuple "dict_itemiterator" = true:=by decide
 simp only[gz,if_true];refine WZ (W7 ⟨_,rfl,"dict_itemiterator",_,⟨_,Wn _ rfl,rfl⟩,F.slot_dict_itemiterator_next.lookup,?_⟩)
  (by simp only[sizeOk,Builtin.Dict_items.ownedTupleFields,Wo,Qi,WP,List.length_nil,sizeLine_eq]; omega)
 simpa[rawInt,Builtin.Dict_items.ownedTupleFields] using hQ
theorem Rn(hit:IsItemIter s.heap it d i es.size ep ok ov)
  (mT:s.heap.get? d=some od) (kn:od.data = .dict es ep) (hx:es[i]? = some e)
  (hQ:∀ h',IsItemIterOut h' it d (i + 1) es.size ep e.key e.val s.heap.objs.size->h'.get? s.heap.objs.size=some { cls:=.type "tuple",data:=.seq #[e.key,e.val] }->h'.objs.size=s.heap.objs.size + 1 ->
   (∀ b o,b≠it->s.heap.get? b=some o->h'.get? b=some o)->Q (some (.ref s.heap.objs.size)) { s with heap:=h' }):Wf (model prog w) A (J8 (.ref it)) Q E s:=by
 obtain⟨hp,g,dr,tk,os⟩:=s;have hT:Shared.TypeIs ⟨hp,g,dr,tk,os⟩ (.ref it) "dict_itemiterator":=⟨_,hit,rfl⟩
 have Xu:i < es.size:=by
  rcases Nat.lt_or_ge i es.size with h | h
  ·exact h
  ·simp[Array.getElem?_eq_none h] at hx
 unfold J8;refine W0 (wpAny_attempt (WY (name:=Str.ofString "__next__") hT QU (WW QU hT F.entry_dict_itemiterator_next ?_ (F.args_dict_itemiterator_next_1 _))));refine W0 (W7 (W0 (W0 ?_)));first | refine W0 (QQ hT (W7 ?_)) | refine W0 (Jd hT (W7 ?_))
 refine W0 (wpAny_fieldsOf hit rfl ?_);have gz:Builtin.Dict_items.ownsTuple "dict_itemiterator" = true:=by decide
 simp only[gz,if_true];show Wf _ _ (if (Value.ref d == Value.none)=true then _ else _) _ _ _;rw[if_neg (show ¬ ((Value.ref d == Value.none)=true) from WH)];refine W0 (W7 (W0 (JR mT kn ?_)));rw[if_neg (by simp)];refine W0 (W7 (W0 (wpAny_dictEpoch mT kn ?_)));rw[if_neg (by simp)];refine W7 ?_;simp only[show ¬ ((i:Int) < 0) from by omega,if_false,Qy,hx];refine W0 ?_;first | refine W0 (QQ hT (W7 ?_)) | refine W0 (Jd hT (W7 ?_))
 refine W0 (wpAny_isOneOf_itemiter hT ?_);show Wf _ _ (setField (.ref it) 3 (rawInt ((i:Int) + 1)) >>= _) _ _ ⟨hp,g,dr,tk,os⟩;refine W0 (Q2 hit (by simp) λh1 e1 s1=>?_);replace s1:QK it hp h1:=s1;replace e1:IsItemIter h1 it d (i + 1) es.size ep ok ov:=by
  have z:((i + 1:Nat):Int)=(i:Int) + 1:=by omega
  unfold IsItemIter; rw[z]; simpa[rawInt] using e1
 have yY:Shared.TypeIs ⟨h1,g,dr,tk,os⟩ (.ref it) "dict_itemiterator":=⟨_,e1,rfl⟩
 refine W0 (Ql (W0 (wpAny_isOneOf_itemiter yY (W0 (wpAny_isOneOf_itemiter yY ?_)))));show Wf _ _ (Builtin.Dict_items.pairFromOwner (.ref it) 6 e.key e.val) _ _ ⟨h1,g,dr,tk,os⟩;unfold Builtin.Dict_items.pairFromOwner;refine W0 (wpAny_newTuple ?_);have e2:IsItemIter (h1.push { cls:=.type "tuple",data:=.seq #[e.key,e.val] }) it d (i + 1) es.size ep ok ov:=Wd _ e1;generalize hh2:h1.push { cls:=.type "tuple",data:=.seq #[e.key,e.val] } = h2 at e2;have z1:h1.objs.size=hp.objs.size:=s1.1;have jV:it < hp.objs.size:=Wp hit;have t2:h2.get? hp.objs.size=some { cls:=.type "tuple",data:=.seq #[e.key,e.val] }:=by rw[<- hh2,<- z1]; exact Wn _ rfl
 have z2:h2.objs.size=hp.objs.size + 1:=by rw[<- hh2,Qv,z1]
 have k2:∀ b o,b≠it->hp.get? b=some o->h2.get? b=some o:=λb o hb q=>by rw[<- hh2]; exact Wd _ (s1.extBut b o hb q)
 show Wf _ _ (Builtin.Dict_items.ownedTupleIsFree (.ref it) >>= _) _ _ ⟨h2,g,dr,tk,os⟩;rw[z1];clear hh2 e1 s1 yY z1 h1;refine W0 ?_;unfold Builtin.Dict_items.ownedTupleIsFree;refine W0 (WU e2 rfl (x:=.none) rfl (W7 ?_));simp only[if_true];refine W0 (WU e2 rfl (x:=ok) rfl (W0 (WU e2 rfl (x:=ov) rfl ?_)));refine W0 (Q2 e2 (by simp) λh3 e3 s3=>?_);replace s3:QK it h2 h3:=s3;replace e3:IsItemIter h3 it d (i + 1) es.size ep e.key ov:=e3;refine W0 (Q2 e3 (by simp) λh4 e4 s4=>?_);replace s4:QK it h3 h4:=s4;replace e4:IsItemIter h4 it d (i + 1) es.size ep e.key e.val:=e4;refine W0 (Q2 e4 (by simp) λh5 e5 s5=>?_);replace s5:QK it h4 h5:=s5;replace e5:IsItemIterOut h5 it d (i + 1) es.size ep e.key e.val hp.objs.size:=e5;refine W0 (Q2 e5 (by simp) λh6 e6 s6=>?_);replace s6:QK it h5 h6:=s6;replace e6:IsItemIterOut h6 it d (i + 1) es.size ep e.key e.val hp.objs.size:=e6;have up:∀ b o,b≠it->h2.get? b=some o->h6.get? b=some o:=λb o hb q=>s6.extBut b o hb (s5.extBut b o hb (s4.extBut b o hb (s3.extBut b o hb q)))
 refine W0 (wpAny_letGo (W7 (W7 ⟨_,rfl,W7 (hQ h6 e6 (up _ _ (Jf jV) t2) ?_ λb o hb q=>up b o hb (k2 b o hb q))⟩)));show h6.objs.size=hp.objs.size + 1;rw[s6.1,s5.1,s4.1,s3.1,z2]
theorem Ro(hh:A.handled=none)(hit:IsItemIter s.heap it d i es.size ep ok ov)
  (mT:s.heap.get? d=some od) (kn:od.data = .dict es ep) (hx:es.size<=i) (hQ:∀ h',Heap.ExtBut it s.heap h'->Q none { s with heap:=h' }):Wf (model prog w) A (J8 (.ref it)) Q E s:=by
 have hT:s.TypeIs (.ref it) "dict_itemiterator":=⟨_,hit,rfl⟩
 unfold J8;refine W0 (wpAny_attempt (WY (name:=Str.ofString "__next__") hT QU (WW QU hT F.entry_dict_itemiterator_next ?_ (F.args_dict_itemiterator_next_1 _))));refine W0 (W7 (W0 (W0 ?_)));first | refine W0 (QQ hT (W7 ?_)) | refine W0 (Jd hT (W7 ?_))
 refine W0 (wpAny_fieldsOf hit rfl ?_);have gz:Builtin.Dict_items.ownsTuple "dict_itemiterator" = true:=by decide
 simp only[gz,if_true];show Wf _ _ (if (Value.ref d == Value.none)=true then _ else _) _ _ s;rw[if_neg (show ¬ ((Value.ref d == Value.none)=true) from WH)];refine W0 (W7 (W0 (JR mT kn ?_)));rw[if_neg (by simp)];refine W0 (W7 (W0 (wpAny_dictEpoch mT kn ?_)));rw[if_neg (by simp)];refine W7 ?_;simp only[show ¬ ((i:Int) < 0) from by omega,if_false,Qy,Array.getElem?_eq_none hx];refine W0 ?_;first | refine W0 (QQ hT (W7 ?_)) | refine W0 (Jd hT (W7 ?_))
 show Wf _ _ (setField (.ref it) 2 .none >>= _) _ _ s;refine W0 (wpAny_setField hit rfl (by simp) ?_);show Wf _ _ (newExc (.type "StopIteration") [] >>= _) _ _ _;refine W0 ?_;simp only[newExc,newTuple];refine W0 (WZ ?_ (by size_fits));refine W0 (m:=firstArgMember _ _) (wpAny_of_eq (a:=Value.none) (by first | rfl | (simp only[firstArgMember]; rfl)) ?_);refine WZ ?_ (by size_fits);simp only[raiseNew];refine W0 (wpAny_handled ?_);rw[show A.in1.handled=none from hh];refine W0 (W7 (wpAny_throw ?_));refine W0 (wpAny_isInstance (T:="StopIteration") (b:=true) ⟨_,Wn _ rfl,rfl⟩ isSubtype_stop ?_);exact W7 (hQ _ (((Heap.SameBut.update ..).extBut.push _).push _))
end
def yZ(a:Addr)(ep:Nat)(kvs:List NE):It :=
 ⟨λi H=>H a=some (.dN ep kvs)/\i < kvs.length,
  λi H v H'=>∃ p k y x,H p=none/\kvs[i]? = some (k,y,x)/\H'=upd H p (.tup [y,x])/\v = .ref p,
  λi H=>H a=some (.dN ep kvs)/\i=kvs.length⟩
theorem iX.get(r:iX kvs xs):∀ {i:Nat} {p:NE},kvs[i]? = some p->∃ x,xs[i]? = some x/\RelV p.2.1 x.2.1/\RelV p.2.2 x.2.2:=by
 unfold iX at r;induction r with
 | nil=>intro i p e; simp at e
 | cons h t ih =>
  intro i p e
  cases i with
  | zero=>simp at e; subst e; exact⟨_,rfl,h.2⟩
  | succ i=>obtain⟨x,e1,e2⟩:=ih (i:=i) (by simpa using e); exact⟨x,by simpa using e1,e2⟩
theorem Rp{P:Wm}{w:Wr}{K:W1}{elts:List Expr}{ctx}{pos:Pos}(a it:Addr)(kvs:List NE)(ep:Nat) :
  Turn P w K (.Tuple elts ctx pos) (yZ a ep kvs) [it] it (λi h=>∃ ok ov,IsItemIter h it a i kvs.length ep ok ov):=by
 have at_:∀ {X:Cx} {pins s σ H},X.prog=P->X.w=w->Inv X pins σ H s->H a=some (.dN ep kvs)->∃ xs o es,iX kvs xs/\pZ w s.heap a ep xs o es/\es.size=kvs.length:=by
  intro X pins s σ H hP hw I e;subst hP hw;obtain⟨_,_,xs,o,es,r,d⟩:=u9 I.aM e;exact⟨xs,o,es,r,d,by rw[<- QX,d.ents,Q9]; exact(Paired.length r).symm⟩
 refine⟨by simp,?_,?_,?_,?_,?_⟩
 ·rintro i h ⟨ok,ov,q⟩ b hb;have e:b=it:=by simpa using hb
  subst e;exact⟨_,q,λv z=>by
   have z':Data.fields _=Data.cell v:=z
   cases z'⟩
 ·rintro i h h' ⟨ok,ov,q⟩ k;exact⟨ok,ov,k it (by simp) _ q⟩
 ·intro X hP hw hK hc i pins s σ H E I hf ⟨ok,ov,st⟩ ⟨hg,hi⟩;obtain⟨xs,o,es,r,d,hz⟩:=at_ hP hw I hg;subst hP hw hK;have hx:kvs[i]? = some (kvs[i].1,kvs[i].2.1,kvs[i].2.2):=by simp[hi]
  obtain⟨x,hu,ry,rv⟩:=r.get hx;have Rq:es[i]? = some (ent X.w x):=by rw[<- Jo,d.ents,Wh,hu]; rfl
  have jV:it < s.heap.objs.size:=Wp st;rw[<- hz] at st;refine Rn st d.get d.data Rq λh' hit hT hsz kp=>⟨_,rfl,wpAny_letOwnedTupleGo_items hit λh2 yN sb=>?_⟩
  have nz:s.heap.objs.size≠it:=Jf jV;have bx:∀ b ∈ [it],b < s.heap.objs.size:=λb hb=>by
   have e:b=it:=by simpa using hb
   subst e;exact jV
  have I2:Inv X pins σ (upd H s.heap.objs.size (.tup [kvs[i].2.1,kvs[i].2.2])) { s with heap:=h2,toks:=s.toks } :=
   Inv.ym (t':=s.toks) [it] I hf bx ry rv ((sb.2 _ nz).trans hT) λb o hb e=>by
    have g:b≠it:=λz=>hb (by simp[z])
    exact(sb.2 b g).trans (kp b o g e)
  refine⟨.ref s.heap.objs.size,_,I2,rfl,⟨s.heap.objs.size,_,_,_,I.aM.fresh (Wg _),hx,rfl,rfl⟩,⟨_,_,by rw[<- hz]; exact yN⟩,λb hb=>?_⟩;have e:b=it:=by simpa using hb
  subst e;rw[bh (Ne.symm nz)];exact(hf _ hb).1
 ·intro X hP hw hK hc i pins s σ H E I hf ⟨ok,ov,st⟩ ⟨hg,hi⟩;obtain⟨xs,o,es,r,d,hz⟩:=at_ hP hw I hg;subst hP hw hK;rw[<- hz] at st;refine Ro (I.ok.hd hc) st d.get d.data (by omega) λh' eb=>⟨rfl,Inv.uO (t':=s.toks) [it] I (λb o hb e=>eb b o (λz=>hb (by simp[z])) e) hf⟩
 ·intro A i s Q E ⟨ok,ov,st⟩ h;exact Fo st h
section
variable {X:Cx} {o:Expr} {apos cg:Pos} {elts:List Expr} {ctx:Nat} {tp:Pos} {td:TE}
def Rr(td:TE):TI:=λσ H R=>td σ H λv H1=>∃ a ep kvs,v = .ref a/\H1 a=some (.dN ep kvs)/\R (yZ a ep kvs) H1
theorem Rt (ho:PE X o td) (hb:QT o "items" X.env (eval o X.env)=eval o X.env:=by rfl) (hl:(apos.endLine == cg.line)=true:=by rfl) :
  PI X (.Tuple elts ctx tp) (.Call (.Attribute o "items" apos) [] [] cg) (Rr td):=by
 intro pins s σ H R I h;refine wpAny_Call_method (T:="dict") (id:="dict.items") hb rfl hl F.plainAttrs_dict JQ F.type_dict_items (a0 (ho pins s σ H _ I h) λu s1 ⟨x,H1,I1,rx,a,ep,kvs,ex,ea,q⟩=>?_);subst ex;obtain rfl:u=Value.ref a:=rx;obtain⟨z,hS,xs,ob,es,r,d⟩:=u9 I1.aM ea;have hz:es.size=kvs.length:=by rw[<- QX,d.ents,Q9]; exact(Paired.length r).symm
 refine⟨d.typeIs,d.noDict,?_⟩;refine Calls.callWith_builtin rfl (PySem.evalArgs_none (Rl hS d.typeIs ?_));have Ru:∀ b u,s1.heap.get? b=some u->(s1.heap.push { cls:=.type "dict_items",data:=.fields #[.ref a] }).get? b=some u:=λb u e=>Wd _ e
 refine Rm (d:=a) ⟨_,Wn _ rfl,rfl,rfl⟩ (Ru _ _ d.get) d.data ?_;generalize hh1:s1.heap.push { cls:=.type "dict_items",data:=.fields #[.ref a] } = h1;have up1:∀ b u,s1.heap.get? b=some u->h1.get? b=some u:=λb u e=>by rw[<- hh1]; exact Wd _ e
 have pW:s1.heap.objs.size<=h1.objs.size:=by rw[<- hh1,Qv]; exact Nat.le_succ _
 generalize hh2:h1.push { cls:=.type "dict_itemiterator",data:=.fields #[.none,.bool false,.ref a,.int 0 0,.int es.size 0,.int ep 0,.none,.none] } = h2;have pX:∀ b u,s1.heap.get? b=some u->h2.get? b=some u:=λb u e=>by rw[<- hh2]; exact Wd _ (up1 b u e)
 have hit:IsItemIter h2 h1.objs.size a 0 kvs.length ep .none .none:=by rw[<- hz,<- hh2]; exact Wn _ rfl
 have I2:Inv X pins σ H1 { s1 with heap:=h2,toks:=s1.toks }:=I1.kept (t':=s1.toks) pX;refine⟨h1.objs.size,[h1.objs.size],_,_,_,rfl,I2,Rp a h1.objs.size kvs ep,⟨_,_,hit⟩,λb hb=>?_,q⟩;have e:b=h1.objs.size:=by simpa using hb
 subst e;exact I1.ki pW (I1.aM.fresh pW)
end
section
variable {X:Cx} {pos:Pos}
end
end L2
namespace DV
open PySem PySem.Spec PyProof.Rows L2
def p_(ds:List (D×D)):List D:=ds.map λp=>D.tup [p.1,p.2]
def r9(fe:DE):DI:=λδ=>(fe δ).bind λr δ1=>match r.d with
 | .dic ds=>.ok (p_ ds) δ1
 | _=>.stuck
section
variable {X:Cx} {c:Fc} {o:Expr} {fe:DE} {apos cg:Pos} {elts:List Expr} {ctx:Nat} {tp:Pos}
theorem Rv(h:H a=some (.dN ep ws))(n:¬ Own σ δ a)(r:DN H (Av c σ δ) ws ds):nZ c σ δ H (yZ a ep ws) (p_ ds):=by
 intro H2 kp;have h2:=kp a _ h n;refine⟨⟨h2,by simp[p_,r.len]⟩,λi d e=>?_⟩;unfold p_ at e;rw[Wh] at e
 cases ej:ds[i]? with
 | none=>rw[ej] at e; cases e
 | some q =>
  rw[ej] at e
  cases e;have hi:i < ws.length:=by rw[r.len]; exact(W6.mp ej).1
  refine⟨⟨h2,hi⟩,λx H3 ⟨p,kk,y,xv,hp,hkv,e3,ex⟩=>.inr ⟨p,_,_,hp,e3,ex,rfl,?_⟩⟩;exact aN.two (r.key i _ q hkv ej) (r.val i _ q hkv ej)
theorem Rw (ho:SE X c o fe) (hb:QT o "items" X.env (eval o X.env)=eval o X.env:=by rfl) (hl:(apos.endLine == cg.line)=true:=by rfl) :
  SI X c (.Tuple elts ctx tp) (.Call (.Attribute o "items" apos) [] [] cg) (r9 fe) :=
 PI.weak (Rt ho hb hl) λσ H R ⟨δ,k,q⟩=>by
  unfold r9 at q;rw[bM] at q;refine⟨δ,k,aY q λr δ1 q1 v H1 a1 r1=>?_⟩;have rp:=r1.rep;generalize r.d=d at q1 rp
  cases d <;> first | exact q1.elim | skip
  rename_i ds
  cases rp with
  | dic h1 h2 h3 h4 h5 h6 =>
   exact⟨_,_,_,rfl,h2,q1 _ _ a1 (Rv h2 (λz=>h1 (.inr z)) ⟨h3,h4,h5,h6⟩)⟩
end
end DV
namespace L2
open PySem PySem.Spec PyProof.Rows
section
variable {X:Cx} {k v o e f:Expr} {pos apos cg:Pos} {tk tv td ty tx:TE}
end
end L2
namespace DV
open PySem PySem.Spec PyProof.Rows L2
section
variable {X:Cx} {c:Fc} {o e f:Expr} {fe ff:DE} {i:Nat} {apos cg:Pos}
end
end DV
namespace L2
open PySem PySem.Spec PyProof.Rows
section
variable {X:Cx} {pins:List (Addr×Obj)} {σ:St} {H:Hp} {s:W2} {a:Addr} {ep:Nat} {kvs:List NE} {A:Wt} {E:Value->W2->Prop}
end
section
variable {X:Cx} {pins:List (Addr×Obj)} {σ:St} {H:Hp} {s:W2} {a:Addr} {y v:V} {u r:Value} {A:Wt} {E:Value->W2->Prop}
end
section
variable {X:Cx} {o e f:Expr} {apos cg:Pos} {td ty tx:TE}
end
end L2
namespace DV
open PySem PySem.Spec PyProof.Rows L2
section
variable {X:Cx} {c:Fc} {o e f:Expr} {fe ff:DE} {fb:BE} {i:Nat} {apos cg pos pp:Pos}
end
end DV
namespace L2
open PySem PySem.Spec PyProof.Rows
section
variable {prog:Wm} {w:Wr} {A:Wt} {E:Value->W2->Prop} {s:W2}
end
end L2
namespace DV
open PySem PySem.Spec PyProof.Rows L2
section
variable {X:Cx} {c:Fc} {e:Expr} {fb:BE} {pos pp p:Pos}
end
end DV
namespace L2
open PySem PySem.Spec PyProof.Rows
def gD:Key->NK
 | .inl i=>.i i
 | .inr x=>.s x
theorem Rx(h:gD a=gD b):a=b:=by
 cases a <;> cases b <;> simp[gD] at h <;> rw[h]
theorem Ry(w:Wr)(k:Key):fT w (gD k)=sQ w k:=by cases k <;> simp[gD,fT]
theorem FV:∀ {kvs:List (Key×V)} {vs:List (Key×Value)},KV kvs vs->kvs.map (·.1)=vs.map (·.1)
 | _,_,.nil=>rfl
 | _,_,.cons r1 r2=>by rw[Wu,Wu,FV r2,r1.1]
theorem Rz(x:cn P w H h a (.dK kvs)):∃ ep,cn P w H' h a (.dN ep (kvs.map λp=>(gD p.1,kV p.1,p.2))):=by
 obtain⟨z,hS,vs,r,o,es,ep,g1,g2,g3,g4,g5,g6⟩:=x;refine⟨ep,by simpa using z,hS,o,es,g1,g2,g3,?_,?_⟩
 ·have key:∀ (l:List DictEntry) (vs:List (Key×Value)) (kvs:List (Key×V)),(∀ e ∈ l,∃ k,(dA P w).is k e.key=true/\e.hash=(dA P w).hash k)->Pairs (dA P w) l vs->KV kvs vs->Paired (λ(p:NK×V×V) (e:DictEntry)=>e.hash=fT w p.1/\RelV p.2.1 e.key/\RelV p.2.2 e.val) (kvs.map λp=>(gD p.1,kV p.1,p.2)) l:=by
   intro l vs kvs hk hp;induction hp generalizing kvs with
   | nil=>intro r; cases r; exact .nil
   | @cons e kv es vs h1 h2 h3 ih =>
    intro r
    cases r with
    | @cons p _ ps _ r1 r2 =>
     refine .cons ?_ (ih ps (λe he=>hk e (Wa _ he)) r2);obtain⟨k,k1,k2⟩:=hk e Wj;have:k=kv.1:=(dA P w).inj _ _ _ k1 h1;subst this;refine⟨?_,?_,?_⟩
     ·rw[k2,Ry,r1.1]; rfl
     ·show RelV (kV p.1) e.key;rw[r1.1];exact Fp h1
     ·rw[h2]; exact r1.2
  exact key es.toList vs kvs (λe he=>g4 e (by simpa using he)) g5 r
 ·have e:(kvs.map λp=>(gD p.1,kV p.1,p.2)).map (·.1)=(kvs.map (·.1)).map gD:=by simp[Wy]
  rw[e];rw[FV r];exact List.Pairwise.map gD (λa b h z=>h (Rx z)) g6
def RA(i:Nat):TE:=λσ H Q=>∃ a kvs,σ[i]? = some (some (.ref a))/\H a=some (.dK kvs)/\∀ ep,Q (.ref a) (upd H a (.dN ep (kvs.map λp=>(gD p.1,kV p.1,p.2))))
theorem RB(ho:PE X o (cJ i)):PE X o (RA i):=by
 intro pins s σ H Q I h;obtain⟨a,kvs,ea,hH,q⟩:=h;refine a0 (ho pins s σ H (λv H1=>v = .ref a/\H1=H) I ⟨.ref a,ea,rfl,rfl⟩) λu s1 ⟨x,H1,I1,rx,ex,eH⟩=>?_
 subst ex; subst eH
 obtain⟨ep,hN⟩:=Rz (H':=H1) (I1.aM a _ hH);have hN:cn X.prog X.w (upd H1 a (.dN ep (kvs.map λp=>(gD p.1,kV p.1,p.2)))) s1.heap a (.dN ep (kvs.map λp=>(gD p.1,kV p.1,p.2))):=hN;obtain⟨_,_,o,_,ho,_⟩:=id hN;have I2:=I1.write (x:=a) (e:=a) (h':=s1.heap) (t':=s1.toks) (by rw[hH]; trivial) (.inl rfl) (λb u _ e=>e) ⟨o,ho⟩ hN;exact⟨.ref a,_,I2,rx,q ep⟩
end L2
namespace DV
open PySem PySem.Spec PyProof.Rows L2
def cM(ds:List (bU×D)):List (D×D):=ds.map λp=>(u4 p.1,p.2)
def r_(i:Nat):DE:=λδ=>match δ[i]? with
 | some (some (.own (.aC ds)))=>.ok (.pure (.dic (cM ds))) (δ.set i (some (.pure (.dic (cM ds)))))
 | _=>.stuck
section
variable {X:Cx} {c:Fc} {o:Expr} {i:Nat}
theorem Ok.turn(k:Ok c σ δ H)(e:δ[i]? = some (some (.own (.aC ds))))(ea:σ[i]? = some (some (.ref a)))(r:Rep (upd H a u) (Av c σ (δ.set i none)) (.ref a) d) :
  ba c σ δ H σ (δ.set i (some (.pure d))) (upd H a u)/\Rep (upd H a u) (Av c σ (δ.set i (some (.pure d)))) (.ref a) d:=by
 have hi:i < δ.length:=(W6.mp e).1;have af:=k.freeze (u:=u) e ea;have eO:∀ b,Own σ (δ.set i (some (.pure d))) b ↔ Own σ (δ.set i none) b:=λb=>by
  constructor <;> rintro ⟨j,d',f1,f2⟩ <;> by_cases hj:i=j
  ·subst hj; rw[Wb hi] at f1; cases f1
  ·rw[W5 hj] at f1; exact⟨j,d',by rw[W5 hj]; exact f1,f2⟩
  ·subst hj; rw[Wb hi] at f1; cases f1
  ·rw[W5 hj] at f1; exact⟨j,d',by rw[W5 hj]; exact f1,f2⟩
 have eP:Own σ (δ.set i (some (.pure d)))=Own σ (δ.set i none):=funext λb=>propext (eO b)
 have eA:Av c σ (δ.set i (some (.pure d)))=Av c σ (δ.set i none):=by unfold Av; rw[eP]
 rw[eA];refine⟨⟨⟨af.ok.keep,af.ok.bd,af.ok.eQ,by rw[Q3]; exact k.len,λj d' f=>?_,λj d' f=>?_,λj l b d1 d2 f1 f2 g1 g2=>?_,k.pinned⟩,af.keep,?_,af.there⟩,r⟩
 ·rw[eA];by_cases hj:i=j
  ·subst hj;rw[Wb hi] at f
   cases f;exact⟨_,ea,r⟩
  ·rw[W5 hj] at f;exact af.ok.slot j d' (by rw[W5 hj]; exact f)
 ·rw[eA];have hj:i≠j:=λz=>by subst z; rw[Wb hi] at f; cases f
  rw[W5 hj] at f;exact af.ok.own j d' (by rw[W5 hj]; exact f)
 ·have h1:i≠j:=λz=>by subst z; rw[Wb hi] at f1; cases f1
  have h2:i≠l:=λz=>by subst z; rw[Wb hi] at f2; cases f2
  rw[W5 h1] at f1;rw[W5 h2] at f2;exact k.inj j l b d1 d2 f1 f2 g1 g2
 ·intro b z;exact af.own b (by rw[<- eP]; exact z)
theorem RC(ho:PE X o (cJ i)):SE X c o (r_ i) :=
 PE.weak (RB ho) λσ H Q ⟨δ,k,q⟩=>by
  unfold r_ at q;split at q
  case h_2=>exact q.elim
  rename_i ds e;obtain⟨a,ea,⟨ws,hw,hk,hr⟩,hI,nB⟩:=k.own i _ e;refine⟨a,ws,ea,hw,λep=>?_⟩;have hi:i < δ.length:=(W6.mp e).1;have af:=k.freeze (u:=.dN ep (ws.map λp=>(gD p.1,kV p.1,p.2))) e ea;have nO:¬ Own σ (δ.set i none) a:=λ⟨j,d,f1,f2⟩=>by
   by_cases hj:i=j
   ·subst hj;rw[Wb hi] at f1
    cases f1
   ·rw[W5 hj] at f1;exact hj (k.inj i j a _ _ e f1 ea f2)
  have nA:¬ Av c σ (δ.set i none) a:=λz=>z.elim nB nO
  have hlen:ws.length=ds.length:=by simpa using congrArg Js hk
  have kk:∀ (j:Nat) p q',ws[j]? = some p->ds[j]? = some q'->p.1=dU q'.1:=λj p q' e1 e2=>by
   have:=congrArg (λl=>l[j]?) hk;simp only[Wh,e1,e2,WF] at this;exact Wz this
  have hO:Own σ δ a:=⟨i,_,e,ea⟩
  have kp:∀ b o,H b=some o->¬ Av c σ δ b->upd H a (.dN ep (ws.map λp=>(gD p.1,kV p.1,p.2))) b=some o:=λb o h n=>by
   rw[bh λz=>n (.inr (by rw[z]; exact hO))];exact h
  have jq:∀ b,Av c σ (δ.set i none) b->Av c σ δ b:=λb z=>z.elim .inl λ⟨j,d,f1,f2⟩=>by
   by_cases hj:i=j
   ·subst hj;rw[Wb hi] at f1
    cases f1
   ·rw[W5 hj] at f1;exact .inr ⟨j,d,f1,f2⟩
  have r:Rep (upd H a (.dN ep (ws.map λp=>(gD p.1,kV p.1,p.2)))) (Av c σ (δ.set i none)) (.ref a) (.dic (cM ds)):=by
   refine .dic nA dH (by simp[cM,hlen]) (λj p q' e1 e2=>?_) (λj p q' e1 e2=>?_) λj p q' e1 e2=>?_
   all_goals
    unfold cM at e2;rw[Wh] at e1 e2;obtain⟨p0,f1,rfl⟩:=WG.mp e1;obtain⟨q0,f2,rfl⟩:=WG.mp e2;have ek:=kk j p0 q0 f1 f2;simp only
   ·rw[ek]; exact Fs _
   ·exact((hr j p0 q0 f1 f2).keep kp).aW λb z=>.inl (jq b z)
   ·rw[ek]
    cases q0.1 <;> rfl
  obtain⟨a2,r2⟩:=k.turn e ea r;exact q _ _ a2 r2
end
end DV
namespace L2
open PySem PySem.Spec PyProof.Rows
theorem RD(l:Addr)(dd:Option Addr)(items:Array Value)(n:Nat)(sl:Array (Option Value))(u:Tok)(he:items.isEmpty=false) :
  Meets (Builtin.«tuple.__mul__» ⟨[.ref l,.int 0 u],[]⟩) (λ_ R s=>s.heap.get? l=some { cls:=.type "tuple",dict:=dd,data:=.seq items n,slots:=sl }/\R (.ok (.ret (.ref s.heap.objs.size))) { s with heap:=s.heap.push { cls:=.type "tuple",data:=.seq #[] } }) :=
 .of_wp λprog w A R s h=>by
  obtain⟨hp,g,d,tk,os⟩:=s; obtain⟨hl,h⟩:=h
  have h2:¬ ((items.isEmpty || (0:Int) == 1)=true):=by rw[he]; decide
  have h3:(decide ((0:Int)<=0) || items.isEmpty)=true:=by simp
  wp_walk
  try rw[if_neg h2]
  try wp_walk
  try rw[if_pos h3]
  try wp_walk
  exact⟨_,rfl,h⟩
def FW(K:W1):R2:=λx y H Q=>∃ l xs,x = .ref l/\y = .int 0/\cR K H l xs/\xs≠[]/\∀ p,H p=none->Q (.ref p) (upd H p (.tup []))
section
variable {X:Cx}
theorem RE:bP X (WV .Mult) (FW X.K):=by
 intro pins s σ H x y v u Q I rx ry h;obtain⟨l,xs,rfl,rfl,hH,cZ,q⟩:=h
 cases rx;obtain⟨t,rfl⟩:=ry;obtain⟨aj,r,pl,hl⟩:=I.tuple hH;obtain⟨⟨cls,dd,data,sl⟩,ho,hc,n,hd⟩:=id pl;simp only at hc hd;subst hc hd;have kz:aj.toArray.isEmpty=false:=by
  cases aj with
  | nil=>exact absurd (r.ph.mp rfl) cZ
  | cons a b=>rfl
 refine Jc (T:="tuple") (U:="int") (by decide) ⟨_,ho,rfl⟩ (λs'=>QG s' 0 t) xY F.fills_int_mul QP xZ F.slot_int_index.lookup
  (QO QP (QG s 0 t) F.entry_int_rmul (JP _ _) (xX 0 t l dd aj.toArray n sl)
   ⟨ho,rfl,⟨_,ho,rfl⟩,QO F.slot_tuple_mul ⟨_,ho,rfl⟩ F.entry_tuple_mul (F.args_tuple_mul_2 _ _) (RD l dd aj.toArray n sl t kz) ⟨ho,?_⟩⟩)
 have I1:Inv X pins σ (upd H s.heap.objs.size (.tup [])) { s with heap:=s.heap.push { cls:=.type "tuple",data:=.seq #[] } } :=
  I.laid (t':=s.toks) (λb o e=>Wd _ e) (Wg _) (show cn X.prog X.w _ _ _ (.tup []) from⟨Qg _,[],.nil,iD.new _ _⟩)
 exact⟨.ref _,_,I1,rfl,q _ (I.aM.fresh (Wg _))⟩
end
end L2
namespace DV
open PySem PySem.Spec PyProof.Rows L2
def mU(x y:D):Option S:=match x,y with
 | .tup xs,.int k=>if k=0/\xs≠[] then some (.pure (.tup [])) else rT (.tup xs) (.int k)
 | x,y=>rT x y
def FX(K:W1):R2:=λx y H Q=>FW K x y H Q\/yp K x y H Q
theorem FY:bP X (WV .Mult) (FX X.K):=RE.or ON
theorem FZ{K:W1}:cF (FX K) mU:=by
 intro c σ δ H x y d e s Q k rx ry hp q;unfold mU at hp;split at hp
 ·rename_i xs n;split at hp
  ·rename_i hn;obtain⟨hn,cZ⟩:=hn;subst hn
   cases hp;obtain⟨a,vs,ex,ha,r⟩:=rx.tup;subst ex;refine .inl ⟨a,vs,rfl,ry.int,.of ha,?_,λp hp=>?_⟩
   ·intro z;subst z;apply cZ;have:=r.1;simp at this;exact List.length_eq_zero_iff.mp this.symm
   ·exact q _ _ (.alloc k hp _) (bA.nN k .nil hp)
  ·exact .inr (E2 c σ δ H x y _ _ s Q k rx ry hp q)
 ·exact .inr (E2 c σ δ H x y _ _ s Q k rx ry hp q)
def oF:D->Option S
 | .int i=>if i.natAbs.log2 < 1920 then some (.pure (.str (toString i:Str).cps.toList)) else none
 | _=>none
theorem RF(x:Str):toS x.cps.toList=x:=by
 cases x with
 | mk c=>simp[toS]
theorem RH (hg:Gl X "str") (hm:X.mg "str" = none) (he:SB X c e fb) (hs:Wk [e] X.env=(false,eval e X.env) :: Wk [] X.env:=by rfl):SE X c (.Call (.Name "str" pp) [e] [] pos) (aH oF fb) :=
 rm (r:=λv H Q=>∃ i,v = .int i/\i.natAbs.log2 < 1920/\Q (.str (toString i)) H) KA (λv H Q ⟨i,e,h⟩=>⟨i,by rw[e],h⟩) (λc σ δ H x d s Q k rx hp q=>by
  cases d with
  | int i =>
   simp only[oF] at hp;split at hp
   ·rename_i hi;simp only[W8] at hp;subst hp;refine⟨i,rx.int,hi,?_⟩;have:=q (.str (toS (toString i:Str).cps.toList)) H (.refl k) (.str _);rw[RF] at this;exact this
   ·cases hp
  | _=>simp[oF] at hp) hg hm PyProof.Rows.boot_str he (by decide) (by decide) hs
end DV
namespace K22
open PySem.W (nsIn keepIn codeIn findIn mroIn kitOne mg_of)
open PySem PySem.Spec PyProof.Rows L2 DV
theorem aq{a b:Prop}(h:a\/b:=by first|exact Or.inl rfl|exact Or.inr rfl):a\/b:=h
def top(i:Nat):Stmt:=PySem.Challenge.pw_tilegrow_k22_shares_by_anybody.main.body.getD i (.Pass ⟨0,0,0,0⟩)
abbrev y6:Stmt:=top 17
abbrev y9:Stmt:=top 19
abbrev y_:Stmt:=top 18
abbrev zc:Stmt:=top 20
abbrev zd:Stmt:=top 23
abbrev ze:Stmt:=top 22
abbrev zf:Stmt:=top 24
abbrev zg:Stmt:=top 2
abbrev zh:Stmt:=top 8
abbrev zi:Stmt:=top 9
abbrev zj:Stmt:=top 11
abbrev zk:Stmt:=top 4
abbrev zm:Stmt:=top 6
abbrev zo:Stmt:=top 10
abbrev zp:Stmt:=top 13
abbrev zq:Stmt:=top 12
abbrev zt:Stmt:=top 31
abbrev zu:Stmt:=top 32
abbrev zv:Stmt:=top 1
abbrev zw:Stmt:=top 14
abbrev zx:Stmt:=top 15
abbrev zy:Stmt:=top 21
abbrev zz:Stmt:=top 28
abbrev zA:Stmt:=top 29
abbrev zB:Stmt:=top 25
abbrev zC:Stmt:=top 30
abbrev lD:Stmt:=top 33
structure Txt(K:W1)(mg:Str->Option Value):Prop where
 qa:mg "abs" = none
 oG:mg "all" = none
 oH:mg "bool" = none
 sd:mg "dict" = none
 mV:mg "int" = none
 iY:mg "isinstance" = none
 e_:mg "len" = none
 qb:mg "list" = none
 se:mg "max" = none
 gZ:mg "range" = none
 sg:mg "sorted" = none
 si:mg "str" = none
 lE:mg "sum" = none
 g7:mg "tuple" = none
 oI:mg "zip" = none
 ty_bool:lh K "bool"
 ty_int:lh K "int"
 ty_tuple:lh K "tuple"
def zD:DS:=(az (cE (aB (ah mq 1 (ao (aH bf (ae 0))))) (bC (ah ay 0 (ae 1))) cG) (bC (eD (.int 0))))
def mW:DF:=cy [] 2 zD
theorem RI:de mW:=dM
theorem RJ:cY ["script","k"] ["script","k"] (cq y6):=scc
theorem RK {K:W1} (F:cC K "_law_cell_at" "_law_cell_at" y6 f fd) (hm:mg "_law_cell_at" = some (.ref f)) (hb:Binds K fd ["script","k"] []) (T:Txt K mg):aS P w K mg base 1 "_law_cell_at" 2 mW :=
 ef (np:=[]) (fb:=zD) F hm hb RJ (λc bE A outer s H E hr aw=>by
  have hq:=dO hr;refine(aO ?_ ?_)
  ·refine(eX ?_ ?_ ?_)
   ·exact(iK Dz DB (pv 1) (aD (fO rfl T.e_ (aU (pv 0)) (by rfl))) (cO _))
   ·refine(bo ?_);refine(cw ?_);exact(bQ bH bK (pv 0) (aU (pv 1)) (λ_ _=>rfl))
   ·exact eW
  refine(bo ?_);refine(cw ?_);exact aL) λss y h=>dE h
def zE:DS:=(az (ax (uu (aa 0) (aE gj (eD (.int 0)) (ae 0))) (ag [] 1)) (bC (eV (aG (aa 1) (aG (aH jS (ao (ah rh 1 (ao (aE xh (eD (.int 10)) (ao (eD (.int 18)))))))) (aG (ah fM 1 (ao (eD (.int 1000003)))) bB))))))
def mX:DF:=cy [] 2 zE
theorem RM:de mX:=dM
theorem F_:cY ["cell","left"] ["cell"] (cq y9):=scc
theorem RN {K:W1} (F:cC K "_law_pen_of" "_law_pen_of" y9 f fd) (hm:mg "_law_pen_of" = some (.ref f)) (hb:Binds K fd ["cell"] []) (T:Txt K mg):aS P w K mg base 1 "_law_pen_of" 1 mX :=
 ef (np:=[]) (fb:=zE) F hm hb F_ (λc bE A outer s H E hr aw=>by
  have hq:=dO hr;refine(aO ?_ ?_)
  ·exact(@bR _ _ _ _ _ _ ([]) (1) _ aw F_.nd rfl aq (MX rfl rfl T.se (aJ (pv 0)) (cA qG rd aL (aU (pv 0))) (by rfl) (by rfl) (by rfl)) rfl aq)
  refine(bo ?_);refine(cw ?_);exact(jk (bw (aJ (pv 1)) (bw (DM rfl T.mV (aD (uo xj jR (pv 1) (aD (cA Kj MO aL (aD aL))) (cO _))) (by rfl)) (bw (dY lU mn (pv 1) (aD aL)) c7 (by rfl)) (by rfl)) (by rfl)) (by decide))) λss y h=>dE h
def zF:DS:=(az (ax (aE fM (ah bI 0 (ao (eD (.int 7919)))) (ao (eD (.int 2147483647)))) (ag [] 0)) (bC (aE fM (aE bI (aE bI (ah e9 0 (ae 0)) (ao (aE e9 (eD (.int 48271)) (ae 0)))) (ao (eD (.int 12345)))) (ao (eD (.int 2147483629))))))
def mY:DF:=cy [] 1 zF
theorem Ga:de mY:=dM
theorem Gb:cY ["seed"] ["seed"] (cq y_):=scc
theorem RO {K:W1} (F:cC K "_law_next" "_law_next" y_ f fd) (hm:mg "_law_next" = some (.ref f)) (hb:Binds K fd ["seed"] []) (T:Txt K mg):aS P w K mg base 1 "_law_next" 1 mY :=
 ef (np:=[]) (fb:=zF) F hm hb Gb (λc bE A outer s H E hr aw=>by
  have hq:=dO hr;refine(aO ?_ ?_)
  ·exact(@bR _ _ _ _ _ _ ([]) (0) _ aw Gb.nd rfl aq (cA lU mn (dY fD fE (pv 0) (aD aL)) (aD aL)) rfl aq)
  refine(bo ?_);refine(cw ?_);exact(cA lU mn (cA fD fE (cA fD fE (dY oh my (pv 0) (aU (pv 0))) (aD (cA oh my aL (aU (pv 0))))) (aD aL)) (aD aL))) λss y h=>dE h
def zG:DS:=(az (cE (aB (aE bX (ah ay 0 (ao (eD (.int 1)))) (ao (eD (.int 1))))) (az (ax (aE fM (ah ay 0 (ao (eD (.int 0)))) (ae 1)) (ag [0] 2)) (az (gW 0 (eD (.int 0)) (aE rg (ah ay 0 (ao (eD (.int 0)))) (ae 1))) (bC (aa 2)))) cG) (az (gW 0 (eD (.int 2)) (aA mY [.val (aE bI (aA mY [.val (ah ay 0 (ao (eD (.int 2))))]) (ao (eD (.int 7))))])) (bC (aE fM (aE rg (ah ay 0 (ao (eD (.int 2)))) (ao (eD (.int 64)))) (ae 1)))))
def c8:DF:=cy [0] 3 zG
theorem gG:de c8:=dM
theorem Gd:cY ["pen","many","found"] ["pen","many"] (cq zc):=scc
theorem RP {K:W1} (F:cC K "_law_draw" "_law_draw" zc f fd) (hm:mg "_law_draw" = some (.ref f)) (hb:Binds K fd ["pen","many"] []) (T:Txt K mg) (vb:aS P w K mg base 1 "_law_next" 1 mY):aS P w K mg base 2 "_law_draw" 2 c8 :=
 ef (np:=[0]) (fb:=zG) F hm hb Gd (λc bE A outer s H E hr aw=>by
  have hq:=dO hr;refine(aO ?_ ?_)
  ·refine(eX ?_ ?_ ?_)
   ·exact(gh (gR hq) gS (bQ bH bK (pv 0) (aD aL) (λ_ _=>rfl)) (aD aL) (cO _))
   ·refine(aO ?_ ?_)
    ·exact(@bR _ _ _ _ _ _ ([0]) (2) _ aw Gd.nd rfl aq (cA lU mn (bQ bH bK (pv 0) (aD aL) (λ_ _=>rfl)) (aU (pv 1))) rfl aq)
    refine(aO ?_ ?_)
    ·exact(rE (pv 0) aL (cA B0 Dy (bQ bH bK (pv 0) (aD aL) (λ_ _=>rfl)) (aU (pv 1))) (by intro _; rfl) (by rfl) (by rfl) (by rfl))
    refine(bo ?_);refine(cw ?_);exact(aJ (pv 2))
   ·exact eW
  refine(aO ?_ ?_)
  ·exact(rE (pv 0) aL (@cf _ _ _ _ _ (1) _ _ _ _ _ vb Ga (hr.mono (by decide)) rfl (bj (cA fD fE (@cf _ _ _ _ _ (1) _ _ _ _ _ vb Ga (hr.mono (by decide)) rfl (bj (bQ bH bK (pv 0) (aD aL) (λ_ _=>rfl)) b_ (by rfl)) rfl (by decide) (by rfl) (by rfl)) (aD aL)) b_ (by rfl)) rfl (by decide) (by rfl) (by rfl)) (by intro _; rfl) (by rfl) (by rfl) (by rfl))
  refine(bo ?_);refine(cw ?_);exact(cA lU mn (cA B0 Dy (bQ bH bK (pv 0) (aD aL) (λ_ _=>rfl)) (aD aL)) (aU (pv 1)))) λss y h=>dE h
def zH:DS:=(az (ax (aE bI (eD (.int 1)) (ao (aA c8 [.io 0,.val (eD (.int 3))]))) (ag [0] 1)) (az (ax (aE bI (eD (.int 1)) (ao (aA c8 [.io 0,.val (eD (.int 3))]))) (ag [0] 2)) (az (cE (aB (aE bX (aA c8 [.io 0,.val (eD (.int 8))]) (ao (eD (.int 0))))) (ax (aE ay (iS [.tup [.int 4,.int 1],.tup [.int 1,.int 4],.tup [.int 4,.int 4],.tup [.int 4,.int 3],.tup [.int 1,.int 2],.tup [.int 2,.int 1]]) (ao (aA c8 [.io 0,.val (eD (.int 6))]))) (bV 2 (aQ (ag [0] 1) (aQ (ag [0] 2) b9)))) cG) (az (cE (aB (aE bX (ah bI 1 (ae 2)) (ao (eD (.int 2))))) (ax (eD (.int 2)) (ag [0] 2)) cG) (bC (cD (aG (aa 1) (aG (aa 2) bB))))))))
def oJ:DF:=cy [0] 3 zH
theorem RQ:de oJ:=dM
theorem qc:cY ["pen","high","wide"] ["pen"] (cq zd):=scc
theorem RS {K:W1} (F:cC K "_law_sizes_by" "_law_sizes_by" zd f fd) (hm:mg "_law_sizes_by" = some (.ref f)) (hb:Binds K fd ["pen"] []) (T:Txt K mg) (ei:aS P w K mg base 2 "_law_draw" 2 c8):aS P w K mg base 3 "_law_sizes_by" 1 oJ :=
 ef (np:=[0]) (fb:=zH) F hm hb qc (λc bE A outer s H E hr aw=>by
  have hq:=dO hr;refine(@aO _ _ _ _ _ _ ?_ ?_)
  ·exact(@bR _ _ _ _ _ _ ([0]) (1) _ aw qc.nd rfl aq (@cA _ _ _ _ _ _ _ _ _ _ fD fE (@aL _ _ _ _ _) (@aD _ _ _ _ (@cf _ _ _ _ _ (2) _ _ _ _ _ ei gG (hr.mono (by decide)) rfl (@fu _ _ _ _ _ _ (pv 0) (@bj _ _ _ _ _ _ (@aL _ _ _ _ _) (@b_ _ _) (by rfl)) (by rfl)) rfl (by decide) (by rfl) (by rfl)))) rfl aq)
  refine(@aO _ _ _ _ _ _ ?_ ?_)
  ·exact(@bR _ _ _ _ _ _ ([0]) (2) _ aw qc.nd rfl aq (@cA _ _ _ _ _ _ _ _ _ _ fD fE (@aL _ _ _ _ _) (@aD _ _ _ _ (@cf _ _ _ _ _ (2) _ _ _ _ _ ei gG (hr.mono (by decide)) rfl (@fu _ _ _ _ _ _ (pv 0) (@bj _ _ _ _ _ _ (@aL _ _ _ _ _) (@b_ _ _) (by rfl)) (by rfl)) rfl (by decide) (by rfl) (by rfl)))) rfl aq)
  refine(@aO _ _ _ _ _ _ ?_ ?_)
  ·refine(@eX _ _ _ _ _ _ _ _ _ ?_ ?_ ?_)
   ·exact(@gh _ _ _ _ _ _ _ _ _ _ (gR hq) gS (@cf _ _ _ _ _ (2) _ _ _ _ _ ei gG (hr.mono (by decide)) rfl (@fu _ _ _ _ _ _ (pv 0) (@bj _ _ _ _ _ _ (@aL _ _ _ _ _) (@b_ _ _) (by rfl)) (by rfl)) rfl (by decide) (by rfl) (by rfl)) (@aD _ _ _ _ (@aL _ _ _ _ _)) (cO _))
   ·refine(@bo _ _ _ _ ?_);refine(@uy _ _ _ _ _ _ _ ?_ ?_ (by rfl) (by rfl) (by rfl))
    ·exact(@w_ _ _ _ _ _ _ _ _ _ bH bK (@xU _ _ _ _ _ (by rfl) (by decide)) (@aD _ _ _ _ (@cf _ _ _ _ _ (2) _ _ _ _ _ ei gG (hr.mono (by decide)) rfl (@fu _ _ _ _ _ _ (pv 0) (@bj _ _ _ _ _ _ (@aL _ _ _ _ _) (@b_ _ _) (by rfl)) (by rfl)) rfl (by decide) (by rfl) (by rfl))) (λ_ _=>rfl))
    ·exact(@nX _ _ _ _ _ _ _ rfl (@ic _ _ _ _ _ _ (@dZ _ _ _ ([0]) (1) _ aw qc.nd rfl aq aq) (@ic _ _ _ _ _ _ (@dZ _ _ _ ([0]) (2) _ aw qc.nd rfl aq aq) (@nW _ _) (by rfl)) (by rfl)) (by rfl) (by rfl))
   ·exact eW
  refine(@aO _ _ _ _ _ _ ?_ ?_)
  ·refine(@eX _ _ _ _ _ _ _ _ _ ?_ ?_ ?_)
   ·exact(@gh _ _ _ _ _ _ _ _ _ _ (gR hq) gS (@dY _ _ _ _ _ _ _ _ _ _ fD fE (pv 1) (@aU _ _ _ _ (pv 2))) (@aD _ _ _ _ (@aL _ _ _ _ _)) (cO _))
   ·refine(@bo _ _ _ _ ?_);exact(@bR _ _ _ _ _ _ ([0]) (2) _ aw qc.nd rfl aq (@aL _ _ _ _ _) rfl aq)
   ·exact eW
  refine(@bo _ _ _ _ ?_);refine(@cw _ _ _ _ _ ?_);exact(@fN _ _ _ _ _ _ (@bw _ _ _ _ _ _ (@aJ _ _ _ _ (pv 1)) (@bw _ _ _ _ _ _ (@aJ _ _ _ _ (pv 2)) (@c7 _ _) (by rfl)) (by rfl)) (by decide))) λss y h=>dE h
def zI:DS:=(az (cE (aB (ah bX 3 (ao (eD (.int 1))))) (bC (ah ay 1 (ao (aA c8 [.io 0,.val (ah bI 2 (ao (eD (.int 1))))])))) cG) (az (cE (aB (ah bX 3 (ao (eD (.int 2))))) (bC (ah ay 1 (ao (aE fM (ah bI 2 (ao (eD (.int 1)))) (ao (aH bf (ae 1))))))) cG) (az (cE (mi (aB (ah bX 3 (ao (eD (.int 3))))) (aB (aE gx (aA c8 [.io 0,.val (eD (.int 4))]) (ao (eD (.int 0)))))) (bC (ah ay 1 (ae 2))) cG) (bC (ah ay 1 (ao (aA c8 [.io 0,.val (aH bf (ae 1))])))))))
def iZ:DF:=cy [0] 4 zI
theorem RT:de iZ:=dM
theorem RU:cY ["pen","tiles","place","way"] ["pen","tiles","place","way"] (cq ze):=scc
theorem RV {K:W1} (F:cC K "_law_pick" "_law_pick" ze f fd) (hm:mg "_law_pick" = some (.ref f)) (hb:Binds K fd ["pen","tiles","place","way"] []) (T:Txt K mg) (ei:aS P w K mg base 2 "_law_draw" 2 c8):aS P w K mg base 3 "_law_pick" 4 iZ :=
 ef (np:=[0]) (fb:=zI) F hm hb RU (λc bE A outer s H E hr aw=>by
  have hq:=dO hr;refine(aO ?_ ?_)
  ·refine(eX ?_ ?_ ?_)
   ·exact(iK (gR hq) gS (pv 3) (aD aL) (cO _))
   ·refine(bo ?_);refine(cw ?_);exact(bQ bH bK (pv 1) (aD (@cf _ _ _ _ _ (2) _ _ _ _ _ ei gG (hr.mono (by decide)) rfl (fu (pv 0) (bj (dY fD fE (pv 2) (aD aL)) b_ (by rfl)) (by rfl)) rfl (by decide) (by rfl) (by rfl))) (λ_ _=>rfl))
   ·exact eW
  refine(aO ?_ ?_)
  ·refine(eX ?_ ?_ ?_)
   ·exact(iK (gR hq) gS (pv 3) (aD aL) (cO _))
   ·refine(bo ?_);refine(cw ?_);exact(bQ bH bK (pv 1) (aD (cA lU mn (dY fD fE (pv 2) (aD aL)) (aD (fO rfl T.e_ (aU (pv 1)) (by rfl))))) (λ_ _=>rfl))
   ·exact eW
  refine(aO ?_ ?_)
  ·refine(eX ?_ ?_ ?_)
   ·exact(mj (xf (iK (gR hq) gS (pv 3) (aD aL) (cO _)) (xb (gh pG jR (@cf _ _ _ _ _ (2) _ _ _ _ _ ei gG (hr.mono (by decide)) rfl (fu (pv 0) (bj aL b_ (by rfl)) (by rfl)) rfl (by decide) (by rfl) (by rfl)) (aD aL) (cO _)))))
   ·refine(bo ?_);refine(cw ?_);exact(bQ bH bK (pv 1) (aU (pv 2)) (λ_ _=>rfl))
   ·exact eW
  refine(bo ?_);refine(cw ?_);exact(bQ bH bK (pv 1) (aD (@cf _ _ _ _ _ (2) _ _ _ _ _ ei gG (hr.mono (by decide)) rfl (fu (pv 0) (bj (fO rfl T.e_ (aU (pv 1)) (by rfl)) b_ (by rfl)) (by rfl)) rfl (by decide) (by rfl) (by rfl))) (λ_ _=>rfl))) λss y h=>dE h
def zJ:DS:=(az (ax (aA oJ [.io 0]) (bV 2 (aQ (ag [0] 2) (aQ (ag [0] 3) b9)))) (az (ax (aE bI (eD (.int 1)) (ao (aA c8 [.io 0,.val (aa 1)]))) (ag [0] 4)) (az (ax (aA c8 [.io 0,.val (eD (.int 26))]) (ag [0] 5)) (az (ax (eD (.str [97,98,99,100,101,102,103,104,105,106,107,108,109,110,111,112,113,114,115,116,117,118,119,120,121,122])) (ag [0] 6)) (az (ax (aH pI (ao (bD [13] (dD (aa 4)) (ag [0] 13) aV (ah ay 6 (ao (aE fM (ah bI 5 (ao (aE e9 (eD (.int 5)) (ae 13)))) (ao (eD (.int 26))))))))) (ag [0] 7)) (az (ax (aA c8 [.io 0,.val (eD (.int 5))]) (ag [0] 8)) (az (ax (eV bB) (ag [0] 9)) (az (er (dD (aa 4)) (ag [0] 10) (az (ax (eV bB) (ag [0] 11)) (az (er (dD (aa 2)) (ag [0] 12) (ft 11 (aH (fq []) (ao (bD [14] (dD (aa 3)) (ag [0] 14) aV (aA iZ [.io 0,.val (aa 7),.val (aa 10),.val (aa 8)])))))) (ft 9 (cD (aG (ah ay 7 (ae 10)) (aG (aH en (ae 11)) bB))))))) (bC (cD (aG (aa 2) (aG (aa 3) (aG (aH en (ae 9)) bB)))))))))))))
def lF:DF:=cy [0] 15 zJ
theorem RX:de lF:=dM
theorem ir:cY ["pen","most","high","wide","size","first","letters","tiles","way","blocks","place","block","row","k","column"] ["pen","most"] (cq zf):=scc
theorem RY {K:W1} (F:cC K "_law_rule_by" "_law_rule_by" zf f fd) (hm:mg "_law_rule_by" = some (.ref f)) (hb:Binds K fd ["pen","most"] []) (T:Txt K mg) (ei:aS P w K mg base 2 "_law_draw" 2 c8) (zK:aS P w K mg base 3 "_law_sizes_by" 1 oJ) (zL:aS P w K mg base 3 "_law_pick" 4 iZ):aS P w K mg base 4 "_law_rule_by" 2 lF :=
 ef (np:=[0]) (fb:=zJ) F hm hb ir (λc bE A outer s H E hr aw=>by
  have hq:=dO hr;refine(@aO _ _ _ _ _ _ ?_ ?_)
  ·refine(@uy _ _ _ _ _ _ _ ?_ ?_ (by rfl) (by rfl) (by rfl))
   ·exact(@cf _ _ _ _ _ (3) _ _ _ _ _ zK RQ (hr.mono (by decide)) rfl (@fu _ _ _ _ _ _ (pv 0) (@b_ _ _) (by rfl)) rfl (by decide) (by rfl) (by rfl))
   ·exact(@nX _ _ _ _ _ _ _ rfl (@ic _ _ _ _ _ _ (@dZ _ _ _ ([0]) (2) _ aw ir.nd rfl aq aq) (@ic _ _ _ _ _ _ (@dZ _ _ _ ([0]) (3) _ aw ir.nd rfl aq aq) (@nW _ _) (by rfl)) (by rfl)) (by rfl) (by rfl))
  refine(@aO _ _ _ _ _ _ ?_ ?_)
  ·exact(@bR _ _ _ _ _ _ ([0]) (4) _ aw ir.nd rfl aq (@cA _ _ _ _ _ _ _ _ _ _ fD fE (@aL _ _ _ _ _) (@aD _ _ _ _ (@cf _ _ _ _ _ (2) _ _ _ _ _ ei gG (hr.mono (by decide)) rfl (@fu _ _ _ _ _ _ (pv 0) (@bj _ _ _ _ _ _ (@aJ _ _ _ _ (pv 1)) (@b_ _ _) (by rfl)) (by rfl)) rfl (by decide) (by rfl) (by rfl)))) rfl aq)
  refine(@aO _ _ _ _ _ _ ?_ ?_)
  ·exact(@bR _ _ _ _ _ _ ([0]) (5) _ aw ir.nd rfl aq (@cf _ _ _ _ _ (2) _ _ _ _ _ ei gG (hr.mono (by decide)) rfl (@fu _ _ _ _ _ _ (pv 0) (@bj _ _ _ _ _ _ (@aL _ _ _ _ _) (@b_ _ _) (by rfl)) (by rfl)) rfl (by decide) (by rfl) (by rfl)) rfl aq)
  refine(@aO _ _ _ _ _ _ ?_ ?_)
  ·exact(@bR _ _ _ _ _ _ ([0]) (6) _ aw ir.nd rfl aq (@C8 _ _ _ _ _ [97,98,99,100,101,102,103,104,105,106,107,108,109,110,111,112,113,114,115,116,117,118,119,120,121,122] (by decide +kernel)) rfl aq)
  refine(@aO _ _ _ _ _ _ ?_ ?_)
  ·exact(@bR _ _ _ _ _ _ ([0]) (7) _ aw ir.nd rfl aq (@MW _ _ _ _ _ _ rfl T.sg (@aD _ _ _ _ (@fX _ _ ([13]) _ _ _ _ _ _ _ _ _ _ rfl (@e8 _ _ _ rfl rfl) (@jU _ _ _ _ _ _ _ rfl T.gZ (@aJ _ _ _ _ (pv 4)) (by rfl)) (λl s0 H0 ex=>(@dk _ _ _ _ ([0]) (13) _ aw ir.nd rfl aq aq (by decide))) (λl s0 H0 ex=>(@fF _ _)) (λl s0 H0 ex=>(@bQ _ _ _ _ _ _ _ _ _ bH bK (pv 6) (@aD _ _ _ _ (@cA _ _ _ _ _ _ _ _ _ _ lU mn (@dY _ _ _ _ _ _ _ _ _ _ fD fE (pv 5) (@aD _ _ _ _ (@cA _ _ _ _ _ _ _ _ _ _ oh my (@aL _ _ _ _ _) (@aU _ _ _ _ (pv 13))))) (@aD _ _ _ _ (@aL _ _ _ _ _)))) (λ_ _=>rfl))) (e7 aw rfl) (by intro _; rfl))) (by rfl)) rfl aq)
  refine(@aO _ _ _ _ _ _ ?_ ?_)
  ·exact(@bR _ _ _ _ _ _ ([0]) (8) _ aw ir.nd rfl aq (@cf _ _ _ _ _ (2) _ _ _ _ _ ei gG (hr.mono (by decide)) rfl (@fu _ _ _ _ _ _ (pv 0) (@bj _ _ _ _ _ _ (@aL _ _ _ _ _) (@b_ _ _) (by rfl)) (by rfl)) rfl (by decide) (by rfl) (by rfl)) rfl aq)
  refine(@aO _ _ _ _ _ _ ?_ ?_)
  ·exact(@bR _ _ _ _ _ _ ([0]) (9) _ aw ir.nd rfl aq (@jk _ _ _ _ _ (@c7 _ _) (by decide)) rfl aq)
  refine(@aO _ _ _ _ _ _ ?_ ?_)
  ·refine(@ie _ _ _ _ _ _ _ _ _ PassesOwn.never rfl ?_ ?_ ?_ (by intro _; rfl))
   ·exact(@jU _ _ _ _ _ _ _ rfl T.gZ (@aJ _ _ _ _ (pv 4)) (by rfl))
   ·exact(@dZ _ _ _ ([0]) (10) _ aw ir.nd rfl aq aq)
   ·refine(@aO _ _ _ _ _ _ ?_ ?_)
    ·exact(@bR _ _ _ _ _ _ ([0]) (11) _ aw ir.nd rfl aq (@jk _ _ _ _ _ (@c7 _ _) (by decide)) rfl aq)
    refine(@aO _ _ _ _ _ _ ?_ ?_)
    ·refine(@ie _ _ _ _ _ _ _ _ _ PassesOwn.never rfl ?_ ?_ ?_ (by intro _; rfl))
     ·exact(@jU _ _ _ _ _ _ _ rfl T.gZ (@aJ _ _ _ _ (pv 2)) (by rfl))
     ·exact(@dZ _ _ _ ([0]) (12) _ aw ir.nd rfl aq aq)
     ·refine(@bo _ _ _ _ ?_);exact(@rO _ _ _ _ _ _ _ _ _ (pv 11) (@xn _ _ _ _ _ _ _ _ _ [] (@aD _ _ _ _ (@fX _ _ ([14]) _ _ _ _ _ _ _ _ _ _ rfl (@e8 _ _ _ rfl rfl) (@jU _ _ _ _ _ _ _ rfl T.gZ (@aJ _ _ _ _ (pv 3)) (by rfl)) (λl s0 H0 ex=>(@dk _ _ _ _ ([0]) (14) _ aw ir.nd rfl aq aq (by decide))) (λl s0 H0 ex=>(@fF _ _)) (λl s0 H0 ex=>(@cf _ _ _ _ _ (3) _ _ _ _ _ zL RT (hr.mono (by decide)) rfl (@fu _ _ _ _ _ _ (pv 0) (@bj _ _ _ _ _ _ (@aJ _ _ _ _ (pv 7)) (@bj _ _ _ _ _ _ (@aJ _ _ _ _ (pv 10)) (@bj _ _ _ _ _ _ (@aJ _ _ _ _ (pv 8)) (@b_ _ _) (by rfl)) (by rfl)) (by rfl)) (by rfl)) rfl (by decide) (by rfl) (by rfl))) (e7 aw rfl) (by intro _; rfl))) (by decide +kernel) (by rfl) (by rfl) (by rfl) (by rfl)) (by rfl) (by rfl) (by rfl) (by rfl) (by rfl))
    refine(@bo _ _ _ _ ?_);exact(@rO _ _ _ _ _ _ _ _ _ (pv 9) (@fN _ _ _ _ _ _ (@bw _ _ _ _ _ _ (@bQ _ _ _ _ _ _ _ _ _ bH bK (pv 7) (@aU _ _ _ _ (pv 10)) (λ_ _=>rfl)) (@bw _ _ _ _ _ _ (@nV _ _ _ _ _ _ rfl T.g7 (@aU _ _ _ _ (pv 11)) (by rfl)) (@c7 _ _) (by rfl)) (by rfl)) (by decide)) (by rfl) (by rfl) (by rfl) (by rfl) (by rfl))
  refine(@bo _ _ _ _ ?_);refine(@cw _ _ _ _ _ ?_);exact(@fN _ _ _ _ _ _ (@bw _ _ _ _ _ _ (@aJ _ _ _ _ (pv 2)) (@bw _ _ _ _ _ _ (@aJ _ _ _ _ (pv 3)) (@bw _ _ _ _ _ _ (@nV _ _ _ _ _ _ rfl T.g7 (@aU _ _ _ _ (pv 9)) (by rfl)) (@c7 _ _) (by rfl)) (by rfl)) (by rfl)) (by decide))) λss y h=>dE h
def zM:DS:=(az (eF (aB (ah eU 1 (ao (eD (.int 0))))) (kG [] 0 1 (aG (aa 1) (aG (ah u7 0 (ae 1)) bB))) 1000000) (bC (aH mL (ae 0))))
def f_:DF:=cy [] 2 zM
theorem sj:de f_:=dM
theorem Ge:cY ["one","other"] ["one","other"] (cq zg):=scc
theorem RZ {K:W1} (F:cC K "common_divisor" "common_divisor" zg f fd) (hm:mg "common_divisor" = some (.ref f)) (hb:Binds K fd ["one","other"] []) (T:Txt K mg):aS P w K mg base 1 "common_divisor" 2 f_ :=
 ef (np:=[]) (fb:=zM) F hm hb Ge (λc bE A outer s H E hr aw=>by
  have hq:=dO hr;refine(aO ?_ ?_)
  ·refine(D4 1000000 (λh1 h2=>BQ PassesOwn.never h1 h2) ?_ ?_)
   ·exact(iK (k9 hq) lg (pv 1) (aD aL) (cO _))
   ·refine(bo ?_);exact(yU (np:=[]) (i:=0) (j:=1) aw rfl Ge.nd rfl rfl (by decide) rfl rfl (bw (aJ (pv 1)) (bw (dY Ki PB (pv 0) (aU (pv 1))) c7 (by rfl)) (by rfl)))
  refine(bo ?_);refine(cw ?_);exact(FA rfl T.qa (aU (pv 0)))) λss y h=>dE h
def zN:DS:=(az (ax (eD (.int 0)) (ag [] 1)) (az (er (bG (aa 0)) (ag [] 2) (ax (aA f_ [.val (aa 1),.val (aa 2)]) (ag [] 1))) (bC (q_ (aB (ah gx 1 (ao (eD (.int 1))))) (bD [2] (bG (aa 0)) (ag [] 2) aV (ah fz 2 (ae 1))) (aa 0)))))
def mZ:DF:=cy [] 3 zN
theorem R0:de mZ:=dM
theorem sk:cY ["row","divisor","number"] ["row"] (cq zh):=scc
theorem R1 {K:W1} (F:cC K "row_lowered" "row_lowered" zh f fd) (hm:mg "row_lowered" = some (.ref f)) (hb:Binds K fd ["row"] []) (T:Txt K mg) (g8:aS P w K mg base 1 "common_divisor" 2 f_):aS P w K mg base 2 "row_lowered" 1 mZ :=
 ef (np:=[]) (fb:=zN) F hm hb sk (λc bE A outer s H E hr aw=>by
  have hq:=dO hr;refine(aO ?_ ?_)
  ·exact(@bR _ _ _ _ _ _ ([]) (1) _ aw sk.nd rfl aq aL rfl aq)
  refine(aO ?_ ?_)
  ·refine(ie PassesOwn.never rfl ?_ ?_ ?_ (by intro _; rfl))
   ·exact(fw (aJ (pv 0)))
   ·exact(@dZ _ _ _ ([]) (2) _ aw sk.nd rfl aq aq)
   ·refine(bo ?_);exact(@bR _ _ _ _ _ _ ([]) (1) _ aw sk.nd rfl aq (@cf _ _ _ _ _ (1) _ _ _ _ _ g8 sj (hr.mono (by decide)) rfl (bj (aJ (pv 1)) (bj (aJ (pv 2)) b_ (by rfl)) (by rfl)) rfl (by decide) (by rfl) (by rfl)) rfl aq)
  refine(bo ?_);refine(cw ?_);exact(MK (iK pG jR (pv 1) (aD aL) (cO _)) (@fX _ _ ([2]) _ _ _ _ _ _ _ _ _ _ rfl (e8 rfl rfl) (fw (aJ (pv 0))) (λl s0 H0 ex=>(@dk _ _ _ _ ([]) (2) _ aw sk.nd rfl aq aq (by decide))) (λl s0 H0 ex=>fF) (λl s0 H0 ex=>(dY mN mO (pv 2) (aU (pv 1)))) (e7 aw rfl) (by intro _; rfl)) (aJ (pv 0)))) λss y h=>dE h
def vc:DS:=(az (cE (aB (aE bX (ah ay 0 (ae 2)) (ao (eD (.int 0))))) (bC (aa 0)) cG) (bC (aA mZ [.val (bD [3,4] (gA (aa 0) (aa 1)) (bV 2 (aQ (ag [] 3) (aQ (ag [] 4) b9))) aV (aE gj (ah cL 3 (ao (ah ay 1 (ae 2)))) (ao (ah cL 4 (ao (ah ay 0 (ae 2)))))))])))
def kH:DF:=cy [] 5 vc
theorem Gf:de kH:=dM
theorem zO:cY ["row","pivot","column","one","two"] ["row","pivot","column"] (cq zi):=scc
theorem R3 {K:W1} (F:cC K "row_cleared" "row_cleared" zi f fd) (hm:mg "row_cleared" = some (.ref f)) (hb:Binds K fd ["row","pivot","column"] []) (T:Txt K mg) (zP:aS P w K mg base 2 "row_lowered" 1 mZ):aS P w K mg base 3 "row_cleared" 3 kH :=
 ef (np:=[]) (fb:=vc) F hm hb zO (λc bE A outer s H E hr aw=>by
  have hq:=dO hr;refine(aO ?_ ?_)
  ·refine(eX ?_ ?_ ?_)
   ·exact(gh (gR hq) gS (bQ bH bK (pv 0) (aU (pv 2)) (λ_ _=>rfl)) (aD aL) (cO _))
   ·refine(bo ?_);refine(cw ?_);exact(aJ (pv 0))
   ·exact eW
  refine(bo ?_);refine(cw ?_);exact(@cf _ _ _ _ _ (2) _ _ _ _ _ zP R0 (hr.mono (by decide)) rfl (bj (@fX _ _ ([3,4]) _ _ _ _ _ _ _ _ _ _ rfl (e8 rfl rfl) (yo rfl T.oI (aJ (pv 0)) (aJ (pv 1)) (by rfl) (by rfl) (by rfl)) (λl s0 H0 ex=>(n5 rfl (ig (@dk _ _ _ _ ([]) (3) _ aw zO.nd rfl aq aq (by decide)) (ig (@dk _ _ _ _ ([]) (4) _ aw zO.nd rfl aq aq (by decide)) n4 (by rfl)) (by rfl)) (by rfl) (by rfl))) (λl s0 H0 ex=>fF) (λl s0 H0 ex=>(cA qG rd (dY ju jv (pv 3) (aD (bQ bH bK (pv 1) (aU (pv 2)) (λ_ _=>rfl)))) (aD (dY ju jv (pv 4) (aD (bQ bH bK (pv 0) (aU (pv 2)) (λ_ _=>rfl))))))) (e7 aw rfl) (by intro _; rfl)) b_ (by rfl)) rfl (by decide) (by rfl) (by rfl))) λss y h=>dE h
def zQ:DS:=(az (ax rP (ag [] 1)) (az (ax (aa 0) (ag [] 2)) (az (er (dD (aH bf (ae 0))) (ag [] 3) (az (ax (bD [6] (bG (aa 2)) (ag [] 6) (aB (aE eU (ah ay 6 (ae 3)) (ao (eD (.int 0))))) (aa 6)) (ag [] 4)) (cE (aB (aE gx (aH bf (ae 4)) (ao (eD (.int 0))))) (az (ax (ah ay 4 (ao (eD (.int 0)))) (ag [] 5)) (az (ax (aE bI (bD [6] (bG (gk 4 (fP (eD (.int 1))) iN)) (ag [] 6) aV (aA kH [.val (aa 6),.val (aa 5),.val (aa 3)])) (ao (bD [6] (bG (aa 2)) (ag [] 6) (aB (aE bX (ah ay 6 (ae 3)) (ao (eD (.int 0))))) (aa 6)))) (ag [] 2)) (az (ax (aH mG (ao (bD [7,6] (rX 1) (bV 2 (aQ (ag [] 7) (aQ (ag [] 6) b9))) aV (cD (aG (aa 7) (aG (aA kH [.val (aa 6),.val (aa 5),.val (aa 3)]) bB)))))) (ag [] 1)) (pQ 1 (aa 3) (aa 5))))) cG))) (mH [] 1))))
def lG:DF:=cy [] 8 zQ
theorem R4:de lG:=dM
theorem i5:cY ["rows","solved","left","column","picked","pivot","row","own"] ["rows"] (cq zj):=scc
theorem R5 {K:W1} (F:cC K "solved_rows" "solved_rows" zj f fd) (hm:mg "solved_rows" = some (.ref f)) (hb:Binds K fd ["rows"] []) (T:Txt K mg) (vd:aS P w K mg base 3 "row_cleared" 3 kH):aS P w K mg base 4 "solved_rows" 1 lG :=
 ef (np:=[]) (fb:=zQ) F hm hb i5 (λc bE A outer s H E hr aw=>by
  have hq:=dO hr;refine(aO ?_ ?_)
  ·exact(@bR _ _ _ _ _ _ ([]) (1) _ aw i5.nd rfl aq EB rfl aq)
  refine(aO ?_ ?_)
  ·exact(@bR _ _ _ _ _ _ ([]) (2) _ aw i5.nd rfl aq (aJ (pv 0)) rfl aq)
  refine(aO ?_ ?_)
  ·refine(ie PassesOwn.never rfl ?_ ?_ ?_ (by intro _; rfl))
   ·exact(jU rfl T.gZ (fO rfl T.e_ (aU (pv 0)) (by rfl)) (by rfl))
   ·exact(@dZ _ _ _ ([]) (3) _ aw i5.nd rfl aq aq)
   ·refine(aO ?_ ?_)
    ·exact(@rH _ _ ([6]) _ _ _ _ _ _ _ _ _ _ ([]) (4) _ _ _ aw rfl (e8 rfl rfl) i5.nd rfl rfl (fw (aJ (pv 2))) (λl s0 H0 ex=>(@dk _ _ _ _ ([]) (6) _ aw i5.nd rfl aq aq (by decide))) (λl s0 H0 ex=>(xw (gh (k9 hq) lg (bQ bH bK (pv 6) (aU (pv 3)) (λ_ _=>rfl)) (aD aL) (cO _)))) (λl s0 H0 ex=>(aJ (pv 6))) (e7 aw rfl) (by rfl) (by intro _; rfl))
    refine(bo ?_);refine(eX ?_ ?_ ?_)
    ·exact(gh pG jR (fO rfl T.e_ (aU (pv 4)) (by rfl)) (aD aL) (cO _))
    ·refine(aO ?_ ?_)
     ·exact(@bR _ _ _ _ _ _ ([]) (5) _ aw i5.nd rfl aq (bQ bH bK (pv 4) (aD aL) (λ_ _=>rfl)) rfl aq)
     refine(aO ?_ ?_)
     ·exact(@bR _ _ _ _ _ _ ([]) (2) _ aw i5.nd rfl aq (cA fD fE (@fX _ _ ([6]) _ _ _ _ _ _ _ _ _ _ rfl (e8 rfl rfl) (fw (rz (pv 4) (pJ aL) uv)) (λl s0 H0 ex=>(@dk _ _ _ _ ([]) (6) _ aw i5.nd rfl aq aq (by decide))) (λl s0 H0 ex=>fF) (λl s0 H0 ex=>(@cf _ _ _ _ _ (3) _ _ _ _ _ vd Gf (hr.mono (by decide)) rfl (bj (aJ (pv 6)) (bj (aJ (pv 5)) (bj (aJ (pv 3)) b_ (by rfl)) (by rfl)) (by rfl)) rfl (by decide) (by rfl) (by rfl))) (e7 aw rfl) (by intro _; rfl)) (aD (@fX _ _ ([6]) _ _ _ _ _ _ _ _ _ _ rfl (e8 rfl rfl) (fw (aJ (pv 2))) (λl s0 H0 ex=>(@dk _ _ _ _ ([]) (6) _ aw i5.nd rfl aq aq (by decide))) (λl s0 H0 ex=>(xw (gh (gR hq) gS (bQ bH bK (pv 6) (aU (pv 3)) (λ_ _=>rfl)) (aD aL) (cO _)))) (λl s0 H0 ex=>(aJ (pv 6))) (e7 aw rfl) (by intro _; rfl)))) rfl aq)
     refine(aO ?_ ?_)
     ·exact(@bR _ _ _ _ _ _ ([]) (1) _ aw i5.nd rfl aq (N9 rfl rfl T.sd (aD (@fX _ _ ([7,6]) _ _ _ _ _ _ _ _ _ _ rfl (e8 rfl rfl) (Pb (pv 1)) (λl s0 H0 ex=>(n5 rfl (ig (@dk _ _ _ _ ([]) (7) _ aw i5.nd rfl aq aq (by decide)) (ig (@dk _ _ _ _ ([]) (6) _ aw i5.nd rfl aq aq (by decide)) n4 (by rfl)) (by rfl)) (by rfl) (by rfl))) (λl s0 H0 ex=>fF) (λl s0 H0 ex=>(fN (bw (aJ (pv 7)) (bw (@cf _ _ _ _ _ (3) _ _ _ _ _ vd Gf (hr.mono (by decide)) rfl (bj (aJ (pv 6)) (bj (aJ (pv 5)) (bj (aJ (pv 3)) b_ (by rfl)) (by rfl)) (by rfl)) rfl (by decide) (by rfl) (by rfl)) c7 (by rfl)) (by rfl)) (by decide))) (e7 aw rfl) (by intro _; rfl))) (by rfl)) rfl aq)
     refine(bo ?_);exact(Ol hq (pv 1) (aJ (pv 3)) (aJ (pv 5)) (by rfl))
    ·exact eW
  refine(bo ?_);exact(yg aw (pv 1))) λss y h=>dE h
def zR:DS:=(bC (bD [1,2] (bG (ah ay 0 (ao (eD (.int 2))))) (bV 2 (aQ (ag [] 1) (aQ (ag [] 2) b9))) aV (aa 1)))
def oK:DF:=cy [] 3 zR
theorem R6:de oK:=dM
theorem zS:cY ["rule","tile","block"] ["rule"] (cq zk):=scc
theorem R7 {K:W1} (F:cC K "rule_tiles" "rule_tiles" zk f fd) (hm:mg "rule_tiles" = some (.ref f)) (hb:Binds K fd ["rule"] []) (T:Txt K mg):aS P w K mg base 1 "rule_tiles" 1 oK :=
 ef (np:=[]) (fb:=zR) F hm hb zS (λc bE A outer s H E hr aw=>by
  have hq:=dO hr;refine(bo ?_);refine(cw ?_);exact(@fX _ _ ([1,2]) _ _ _ _ _ _ _ _ _ _ rfl (e8 rfl rfl) (fw (bQ bH bK (pv 0) (aD aL) (λ_ _=>rfl))) (λl s0 H0 ex=>(n5 rfl (ig (@dk _ _ _ _ ([]) (1) _ aw zS.nd rfl aq aq (by decide)) (ig (@dk _ _ _ _ ([]) (2) _ aw zS.nd rfl aq aq (by decide)) n4 (by rfl)) (by rfl)) (by rfl) (by rfl))) (λl s0 H0 ex=>fF) (λl s0 H0 ex=>(aJ (pv 1))) (e7 aw rfl) (by intro _; rfl))) λss y h=>dE h
def zT:DS:=(az (ax (aA oK [.val (aa 0)]) (ag [] 1)) (bC (aH en (ao (bD [2,3] (bG (ah ay 0 (ao (eD (.int 2))))) (bV 2 (aQ (ag [] 2) (aQ (ag [] 3) b9))) aV (aH en (ao (bD [4] (bG (aa 1)) (ag [] 4) aV (ou (aH (fq []) (ae 3)) (aa 4))))))))))
def oM:DF:=cy [] 5 zT
theorem R8:de oM:=dM
theorem so:cY ["rule","tiles","own","block","tile"] ["rule"] (cq zm):=scc
theorem R9 {K:W1} (F:cC K "table_of" "table_of" zm f fd) (hm:mg "table_of" = some (.ref f)) (hb:Binds K fd ["rule"] []) (T:Txt K mg) (zU:aS P w K mg base 1 "rule_tiles" 1 oK):aS P w K mg base 2 "table_of" 1 oM :=
 ef (np:=[]) (fb:=zT) F hm hb so (λc bE A outer s H E hr aw=>by
  have hq:=dO hr;refine(aO ?_ ?_)
  ·exact(@bR _ _ _ _ _ _ ([]) (1) _ aw so.nd rfl aq (@cf _ _ _ _ _ (1) _ _ _ _ _ zU R6 (hr.mono (by decide)) rfl (bj (aJ (pv 0)) b_ (by rfl)) rfl (by decide) (by rfl) (by rfl)) rfl aq)
  refine(bo ?_);refine(cw ?_);exact(nV rfl T.g7 (aD (@fX _ _ ([2,3]) _ _ _ _ _ _ _ _ _ _ rfl (e8 rfl rfl) (fw (bQ bH bK (pv 0) (aD aL) (λ_ _=>rfl))) (λl s0 H0 ex=>(n5 rfl (ig (@dk _ _ _ _ ([]) (2) _ aw so.nd rfl aq aq (by decide)) (ig (@dk _ _ _ _ ([]) (3) _ aw so.nd rfl aq aq (by decide)) n4 (by rfl)) (by rfl)) (by rfl) (by rfl))) (λl s0 H0 ex=>fF) (λl s0 H0 ex=>(nV rfl T.g7 (aD (@fX _ _ ([4]) _ _ _ _ _ _ _ _ _ _ rfl (e8 rfl rfl) (fw (aJ (pv 1))) (λl s0 H0 ex=>(@dk _ _ _ _ ([]) (4) _ aw so.nd rfl aq aq (by decide))) (λl s0 H0 ex=>fF) (λl s0 H0 ex=>(OX (xn [] (aU (pv 3)) (by decide +kernel) (by rfl) (by rfl) (by rfl) (by rfl)) (aJ (pv 4)))) (e7 aw rfl) (by intro _; rfl))) (by rfl))) (e7 aw rfl) (by intro _; rfl))) (by rfl))) λss y h=>dE h
def zV:DS:=(az (ax (aA oM [.val (aa 0)]) (ag [] 1)) (az (ax (aE e9 (ah ay 0 (ao (eD (.int 0)))) (ao (ah ay 0 (ao (eD (.int 1)))))) (ag [] 2)) (az (ax (eV bB) (ag [] 3)) (az (er (dD (aH bf (ae 1))) (ag [] 4) (az (ax (bD [6] (bG (aa 1)) (ag [] 6) aV (ah ay 6 (ae 4))) (ag [] 5)) (az (gW 5 (aa 4) (aE gj (ah ay 5 (ae 4)) (ae 2))) (ft 3 (aa 5))))) (mH [] 3)))))
def iu:DF:=cy [] 7 zV
theorem Gg:de iu:=dM
theorem oN:cY ["rule","table","area","rows","number","row","line"] ["rule"] (cq zo):=scc
theorem R_ {K:W1} (F:cC K "still_rows" "still_rows" zo f fd) (hm:mg "still_rows" = some (.ref f)) (hb:Binds K fd ["rule"] []) (T:Txt K mg) (zW:aS P w K mg base 2 "table_of" 1 oM):aS P w K mg base 3 "still_rows" 1 iu :=
 ef (np:=[]) (fb:=zV) F hm hb oN (λc bE A outer s H E hr aw=>by
  have hq:=dO hr;refine(aO ?_ ?_)
  ·exact(@bR _ _ _ _ _ _ ([]) (1) _ aw oN.nd rfl aq (@cf _ _ _ _ _ (2) _ _ _ _ _ zW R8 (hr.mono (by decide)) rfl (bj (aJ (pv 0)) b_ (by rfl)) rfl (by decide) (by rfl) (by rfl)) rfl aq)
  refine(aO ?_ ?_)
  ·exact(@bR _ _ _ _ _ _ ([]) (2) _ aw oN.nd rfl aq (cA oh my (bQ bH bK (pv 0) (aD aL) (λ_ _=>rfl)) (aD (bQ bH bK (pv 0) (aD aL) (λ_ _=>rfl)))) rfl aq)
  refine(aO ?_ ?_)
  ·exact(@bR _ _ _ _ _ _ ([]) (3) _ aw oN.nd rfl aq (jk c7 (by decide)) rfl aq)
  refine(aO ?_ ?_)
  ·refine(ie PassesOwn.never rfl ?_ ?_ ?_ (by intro _; rfl))
   ·exact(jU rfl T.gZ (fO rfl T.e_ (aU (pv 1)) (by rfl)) (by rfl))
   ·exact(@dZ _ _ _ ([]) (4) _ aw oN.nd rfl aq aq)
   ·refine(aO ?_ ?_)
    ·exact(@rH _ _ ([6]) _ _ _ _ _ _ _ _ _ _ ([]) (5) _ _ _ aw rfl (e8 rfl rfl) oN.nd rfl rfl (fw (aJ (pv 1))) (λl s0 H0 ex=>(@dk _ _ _ _ ([]) (6) _ aw oN.nd rfl aq aq (by decide))) (λl s0 H0 ex=>fF) (λl s0 H0 ex=>(bQ bH bK (pv 6) (aU (pv 4)) (λ_ _=>rfl))) (e7 aw rfl) (by rfl) (by intro _; rfl))
    refine(aO ?_ ?_)
    ·exact(rE (pv 5) (aJ (pv 4)) (cA qG rd (bQ bH bK (pv 5) (aU (pv 4)) (λ_ _=>rfl)) (aU (pv 2))) (by intro _; rfl) (by rfl) (by rfl) (by rfl))
    refine(bo ?_);exact(rO (pv 3) (aJ (pv 5)) (by rfl) (by rfl) (by rfl) (by rfl) (by rfl))
  refine(bo ?_);exact(yg aw (pv 3))) λss y h=>dE h
def zX:DS:=(az (ax (aA f_ [.val (aa 0),.val (aa 1)]) (ag [] 2)) (bC (cD (aG (ah fz 0 (ae 2)) (aG (ah fz 1 (ae 2)) bB)))))
def kI:DF:=cy [] 3 zX
theorem Sa:de kI:=dM
theorem Gi:cY ["top","bottom","divisor"] ["top","bottom"] (cq zp):=scc
theorem Sb {K:W1} (F:cC K "lowest_fraction" "lowest_fraction" zp f fd) (hm:mg "lowest_fraction" = some (.ref f)) (hb:Binds K fd ["top","bottom"] []) (T:Txt K mg) (g8:aS P w K mg base 1 "common_divisor" 2 f_):aS P w K mg base 2 "lowest_fraction" 2 kI :=
 ef (np:=[]) (fb:=zX) F hm hb Gi (λc bE A outer s H E hr aw=>by
  have hq:=dO hr;refine(aO ?_ ?_)
  ·exact(@bR _ _ _ _ _ _ ([]) (2) _ aw Gi.nd rfl aq (@cf _ _ _ _ _ (1) _ _ _ _ _ g8 sj (hr.mono (by decide)) rfl (bj (aJ (pv 0)) (bj (aJ (pv 1)) b_ (by rfl)) (by rfl)) rfl (by decide) (by rfl) (by rfl)) rfl aq)
  refine(bo ?_);refine(cw ?_);exact(fN (bw (dY mN mO (pv 0) (aU (pv 2))) (bw (dY mN mO (pv 1) (aU (pv 2))) c7 (by rfl)) (by rfl)) (by decide))) λss y h=>dE h
def zY:DS:=(az (ax (aH bf (ao (ah ay 0 (ao (eD (.int 2)))))) (ag [] 1)) (az (ax (aA lG [.val (aA iu [.val (aa 0)])]) (ag [] 2)) (az (ax (bD [5] (dD (aa 1)) (ag [] 5) (aB (aE (jZ true) (aa 5) (ae 2))) (aa 5)) (ag [] 3)) (az (cE (aB (aE gx (aH bf (ae 3)) (ao (eD (.int 1))))) (bC (eD .aI)) cG) (az (ax (eD (.int 1)) (ag [] 4)) (az (er (r9 (r_ 2)) (bV 2 (aQ (ag [] 5) (aQ (ag [] 6) b9))) (ax (aE fz (ah cL 4 (ao (aH mL (ao (ah ay 6 (ae 5)))))) (ao (aA f_ [.val (aa 4),.val (ah ay 6 (ae 5))]))) (ag [] 4))) (az (ax (eV bB) (ag [] 7)) (az (er (dD (aa 1)) (ag [] 5) (cE (aB (aE (oD false) (aa 5) (ae 2))) (az (ax (ah oE 2 (ae 5)) (ag [] 6)) (ft 7 (aE fz (aE cL (aH jr (ao (ah ay 6 (ao (ah ay 3 (ao (eD (.int 0)))))))) (ae 4)) (ao (ah ay 6 (ae 5)))))) (ft 7 (aa 4)))) (az (ax (aH gq (ae 7)) (ag [] 8)) (bC (aH en (ao (bD [9] (bG (aa 7)) (ag [] 9) aV (aA kI [.val (aa 9),.val (aa 8)]))))))))))))))
def j8:DF:=cy [] 10 zY
theorem Sd:de j8:=dM
theorem iw:cY ["rule","many","solved","free","weight","column","row","weights","whole","top"] ["rule"] (cq zq):=scc
theorem Se {K:W1} (F:cC K "still_shares" "still_shares" zq f fd) (hm:mg "still_shares" = some (.ref f)) (hb:Binds K fd ["rule"] []) (T:Txt K mg) (g8:aS P w K mg base 1 "common_divisor" 2 f_) (zZ:aS P w K mg base 4 "solved_rows" 1 lG) (qe:aS P w K mg base 3 "still_rows" 1 iu) (z0:aS P w K mg base 2 "lowest_fraction" 2 kI):aS P w K mg base 5 "still_shares" 1 j8 :=
 ef (np:=[]) (fb:=zY) F hm hb iw (λc bE A outer s H E hr aw=>by
  have hq:=dO hr;refine(aO ?_ ?_)
  ·exact(@bR _ _ _ _ _ _ ([]) (1) _ aw iw.nd rfl aq (fO rfl T.e_ (aD (bQ bH bK (pv 0) (aD aL) (λ_ _=>rfl))) (by rfl)) rfl aq)
  refine(aO ?_ ?_)
  ·exact(@bR _ _ _ _ _ _ ([]) (2) _ aw iw.nd rfl aq (@cf _ _ _ _ _ (4) _ _ _ _ _ zZ R4 (hr.mono (by decide)) rfl (bj (@cf _ _ _ _ _ (3) _ _ _ _ _ qe Gg (hr.mono (by decide)) rfl (bj (aJ (pv 0)) b_ (by rfl)) rfl (by decide) (by rfl) (by rfl)) b_ (by rfl)) rfl (by decide) (by rfl) (by rfl)) rfl aq)
  refine(aO ?_ ?_)
  ·exact(@rH _ _ ([5]) _ _ _ _ _ _ _ _ _ _ ([]) (3) _ _ _ aw rfl (e8 rfl rfl) iw.nd rfl rfl (jU rfl T.gZ (aJ (pv 1)) (by rfl)) (λl s0 H0 ex=>(@dk _ _ _ _ ([]) (5) _ aw iw.nd rfl aq aq (by decide))) (λl s0 H0 ex=>(xw (gh (Oa hq) (Ob true) (aJ (pv 5)) (aU (pv 2)) rfl))) (λl s0 H0 ex=>(aJ (pv 5))) (e7 aw rfl) (by rfl) (by intro _; rfl))
  refine(aO ?_ ?_)
  ·refine(eX ?_ ?_ ?_)
   ·exact(gh pG jR (fO rfl T.e_ (aU (pv 3)) (by rfl)) (aD aL) (cO _))
   ·refine(bo ?_);refine(cw ?_);exact qW
   ·exact eW
  refine(aO ?_ ?_)
  ·exact(@bR _ _ _ _ _ _ ([]) (4) _ aw iw.nd rfl aq aL rfl aq)
  refine(aO ?_ ?_)
  ·refine(ie PassesOwn.never rfl ?_ ?_ ?_ (by intro _; rfl))
   ·exact(Rw (RC (pv 2)))
   ·exact(nX rfl (ic (@dZ _ _ _ ([]) (5) _ aw iw.nd rfl aq aq) (ic (@dZ _ _ _ ([]) (6) _ aw iw.nd rfl aq aq) nW (by rfl)) (by rfl)) (by rfl) (by rfl))
   ·refine(bo ?_);exact(@bR _ _ _ _ _ _ ([]) (4) _ aw iw.nd rfl aq (cA mN mO (dY ju jv (pv 4) (aD (FA rfl T.qa (aD (bQ bH bK (pv 6) (aU (pv 5)) (λ_ _=>rfl)))))) (aD (@cf _ _ _ _ _ (1) _ _ _ _ _ g8 sj (hr.mono (by decide)) rfl (bj (aJ (pv 4)) (bj (bQ bH bK (pv 6) (aU (pv 5)) (λ_ _=>rfl)) b_ (by rfl)) (by rfl)) rfl (by decide) (by rfl) (by rfl)))) rfl aq)
  refine(aO ?_ ?_)
  ·exact(@bR _ _ _ _ _ _ ([]) (7) _ aw iw.nd rfl aq (jk c7 (by decide)) rfl aq)
  refine(aO ?_ ?_)
  ·refine(ie PassesOwn.never rfl ?_ ?_ ?_ (by intro _; rfl))
   ·exact(jU rfl T.gZ (aJ (pv 1)) (by rfl))
   ·exact(@dZ _ _ _ ([]) (5) _ aw iw.nd rfl aq aq)
   ·refine(bo ?_);refine(eX ?_ ?_ ?_)
    ·exact(gh (Rh hq) (Ri false) (aJ (pv 5)) (aU (pv 2)) rfl)
    ·refine(aO ?_ ?_)
     ·exact(@bR _ _ _ _ _ _ ([]) (6) _ aw iw.nd rfl aq (bQ (Rj hq) Rk (pv 2) (aU (pv 5)) (λ_ _=>rfl)) rfl aq)
     refine(bo ?_);exact(rO (pv 7) (cA mN mO (cA ju jv (yf (aD (bQ bH bK (pv 6) (aD (bQ bH bK (pv 3) (aD aL) (λ_ _=>rfl))) (λ_ _=>rfl)))) (aU (pv 4))) (aD (bQ bH bK (pv 6) (aU (pv 5)) (λ_ _=>rfl)))) (by rfl) (by rfl) (by rfl) (by rfl) (by rfl))
    ·refine(bo ?_);exact(rO (pv 7) (aJ (pv 4)) (by rfl) (by rfl) (by rfl) (by rfl) (by rfl))
  refine(aO ?_ ?_)
  ·exact(@bR _ _ _ _ _ _ ([]) (8) _ aw iw.nd rfl aq (rZ rfl rfl T.lE (aU (pv 7))) rfl aq)
  refine(bo ?_);refine(cw ?_);exact(nV rfl T.g7 (aD (@fX _ _ ([9]) _ _ _ _ _ _ _ _ _ _ rfl (e8 rfl rfl) (fw (aJ (pv 7))) (λl s0 H0 ex=>(@dk _ _ _ _ ([]) (9) _ aw iw.nd rfl aq aq (by decide))) (λl s0 H0 ex=>fF) (λl s0 H0 ex=>(@cf _ _ _ _ _ (2) _ _ _ _ _ z0 Sa (hr.mono (by decide)) rfl (bj (aJ (pv 9)) (bj (aJ (pv 8)) b_ (by rfl)) (by rfl)) rfl (by decide) (by rfl) (by rfl))) (e7 aw rfl) (by intro _; rfl))) (by rfl))) λss y h=>dE h
def ve:DS:=(az (ax (aH bf (ao (ah ay 0 (ao (eD (.int 2)))))) (ag [1] 2)) (az (ax (aA c8 [.io 1,.val (eD (.int 4))]) (ag [1] 3)) (az (ax (aA j8 [.val (aa 0)]) (ag [1] 4)) (az (cE (mi (aB (ah mq 3 (ao (eD (.int 2))))) (aB (aE (om true) (aa 4) (ao (eD .aI))))) (bC (aa 4)) cG) (az (cE (aB (ah bX 3 (ao (eD (.int 2))))) (az (ax (aA c8 [.io 1,.val (aa 2)]) (ag [1] 5)) (bC (aH en (ao (bD [6] (dD (aa 2)) (ag [1] 6) aV (aE ay (iS [.tup [.int 0,.int 1],.tup [.int 1,.int 1]]) (ao (aH jS (ao (ah bX 6 (ae 5))))))))))) cG) (az (cE (mi (aB (ah bX 3 (ao (eD (.int 3))))) (aB (ah gx 2 (ao (eD (.int 1)))))) (bC (aE bI (eD (.tup [.tup [.int 1,.int 2],.tup [.int 1,.int 2]])) (ao (aE mU (eD (.tup [.tup [.int 0,.int 1]])) (ao (ah gj 2 (ao (eD (.int 2))))))))) cG) (bC (aE mU (cD (aG (cD (aG (eD (.int 1)) (aG (aa 2) bB))) bB)) (ae 2)))))))))
def kJ:DF:=cy [1] 7 ve
theorem Sf:de kJ:=dM
theorem qf:cY ["rule","pen","size","way","told","spot","place"] ["rule","pen"] (cq zt):=scc
theorem Sg {K:W1} (F:cC K "_law_shares_by" "_law_shares_by" zt f fd) (hm:mg "_law_shares_by" = some (.ref f)) (hb:Binds K fd ["rule","pen"] []) (T:Txt K mg) (ei:aS P w K mg base 2 "_law_draw" 2 c8) (z5:aS P w K mg base 5 "still_shares" 1 j8):aS P w K mg base 6 "_law_shares_by" 2 kJ :=
 ef (np:=[1]) (fb:=ve) F hm hb qf (λc bE A outer s H E hr aw=>by
  have hq:=dO hr;refine(aO ?_ ?_)
  ·exact(@bR _ _ _ _ _ _ ([1]) (2) _ aw qf.nd rfl aq (fO rfl T.e_ (aD (bQ bH bK (pv 0) (aD aL) (λ_ _=>rfl))) (by rfl)) rfl aq)
  refine(aO ?_ ?_)
  ·exact(@bR _ _ _ _ _ _ ([1]) (3) _ aw qf.nd rfl aq (@cf _ _ _ _ _ (2) _ _ _ _ _ ei gG (hr.mono (by decide)) rfl (fu (pv 1) (bj aL b_ (by rfl)) (by rfl)) rfl (by decide) (by rfl) (by rfl)) rfl aq)
  refine(aO ?_ ?_)
  ·exact(@bR _ _ _ _ _ _ ([1]) (4) _ aw qf.nd rfl aq (@cf _ _ _ _ _ (5) _ _ _ _ _ z5 Sd (hr.mono (by decide)) rfl (bj (aJ (pv 0)) b_ (by rfl)) rfl (by decide) (by rfl) (by rfl)) rfl aq)
  refine(aO ?_ ?_)
  ·refine(eX ?_ ?_ ?_)
   ·exact(mj (xf (iK Dz DB (pv 3) (aD aL) (cO _)) (xb (gh Kt Og (aJ (pv 4)) (aD qW) rfl))))
   ·refine(bo ?_);refine(cw ?_);exact(aJ (pv 4))
   ·exact eW
  refine(aO ?_ ?_)
  ·refine(eX ?_ ?_ ?_)
   ·exact(iK (gR hq) gS (pv 3) (aD aL) (cO _))
   ·refine(aO ?_ ?_)
    ·exact(@bR _ _ _ _ _ _ ([1]) (5) _ aw qf.nd rfl aq (@cf _ _ _ _ _ (2) _ _ _ _ _ ei gG (hr.mono (by decide)) rfl (fu (pv 1) (bj (aJ (pv 2)) b_ (by rfl)) (by rfl)) rfl (by decide) (by rfl) (by rfl)) rfl aq)
    refine(bo ?_);refine(cw ?_);exact(nV rfl T.g7 (aD (@fX _ _ ([6]) _ _ _ _ _ _ _ _ _ _ rfl (e8 rfl rfl) (jU rfl T.gZ (aJ (pv 2)) (by rfl)) (λl s0 H0 ex=>(@dk _ _ _ _ ([1]) (6) _ aw qf.nd rfl aq aq (by decide))) (λl s0 H0 ex=>fF) (λl s0 H0 ex=>(w_ bH bK (xU (by rfl) (by decide)) (aD (DM rfl T.mV (aD (uo (gR hq) gS (pv 6) (aU (pv 5)) (cO _))) (by rfl))) (λ_ _=>rfl))) (e7 aw rfl) (by intro _; rfl))) (by rfl))
   ·exact eW
  refine(aO ?_ ?_)
  ·refine(eX ?_ ?_ ?_)
   ·exact(mj (xf (iK (gR hq) gS (pv 3) (aD aL) (cO _)) (xb (iK pG jR (pv 2) (aD aL) (cO _)))))
   ·refine(bo ?_);refine(cw ?_);exact(cA fD fE (xT (by rfl)) (aD (cA FY FZ (xT (by rfl)) (aD (dY qG rd (pv 2) (aD aL))))))
   ·exact eW
  refine(bo ?_);refine(cw ?_);exact(cA FY FZ (fN (bw (fN (bw aL (bw (aJ (pv 2)) c7 (by rfl)) (by rfl)) (by decide)) c7 (by rfl)) (by decide)) (aU (pv 2)))) λss y h=>dE h
def vf:DS:=(az (ax (aA c8 [.io 1,.val (aH bf (ae 0))]) (ag [1] 2)) (az (ax (aA c8 [.io 1,.val (aH bf (ae 0))]) (ag [1] 3)) (az (ax (ah ay 0 (ae 2)) (bV 2 (aQ (ag [1] 4) (aQ (ag [1] 5) b9)))) (az (ax (aH mz (ae 0)) (ag [1] 6)) (az (gW 6 (aa 2) (ah ay 0 (ae 3))) (az (gW 6 (aa 3) (ah ay 0 (ae 2))) (az (ax (eV (aG (cD (aG (aE e9 (eD (.int 2)) (ae 4)) (aG (aE e9 (eD (.int 2)) (ae 5)) bB))) (aG (cD (aG (aE gj (aH jr (ae 4)) (ao (eD (.int 1)))) (aG (aa 5) bB))) (aG (cD (aG (eD (.bl true)) (aG (aa 5) bB))) (aG (cD (aG (aa 4) (aG (eD (.bl true)) bB))) (aG (eD .aI) (aG (cD (aG (aa 4) (aG (eD (.int 0)) bB))) (aG (eV (aG (aa 4) (aG (aa 5) bB))) bB)))))))) (ag [1] 7)) (az (ax (ah bI 7 (ao (eV (aG (cD (aG (aa 4) bB)) (aG (cD (aG (ah bI 4 (ao (eD (.int 1)))) (aG (aa 5) bB))) (aG (aa 4) (aG (cD (aG (aa 4) (aG (aH jr (ae 5)) bB))) (aG (cD (aG (aH oF (ae 4)) (aG (aa 5) bB))) bB)))))))) (ag [1] 7)) (az (ax (aE bI (aE bI (gk 0 iN (fP (aa 2))) (ao (cD (aG (ah ay 7 (ao (aA c8 [.io 1,.val (eD (.int 12))]))) bB)))) (ao (gk 0 (fP (ah bI 2 (ao (eD (.int 1))))) iN))) (ag [1] 8)) (az (ax (eV (aG (aH en (ae 6)) (aG (aa 8) (aG (gk 0 (fP (eD (.int 1))) iN) (aG (aH mz (ae 0)) (aG (eD .aI) (aG (ah bI 0 (ao (eD (.tup [.tup [.int 0,.int 1]])))) (aG (aa 8) (aG (cD bB) bB))))))))) (ag [1] 9)) (bC (ah ay 9 (ao (aA c8 [.io 1,.val (eD (.int 8))]))))))))))))))
def lH:DF:=cy [1] 10 vf
theorem Sh:de lH:=dM
theorem kK:cY ["shares","pen","spot","to","top","bottom","row","odd","changed","some"] ["shares","pen"] (cq zu):=scc
theorem Si {K:W1} (F:cC K "_law_spoilt" "_law_spoilt" zu f fd) (hm:mg "_law_spoilt" = some (.ref f)) (hb:Binds K fd ["shares","pen"] []) (T:Txt K mg) (ei:aS P w K mg base 2 "_law_draw" 2 c8):aS P w K mg base 3 "_law_spoilt" 2 lH :=
 ef (np:=[1]) (fb:=vf) F hm hb kK (λc bE A outer s H E hr aw=>by
  have hq:=dO hr;refine(aO ?_ ?_)
  ·exact(@bR _ _ _ _ _ _ ([1]) (2) _ aw kK.nd rfl aq (@cf _ _ _ _ _ (2) _ _ _ _ _ ei gG (hr.mono (by decide)) rfl (fu (pv 1) (bj (fO rfl T.e_ (aU (pv 0)) (by rfl)) b_ (by rfl)) (by rfl)) rfl (by decide) (by rfl) (by rfl)) rfl aq)
  refine(aO ?_ ?_)
  ·exact(@bR _ _ _ _ _ _ ([1]) (3) _ aw kK.nd rfl aq (@cf _ _ _ _ _ (2) _ _ _ _ _ ei gG (hr.mono (by decide)) rfl (fu (pv 1) (bj (fO rfl T.e_ (aU (pv 0)) (by rfl)) b_ (by rfl)) (by rfl)) rfl (by decide) (by rfl) (by rfl)) rfl aq)
  refine(aO ?_ ?_)
  ·refine(uy ?_ ?_ (by rfl) (by rfl) (by rfl))
   ·exact(bQ bH bK (pv 0) (aU (pv 2)) (λ_ _=>rfl))
   ·exact(nX rfl (ic (@dZ _ _ _ ([1]) (4) _ aw kK.nd rfl aq aq) (ic (@dZ _ _ _ ([1]) (5) _ aw kK.nd rfl aq aq) nW (by rfl)) (by rfl)) (by rfl) (by rfl))
  refine(aO ?_ ?_)
  ·exact(@bR _ _ _ _ _ _ ([1]) (6) _ aw kK.nd rfl aq (ED rfl rfl T.qb (aU (pv 0)) (by rfl)) rfl aq)
  refine(aO ?_ ?_)
  ·exact(rE (pv 6) (aJ (pv 2)) (bQ bH bK (pv 0) (aU (pv 3)) (λ_ _=>rfl)) (by intro _; rfl) (by rfl) (by rfl) (by rfl))
  refine(aO ?_ ?_)
  ·exact(rE (pv 6) (aJ (pv 3)) (bQ bH bK (pv 0) (aU (pv 2)) (λ_ _=>rfl)) (by intro _; rfl) (by rfl) (by rfl) (by rfl))
  refine(aO ?_ ?_)
  ·exact(@bR _ _ _ _ _ _ ([1]) (7) _ aw kK.nd rfl aq (jk (bw (fN (bw (cA oh my aL (aU (pv 4))) (bw (cA oh my aL (aU (pv 5))) c7 (by rfl)) (by rfl)) (by decide)) (bw (fN (bw (cA qG rd (yf (aU (pv 4))) (aD aL)) (bw (aJ (pv 5)) c7 (by rfl)) (by rfl)) (by decide)) (bw (fN (bw iI (bw (aJ (pv 5)) c7 (by rfl)) (by rfl)) (by decide)) (bw (fN (bw (aJ (pv 4)) (bw iI c7 (by rfl)) (by rfl)) (by decide)) (bw qW (bw (fN (bw (aJ (pv 4)) (bw aL c7 (by rfl)) (by rfl)) (by decide)) (bw (jk (bw (aJ (pv 4)) (bw (aJ (pv 5)) c7 (by rfl)) (by rfl)) (by decide)) c7 (by rfl)) (by rfl)) (by rfl)) (by rfl)) (by rfl)) (by rfl)) (by rfl)) (by decide)) rfl aq)
  refine(aO ?_ ?_)
  ·exact(@bR _ _ _ _ _ _ ([1]) (7) _ aw kK.nd rfl aq (dY fD fE (pv 7) (aD (jk (bw (fN (bw (aJ (pv 4)) c7 (by rfl)) (by decide)) (bw (fN (bw (dY fD fE (pv 4) (aD aL)) (bw (aJ (pv 5)) c7 (by rfl)) (by rfl)) (by decide)) (bw (aJ (pv 4)) (bw (fN (bw (aJ (pv 4)) (bw (yf (aU (pv 5))) c7 (by rfl)) (by rfl)) (by decide)) (bw (fN (bw (RH rfl T.si (aU (pv 4))) (bw (aJ (pv 5)) c7 (by rfl)) (by rfl)) (by decide)) c7 (by rfl)) (by rfl)) (by rfl)) (by rfl)) (by rfl)) (by decide)))) rfl aq)
  refine(aO ?_ ?_)
  ·exact(@bR _ _ _ _ _ _ ([1]) (8) _ aw kK.nd rfl aq (cA fD fE (cA fD fE (rz (pv 0) uv (pJ (aJ (pv 2)))) (aD (fN (bw (bQ bH bK (pv 7) (aD (@cf _ _ _ _ _ (2) _ _ _ _ _ ei gG (hr.mono (by decide)) rfl (fu (pv 1) (bj aL b_ (by rfl)) (by rfl)) rfl (by decide) (by rfl) (by rfl))) (λ_ _=>rfl)) c7 (by rfl)) (by decide)))) (aD (rz (pv 0) (pJ (dY fD fE (pv 2) (aD aL))) uv))) rfl aq)
  refine(aO ?_ ?_)
  ·exact(@bR _ _ _ _ _ _ ([1]) (9) _ aw kK.nd rfl aq (jk (bw (nV rfl T.g7 (aU (pv 6)) (by rfl)) (bw (aJ (pv 8)) (bw (rz (pv 0) (pJ aL) uv) (bw (ED rfl rfl T.qb (aU (pv 0)) (by rfl)) (bw qW (bw (dY fD fE (pv 0) (aD (xT (by rfl)))) (bw (aJ (pv 8)) (bw (fN c7 (by decide)) c7 (by rfl)) (by rfl)) (by rfl)) (by rfl)) (by rfl)) (by rfl)) (by rfl)) (by rfl)) (by decide)) rfl aq)
  refine(bo ?_);refine(cw ?_);exact(bQ bH bK (pv 9) (aD (@cf _ _ _ _ _ (2) _ _ _ _ _ ei gG (hr.mono (by decide)) rfl (fu (pv 1) (bj aL b_ (by rfl)) (by rfl)) rfl (by decide) (by rfl) (by rfl))) (λ_ _=>rfl))) λss y h=>dE h
def z7:DS:=(bC (fV (cP "int" (ae 0)) (fV (nS (cP "bool" (ae 0))) (ah DD 1 (ae 0)))))
def m_:DF:=cy [] 2 z7
theorem Gk:de m_:=dM
theorem Sj:cY ["thing","least"] ["thing","least"] (cq zv):=scc
theorem Sk {K:W1} (F:cC K "whole_from" "whole_from" zv f fd) (hm:mg "whole_from" = some (.ref f)) (hb:Binds K fd ["thing","least"] []) (T:Txt K mg):aS P w K mg base 1 "whole_from" 2 m_ :=
 ef (np:=[]) (fb:=z7) F hm hb Sj (λc bE A outer s H E hr aw=>by
  have hq:=dO hr;refine(bo ?_);refine(cw ?_);exact(nT (lj T.ty_int rfl T.iY rfl T.mV boot_int (aU (pv 0)) (by decide) (by decide) (by rfl) (by rfl)) (nT (Dv (lj T.ty_bool rfl T.iY rfl T.oH boot_bool (aU (pv 0)) (by decide) (by decide) (by rfl) (by rfl))) (uq (uo MP jR (pv 1) (aU (pv 0)) (cO _)))))) λss y h=>dE h
def z8:DS:=(az (cE (jh (gw (aB (cP "tuple" (ae 0)))) (aB (aE eU (aH bf (ae 0)) (ao (eD (.int 2)))))) (bC (eD (.bl false))) cG) (az (ax (aa 0) (bV 2 (aQ (ag [] 1) (aQ (ag [] 2) b9)))) (bC (fV (aA m_ [.val (aa 1),.val (eD (.int 0))]) (fV (aA m_ [.val (aa 2),.val (eD (.int 1))]) (aE bX (aA f_ [.val (aa 1),.val (aa 2)]) (ao (eD (.int 1)))))))))
def jy:DF:=cy [] 3 z8
theorem Sl:de jy:=dM
theorem z9:cY ["thing","top","bottom"] ["thing"] (cq zw):=scc
theorem Sm {K:W1} (F:cC K "fraction_good" "fraction_good" zw f fd) (hm:mg "fraction_good" = some (.ref f)) (hb:Binds K fd ["thing"] []) (T:Txt K mg) (g8:aS P w K mg base 1 "common_divisor" 2 f_) (vg:aS P w K mg base 1 "whole_from" 2 m_):aS P w K mg base 2 "fraction_good" 1 jy :=
 ef (np:=[]) (fb:=z8) F hm hb z9 (λc bE A outer s H E hr aw=>by
  have hq:=dO hr;refine(aO ?_ ?_)
  ·refine(eX ?_ ?_ ?_)
   ·exact(mj (nR (lb (la (lj T.ty_tuple rfl T.iY rfl T.g7 boot_tuple (aU (pv 0)) (by decide) (by decide) (by rfl) (by rfl)) (by intro _; rfl))) (qZ (gh (k9 hq) lg (fO rfl T.e_ (aU (pv 0)) (by rfl)) (aD aL) (cO _)))))
   ·refine(bo ?_);refine(cw ?_);exact iI
   ·exact eW
  refine(aO ?_ ?_)
  ·refine(uy ?_ ?_ (by rfl) (by rfl) (by rfl))
   ·exact(aJ (pv 0))
   ·exact(nX rfl (ic (@dZ _ _ _ ([]) (1) _ aw z9.nd rfl aq aq) (ic (@dZ _ _ _ ([]) (2) _ aw z9.nd rfl aq aq) nW (by rfl)) (by rfl)) (by rfl) (by rfl))
  refine(bo ?_);refine(cw ?_);exact(nT (@cf _ _ _ _ _ (1) _ _ _ _ _ vg Gk (hr.mono (by decide)) rfl (bj (aJ (pv 1)) (bj aL b_ (by rfl)) (by rfl)) rfl (by decide) (by rfl) (by rfl)) (nT (@cf _ _ _ _ _ (1) _ _ _ _ _ vg Gk (hr.mono (by decide)) rfl (bj (aJ (pv 2)) (bj aL b_ (by rfl)) (by rfl)) rfl (by decide) (by rfl) (by rfl)) (uq (qY (gR hq) gS (@cf _ _ _ _ _ (1) _ _ _ _ _ g8 sj (hr.mono (by decide)) rfl (bj (aJ (pv 1)) (bj (aJ (pv 2)) b_ (by rfl)) (by rfl)) rfl (by decide) (by rfl) (by rfl)) (aD aL) (cO _)))))) λss y h=>dE h
def sr:DS:=(az (cE (jh (gw (aB (cP "tuple" (ae 1)))) (aB (aE eU (aH bf (ae 1)) (ao (aH bf (ao (ah ay 0 (ao (eD (.int 2)))))))))) (bC (eD (.bl false))) cG) (az (cE (gw (aB (aH gy (ao (bD [7] (bG (aa 1)) (ag [] 7) aV (aA jy [.val (aa 7)])))))) (bC (eD (.bl false))) cG) (az (ax (eD (.int 1)) (ag [] 2)) (az (er (bG (aa 1)) (bV 2 (aQ (ag [] 3) (aQ (ag [] 4) b9))) (ax (aE fz (ah cL 2 (ae 4)) (ao (aA f_ [.val (aa 2),.val (aa 4)]))) (ag [] 2))) (az (ax (bD [3,4] (bG (aa 1)) (bV 2 (aQ (ag [] 3) (aQ (ag [] 4) b9))) aV (ah cL 3 (ao (ah fz 2 (ae 4))))) (ag [] 5)) (az (cE (aB (aE eU (aH gq (ae 5)) (ae 2))) (bC (eD (.bl false))) cG) (bC (aH gy (ao (bD [6] (bG (aA iu [.val (aa 0)])) (ag [] 6) aV (aE bX (aH gq (ao (bD [8,9] (gA (aa 6) (aa 5)) (bV 2 (aQ (ag [] 8) (aQ (ag [] 9) b9))) aV (ah cL 8 (ae 9))))) (ao (eD (.int 0))))))))))))))
def i8:DF:=cy [] 10 sr
theorem Sn:de i8:=dM
theorem jz:cY ["rule","thing","common","top","bottom","weights","row","share","one","two"] ["rule","thing"] (cq zx):=scc
theorem So {K:W1} (F:cC K "shares_hold" "shares_hold" zx f fd) (hm:mg "shares_hold" = some (.ref f)) (hb:Binds K fd ["rule","thing"] []) (T:Txt K mg) (g8:aS P w K mg base 1 "common_divisor" 2 f_) (qe:aS P w K mg base 3 "still_rows" 1 iu) (z_:aS P w K mg base 2 "fraction_good" 1 jy):aS P w K mg base 4 "shares_hold" 2 i8 :=
 ef (np:=[]) (fb:=sr) F hm hb jz (λc bE A outer s H E hr aw=>by
  have hq:=dO hr;refine(aO ?_ ?_)
  ·refine(eX ?_ ?_ ?_)
   ·exact(mj (nR (lb (la (lj T.ty_tuple rfl T.iY rfl T.g7 boot_tuple (aU (pv 1)) (by decide) (by decide) (by rfl) (by rfl)) (by intro _; rfl))) (qZ (gh (k9 hq) lg (fO rfl T.e_ (aU (pv 1)) (by rfl)) (aD (fO rfl T.e_ (aD (bQ bH bK (pv 0) (aD aL) (λ_ _=>rfl))) (by rfl))) (cO _)))))
   ·refine(bo ?_);refine(cw ?_);exact iI
   ·exact eW
  refine(aO ?_ ?_)
  ·refine(eX ?_ ?_ ?_)
   ·exact(lb (la (xk rfl rfl T.oG (aD (@fX _ _ ([7]) _ _ _ _ _ _ _ _ _ _ rfl (e8 rfl rfl) (fw (aJ (pv 1))) (λl s0 H0 ex=>(@dk _ _ _ _ ([]) (7) _ aw jz.nd rfl aq aq (by decide))) (λl s0 H0 ex=>fF) (λl s0 H0 ex=>(@cf _ _ _ _ _ (2) _ _ _ _ _ z_ Sl (hr.mono (by decide)) rfl (bj (aJ (pv 7)) b_ (by rfl)) rfl (by decide) (by rfl) (by rfl))) (e7 aw rfl) (by intro _; rfl))) (by rfl)) (by intro _; rfl)))
   ·refine(bo ?_);refine(cw ?_);exact iI
   ·exact eW
  refine(aO ?_ ?_)
  ·exact(@bR _ _ _ _ _ _ ([]) (2) _ aw jz.nd rfl aq aL rfl aq)
  refine(aO ?_ ?_)
  ·refine(ie PassesOwn.never rfl ?_ ?_ ?_ (by intro _; rfl))
   ·exact(fw (aJ (pv 1)))
   ·exact(nX rfl (ic (@dZ _ _ _ ([]) (3) _ aw jz.nd rfl aq aq) (ic (@dZ _ _ _ ([]) (4) _ aw jz.nd rfl aq aq) nW (by rfl)) (by rfl)) (by rfl) (by rfl))
   ·refine(bo ?_);exact(@bR _ _ _ _ _ _ ([]) (2) _ aw jz.nd rfl aq (cA mN mO (dY ju jv (pv 2) (aU (pv 4))) (aD (@cf _ _ _ _ _ (1) _ _ _ _ _ g8 sj (hr.mono (by decide)) rfl (bj (aJ (pv 2)) (bj (aJ (pv 4)) b_ (by rfl)) (by rfl)) rfl (by decide) (by rfl) (by rfl)))) rfl aq)
  refine(aO ?_ ?_)
  ·exact(@bR _ _ _ _ _ _ ([]) (5) _ aw jz.nd rfl aq (@fX _ _ ([3,4]) _ _ _ _ _ _ _ _ _ _ rfl (e8 rfl rfl) (fw (aJ (pv 1))) (λl s0 H0 ex=>(n5 rfl (ig (@dk _ _ _ _ ([]) (3) _ aw jz.nd rfl aq aq (by decide)) (ig (@dk _ _ _ _ ([]) (4) _ aw jz.nd rfl aq aq (by decide)) n4 (by rfl)) (by rfl)) (by rfl) (by rfl))) (λl s0 H0 ex=>fF) (λl s0 H0 ex=>(dY ju jv (pv 3) (aD (dY mN mO (pv 2) (aU (pv 4)))))) (e7 aw rfl) (by intro _; rfl)) rfl aq)
  refine(aO ?_ ?_)
  ·refine(eX ?_ ?_ ?_)
   ·exact(gh (k9 hq) lg (rZ rfl rfl T.lE (aU (pv 5))) (aU (pv 2)) (cO _))
   ·refine(bo ?_);refine(cw ?_);exact iI
   ·exact eW
  refine(bo ?_);refine(cw ?_);exact(xk rfl rfl T.oG (aD (@fX _ _ ([6]) _ _ _ _ _ _ _ _ _ _ rfl (e8 rfl rfl) (fw (@cf _ _ _ _ _ (3) _ _ _ _ _ qe Gg (hr.mono (by decide)) rfl (bj (aJ (pv 0)) b_ (by rfl)) rfl (by decide) (by rfl) (by rfl))) (λl s0 H0 ex=>(@dk _ _ _ _ ([]) (6) _ aw jz.nd rfl aq aq (by decide))) (λl s0 H0 ex=>fF) (λl s0 H0 ex=>(qY (gR hq) gS (rZ rfl rfl T.lE (aD (@fX _ _ ([8,9]) _ _ _ _ _ _ _ _ _ _ rfl (e8 rfl rfl) (yo rfl T.oI (aJ (pv 6)) (aJ (pv 5)) (by rfl) (by rfl) (by rfl)) (λl s0 H0 ex=>(n5 rfl (ig (@dk _ _ _ _ ([]) (8) _ aw jz.nd rfl aq aq (by decide)) (ig (@dk _ _ _ _ ([]) (9) _ aw jz.nd rfl aq aq (by decide)) n4 (by rfl)) (by rfl)) (by rfl) (by rfl))) (λl s0 H0 ex=>fF) (λl s0 H0 ex=>(dY ju jv (pv 8) (aU (pv 9)))) (e7 aw rfl) (by intro _; rfl)))) (aD aL) (cO _))) (e7 aw rfl) (by intro _; rfl))) (by rfl))) λss y h=>dE h
def Aa:DS:=(bC (fV (cP "int" (ae 0)) (nS (cP "bool" (ae 0)))))
def gH:DF:=cy [] 1 Aa
theorem Gm:de gH:=dM
theorem Sq:cY ["found"] ["found"] (cq zy):=scc
theorem Sr {K:W1} (F:cC K "_law_whole" "_law_whole" zy f fd) (hm:mg "_law_whole" = some (.ref f)) (hb:Binds K fd ["found"] []) (T:Txt K mg):aS P w K mg base 1 "_law_whole" 1 gH :=
 ef (np:=[]) (fb:=Aa) F hm hb Sq (λc bE A outer s H E hr aw=>by
  have hq:=dO hr;refine(bo ?_);refine(cw ?_);exact(nT (lj T.ty_int rfl T.iY rfl T.mV boot_int (aU (pv 0)) (by decide) (by decide) (by rfl) (by rfl)) (uq (Dv (lj T.ty_bool rfl T.iY rfl T.oH boot_bool (aU (pv 0)) (by decide) (by decide) (by rfl) (by rfl)))))) λss y h=>dE h
def Ac:DS:=(az (kG [] 2 3 (aG (aa 0) (aG (aa 1) bB))) (az (eF (aB (ah gx 3 (ao (eD (.int 0))))) (kG [] 2 3 (aG (aa 3) (aG (ah fM 2 (ae 3)) bB))) 1000000) (bC (ah bX 2 (ao (eD (.int 1)))))))
def nc:DF:=cy [] 4 Ac
theorem Ss:de nc:=dM
theorem Ad:cY ["top","bottom","one","other"] ["top","bottom"] (cq zz):=scc
theorem Su {K:W1} (F:cC K "_law_lowest" "_law_lowest" zz f fd) (hm:mg "_law_lowest" = some (.ref f)) (hb:Binds K fd ["top","bottom"] []) (T:Txt K mg):aS P w K mg base 1 "_law_lowest" 2 nc :=
 ef (np:=[]) (fb:=Ac) F hm hb Ad (λc bE A outer s H E hr aw=>by
  have hq:=dO hr;refine(aO ?_ ?_)
  ·exact(yU (np:=[]) (i:=2) (j:=3) aw rfl Ad.nd rfl rfl (by decide) rfl rfl (bw (aJ (pv 0)) (bw (aJ (pv 1)) c7 (by rfl)) (by rfl)))
  refine(aO ?_ ?_)
  ·refine(D4 1000000 (λh1 h2=>BQ PassesOwn.never h1 h2) ?_ ?_)
   ·exact(iK pG jR (pv 3) (aD aL) (cO _))
   ·refine(bo ?_);exact(yU (np:=[]) (i:=2) (j:=3) aw rfl Ad.nd rfl rfl (by decide) rfl rfl (bw (aJ (pv 3)) (bw (dY lU mn (pv 2) (aU (pv 3))) c7 (by rfl)) (by rfl)))
  refine(bo ?_);refine(cw ?_);exact(uo (gR hq) gS (pv 2) (aD aL) (cO _))) λss y h=>dE h
def Ae:DS:=(az (cE (jh (gw (aB (cP "tuple" (ae 0)))) (jh (aB (aE eU (aH bf (ae 0)) (ao (eD (.int 2))))) (jh (gw (aB (aA gH [.val (ah ay 0 (ao (eD (.int 0))))]))) (gw (aB (aA gH [.val (ah ay 0 (ao (eD (.int 1))))])))))) (bC (eD (.bl false))) cG) (bC (fV (aE rh (ah ay 0 (ao (eD (.int 0)))) (ao (eD (.int 0)))) (fV (aE rh (ah ay 0 (ao (eD (.int 1)))) (ao (eD (.int 1)))) (aA nc [.val (ah ay 0 (ao (eD (.int 0)))),.val (ah ay 0 (ao (eD (.int 1))))])))))
def jA:DF:=cy [] 1 Ae
theorem Sv:de jA:=dM
theorem Sw:cY ["one"] ["one"] (cq zA):=scc
theorem Sx {K:W1} (F:cC K "_law_fraction_good" "_law_fraction_good" zA f fd) (hm:mg "_law_fraction_good" = some (.ref f)) (hb:Binds K fd ["one"] []) (T:Txt K mg) (vh:aS P w K mg base 1 "_law_whole" 1 gH) (Af:aS P w K mg base 1 "_law_lowest" 2 nc):aS P w K mg base 2 "_law_fraction_good" 1 jA :=
 ef (np:=[]) (fb:=Ae) F hm hb Sw (λc bE A outer s H E hr aw=>by
  have hq:=dO hr;refine(aO ?_ ?_)
  ·refine(eX ?_ ?_ ?_)
   ·exact(mj (nR (lb (la (lj T.ty_tuple rfl T.iY rfl T.g7 boot_tuple (aU (pv 0)) (by decide) (by decide) (by rfl) (by rfl)) (by intro _; rfl))) (nR (gh (k9 hq) lg (fO rfl T.e_ (aU (pv 0)) (by rfl)) (aD aL) (cO _)) (nR (lb (la (@cf _ _ _ _ _ (1) _ _ _ _ _ vh Gm (hr.mono (by decide)) rfl (bj (bQ bH bK (pv 0) (aD aL) (λ_ _=>rfl)) b_ (by rfl)) rfl (by decide) (by rfl) (by rfl)) (by intro _; rfl))) (qZ (lb (la (@cf _ _ _ _ _ (1) _ _ _ _ _ vh Gm (hr.mono (by decide)) rfl (bj (bQ bH bK (pv 0) (aD aL) (λ_ _=>rfl)) b_ (by rfl)) rfl (by decide) (by rfl) (by rfl)) (by intro _; rfl))))))))
   ·refine(bo ?_);refine(cw ?_);exact iI
   ·exact eW
  refine(bo ?_);refine(cw ?_);exact(nT (qY xj jR (bQ bH bK (pv 0) (aD aL) (λ_ _=>rfl)) (aD aL) (cO _)) (nT (qY xj jR (bQ bH bK (pv 0) (aD aL) (λ_ _=>rfl)) (aD aL) (cO _)) (uq (@cf _ _ _ _ _ (1) _ _ _ _ _ Af Ss (hr.mono (by decide)) rfl (bj (bQ bH bK (pv 0) (aD aL) (λ_ _=>rfl)) (bj (bQ bH bK (pv 0) (aD aL) (λ_ _=>rfl)) b_ (by rfl)) (by rfl)) rfl (by decide) (by rfl) (by rfl)))))) λss y h=>dE h
def Ag:DS:=(az (ax (bD [7] (bG (ah ay 0 (ao (eD (.int 2))))) (ag [] 7) aV (ah ay 7 (ao (eD (.int 0))))) (ag [] 1)) (az (ax rP (ag [] 2)) (az (er (bG (ah ay 0 (ao (eD (.int 2))))) (bV 2 (aQ (ag [] 3) (aQ (ag [] 4) b9))) (az (oA 2 3 6 (aE ly (iS [.int 0]) (ao (aH bf (ae 1)))) (aH (fq []) (ae 4)) (ag [2] 5) (ax (kD 1 (aa 5)) (ag [2] 6))) cG)) (mH [] 2))))
def oO:DF:=cy [] 8 Ag
theorem Sy:de oO:=dM
theorem nh:cY ["rule","tiles","found","tile","block","sign","place","pair"] ["rule"] (cq zB):=scc
theorem Sz {K:W1} (F:cC K "_law_table" "_law_table" zB f fd) (hm:mg "_law_table" = some (.ref f)) (hb:Binds K fd ["rule"] []) (T:Txt K mg):aS P w K mg base 1 "_law_table" 1 oO :=
 ef (np:=[]) (fb:=Ag) F hm hb nh (λc bE A outer s H E hr aw=>by
  have hq:=dO hr;refine(aO ?_ ?_)
  ·exact(@rH _ _ ([7]) _ _ _ _ _ _ _ _ _ _ ([]) (1) _ _ _ aw rfl (e8 rfl rfl) nh.nd rfl rfl (fw (bQ bH bK (pv 0) (aD aL) (λ_ _=>rfl))) (λl s0 H0 ex=>(@dk _ _ _ _ ([]) (7) _ aw nh.nd rfl aq aq (by decide))) (λl s0 H0 ex=>fF) (λl s0 H0 ex=>(bQ bH bK (pv 7) (aD aL) (λ_ _=>rfl))) (e7 aw rfl) (by rfl) (by intro _; rfl))
  refine(aO ?_ ?_)
  ·exact(@bR _ _ _ _ _ _ ([]) (2) _ aw nh.nd rfl aq EB rfl aq)
  refine(aO ?_ ?_)
  ·refine(ie PassesOwn.never rfl ?_ ?_ ?_ (by intro _; rfl))
   ·exact(fw (bQ bH bK (pv 0) (aD aL) (λ_ _=>rfl)))
   ·exact(nX rfl (ic (@dZ _ _ _ ([]) (3) _ aw nh.nd rfl aq aq) (ic (@dZ _ _ _ ([]) (4) _ aw nh.nd rfl aq aq) nW (by rfl)) (by rfl)) (by rfl) (by rfl))
   ·refine(Ph (i:=2) (j:=3) (m:=6) hq PassesOwn.never rfl (pv 2) (pv 3) ?_ (pv 2) (pv 3) (pv 6) (pv 2) (pv 3) (pv 6) ?_ ?_ ?_ ?_ (λ_ _=>rfl) (λ_ _=>rfl) (λ_ _=>rfl))
    ·exact(cA Pd Pe (xU (by rfl) (by decide)) (aD (fO rfl T.e_ (aU (pv 1)) (by rfl))))
    ·intro pp pa; have aw:=Np.dt (c:=c.plus pp) (i:=2) (a:=pa) aw; exact(xn [] (aU (pv 4)) (by decide +kernel) (by rfl) (by rfl) (by rfl) (by rfl))
    ·intro pp pa; have aw:=Np.dt (c:=c.plus pp) (i:=2) (a:=pa) aw; exact(@dZ _ _ _ ([2]) (5) _ aw nh.nd rfl aq aq)
    ·intro pp pa; have aw:=Np.dt (c:=c.plus pp) (i:=2) (a:=pa) aw; exact(@bR _ _ _ _ _ _ ([2]) (6) _ aw nh.nd rfl aq (OT (pv 1) (aJ (pv 5)) (by rfl) (by rfl) (by rfl) (by rfl)) rfl aq)
    exact eW
  refine(bo ?_);exact(yg aw (pv 2))) λss y h=>dE h
def su:DS:=(az (cE (jh (gw (aB (cP "tuple" (ae 1)))) (aB (aE eU (aH bf (ae 1)) (ao (aH bf (ao (ah ay 0 (ao (eD (.int 2)))))))))) (bC (eD (.bl false))) cG) (az (cE (gw (aB (aH gy (ao (bD [3] (bG (aa 1)) (ag [] 3) aV (aA jA [.val (aa 3)])))))) (bC (eD (.bl false))) cG) (az (ax (eD (.int 1)) (ag [] 2)) (az (er (bG (aa 1)) (ag [] 3) (ax (ah cL 2 (ao (ah ay 3 (ao (eD (.int 1)))))) (ag [] 2))) (az (ax (bD [3] (bG (aa 1)) (ag [] 3) aV (aE fz (aE cL (ah ay 3 (ao (eD (.int 0)))) (ae 2)) (ao (ah ay 3 (ao (eD (.int 1))))))) (ag [] 4)) (az (ax (aA oO [.val (aa 0)]) (ag [] 5)) (az (er (dD (aH bf (ae 4))) (ag [] 6) (az (ax (aH gq (ao (bD [8,9] (gA (aa 4) (ah ay 0 (ao (eD (.int 2))))) (bV 2 (aQ (ag [] 8) (aQ (ag [] 9) b9))) aV (ah cL 8 (ao (aE ay (ah pP 5 (ao (ah ay 9 (ao (eD (.int 0)))))) (ae 6))))))) (ag [] 7)) (cE (aB (ah eU 7 (ao (aE cL (aE cL (ah ay 0 (ao (eD (.int 0)))) (ao (ah ay 0 (ao (eD (.int 1)))))) (ao (ah ay 4 (ae 6))))))) (bC (eD (.bl false))) cG))) (bC (aE bX (aH gq (ae 4)) (ae 2))))))))))
def i9:DF:=cy [] 10 su
theorem SD:de i9:=dM
theorem jB:cY ["rule","thing","bottom","one","tops","table","place","total","top","pair"] ["rule","thing"] (cq zC):=scc
theorem SF {K:W1} (F:cC K "_law_due" "_law_due" zC f fd) (hm:mg "_law_due" = some (.ref f)) (hb:Binds K fd ["rule","thing"] []) (T:Txt K mg) (Ah:aS P w K mg base 2 "_law_fraction_good" 1 jA) (Ai:aS P w K mg base 1 "_law_table" 1 oO):aS P w K mg base 3 "_law_due" 2 i9 :=
 ef (np:=[]) (fb:=su) F hm hb jB (λc bE A outer s H E hr aw=>by
  have hq:=dO hr;refine(aO ?_ ?_)
  ·refine(eX ?_ ?_ ?_)
   ·exact(mj (nR (lb (la (lj T.ty_tuple rfl T.iY rfl T.g7 boot_tuple (aU (pv 1)) (by decide) (by decide) (by rfl) (by rfl)) (by intro _; rfl))) (qZ (gh (k9 hq) lg (fO rfl T.e_ (aU (pv 1)) (by rfl)) (aD (fO rfl T.e_ (aD (bQ bH bK (pv 0) (aD aL) (λ_ _=>rfl))) (by rfl))) (cO _)))))
   ·refine(bo ?_);refine(cw ?_);exact iI
   ·exact eW
  refine(aO ?_ ?_)
  ·refine(eX ?_ ?_ ?_)
   ·exact(lb (la (xk rfl rfl T.oG (aD (@fX _ _ ([3]) _ _ _ _ _ _ _ _ _ _ rfl (e8 rfl rfl) (fw (aJ (pv 1))) (λl s0 H0 ex=>(@dk _ _ _ _ ([]) (3) _ aw jB.nd rfl aq aq (by decide))) (λl s0 H0 ex=>fF) (λl s0 H0 ex=>(@cf _ _ _ _ _ (2) _ _ _ _ _ Ah Sv (hr.mono (by decide)) rfl (bj (aJ (pv 3)) b_ (by rfl)) rfl (by decide) (by rfl) (by rfl))) (e7 aw rfl) (by intro _; rfl))) (by rfl)) (by intro _; rfl)))
   ·refine(bo ?_);refine(cw ?_);exact iI
   ·exact eW
  refine(aO ?_ ?_)
  ·exact(@bR _ _ _ _ _ _ ([]) (2) _ aw jB.nd rfl aq aL rfl aq)
  refine(aO ?_ ?_)
  ·refine(ie PassesOwn.never rfl ?_ ?_ ?_ (by intro _; rfl))
   ·exact(fw (aJ (pv 1)))
   ·exact(@dZ _ _ _ ([]) (3) _ aw jB.nd rfl aq aq)
   ·refine(bo ?_);exact(@bR _ _ _ _ _ _ ([]) (2) _ aw jB.nd rfl aq (dY ju jv (pv 2) (aD (bQ bH bK (pv 3) (aD aL) (λ_ _=>rfl)))) rfl aq)
  refine(aO ?_ ?_)
  ·exact(@rH _ _ ([3]) _ _ _ _ _ _ _ _ _ _ ([]) (4) _ _ _ aw rfl (e8 rfl rfl) jB.nd rfl rfl (fw (aJ (pv 1))) (λl s0 H0 ex=>(@dk _ _ _ _ ([]) (3) _ aw jB.nd rfl aq aq (by decide))) (λl s0 H0 ex=>fF) (λl s0 H0 ex=>(cA mN mO (cA ju jv (bQ bH bK (pv 3) (aD aL) (λ_ _=>rfl)) (aU (pv 2))) (aD (bQ bH bK (pv 3) (aD aL) (λ_ _=>rfl))))) (e7 aw rfl) (by rfl) (by intro _; rfl))
  refine(aO ?_ ?_)
  ·exact(@bR _ _ _ _ _ _ ([]) (5) _ aw jB.nd rfl aq (@cf _ _ _ _ _ (1) _ _ _ _ _ Ai Sy (hr.mono (by decide)) rfl (bj (aJ (pv 0)) b_ (by rfl)) rfl (by decide) (by rfl) (by rfl)) rfl aq)
  refine(aO ?_ ?_)
  ·refine(ie PassesOwn.never rfl ?_ ?_ ?_ (by intro _; rfl))
   ·exact(jU rfl T.gZ (fO rfl T.e_ (aU (pv 4)) (by rfl)) (by rfl))
   ·exact(@dZ _ _ _ ([]) (6) _ aw jB.nd rfl aq aq)
   ·refine(aO ?_ ?_)
    ·exact(@bR _ _ _ _ _ _ ([]) (7) _ aw jB.nd rfl aq (rZ rfl rfl T.lE (aD (@fX _ _ ([8,9]) _ _ _ _ _ _ _ _ _ _ rfl (e8 rfl rfl) (yo rfl T.oI (aJ (pv 4)) (bQ bH bK (pv 0) (aD aL) (λ_ _=>rfl)) (by rfl) (by rfl) (by rfl)) (λl s0 H0 ex=>(n5 rfl (ig (@dk _ _ _ _ ([]) (8) _ aw jB.nd rfl aq aq (by decide)) (ig (@dk _ _ _ _ ([]) (9) _ aw jB.nd rfl aq aq (by decide)) n4 (by rfl)) (by rfl)) (by rfl) (by rfl))) (λl s0 H0 ex=>fF) (λl s0 H0 ex=>(dY ju jv (pv 8) (aD (w_ bH bK (bQ (Oi hq) Oc (pv 5) (aD (bQ bH bK (pv 9) (aD aL) (λ_ _=>rfl))) (λ_ _=>rfl)) (aU (pv 6)) (λ_ _=>rfl))))) (e7 aw rfl) (by intro _; rfl)))) rfl aq)
    refine(bo ?_);refine(eX ?_ ?_ ?_)
    ·exact(iK (k9 hq) lg (pv 7) (aD (cA ju jv (cA ju jv (bQ bH bK (pv 0) (aD aL) (λ_ _=>rfl)) (aD (bQ bH bK (pv 0) (aD aL) (λ_ _=>rfl)))) (aD (bQ bH bK (pv 4) (aU (pv 6)) (λ_ _=>rfl))))) (cO _))
    ·refine(bo ?_);refine(cw ?_);exact iI
    ·exact eW
  refine(bo ?_);refine(cw ?_);exact(qY (gR hq) gS (rZ rfl rfl T.lE (aU (pv 4))) (aU (pv 2)) (cO _))) λss y h=>dE h
def Aj:DS:=(az (er (bG (aE bI (eV (aG (aA mW [.val (aa 0),.val (eD (.int 0))]) bB)) (ao (gk 0 (fP (eD (.int 1))) (fP (eD (.int 5))))))) (ag [] 1) (az (ax (aA mX [.val (aa 1)]) (ag [] 2)) (az (ax (aA lF [.io 2,.val (eD (.int 6))]) (ag [] 3)) (er (dD (eD (.int 3))) (ag [] 4) (az (ax (aA kJ [.val (aa 3),.io 2]) (ag [] 5)) (er (bG (eV (aG (aa 5) (aG (aA lH [.val (aa 5),.io 2]) bB)))) (ag [] 6) (az (ax (aA i8 [.val (aa 3),.val (aa 6)]) (ag [] 7)) (cE (jh (gw (aB (cP "bool" (ae 7)))) (aB (ah eU 7 (ao (aA i9 [.val (aa 3),.val (aa 6)]))))) (bC (eD (.bl false))) cG)))))))) (bC (eD (.bl true))))
def oP:DF:=cy [] 8 Aj
theorem Xv:de oP:=dM
theorem ni:cY ["script","cell","pen","rule","turn","shares","thing","found"] ["script"] (cq lD):=scc
theorem SH {K:W1} (F:cC K "law" "law" lD f fd) (T:Txt K mg) (Al:aS P w K mg base 1 "_law_cell_at" 2 mW) (Am:aS P w K mg base 1 "_law_pen_of" 1 mX) (An:aS P w K mg base 4 "_law_rule_by" 2 lF) (Ao:aS P w K mg base 6 "_law_shares_by" 2 kJ) (Ap:aS P w K mg base 3 "_law_spoilt" 2 lH) (Aq:aS P w K mg base 4 "shares_hold" 2 i8) (Ar:aS P w K mg base 3 "_law_due" 2 i9):jL P w K mg base jO 7 f fd ["script"] (mw 1 oP) :=
 Eh (np:=[]) (fb:=Aj) F ni (λc bE A outer s H E hr aw=>by
  have hq:=dO hr;refine(@aO _ _ _ _ _ _ ?_ ?_)
  ·refine(@ie _ _ _ _ _ _ _ _ _ PassesOwn.never rfl ?_ ?_ ?_ (by intro _; rfl))
   ·exact(@fw _ _ _ _ _ (@cA _ _ _ _ _ _ _ _ _ _ fD fE (@jk _ _ _ _ _ (@bw _ _ _ _ _ _ (@cf _ _ _ _ _ (1) _ _ _ _ _ Al RI (hr.mono (by decide)) rfl (@bj _ _ _ _ _ _ (@aJ _ _ _ _ (pv 0)) (@bj _ _ _ _ _ _ (@aL _ _ _ _ _) (@b_ _ _) (by rfl)) (by rfl)) rfl (by decide) (by rfl) (by rfl)) (@c7 _ _) (by rfl)) (by decide)) (@aD _ _ _ _ (@rz _ _ _ _ _ _ _ _ _ _ (pv 0) (@pJ _ _ _ _ (@aL _ _ _ _ _)) (@pJ _ _ _ _ (@aL _ _ _ _ _))))))
   ·exact(@dZ _ _ _ ([]) (1) _ aw ni.nd rfl aq aq)
   ·refine(@aO _ _ _ _ _ _ ?_ ?_)
    ·exact(@bR _ _ _ _ _ _ ([]) (2) _ aw ni.nd rfl aq (@cf _ _ _ _ _ (1) _ _ _ _ _ Am RM (hr.mono (by decide)) rfl (@bj _ _ _ _ _ _ (@aJ _ _ _ _ (pv 1)) (@b_ _ _) (by rfl)) rfl (by decide) (by rfl) (by rfl)) rfl aq)
    refine(@aO _ _ _ _ _ _ ?_ ?_)
    ·exact(@bR _ _ _ _ _ _ ([]) (3) _ aw ni.nd rfl aq (@cf _ _ _ _ _ (4) _ _ _ _ _ An RX (hr.mono (by decide)) rfl (@fu _ _ _ _ _ _ (pv 2) (@bj _ _ _ _ _ _ (@aL _ _ _ _ _) (@b_ _ _) (by rfl)) (by rfl)) rfl (by decide) (by rfl) (by rfl)) rfl aq)
    refine(@bo _ _ _ _ ?_);refine(@ie _ _ _ _ _ _ _ _ _ PassesOwn.never rfl ?_ ?_ ?_ (by intro _; rfl))
    ·exact(@jU _ _ _ _ _ _ _ rfl T.gZ (@aL _ _ _ _ _) (by rfl))
    ·exact(@dZ _ _ _ ([]) (4) _ aw ni.nd rfl aq aq)
    ·refine(@aO _ _ _ _ _ _ ?_ ?_)
     ·exact(@bR _ _ _ _ _ _ ([]) (5) _ aw ni.nd rfl aq (@cf _ _ _ _ _ (6) _ _ _ _ _ Ao Sf (hr.mono (by decide)) rfl (@bj _ _ _ _ _ _ (@aJ _ _ _ _ (pv 3)) (@fu _ _ _ _ _ _ (pv 2) (@b_ _ _) (by rfl)) (by rfl)) rfl (by decide) (by rfl) (by rfl)) rfl aq)
     refine(@bo _ _ _ _ ?_);refine(@ie _ _ _ _ _ _ _ _ _ PassesOwn.never rfl ?_ ?_ ?_ (by intro _; rfl))
     ·exact(@fw _ _ _ _ _ (@jk _ _ _ _ _ (@bw _ _ _ _ _ _ (@aJ _ _ _ _ (pv 5)) (@bw _ _ _ _ _ _ (@cf _ _ _ _ _ (3) _ _ _ _ _ Ap Sh (hr.mono (by decide)) rfl (@bj _ _ _ _ _ _ (@aJ _ _ _ _ (pv 5)) (@fu _ _ _ _ _ _ (pv 2) (@b_ _ _) (by rfl)) (by rfl)) rfl (by decide) (by rfl) (by rfl)) (@c7 _ _) (by rfl)) (by rfl)) (by decide)))
     ·exact(@dZ _ _ _ ([]) (6) _ aw ni.nd rfl aq aq)
     ·refine(@aO _ _ _ _ _ _ ?_ ?_)
      ·exact(@bR _ _ _ _ _ _ ([]) (7) _ aw ni.nd rfl aq (@cf _ _ _ _ _ (4) _ _ _ _ _ Aq Sn (hr.mono (by decide)) rfl (@bj _ _ _ _ _ _ (@aJ _ _ _ _ (pv 3)) (@bj _ _ _ _ _ _ (@aJ _ _ _ _ (pv 6)) (@b_ _ _) (by rfl)) (by rfl)) rfl (by decide) (by rfl) (by rfl)) rfl aq)
      refine(@bo _ _ _ _ ?_);refine(@eX _ _ _ _ _ _ _ _ _ ?_ ?_ ?_)
      ·exact(@mj _ _ _ _ (@nR _ _ _ _ _ _ _ _ (@lb _ _ _ _ _ (@la _ _ _ _ (@lj _ _ _ _ _ _ _ _ _ T.ty_bool rfl T.iY rfl T.oH boot_bool (@aU _ _ _ _ (pv 7)) (by decide) (by decide) (by rfl) (by rfl)) (by intro _; rfl))) (@qZ _ _ _ _ _ (@iK _ _ _ _ _ _ _ _ _ _ (k9 hq) lg (pv 7) (@aD _ _ _ _ (@cf _ _ _ _ _ (3) _ _ _ _ _ Ar SD (hr.mono (by decide)) rfl (@bj _ _ _ _ _ _ (@aJ _ _ _ _ (pv 3)) (@bj _ _ _ _ _ _ (@aJ _ _ _ _ (pv 6)) (@b_ _ _) (by rfl)) (by rfl)) rfl (by decide) (by rfl) (by rfl))) (cO _)))))
      ·refine(@bo _ _ _ _ ?_);refine(@cw _ _ _ _ _ ?_);exact(@iI _ _ _ _ _)
      ·exact eW
  refine(@bo _ _ _ _ ?_);refine(@cw _ _ _ _ _ ?_);exact(@iI _ _ _ _ _)) λss y h=>dE h
theorem all_mk {l:PySem.W.OpenLaw} {w:Wr} {K:W1} {h:Heap} {mg:Str->Option Value} {fa:Addr} (X:K.In h) (G:h.Ns WE mg) (SJ:mg "law" = some (.ref fa))
  (d0:dP K "_law_cell_at" y6)
  (d1:dP K "_law_pen_of" y9)
  (d2:dP K "_law_next" y_)
  (d3:dP K "_law_draw" zc)
  (d4:dP K "_law_sizes_by" zd)
  (d5:dP K "_law_pick" ze)
  (d6:dP K "_law_rule_by" zf)
  (d7:dP K "common_divisor" zg)
  (d8:dP K "row_lowered" zh)
  (d9:dP K "row_cleared" zi)
  (As:dP K "solved_rows" zj)
  (Au:dP K "rule_tiles" zk)
  (Aw:dP K "table_of" zm)
  (Ax:dP K "still_rows" zo)
  (Ay:dP K "lowest_fraction" zp)
  (Az:dP K "still_shares" zq)
  (AA:dP K "_law_shares_by" zt)
  (AB:dP K "_law_spoilt" zu)
  (AD:dP K "whole_from" zv)
  (AE:dP K "fraction_good" zw)
  (AF:dP K "shares_hold" zx)
  (AG:dP K "_law_whole" zy)
  (AH:dP K "_law_lowest" zz)
  (AI:dP K "_law_fraction_good" zA)
  (AJ:dP K "_law_table" zB)
  (AK:dP K "_law_due" zC)
  (rG:nsIn K WE "law" = some (some (.ref f26)))
  (AL:K.lookup f26=some ⟨oc26,od26,.func (QN "law" "law" (l9 lD) (jN lD) (cq lD) .none kV26 dc26 pm26 an26 cd26 ct26),sl26⟩)
  (AM:codeIn K cd26 "law" = true)
  (AN:keepIn K (.ref f26)=true)
  (qa:nsIn K WE "abs" = some none)
  (oG:nsIn K WE "all" = some none)
  (oH:nsIn K WE "bool" = some none)
  (sd:nsIn K WE "dict" = some none)
  (mV:nsIn K WE "int" = some none)
  (iY:nsIn K WE "isinstance" = some none)
  (e_:nsIn K WE "len" = some none)
  (qb:nsIn K WE "list" = some none)
  (se:nsIn K WE "max" = some none)
  (gZ:nsIn K WE "range" = some none)
  (sg:nsIn K WE "sorted" = some none)
  (si:nsIn K WE "str" = some none)
  (lE:nsIn K WE "sum" = some none)
  (g7:nsIn K WE "tuple" = some none)
  (oI:nsIn K WE "zip" = some none)
  : ∃ fd:Qj,(∀ (s:W2) (v:Value),BindsTo s fd ⟨[v],[]⟩ [("script",v)])/\∀ base:Heap,K.In base->base.Ns WE mg->jL l.prog w K mg base jO 7 fa fd ["script"] (mw 1 oP):=by
 have e:=SJ.symm.trans (mg_of X G rG)
 cases e;have T:Txt K mg:=⟨WM X G qa,WM X G oG,WM X G oH,WM X G sd,WM X G mV,WM X G iY,WM X G e_,WM X G qb,WM X G se,WM X G gZ,WM X G sg,WM X G si,WM X G lE,WM X G g7,WM X G oI,NL,NJ,NM⟩
 obtain⟨f0,fd0,F0,m0⟩:=eh X G d0;obtain⟨f1,fd1,F1,m1⟩:=eh X G d1;obtain⟨f2,fd2,F2,m2⟩:=eh X G d2;obtain⟨f3,fd3,F3,m3⟩:=eh X G d3;obtain⟨f4,fd4,F4,m4⟩:=eh X G d4;obtain⟨f5,fd5,F5,m5⟩:=eh X G d5;obtain⟨f6,fd6,F6,m6⟩:=eh X G d6;obtain⟨f7,fd7,F7,m7⟩:=eh X G d7;obtain⟨f8,fd8,F8,m8⟩:=eh X G d8;obtain⟨f9,fd9,F9,m9⟩:=eh X G d9;obtain⟨f10,fd10,F10,m10⟩:=eh X G As;obtain⟨f11,fd11,F11,m11⟩:=eh X G Au;obtain⟨f12,fd12,F12,m12⟩:=eh X G Aw;obtain⟨f13,fd13,F13,m13⟩:=eh X G Ax;obtain⟨f14,fd14,F14,m14⟩:=eh X G Ay;obtain⟨f15,fd15,F15,m15⟩:=eh X G Az;obtain⟨f16,fd16,F16,m16⟩:=eh X G AA;obtain⟨f17,fd17,F17,m17⟩:=eh X G AB;obtain⟨f18,fd18,F18,m18⟩:=eh X G AD;obtain⟨f19,fd19,F19,m19⟩:=eh X G AE;obtain⟨f20,fd20,F20,m20⟩:=eh X G AF;obtain⟨f21,fd21,F21,m21⟩:=eh X G AG;obtain⟨f22,fd22,F22,m22⟩:=eh X G AH;obtain⟨f23,fd23,F23,m23⟩:=eh X G AI;obtain⟨f24,fd24,F24,m24⟩:=eh X G AJ;obtain⟨f25,fd25,F25,m25⟩:=eh X G AK;have SK:=CL (st:=lD) AL AM AN;refine⟨QN "law" "law" (l9 lD) (jN lD) (cq lD) .none kV26 dc26 pm26 an26 cd26 ct26,λs v=>.of_eq rfl,λbase _ _=>?_⟩;have Al:aS l.prog w K mg base 1 "_law_cell_at" 2 mW:=RK F0 m0 (j4 F0 λ_ _ _ _ _ _ _ _=>rfl) T;have Am:aS l.prog w K mg base 1 "_law_pen_of" 1 mX:=RN F1 m1 (iV F1 λ_ _ _ _ _ _ _=>rfl) T;have vb:aS l.prog w K mg base 1 "_law_next" 1 mY:=RO F2 m2 (iV F2 λ_ _ _ _ _ _ _=>rfl) T;have ei:aS l.prog w K mg base 2 "_law_draw" 2 c8:=RP F3 m3 (j4 F3 λ_ _ _ _ _ _ _ _=>rfl) T vb;have zK:aS l.prog w K mg base 3 "_law_sizes_by" 1 oJ:=RS F4 m4 (iV F4 λ_ _ _ _ _ _ _=>rfl) T ei;have zL:aS l.prog w K mg base 3 "_law_pick" 4 iZ:=RV F5 m5 (OK F5 λ_ _ _ _ _ _ _ _ _ _=>rfl) T ei;have An:aS l.prog w K mg base 4 "_law_rule_by" 2 lF:=RY F6 m6 (j4 F6 λ_ _ _ _ _ _ _ _=>rfl) T ei zK zL;have g8:aS l.prog w K mg base 1 "common_divisor" 2 f_:=RZ F7 m7 (j4 F7 λ_ _ _ _ _ _ _ _=>rfl) T;have zP:aS l.prog w K mg base 2 "row_lowered" 1 mZ:=R1 F8 m8 (iV F8 λ_ _ _ _ _ _ _=>rfl) T g8;have vd:aS l.prog w K mg base 3 "row_cleared" 3 kH:=R3 F9 m9 (OJ F9 λ_ _ _ _ _ _ _ _ _=>rfl) T zP;have zZ:aS l.prog w K mg base 4 "solved_rows" 1 lG:=R5 F10 m10 (iV F10 λ_ _ _ _ _ _ _=>rfl) T vd;have zU:aS l.prog w K mg base 1 "rule_tiles" 1 oK:=R7 F11 m11 (iV F11 λ_ _ _ _ _ _ _=>rfl) T;have zW:aS l.prog w K mg base 2 "table_of" 1 oM:=R9 F12 m12 (iV F12 λ_ _ _ _ _ _ _=>rfl) T zU;have qe:aS l.prog w K mg base 3 "still_rows" 1 iu:=R_ F13 m13 (iV F13 λ_ _ _ _ _ _ _=>rfl) T zW;have z0:aS l.prog w K mg base 2 "lowest_fraction" 2 kI:=Sb F14 m14 (j4 F14 λ_ _ _ _ _ _ _ _=>rfl) T g8;have z5:aS l.prog w K mg base 5 "still_shares" 1 j8:=Se F15 m15 (iV F15 λ_ _ _ _ _ _ _=>rfl) T g8 zZ qe z0;have Ao:aS l.prog w K mg base 6 "_law_shares_by" 2 kJ:=Sg F16 m16 (j4 F16 λ_ _ _ _ _ _ _ _=>rfl) T ei z5;have Ap:aS l.prog w K mg base 3 "_law_spoilt" 2 lH:=Si F17 m17 (j4 F17 λ_ _ _ _ _ _ _ _=>rfl) T ei;have vg:aS l.prog w K mg base 1 "whole_from" 2 m_:=Sk F18 m18 (j4 F18 λ_ _ _ _ _ _ _ _=>rfl) T;have z_:aS l.prog w K mg base 2 "fraction_good" 1 jy:=Sm F19 m19 (iV F19 λ_ _ _ _ _ _ _=>rfl) T g8 vg;have Aq:aS l.prog w K mg base 4 "shares_hold" 2 i8:=So F20 m20 (j4 F20 λ_ _ _ _ _ _ _ _=>rfl) T g8 qe z_;have vh:aS l.prog w K mg base 1 "_law_whole" 1 gH:=Sr F21 m21 (iV F21 λ_ _ _ _ _ _ _=>rfl) T;have Af:aS l.prog w K mg base 1 "_law_lowest" 2 nc:=Su F22 m22 (j4 F22 λ_ _ _ _ _ _ _ _=>rfl) T;have Ah:aS l.prog w K mg base 2 "_law_fraction_good" 1 jA:=Sx F23 m23 (iV F23 λ_ _ _ _ _ _ _=>rfl) T vh Af;have Ai:aS l.prog w K mg base 1 "_law_table" 1 oO:=Sz F24 m24 (iV F24 λ_ _ _ _ _ _ _=>rfl) T;have Ar:aS l.prog w K mg base 3 "_law_due" 2 i9:=SF F25 m25 (j4 F25 λ_ _ _ _ _ _ _ _=>rfl) T Ah Ai;exact SH SK T Al Am An Ao Ap Aq Ar
open PySem (sizeLine)
def oy(bs:List (Nat×List Tx))(n:Nat):List Tx:=((bs.find? λb=>decide (b.1=n)).map (·.2)).getD []
theorem vj(h:n ∈ bs.map (·.1)):∃ b ∈ bs,b.1=n/\(bs.find? λb=>decide (b.1=n))=some b/\oy bs n=b.2:=by
 cases e:bs.find? λb=>decide (b.1=n) with
 | none =>
  obtain⟨b,hb,rfl⟩:=Wq.mp h;have:=List.find?_eq_none.mp e b hb;simp at this
 | some b =>
  have h1:=List.mem_of_find?_eq_some e;have h2:=List.find?_some e;refine⟨b,h1,by simpa using h2,rfl,?_⟩;unfold oy;rw[e];rfl
def M(bs:List (Nat×List Tx))(t s:Nat):Nat:=(oy bs t).flatten.count s
theorem AO(R:dQ h w bs):(bs.map (·.1)).Nodup:=R.up.imp λh=>WS h
theorem SN{h w:Nat}{bs:List (Nat×List Tx)}(R:dQ h w bs){b:Nat×List Tx}(hb:b ∈ bs):oy bs b.1=b.2:=by
 obtain⟨b',vk,e0,_,e2⟩:=vj (Ji hb:b.1 ∈ bs.map (·.1));have:b'=b:=by
  obtain⟨i,hi,e⟩:=Qp hb;obtain⟨j,hj,e'⟩:=Qp vk;have nd:=AO R;have:i=j:=(List.getElem_inj (h₀:=by simpa using hi) (h₁:=by simpa using hj) nd).mp (by simp[e,e',e0]);subst this;rw[<- e,<- e']
 rw[e2,this]
def sN:Nat->(Nat->Int)->Int
 | 0,_=>0
 | n + 1,f=>sN n f + f n
theorem g9:∀ {n:Nat} {f g:Nat->Int},(∀ i,i < n->f i=g i)->sN n f=sN n g
 | 0,_,_,_=>rfl
 | n + 1,f,g,h=>by
  show sN n f + f n=sN n g + g n;rw[g9 λi hi=>h i (by omega),h n (by omega)]
theorem lI(f g:Nat->Int):∀ n,sN n (λi=>f i + g i)=sN n f + sN n g
 | 0=>rfl
 | n + 1=>by
  show sN n (λi=>f i + g i) + (f n + g n)=(sN n f + f n) + (sN n g + g n);rw[lI f g n]; omega
theorem gI(c:Int)(f:Nat->Int):∀ n,sN n (λi=>c * f i)=c * sN n f
 | 0=>by simp[sN]
 | n + 1=>by
  show sN n (λi=>c * f i) + c * f n=c * (sN n f + f n);rw[gI c f n,Int.mul_add]
theorem qg:∀ {n:Nat} {f:Nat->Int},(∀ i,i < n->f i=0)->sN n f=0
 | 0,_,_=>rfl
 | n + 1,f,h=>by
  show sN n f + f n=0;rw[qg λi hi=>h i (by omega),h n (by omega)]; rfl
theorem AQ(f:Nat->Nat->Int)(m:Nat):∀ n,sN n (λi=>sN m λj=>f i j)=sN m λj=>sN n λi=>f i j
 | 0=>(qg λi _=>rfl).symm
 | n + 1=>by
  show sN n (λi=>sN m λj=>f i j) + sN m (λj=>f n j)=sN m λj=>sN n (λi=>f i j) + f n j
  rw[AQ f m n,<- lI]
theorem AR:∀ {n:Nat} {f:Nat->Int},(∀ i,i < n->0<=f i)->0<=sN n f
 | 0,_,_=>Int.le_refl 0
 | n + 1,f,h=>by
  have h1:=AR (n:=n) (f:=f) λi hi=>h i (by omega)
  have h2:=h n (by omega);show 0<=sN n f + f n;omega
theorem Gn:∀ {n:Nat} {f g:Nat->Int},(∀ i,i < n->f i<=g i)->sN n f<=sN n g
 | 0,_,_,_=>Int.le_refl 0
 | n + 1,f,g,h=>by
  have h1:=Gn (n:=n) (f:=f) (g:=g) λi hi=>h i (by omega)
  have h2:=h n (by omega);show sN n f + f n<=sN n g + g n;omega
theorem AS:∀ {n:Nat} {f:Nat->Int},(∀ i,i < n->0<=f i)->sN n f=0->∀ i,i < n->f i=0
 | 0,_,_,_,i,hi=>by omega
 | n + 1,f,h,e,i,hi=>by
  have h1:=AR (n:=n) (f:=f) λi hi=>h i (by omega)
  have h2:=h n (by omega);have e':sN n f + f n=0:=e;by_cases q:i=n
  ·subst q; omega
  ·exact AS (n:=n) (λi hi=>h i (by omega)) (by omega) i (by omega)
theorem oQ(hk:k < n)(h:∀ i,i < n->i≠k->f i=0):sN n f=f k:=by
 induction n with
 | zero=>omega
 | succ n ih =>
  show sN n f + f n=f k;by_cases q:k=n
  ·subst q;rw[qg λi hi=>h i (by omega) (by omega)]; omega
  ·rw[ih (by omega) λi hi=>h i (by omega),h n (by omega) (λz=>q z.symm)]; omega
theorem SQ(hk:k < n)(hl:l < n)(SR:k≠l)(h:∀ i,i < n->i≠k->i≠l->f i=0):sN n f=f k + f l:=by
 have e:sN n f=sN n (λi=>(if i=k then f k else 0) + (if i=l then f l else 0)):=g9 λi hi=>by
  by_cases q:i=k
  ·subst q; simp[SR]
  ·by_cases q2:i=l
   ·subst q2; simp[q]
   ·simp[q,q2,h i hi q q2]
 rw[e,lI,oQ (k:=k) hk (λi _ q=>by simp[q]),oQ (k:=l) hl (λi _ q=>by simp[q])];simp
def dot(n:Nat)(r v:Nat->Int):Int:=sN n λi=>r i * v i
theorem sv(h:∀ i,i < n->g * r' i=a * r i + b * p i):g * dot n r' v=a * dot n r v + b * dot n p v:=by
 unfold dot;rw[<- gI,<- gI,<- gI,<- lI];refine g9 λi hi=>?_
 rw[<- Qn,h i hi,Int.add_mul,Qn,Qn]
theorem Gp:∀ (n:Nat) (L:List (Nat->Int)),L.length < n->∃ v:Nat->Int,(∃ i,i < n/\v i≠0)/\∀ r ∈ L,dot n r v=0
 | 0,L,h=>by omega
 | n + 1,L,h=>by
  by_cases q:∃ p ∈ L,p n≠0
  ·obtain⟨p,hp,hn⟩:=q;obtain⟨l1,l2,rfl⟩:=List.append_of_mem hp;obtain⟨v,⟨i,hi,hv⟩,hs⟩:=Gp n ((l1 ++ l2).map λr i=>p n * r i + (- r n) * p i) (by simp at h ⊢; omega);refine⟨λi=>if i < n then p n * v i else - dot n p v,⟨i,by omega,?_⟩,?_⟩
   ·simp only[hi,if_true];exact Int.mul_ne_zero hn hv
   ·have key:∀ r:Nat->Int,dot (n + 1) r (λi=>if i < n then p n * v i else - dot n p v)=p n * dot n r v + (- r n) * dot n p v:=λr=>by
     show sN n (λi=>r i * (if i < n then p n * v i else - dot n p v)) + r n * (if n < n then p n * v n else - dot n p v)=_;rw[if_neg (by omega)];have e:sN n (λi=>r i * (if i < n then p n * v i else - dot n p v))=p n * dot n r v:=by
      unfold dot;rw[<- gI];refine g9 λi hi=>?_
      rw[if_pos hi,<- Qn,WN (r i),Qn]
     rw[e,Int.mul_neg,Ju]
    intro r hr;rw[key];have kL:r ∈ l1 ++ l2\/r=p:=by
     rcases WC.mp hr with h | h
     ·exact .inl (J9 _ h)
     ·rcases Wl.mp h with h | h
      ·exact .inr h
      ·exact .inl (WK _ h)
    rcases kL with kL | rfl
    ·have e:=hs _ (Wq.mpr ⟨r,kL,rfl⟩);have e2:=sv (n:=n) (r:=r) (r':=λi=>p n * r i + (- r n) * p i) (p:=p) (v:=v) (a:=p n) (b:=- r n) (g:=1) (λi _=>by rw[Int.one_mul]);rw[e] at e2;omega
    ·rw[Ju]; omega
  ·refine⟨λi=>if i=n then 1 else 0,⟨n,by omega,by simp⟩,λr hr=>?_⟩;have hz:r n=0:=by
    by_cases z:r n=0
    ·exact z
    ·exact absurd ⟨r,hr,z⟩ q
   refine qg λi hi=>?_
   by_cases z:i=n
   ·subst z; simp[hz]
   ·simp[z]
section
variable {n:Nat} {T:Nat->Nat->Int} {A:Int}
def oR(n:Nat)(T:Nat->Nat->Int)(A:Int)(v:Nat->Int):Prop:=∀ j,j < n->sN n (λi=>v i * T i j)=A * v j
theorem AU(f:Nat->Int):∀ n,((sN n f).natAbs:Int)<=sN n λi=>((f i).natAbs:Int)
 | 0=>Int.le_refl 0
 | n + 1=>by
  have ih:=AU f n;show((sN n f + f n).natAbs:Int)<=sN n (λi=>((f i).natAbs:Int)) + ((f n).natAbs:Int);omega
theorem SV(hT:∀ i j,0<=T i j)(hA:0<=A)(hr:∀ i,i < n->sN n (T i)=A)(hv:oR n T A v):oR n T A λi=>((v i).natAbs:Int):=by
 have le:∀ j,j < n->A * ((v j).natAbs:Int)<=sN n λi=>((v i).natAbs:Int) * T i j:=λj hj=>by
  have h1:=AU (λi=>v i * T i j) n;rw[hv j hj,J0] at h1;have e1:((A.natAbs * (v j).natAbs:Nat):Int)=A * ((v j).natAbs:Int):=by
   rw[WQ,Int.natAbs_of_nonneg hA]
  rw[e1] at h1;refine Int.le_trans h1 (Int.le_of_eq (g9 λi hi=>?_));rw[J0,WQ,Int.natAbs_of_nonneg (hT i j)]
 have SY:sN n (λj=>(sN n λi=>((v i).natAbs:Int) * T i j) - A * ((v j).natAbs:Int))=0:=by
  have e1:sN n (λj=>(sN n λi=>((v i).natAbs:Int) * T i j) - A * ((v j).natAbs:Int))=sN n (λj=>sN n λi=>((v i).natAbs:Int) * T i j) + sN n (λj=>(-A) * ((v j).natAbs:Int)):=by
   rw[<- lI];exact g9 λj hj=>by rw[Ju]; omega
  rw[e1,<- AQ (λi j=>((v i).natAbs:Int) * T i j),gI];have e2:sN n (λi=>sN n λj=>((v i).natAbs:Int) * T i j)=A * sN n λi=>((v i).natAbs:Int):=by
   rw[<- gI];refine g9 λi hi=>?_
   rw[gI,hr i hi,WN]
  rw[e2,Ju]; omega
 intro j hj;have:=AS (λj hj=>by have:=le j hj; omega) SY j hj;show sN n (λi=>((v i).natAbs:Int) * T i j)=A * ((v j).natAbs:Int);omega
theorem S0(hn:0 < n)(hr:∀ i,i < n->sN n (T i)=A):∃ v:Nat->Int,(∃ i,i < n/\v i≠0)/\oR n T A v:=by
 obtain⟨m,rfl⟩:∃ m,n=m + 1:=⟨n - 1,by omega⟩
 obtain⟨v,hv,hs⟩:=Gp (m + 1) ((W3 m).map λj i=>T i j - (if i=j then A else 0)) (by simp);have dj:∀ j,j < m + 1->dot (m + 1) (λi=>T i j - (if i=j then A else 0)) v=sN (m + 1) (λi=>v i * T i j) - A * v j:=λj hj=>by
  have e:dot (m + 1) (λi=>T i j - (if i=j then A else 0)) v=sN (m + 1) (λi=>v i * T i j + (-1) * ((if i=j then A else 0) * v i)):=by
   unfold dot;refine g9 λi hi=>?_
   rw[Int.sub_mul,WN (T i j)]; omega
  rw[e,lI,gI,oQ (k:=j) (f:=λi=>(if i=j then A else 0) * v i) hj (λi _ q=>by simp[q])];simp only[if_true];omega
 have st:∀ j,j < m->sN (m + 1) (λi=>v i * T i j)=A * v j:=λj hj=>by
  have e:=hs _ (Wq.mpr ⟨j,WA.mpr hj,rfl⟩);rw[dj j (by omega)] at e;omega
 refine⟨v,hv,λj hj=>?_⟩;by_cases q:j < m
 ·exact st j q
 ·have:j=m:=by omega
  subst this;have e1:sN (j + 1) (λk=>sN (j + 1) λi=>v i * T i k)=A * sN (j + 1) v:=by
   rw[<- AQ (λi k=>v i * T i k),<- gI];refine g9 λi hi=>?_
   rw[gI,hr i hi,WN]
  have e2:sN j (λk=>sN (j + 1) λi=>v i * T i k)=A * sN j v:=by
   rw[<- gI];exact g9 λk hk=>st k hk
  have e3:sN (j + 1) (λk=>sN (j + 1) λi=>v i * T i k)=sN j (λk=>sN (j + 1) λi=>v i * T i k) + sN (j + 1) λi=>v i * T i j:=rfl
  have e4:sN (j + 1) v=sN j v + v j:=rfl;rw[e3,e2,e4,Int.mul_add] at e1;omega
end
def ak(r:List Int)(i:Nat):Int:=r.getD i 0
theorem S3(f:Int->Int)(h0:f 0=0)(r:List Int)(i:Nat):ak (r.map f) i=f (ak r i):=by
 unfold ak;rw[Wi,Wi,Wh]
 cases r[i]? with
 | none=>exact h0.symm
 | some x=>rfl
theorem S4(f:Int->Int->Int)(h:r.length=p.length)(hi:i < r.length):ak (Qm f r p) i=f (ak r i) (ak p i):=by
 unfold ak;rw[Wi,Wi,Wi,List.getElem?_zipWith,W4 hi,W4 (show i < p.length by omega)];rfl
theorem AV(h:r.length<=i):ak r i=0:=by
 unfold ak;rw[Wi,WB h]; rfl
theorem vm(h:i < r.length):ak r i ∈ r:=by
 unfold ak;rw[Wi,W4 h];exact WX h
def gd(d:Nat)(r:List Int):Nat:=r.foldl (λ(d:Nat) x=>WI (d:Int) x) d
theorem Gq:∀ (r:List Int) (d:Nat),((gd d r:Nat):Int) ∣ (d:Int)/\∀ x ∈ r,((gd d r:Nat):Int) ∣ x
 | [],d=>⟨Int.dvd_refl _,λx h=>by cases h⟩
 | a :: r,d=>by
  obtain⟨h1,h2⟩:=Gq r (WI (d:Int) a);have e:gd d (a :: r)=gd (WI (d:Int) a) r:=rfl;rw[e];refine⟨Int.dvd_trans h1 (JY ..),λx hx=>?_⟩;rcases Wl.mp hx with rfl | hx
  ·exact Int.dvd_trans h1 (JS ..)
  ·exact h2 x hx
def rl(r:List Int):List Int:=if 1 < gd 0 r then r.map λx=>x.fdiv (gd 0 r:Nat) else r
def rc(r p:List Int)(c:Nat):List Int:=if ak r c=0 then r else rl (Qm (λa b=>a * ak p c - b * ak r c) r p)
theorem Gr{x g:Int}(h:g ∣ x):x.fdiv g * g=x:=Int.fdiv_mul_cancel h
theorem S5(r:List Int):(rl r).length=r.length/\∃ g:Int,g≠0/\∀ i,g * ak (rl r) i=ak r i:=by
 unfold rl;split
 ·rename_i h;refine⟨by simp,((gd 0 r:Nat):Int),by omega,λi=>?_⟩;rw[S3 (λx=>x.fdiv (gd 0 r:Nat)) (by simp)];by_cases hi:i < r.length
  ·rw[WN];exact Gr ((Gq r 0).2 _ (vm hi))
  ·rw[AV (by omega)]; simp
 ·exact⟨rfl,1,by decide,λi=>Int.one_mul _⟩
theorem z1{a b g x:Int}(hg:g≠0)(h:g * x=a * 0 + b * 0):x=0:=by
 rw[Int.mul_zero,Int.mul_zero,Int.add_zero] at h;rcases JA.mp h with h | h
 ·exact absurd h hg
 ·exact h
theorem z2{a b g x:Int}(ha:a≠0)(h:g * 0=a * x + b * 0):x=0:=by
 rw[Int.mul_zero,Int.mul_zero,Int.add_zero] at h;rcases JA.mp h.symm with h | h
 ·exact absurd h ha
 ·exact h
theorem Gs{g x y:Int}(hg:g≠0)(h:g * x=y):x.natAbs<=y.natAbs:=by
 rw[<- h,J0];exact Nat.le_mul_of_pos_left _ (by omega)
theorem vn{n c m:Nat}{r p:List Int}(hr:r.length=n)(hp:p.length=n)(hc:c < n)(nj:ak p c≠0)(hm:1<=m)(br:∀ i,(ak r i).natAbs<=m)(bp:∀ i,(ak p i).natAbs<=m) :
  (rc r p c).length=n/\ak (rc r p c) c=0/\(∀ i,(ak (rc r p c) i).natAbs<=2 * m * m)/\∃ a b g:Int,a≠0/\g≠0/\∀ i,i < n->g * ak (rc r p c) i=a * ak r i + b * ak p i:=by
 have mm:m<=2 * m * m:=by
  have:1 * m<=2 * m * m:=QR m (by omega);omega
 unfold rc;split
 ·rename_i h;exact⟨hr,h,λi=>Ws (br i) mm,1,0,1,by decide,by decide,λi _=>by omega⟩
 ·rename_i h;have hl:(Qm (λa b=>a * ak p c - b * ak r c) r p).length=n:=by simp; omega
  obtain⟨l1,g,hg,h1⟩:=S5 (Qm (λa b=>a * ak p c - b * ak r c) r p);have ez:∀ i,i < n->ak (Qm (λa b=>a * ak p c - b * ak r c) r p) i=ak r i * ak p c - ak p i * ak r c:=λi hi=>S4 _ (by omega) (by omega)
  generalize Qm (λa b=>a * ak p c - b * ak r c) r p=z at *;refine⟨by omega,?_,λi=>?_,ak p c,- ak r c,g,nj,hg,λi hi=>?_⟩
  ·have:=h1 c;rw[ez c hc,WN (ak p c),Int.sub_self] at this;rcases JA.mp this with q | q
   ·exact absurd q hg
   ·exact q
  ·by_cases hi:i < n
   ·refine Ws (Gs hg (h1 i)) ?_;rw[ez i hi];have a1:(ak r i * ak p c).natAbs<=m * m:=by
     rw[J0]; exact Qe (br i) (bp c)
    have a2:(ak p i * ak r c).natAbs<=m * m:=by
     rw[J0]; exact Qe (bp i) (br c)
    have e:2 * m * m=m * m + m * m:=by rw[JV]; omega
    omega
   ·rw[AV (by omega)]; exact Qg _
  ·rw[h1 i,ez i hi,Ju,WN (ak p c),WN (ak r c)]; omega
abbrev fA:=List (Nat×List Int)×List (List Int)
def kM(c:Nat)(s:fA):fA:=match s.2.filter (λr=>ak r c != 0) with
 | []=>s
 | p :: q=>(s.1.map (λkr=>(kr.1,rc kr.2 p c)) ++ [(c,p)],q.map (λr=>rc r p c) ++ s.2.filter (λr=>ak r c == 0))
structure Gj(n c m:Nat)(gr:List (List Int))(s:fA):Prop where
 l1:∀ x ∈ s.1,x.2.length=n
 l2:∀ r ∈ s.2,r.length=n
 kc:∀ x ∈ s.1,x.1 < c
 nd:(s.1.map (·.1)).Nodup
 pv:∀ x ∈ s.1,ak x.2 x.1≠0
 dg:∀ x ∈ s.1,∀ y ∈ s.1,y.1≠x.1->ak x.2 y.1=0
 zr:∀ r ∈ s.2,∀ i,i < c->ak r i=0
 kr:∀ v:Nat->Int,(∀ r ∈ gr,dot n (ak r) v=0) ↔ (∀ x ∈ s.1,dot n (ak x.2) v=0)/\∀ r ∈ s.2,dot n (ak r) v=0
 b1:∀ x ∈ s.1,∀ i,(ak x.2 i).natAbs<=m
 b2:∀ r ∈ s.2,∀ i,(ak r i).natAbs<=m
 ct:s.2.length<=gr.length
theorem S6{n c m:Nat}{gr:List (List Int)}{s:fA}(G:Gj n c m gr s)(hc:c < n)(hm:1<=m):Gj n (c + 1) (2 * m * m) gr (kM c s):=by
 have mm:m<=2 * m * m:=by
  have:1 * m<=2 * m * m:=QR m (by omega);omega
 unfold kM;split
 ·rename_i hf;refine⟨G.l1,G.l2,λx hx=>by have:=G.kc x hx; omega,G.nd,G.pv,G.dg,λr hr i hi=>?_,G.kr,λx hx i=>Ws (G.b1 x hx i) mm,λr hr i=>Ws (G.b2 r hr i) mm,G.ct⟩;by_cases q:i=c
  ·subst q;have:=List.filter_eq_nil_iff.mp hf r hr;simpa using this
  ·exact G.zr r hr i (by omega)
 ·rename_i p q hf;have i_:∀ r,r ∈ p :: q->r ∈ s.2/\ak r c≠0:=λr hr=>by
   rw[<- hf] at hr;have:=Qz.mp hr;exact⟨this.1,by simpa using this.2⟩
  obtain⟨hp,nj⟩:=i_ p Wj;have pl:=G.l2 p hp;have pb:=G.b2 p hp;have pz:=G.zr p hp;have lu:=λx (hx:x ∈ s.1)=>vn (G.l1 x hx) pl hc nj hm (G.b1 x hx) pb
  have qh:=λr (hr:r ∈ q)=>vn (G.l2 r (i_ r (Wa _ hr)).1) pl hc nj hm (G.b2 r (i_ r (Wa _ hr)).1) pb
  -- a cleared row is 0 where both are
  have cz:∀ {r:List Int} {i:Nat},i < n->∀ {a b g:Int},g≠0->g * ak (rc r p c) i=a * ak r i + b * ak p i->ak r i=0->ak p i=0->ak (rc r p c) i=0:=λ{r i} hi {a b g} hg h h1 h2=>by
   rw[h1,h2] at h;exact z1 hg h
  refine⟨λx hx=>?_,λr hr=>?_,λx hx=>?_,?_,λx hx=>?_,λx hx y hy qX=>?_,λr hr i hi=>?_,λv=>?_,λx hx i=>?_,λr hr i=>?_,?_⟩
  ·rcases WC.mp hx with hx | hx
   ·obtain⟨x0,h0,rfl⟩:=Wq.mp hx;exact(lu x0 h0).1
   ·have:x=(c,p):=by simpa using hx
    subst this; exact pl
  ·rcases WC.mp hr with hr | hr
   ·obtain⟨r0,h0,rfl⟩:=Wq.mp hr;exact(qh r0 h0).1
   ·exact G.l2 r (Qz.mp hr).1
  ·rcases WC.mp hx with hx | hx
   ·obtain⟨x0,h0,rfl⟩:=Wq.mp hx;have:=G.kc x0 h0;show x0.1 < c + 1;omega
   ·have:x=(c,p):=by simpa using hx
    subst this; show c < c + 1; omega
  ·rw[Qh,Wy];refine List.nodup_append.mpr ⟨G.nd,by simp,λa ha b hb e=>?_⟩;have vk:b=c:=by simpa using hb
   obtain⟨x0,h0,rfl⟩:=Wq.mp ha;have h1:=G.kc x0 h0;have h2:x0.1=b:=e;omega
  ·rcases WC.mp hx with hx | hx
   ·obtain⟨x0,h0,rfl⟩:=Wq.mp hx;obtain⟨_,_,_,a,b,g,ha,hg,h⟩:=lu x0 h0;have k0:=G.kc x0 h0;have e:=h x0.1 (by omega);show ak (rc x0.2 p c) x0.1≠0;intro z;rw[z,pz x0.1 k0] at e;exact G.pv x0 h0 (z2 ha e)
   ·have:x=(c,p):=by simpa using hx
    subst this; exact nj
  ·rcases WC.mp hx with hx | hx
   ·obtain⟨x0,h0,rfl⟩:=Wq.mp hx;obtain⟨_,hcz,_,a,b,g,ha,hg,h⟩:=lu x0 h0;rcases WC.mp hy with hy | hy
    ·obtain⟨y0,h0',rfl⟩:=Wq.mp hy;have k0:=G.kc y0 h0';exact cz (by show y0.1 < n; omega) hg (h y0.1 (by omega)) (G.dg x0 h0 y0 h0' qX) (pz y0.1 k0)
    ·have:y=(c,p):=by simpa using hy
     subst this; exact hcz
   ·have:x=(c,p):=by simpa using hx
    subst this;rcases WC.mp hy with hy | hy
    ·obtain⟨y0,h0',rfl⟩:=Wq.mp hy;exact pz y0.1 (G.kc y0 h0')
    ·have:y=(c,p):=by simpa using hy
     subst this; exact absurd rfl qX
  ·rcases WC.mp hr with hr | hr
   ·obtain⟨r0,h0,rfl⟩:=Wq.mp hr;obtain⟨_,hcz,_,a,b,g,ha,hg,h⟩:=qh r0 h0;by_cases z:i=c
    ·subst z; exact hcz
    ·exact cz (by omega) hg (h i (by omega)) (G.zr r0 (i_ r0 (Wa _ h0)).1 i (by omega)) (pz i (by omega))
   ·obtain⟨h1,h2⟩:=Qz.mp hr;by_cases z:i=c
    ·subst z; simpa using h2
    ·exact G.zr r h1 i (by omega)
  ·rw[G.kr v];constructor
   ·rintro ⟨k1,k2⟩;have kp:=k2 p hp;refine⟨λx hx=>?_,λr hr=>?_⟩
    ·rcases WC.mp hx with hx | hx
     ·obtain⟨x0,h0,rfl⟩:=Wq.mp hx;obtain⟨_,_,_,a,b,g,ha,hg,h⟩:=lu x0 h0;have e:=sv (v:=v) h;rw[k1 x0 h0,kp] at e;exact z1 hg e
     ·have:x=(c,p):=by simpa using hx
      subst this; exact kp
    ·rcases WC.mp hr with hr | hr
     ·obtain⟨r0,h0,rfl⟩:=Wq.mp hr;obtain⟨_,_,_,a,b,g,ha,hg,h⟩:=qh r0 h0;have e:=sv (v:=v) h;rw[k2 r0 (i_ r0 (Wa _ h0)).1,kp] at e;exact z1 hg e
     ·exact k2 r (Qz.mp hr).1
   ·rintro ⟨k1,k2⟩;have kp:dot n (ak p) v=0:=k1 (c,p) (WK _ (by simp));refine⟨λx hx=>?_,λr hr=>?_⟩
    ·obtain⟨_,_,_,a,b,g,ha,hg,h⟩:=lu x hx;have e:=sv (v:=v) h;rw[k1 (x.1,rc x.2 p c) (J9 _ (Wq.mpr ⟨x,hx,rfl⟩)),kp] at e;exact z2 ha e
    ·by_cases z:ak r c=0
     ·exact k2 r (WK _ (List.mem_filter.mpr ⟨hr,by simpa using z⟩))
     ·have vo:r ∈ p :: q:=by rw[<- hf]; exact List.mem_filter.mpr ⟨hr,by simpa using z⟩
      rcases Wl.mp vo with rfl | vo
      ·exact kp
      ·obtain⟨_,_,_,a,b,g,ha,hg,h⟩:=qh r vo;have e:=sv (v:=v) h;rw[k2 (rc r p c) (J9 _ (Wq.mpr ⟨r,vo,rfl⟩)),kp] at e;exact z2 ha e
  ·rcases WC.mp hx with hx | hx
   ·obtain⟨x0,h0,rfl⟩:=Wq.mp hx;exact(lu x0 h0).2.2.1 i
   ·have:x=(c,p):=by simpa using hx
    subst this; exact Ws (pb i) mm
  ·rcases WC.mp hr with hr | hr
   ·obtain⟨r0,h0,rfl⟩:=Wq.mp hr;exact(qh r0 h0).2.2.1 i
   ·exact Ws (G.b2 r (Qz.mp hr).1 i) mm
  ·refine Ws ?_ G.ct;have e1:(p :: q).length + (s.2.filter (λr=>ak r c == 0)).length<=s.2.length:=by
    rw[<- hf];clear hf lu qh pl pb pz hp i_ cz;induction s.2 with
    | nil=>simp
    | cons a l ih =>
     by_cases z:ak a c=0
     ·simp[z] at ih ⊢; omega
     ·simp[z] at ih ⊢; omega
   simp at e1 ⊢;omega
def gJ(rows:List (List Int)):Nat->fA
 | 0=>([],rows)
 | c + 1=>kM c (gJ rows c)
def mB:Nat->Nat
 | 0=>16
 | k + 1=>2 * mB k * mB k
theorem vp:∀ k,1<=mB k
 | 0=>by decide
 | k + 1=>by
  have:=vp k;have h:1 * 1<=2 * mB k * mB k:=Qe (by omega) this;exact h
theorem Gu(k:Nat):mB k<=mB (k + 1):=by
 have:=vp k;have h:1 * mB k<=2 * mB k * mB k:=QR _ (by omega);show mB k<=2 * mB k * mB k;omega
theorem vq(hl:∀ r ∈ rows,r.length=n)(hb:∀ r ∈ rows,∀ i,(ak r i).natAbs<=16):∀ c,c<=n->Gj n c (mB c) rows (gJ rows c)
 | 0,_=>⟨(λx h=>by cases h),hl,(λx h=>by cases h),List.nodup_nil,(λx h=>by cases h),(λx h=>by cases h),(λr _ i hi=>by omega),λv=>⟨λh=>⟨(λx hx=>by cases hx),h⟩,λh=>h.2⟩,(λx h=>by cases h),hb,Wg _⟩
 | c + 1,h=>S6 (vq hl hb c (by omega)) (by omega) (vp c)
section
variable {n m:Nat} {gr:List (List Int)} {s:fA} (G:Gj n n m gr s)
def eC(s:fA)(i:Nat):Prop:=∃ r,(i,r) ∈ s.1
include G
theorem Gv(h:eC s i):i < n:=by
 obtain⟨r,hr⟩:=h;exact G.kc _ hr
theorem AW(v:Nat->Int):(∀ r ∈ gr,dot n (ak r) v=0) ↔ ∀ x ∈ s.1,dot n (ak x.2) v=0:=by
 rw[G.kr v];refine⟨λh=>h.1,λh=>⟨h,λr hr=>qg λi hi=>?_⟩⟩;rw[G.zr r hr i hi,Int.zero_mul]
theorem Gw(h:(i,r) ∈ s.1)(hj:eC s j)(qC:j≠i):ak r j=0:=by
 obtain⟨r',kL⟩:=hj;exact G.dg _ h _ kL qC
theorem Gx(h:(i,r) ∈ s.1)(hf:f < n)(AX:i≠f)(only:∀ j,j < n->j≠f->eC s j)(u:Nat->Int):dot n (ak r) u=ak r i * u i + ak r f * u f :=
 SQ (Gv G ⟨r,h⟩) hf AX λj hj h1 h2=>by rw[Gw G h (only j hj h2) h1,Int.zero_mul]
theorem S7(h:(i,r) ∈ s.1)(only:∀ j,j < n->eC s j)(u:Nat->Int):dot n (ak r) u=ak r i * u i :=
 oQ (Gv G ⟨r,h⟩) λj hj h1=>by rw[Gw G h (only j hj) h1,Int.zero_mul]
theorem S8(hv:∃ i,i < n/\v i≠0)(hk:∀ r ∈ gr,dot n (ak r) v=0):∃ f,f < n/\¬ eC s f:=by
 by_cases q:∃ f,f < n/\¬ eC s f
 ·exact q
 ·exfalso
  have only:∀ j,j < n->eC s j:=λj hj=>by
   by_cases z:eC s j
   ·exact z
   ·exact absurd ⟨j,hj,z⟩ q
  obtain⟨i,hi,hvi⟩:=hv;obtain⟨r,hr⟩:=only i hi;have e:=(AW G v).mp hk _ hr;rw[S7 G hr only] at e;rcases JA.mp e with e | e
  ·exact G.pv _ hr e
  ·exact hvi e
omit G in
def fo(s:fA)(i:Nat):Option (List Int):=(s.1.find? λx=>decide (x.1=i)).map (·.2)
omit G in
theorem Gy:∀ {l:List (Nat×List Int)},(l.map (·.1)).Nodup->(i,r) ∈ l->(l.find? λx=>decide (x.1=i))=some (i,r)
 | [],_,h=>by cases h
 | a :: l,nd,h=>by
  rw[Wu] at nd;obtain⟨n1,n2⟩:=QM.mp nd;rcases Wl.mp h with rfl | h
  ·simp
  ·have:a.1≠i:=λz=>n1 (by rw[z]; exact Wq.mpr ⟨_,h,rfl⟩)
   rw[List.find?_cons_of_neg (by simpa using this)];exact Gy n2 h
theorem S9(h:(i,r) ∈ s.1):fo s i=some r:=by
 unfold fo;rw[Gy G.nd h]; rfl
omit G in
theorem Gz(h:¬ eC s i):fo s i=none:=by
 unfold fo
 cases e:s.1.find? λx=>decide (x.1=i) with
 | none=>rfl
 | some x =>
  have h1:=List.mem_of_find?_eq_some e;have h2:=List.find?_some e;have:x.1=i:=by simpa using h2
  exact absurd ⟨x.2,by rw[<- this]; exact h1⟩ h
def vv(s:fA)(f:Nat)(w:Int)(i:Nat):Int:=match fo s i with
 | some r=>(-(ak r f) * w).fdiv (ak r i)
 | none=>w
theorem AY{i f:Nat}{r:List Int}{w:Int}(h:(i,r) ∈ s.1)(hw:ak r i ∣ w):ak r i * vv s f w i = -(ak r f) * w:=by
 unfold vv;rw[S9 G h];show ak r i * (-(ak r f) * w).fdiv (ak r i)=_;rw[WN];exact Gr (Int.dvd_mul_of_dvd_right hw)
omit G in
theorem sy(h:¬ eC s f):vv s f w f=w:=by
 unfold vv;rw[Gz h]
variable {f:Nat} {w:Int} (hf:f < n) (fG:¬ eC s f) (only:∀ j,j < n->j≠f->eC s j) (hw:∀ x ∈ s.1,ak x.2 x.1 ∣ w)
include hf fG only hw
theorem GA:∀ r ∈ gr,dot n (ak r) (vv s f w)=0:=(AW G _).mpr λx hx=>by
 have AX:x.1≠f:=λz=>fG ⟨x.2,by rw[<- z]; exact hx⟩
 rw[Gx G (i:=x.1) hx hf AX only,AY G hx (hw x hx),sy fG,Ju];omega
theorem S_(hu:∀ r ∈ gr,dot n (ak r) u=0)(hi:i < n):w * u i=u f * vv s f w i:=by
 by_cases q:i=f
 ·subst q;rw[sy fG,WN]
 ·obtain⟨r,hr⟩:=only i hi q;have e1:=(AW G u).mp hu _ hr;rw[Gx G hr hf q only] at e1;have e2:=AY G (f:=f) hr (hw _ hr);have h0:=G.pv _ hr;have e3:ak r i * (w * u i - u f * vv s f w i)=0:=by
   rw[Int.mul_sub,<- Qn,WN (ak r i) w,Qn,<- Qn (ak r i) (u f),WN (ak r i) (u f),Qn (u f),e2];have e4:ak r i * u i = -(ak r f * u f):=by omega
   rw[e4,Int.mul_neg,Ju,Int.mul_neg,WN (u f),Qn (ak r f) w,WN w (u f),<- Qn (ak r f) (u f) w,WN (ak r f * u f) w];omega
  rcases JA.mp e3 with e | e
  ·exact absurd e h0
  ·omega
end
theorem Ta{n:Nat}{T:Nat->Nat->Int}{A:Int}{rows:List (List Int)}(Tb:rows.length=n)(pL:∀ j,j < n->∀ i,i < n->ak (rows.getD j []) i=T i j - (if i=j then A else 0))(v:Nat->Int) :
  (∀ r ∈ rows,dot n (ak r) v=0) ↔ oR n T A v:=by
 have dj:∀ j,j < n->dot n (ak (rows.getD j [])) v=sN n (λi=>v i * T i j) - A * v j:=λj hj=>by
  have e:dot n (ak (rows.getD j [])) v=sN n (λi=>v i * T i j + (-1) * ((if i=j then A else 0) * v i)):=by
   unfold dot;refine g9 λi hi=>?_
   rw[pL j hj i hi,Int.sub_mul,WN (T i j)]; omega
  rw[e,lI,gI,oQ (k:=j) (f:=λi=>(if i=j then A else 0) * v i) hj (λi _ q=>by simp[q])];simp only[if_true];omega
 constructor
 ·intro h j hj;have hm:rows.getD j [] ∈ rows:=by
   rw[Wi,W4 (by omega)];exact WX _
  have:=h _ hm;rw[dj j hj] at this;omega
 ·intro h r hr;obtain⟨j,hj,rfl⟩:=Qp hr;have e:rows[j]=rows.getD j []:=by rw[Wi,W4 hj]; rfl
  rw[e,dj j (by omega),h j (by omega)];omega
section
variable {n m:Nat} {T:Nat->Nat->Int} {A:Int} {gr:List (List Int)} {s:fA} (G:Gj n n m gr s) (hn:0 < n) (hT:∀ i j,0<=T i j) (hA:0 < A) (hr:∀ i,i < n->sN n (T i)=A)
 (hk:∀ v,(∀ r ∈ gr,dot n (ak r) v=0) ↔ oR n T A v)
include G hn hr hk in
theorem Tc:∃ f,f < n/\¬ eC s f:=by
 obtain⟨v,hv,hs⟩:=S0 hn hr;exact S8 G hv ((hk v).mpr hs)
include G hT hA hr hk in
theorem Td(hf:f < n)(fG:¬ eC s f)(only:∀ j,j < n->j≠f->eC s j)(hw:∀ x ∈ s.1,ak x.2 x.1 ∣ w)(Xw:0 < w):∀ i,i < n->0<=vv s f w i:=λi hi=>by
 have k:=GA G hf fG only hw;have k2:=SV hT (by omega) hr ((hk _).mp k);have e:w * ((vv s f w i).natAbs:Int)=((vv s f w f).natAbs:Int) * vv s f w i:=S_ G hf fG only hw ((hk _).mpr k2) hi;have e0:((vv s f w f).natAbs:Int)=w:=by rw[sy fG]; omega
 rw[e0] at e;have:=Int.eq_of_mul_eq_mul_left (show w≠0 by omega) e;omega
include hT hA in
end
theorem sA:∀ {l ts:List Nat},l.Nodup->(∀ x ∈ l,x ∈ ts)->l.length<=ts.length
 | [],_,_,_=>Qg _
 | a :: r,ts,nd,h=>by
  obtain⟨n1,n2⟩:=QM.mp nd;have ha:=h a Wj;have:=sA (l:=r) (ts:=ts.erase a) n2 λx hx=>by
   have cZ:x≠a:=λz=>n1 (by rw[<- z]; exact hx)
   exact(List.mem_erase_of_ne cZ).mpr (h x (Wa _ hx))
  rw[List.length_erase_of_mem ha] at this;have:0 < ts.length:=List.length_pos_of_mem ha;rw[WP]; omega
def wt(l:List (Nat×List Int))(w:Nat):Nat:=l.foldl (λw x=>Jv w (ak x.2 x.1).natAbs) w
theorem GB:∀ (l:List (Nat×List Int)) (w:Nat),(w ∣ wt l w)/\∀ x ∈ l,(ak x.2 x.1).natAbs ∣ wt l w
 | [],w=>⟨Nat.dvd_refl _,λx h=>by cases h⟩
 | a :: l,w=>by
  obtain⟨h1,h2⟩:=GB l (Jv w (ak a.2 a.1).natAbs);refine⟨Nat.dvd_trans (Nat.dvd_lcm_left ..) h1,λx hx=>?_⟩;rcases Wl.mp hx with rfl | hx
  ·exact Nat.dvd_trans (Nat.dvd_lcm_right ..) h1
  ·exact h2 x hx
theorem GC:∀ (l:List (Nat×List Int)) (w:Nat),(∀ x ∈ l,ak x.2 x.1≠0)->0 < w->0 < wt l w
 | [],w,_,h=>h
 | a :: l,w,hl,h=>GC l _ (λx hx=>hl x (Wa _ hx)) (Nat.lcm_pos h (by have:=hl a Wj; omega))
theorem AZ:∀ (l:List (Nat×List Int)) (w:Nat),(∀ x ∈ l,(ak x.2 x.1).natAbs<=m)->wt l w<=w * m ^ l.length
 | [],w,_=>by simp[wt]
 | a :: l,w,hl=>by
  refine Ws (AZ l _ λx hx=>hl x (Wa _ hx)) ?_;have h1:Jv w (ak a.2 a.1).natAbs<=w * m:=Ws (J5 _ _) (Nat.mul_le_mul_left _ (hl a Wj));rw[WP,U0,JH (m ^ l.length) m,<- JV];exact QR _ h1
theorem qj(v:Nat->Int):∀ n,((W3 n).map v).sum=sN n v
 | 0=>rfl
 | n + 1=>by
  rw[List.range_succ,Qh,List.sum_append,qj v n];simp[sN]
theorem GD{n:Nat}{rows:List (List Int)}(hl:∀ r ∈ rows,r.length=n)(hb:∀ r ∈ rows,∀ i,(ak r i).natAbs<=16):∀ c,c<=n->(∀ x ∈ (gJ rows c).1,∀ i,(ak x.2 i).natAbs<=mB (gJ rows c).1.length)/\∀ r ∈ (gJ rows c).2,∀ i,(ak r i).natAbs<=mB (gJ rows c).1.length
 | 0,_=>⟨(λx h=>by cases h),hb⟩
 | c + 1,h=>by
  obtain⟨b1,b2⟩:=GD hl hb c (by omega);have G:=vq hl hb c (by omega);show(∀ x ∈ (kM c (gJ rows c)).1,_)/\_;have e:gJ rows (c + 1)=kM c (gJ rows c):=rfl;rw[e];generalize gJ rows c=s at *;unfold kM;split
  ·exact⟨b1,b2⟩
  ·rename_i p q hf;have i_:∀ r,r ∈ p :: q->r ∈ s.2/\ak r c≠0:=λr hr=>by
    rw[<- hf] at hr;have:=Qz.mp hr;exact⟨this.1,by simpa using this.2⟩
   obtain⟨hp,nj⟩:=i_ p Wj;have pl:=G.l2 p hp;have pb:=b2 p hp;have hm:=vp s.1.length;have el:(s.1.map (λkr=>(kr.1,rc kr.2 p c)) ++ [(c,p)]).length=s.1.length + 1:=by simp
   have up:=Gu s.1.length;have e2:mB (s.1.length + 1)=2 * mB s.1.length * mB s.1.length:=rfl;simp only[el];refine⟨λx hx i=>?_,λr hr i=>?_⟩
   ·rcases WC.mp hx with hx | hx
    ·obtain⟨x0,h0,rfl⟩:=Wq.mp hx;rw[e2];exact(vn (G.l1 x0 h0) pl (by omega) nj hm (b1 x0 h0) pb).2.2.1 i
    ·have:x=(c,p):=by simpa using hx
     subst this;exact Ws (pb i) up
   ·rcases WC.mp hr with hr | hr
    ·obtain⟨r0,h0,rfl⟩:=Wq.mp hr;have m0:=(i_ r0 (Wa _ h0)).1;rw[e2];exact(vn (G.l2 r0 m0) pl (by omega) nj hm (b2 r0 m0) pb).2.2.1 i
    ·exact Ws (b2 r (Qz.mp hr).1 i) up
theorem iy(f:DE)(δ:Dl):bG f δ=(f δ).bind λr δ1=>match r.d with
 | .lst ds=>.ok ds δ1
 | .tup ds=>.ok ds δ1
 | .str x=>.ok (x.map λn=>.str [n]) δ1
 | _=>.stuck:=id rfl
theorem Xx(neg:Bool)(fa f g:DE)(δ:Dl):NY neg fa f g δ=(fa δ).bind λv δ1=>(f δ1).bind λlo δ2=>(g δ2).bind λhi δ3=>match v.d,lo.d,hi.d with
 | .int i,.int l,.int h=>.ok (.pure (.bl (if neg then !(decide (l<=i) && decide (i < h)) else(decide (l<=i) && decide (i < h))))) δ3
 | _,_,_=>.stuck:=id rfl
theorem sC(f F:A->D)(p:A->Bool)(δ:Dl):∀ (as:List A) (acc:List D),acc.length + as.length<=We ->
  (∀ a ∈ as,∃ δ1 δ2 x δ3,g (.pure (f a)) δ=some δ1/\t δ1 = .ok (p a) δ2/\bT cs δ2=δ/\el δ2 = .ok x δ3/\bT cs δ3=δ/\x.d=F a)->cU cs g t el (as.map f) δ acc = .ok (acc ++ (as.filter p).map F) δ
 | [],acc,_,_=>by simp[cU]
 | a :: r,acc,hl,hs=>by
  obtain⟨δ1,δ2,x,δ3,e1,e2,e2',e3,e4,e5⟩:=hs a Wj;have gL:acc.length < We:=by simp at hl; omega
  rw[Wu];unfold cU;rw[e1]
  cases hp:p a with
  | true =>
   have ih:=sC (cs:=cs) (g:=g) (t:=t) (el:=el) f F p δ r (acc ++ [x.d]) (by simp at hl ⊢; omega) (λa ha=>hs a (Wa _ ha));rw[e5] at ih;rw[hp] at e2;simp only[e2,eB,if_true,e3,if_pos gL,e4,e5,ih,List.filter_cons,hp];simp
  | false =>
   have ih:=sC (cs:=cs) (g:=g) (t:=t) (el:=el) f F p δ r acc (by simp at hl ⊢; omega) (λa ha=>hs a (Wa _ ha));rw[hp] at e2;simp only[e2,eB,e2',ih,List.filter_cons,hp];simp
def nx(s:Int):Int:=(((s + 7919) % 2147483647) * ((s + 7919) % 2147483647) + 48271 * ((s + 7919) % 2147483647) + 12345) % 2147483629
theorem Te(s:Int):mY [.pure (.int s)]=some (.pure (.int (nx s)),[.pure (.int s)]):=by
 unfold mY cy zF ik;have h1:=JB (s + 7919) (b:=2147483647) (by decide);have h2:=JJ (s + 7919) (b:=2147483647) (by decide);have c1:ji ((s + 7919) % 2147483647) ((s + 7919) % 2147483647)=true:=by unfold ji; simp; omega
 have c2:ji 48271 ((s + 7919) % 2147483647)=true:=by unfold ji; simp
 simp[cV,bq,ax,ah,aR,ae,bI,fM,fj,e9,pE,c1,c2,dw,cH];rfl
def dF(d:D):Prop:=∃ l f s:Int,d = .lst [.int l,.int f,.int s]/\0<=l
theorem vw(hp:dF d)(m:Nat)(h0:0 < m)(h1:m < 1073741824):∃ (r:Nat) (d':D),c8 [.own d,.pure (.int m)]=some (.pure (.int r),[.own d',.pure (.int m)])/\r < m/\dF d':=by
 obtain⟨l,f,s,rfl,hl⟩:=hp;have hm:(0:Int) < (m:Int):=by omega
 have hd:rf l m=true:=by unfold rf; simp; omega
 unfold c8 cy zG ik;by_cases hf:f=1
 ·subst hf;have e1:=JB l (b:=(m:Int)) (by omega);have e2:=JJ l hm;refine⟨(l % (m:Int)).toNat,.lst [.int (l / m),.int 1,.int s],?_,by omega,⟨_,_,_,rfl,Int.ediv_nonneg hl (by omega)⟩⟩;simp[cV,bq,ax,ah,aR,ae,aa,ay,bX,aK,flat,rW,yG,yz,aB,fM,rg,fj,h0,hd,gW,gU,putL,dw,cH,dS];omega
 ·have e1:=JB (nx (nx s + 7) / 64) (b:=(m:Int)) (by omega);have e2:=JJ (nx (nx s + 7) / 64) hm;refine⟨(nx (nx s + 7) / 64 % (m:Int)).toNat,.lst [.int l,.int f,.int (nx (nx s + 7))],?_,by omega,⟨_,_,_,rfl,hl⟩⟩;simp[cV,bq,ax,ah,aR,ae,aa,ay,bX,aK,flat,rW,yG,yz,aB,fM,rg,fj,h0,hd,gW,gU,putL,dw,cH,dS,hf,aA,a_,cj,bN,bJ,bu,Te,bI,aT,rf];omega
theorem Tf(c:Int):∃ d,mX [.pure (.int c)]=some (.own d,[.pure (.int c)])/\dF d:=by
 unfold mX cy zE ik;refine⟨.lst [.int (if 0 - c > c then 0 - c else c),.int (if decide (1000000000000000000<=(if 0 - c > c then 0 - c else c)) then 1 else 0),.int ((if 0 - c > c then 0 - c else c) % 1000003)],?_,⟨_,_,_,rfl,by split <;> omega⟩⟩;simp[cV,bq,ax,ah,aR,ae,aa,xl,gj,fj,jS,rh,iM,xh,xg,fM,dw,cH]
theorem Tg(ns:List Int):∃ c:Int,mW [.pure (.lst (ns.map .int)),.pure (.int 0)]=some (.pure (.int c),[.pure (.lst (ns.map .int)),.pure (.int 0)]):=by
 unfold mW cy zD ik
 cases ns with
 | nil=>exact⟨0,by simp[cV,bq,ah,aR,ae,mq,iM,aB,bf,dw,cH]⟩
 | cons n r=>exact⟨n,by
   have:(0:Int) < (r.length:Int) + 1:=by omega
   simp[cV,bq,ah,aR,ae,mq,iM,aB,bf,dw,cH,ay,rW,this]⟩
theorem iA(hp:dF d)(m:Nat)(i:Int)(hi:i=m)(h0:0 < m)(h1:m < 1073741824):∃ (r:Nat) (d':D),c8 [.own d,.pure (.int i)]=some (.pure (.int r),[.own d',.pure (.int i)])/\r < m/\dF d':=by
 subst hi;exact vw hp m h0 h1
def nq:Tx:=[97,98,99,100,101,102,103,104,105,106,107,108,109,110,111,112,113,114,115,116,117,118,119,120,121,122]
theorem Ti(hp:dF d):∃ (h w:Nat) (d':D),oJ [.own d]=some (.pure (.tup [.int h,.int w]),[.own d'])/\0 < h/\h<=4/\0 < w/\w<=4/\2 < h + w/\dF d':=by
 obtain⟨r1,d1,e1,l1,p1⟩:=iA hp 3 3 rfl (by decide) (by decide);obtain⟨r2,d2,e2,l2,p2⟩:=iA p1 3 3 rfl (by decide) (by decide);obtain⟨r3,d3,e3,l3,p3⟩:=iA p2 8 8 rfl (by decide) (by decide);obtain⟨r4,d4,e4,l4,p4⟩:=iA p3 6 6 rfl (by decide) (by decide);unfold oJ cy zH ik;by_cases h3:r3=0
 ·subst h3;have:r4=0\/r4=1\/r4=2\/r4=3\/r4=4\/r4=5:=by omega
  rcases this with rfl | rfl | rfl | rfl | rfl | rfl
  ·exact⟨4,1,d4,by simp[cV,bq,ax,aA,a_,bN,cj,bJ,bu,e1,e2,e3,e4,aT,bI,bX,aK,flat,aB,ay,dC,dS,bV,aQ,b9,ah,aR,ae,aa,dw,cH],by decide,by decide,by decide,by decide,by decide,p4⟩
  ·exact⟨1,4,d4,by simp[cV,bq,ax,aA,a_,bN,cj,bJ,bu,e1,e2,e3,e4,aT,bI,bX,aK,flat,aB,ay,dC,dS,bV,aQ,b9,ah,aR,ae,aa,dw,cH],by decide,by decide,by decide,by decide,by decide,p4⟩
  ·exact⟨4,4,d4,by simp[cV,bq,ax,aA,a_,bN,cj,bJ,bu,e1,e2,e3,e4,aT,bI,bX,aK,flat,aB,ay,dC,dS,bV,aQ,b9,ah,aR,ae,aa,dw,cH],by decide,by decide,by decide,by decide,by decide,p4⟩
  ·exact⟨4,3,d4,by simp[cV,bq,ax,aA,a_,bN,cj,bJ,bu,e1,e2,e3,e4,aT,bI,bX,aK,flat,aB,ay,dC,dS,bV,aQ,b9,ah,aR,ae,aa,dw,cH],by decide,by decide,by decide,by decide,by decide,p4⟩
  ·exact⟨1,2,d4,by simp[cV,bq,ax,aA,a_,bN,cj,bJ,bu,e1,e2,e3,e4,aT,bI,bX,aK,flat,aB,ay,dC,dS,bV,aQ,b9,ah,aR,ae,aa,dw,cH],by decide,by decide,by decide,by decide,by decide,p4⟩
  ·exact⟨2,1,d4,by simp[cV,bq,ax,aA,a_,bN,cj,bJ,bu,e1,e2,e3,e4,aT,bI,bX,aK,flat,aB,ay,dC,dS,bV,aQ,b9,ah,aR,ae,aa,dw,cH],by decide,by decide,by decide,by decide,by decide,p4⟩
 ·by_cases hs:r1=0/\r2=0
  ·obtain⟨rfl,rfl⟩:=hs;refine⟨1,2,d3,?_,by decide,by decide,by decide,by decide,by decide,p3⟩;simp[cV,bq,ax,aA,a_,bN,cj,bJ,bu,e1,e2,e3,aT,bI,bX,aK,flat,aB,h3,ah,aR,ae,aa,dw,cH]
  ·have hn:¬ (1 + (r1:Int) + (1 + (r2:Int))=2):=by omega
   refine⟨1 + r1,1 + r2,d3,?_,by omega,by omega,by omega,by omega,by omega,p3⟩;simp[cV,bq,ax,aA,a_,bN,cj,bJ,bu,e1,e2,e3,aT,bI,bX,aK,flat,aB,h3,hn,ah,aR,ae,aa,dw,cH]
theorem GF(ts:List Nat)(r:Nat)(h:r < ts.length):ay (.lst (ts.map λn=>.str [n])) (.int r)=some (.pure (.str [ts.getD r 0])):=by
 simp[ay,gY,h]
theorem Tj(hp:dF d)(ts:List Nat)(place way:Nat)(h1:place < ts.length)(h2:ts.length<=64):∃ (n:Nat) (d':D),
  iZ [.own d,.pure (.lst (ts.map λn=>.str [n])),.pure (.int place),.pure (.int way)]=some (.pure (.str [n]),[.own d',.pure (.lst (ts.map λn=>.str [n])),.pure (.int place),.pure (.int way)])/\n ∈ ts/\dF d':=by
 have mem:∀ r,r < ts.length->ts.getD r 0 ∈ ts:=λr h=>by simp[h]
 unfold iZ cy zI ik;by_cases w1:way=1
 ·subst w1;obtain⟨r,d1,e1,l1,p1⟩:=iA hp (place + 1) ((place:Int) + 1) (by omega) (by omega) (by omega);refine⟨ts.getD r 0,d1,?_,mem r (by omega),p1⟩;simp[cV,bq,ah,aR,ae,bX,aK,flat,aB,aA,a_,bN,cj,bJ,bI,bu,e1,aT,ay,gY,dw,cH,show r < ts.length by omega]
 ·by_cases w2:way=2
  ·subst w2;have hr:(place + 1) % ts.length < ts.length:=Nat.mod_lt _ (by omega);refine⟨ts.getD ((place + 1) % ts.length) 0,d,?_,mem _ hr,hp⟩;have hm:fM (.int ((place:Int) + 1)) (.int ts.length)=some (.pure (.int (((place + 1) % ts.length:Nat):Int))):=by
    simp only[fM,fj];rw[if_pos (by simp; omega)];simp
   simp[cV,bq,ah,aR,ae,bX,aK,flat,aB,bI,bf,hm,dw,cH];have hx:=GF ts ((place + 1) % ts.length) hr;simp at hx;simp[hx]
  ·by_cases w3:way=3
   ·subst w3;obtain⟨r,d1,e1,l1,p1⟩:=iA hp 4 4 rfl (by decide) (by decide);by_cases hr:0 < r
    ·refine⟨ts.getD place 0,d1,?_,mem place h1,p1⟩;simp[cV,bq,ah,aR,ae,bX,aK,flat,aB,aA,a_,bN,cj,bJ,bu,e1,aT,gx,iM,hr,ay,gY,h1,dw,cH]
    ·obtain⟨r',d2,e2,l2,p2⟩:=vw p1 ts.length (by omega) (by omega);refine⟨ts.getD r' 0,d2,?_,mem r' l2,p2⟩;simp[cV,bq,ah,aR,ae,bX,aK,flat,aB,aA,a_,bN,cj,bJ,bu,e1,aT,gx,iM,hr,bf,e2,ay,gY,l2,dw,cH]
   ·obtain⟨r',d2,e2,l2,p2⟩:=vw hp ts.length (by omega) (by omega);refine⟨ts.getD r' 0,d2,?_,mem r' l2,p2⟩;have c1:¬ (way:Int)=1:=by omega
    have c2:¬ (way:Int)=2:=by omega
    have c3:¬ (way:Int)=3:=by omega
    simp[cV,bq,ah,aR,ae,bX,aK,flat,aB,aA,a_,bN,cj,bJ,bu,aT,c1,c2,c3,bf,e2,ay,gY,l2,dw,cH]
theorem Tn:∀ k,k < 26->nq.getD k 0=97 + k:=by decide
theorem To(xs:List Nat)(h:xs.length < 64):pI (.lst (xs.map λn=>.str [n]))=some (.own (.lst ((iW xs).map λn=>.str [n]))):=by
 have e:(xs.map λn=>D.str [n])=(xs.map λn=>[n]).map D.str:=by simp
 unfold pI;simp only[e,u0];rw[if_pos (by simpa using h),Ff];simp
def j9(f n:Nat):List Nat:=(W3 n).map λk=>97 + (f + 5 * k) % 26
theorem Tp(f n:Nat)(hn:n<=26):(j9 f n).Nodup:=by
 unfold j9;rw[List.nodup_iff_pairwise_ne,List.pairwise_map];refine(List.pairwise_lt_range (n:=n)).imp_of_mem ?_;intro a b ha hb km e;simp at ha hb;omega
def rb(pd:D)(m h w n f:Nat)(s7:S)(wy:Nat)(blocks:List D)(a b c:Option S):Dl :=
 [some (.own pd),some (.pure (.int m)),some (.pure (.int h)),some (.pure (.int w)),some (.pure (.int (1 + (n:Int)))),some (.pure (.int f)),some (.pure (.str nq)),some s7,some (.pure (.int wy)),some (.own (.lst blocks)),a,b,c,none,none]
def tD(ts:List Nat):D:=.lst (ts.map λn=>.str [n])
def sT(ts:List Nat)(s:S):Prop:=s = .own (tD ts)\/s = .pure (tD ts)
theorem Tq(nr:ts.length<=64)(hw:w<=4)(j_:dF pd)(h7:sT ts s7)(blocks:List D)(place:Nat)(eE:place < ts.length)(block:List D)(row:Nat) :
  ∃ (x:Tx) (cN:D) (g_:S),cU [14] (ag [0] 14) aV (aA iZ [.io 0,.val (aa 7),.val (aa 10),.val (aa 8)]) (cx 0 w) (rb pd m h w n f s7 wy blocks (some (.pure (.int place))) (some (.own (.lst block))) (some (.pure (.int row)))) []
   = .ok (x.map λn=>.str [n]) (rb cN m h w n f g_ wy blocks (some (.pure (.int place))) (some (.own (.lst block))) (some (.pure (.int row))))/\x.length=w/\(∀ n ∈ x,n ∈ ts)/\dF cN/\sT ts g_:=by
 obtain⟨xs,δ',e,⟨cN,g_,hpd',h7',rfl⟩,hn,hf⟩:=yH (cs:=[14]) (g:=ag [0] 14) (t:=aV) (el:=aA iZ [.io 0,.val (aa 7),.val (aa 10),.val (aa 8)]) (λδ=>∃ pd s7,dF pd/\sT ts s7/\δ=rb pd m h w n f s7 wy blocks (some (.pure (.int place))) (some (.own (.lst block))) (some (.pure (.int row))))
  (λ_ x=>∃ n,n ∈ ts/\x = .str [n]) (cx 0 w) _ [] ⟨pd,s7,j_,h7,rfl⟩ (by rw[cW]; simp; omega) (λd hd δ ⟨pd,s7,j_,h7,e⟩=>by
   subst e;obtain⟨i,hi,rfl⟩:=u3 hd;obtain⟨k,d',e,hk,p⟩:=Tj j_ ts place wy eE nr;have e':iZ [.own pd,.pure (tD ts),.pure (.int place),.pure (.int wy)]=some (.pure (.str [k]),[.own d',.pure (tD ts),.pure (.int place),.pure (.int wy)]):=e;refine⟨_,_,.pure (.str [k]),(rb d' m h w n f (.pure (tD ts)) wy blocks (some (.pure (.int place))) (some (.own (.lst block))) (some (.pure (.int row)))).set 14 (some (.pure (.int i))),rfl,rfl,?_,⟨d',_,p,.inr rfl,rfl⟩,⟨_,hk,rfl⟩⟩;rcases h7 with rfl | rfl
   ·simp[rb,aA,a_,bN,cj,bJ,aa,bu,e',aT]
   ·simp[rb,aA,a_,bN,cj,bJ,aa,bu,e',aT])
 obtain⟨x,rfl,hx⟩:=Fm (P:=λn=>n ∈ ts) (O6 hn hf λd x _ h=>h);exact⟨x,cN,g_,by simpa using e,by simpa using hn,hx,hpd',h7'⟩
theorem Ts(nr:ts.length<=64)(hw:w<=4)(hh:h<=4)(j_:dF pd)(h7:sT ts s7)(blocks:List D)(place:Nat)(eE:place < ts.length)(rs:Option S) :
  ∃ (fl:List Tx) (cN:D) (g_:S) (sE:Option S),forL (ag [0] 12) (ft 11 (aH (fq []) (ao (bD [14] (dD (aa 3)) (ag [0] 14) aV (aA iZ [.io 0,.val (aa 7),.val (aa 10),.val (aa 8)]))))) (cx 0 h) (rb pd m h w n f s7 wy blocks (some (.pure (.int place))) (some (.own (.lst []))) rs)
   = .ok .next (rb cN m h w n f g_ wy blocks (some (.pure (.int place))) (some (.own (.lst (fl.map .str)))) sE)/\fl.length=h/\(∀ r ∈ fl,r.length=w/\∀ n ∈ r,n ∈ ts)/\dF cN/\sT ts g_:=by
 obtain⟨δ',e3,cN,g_,fl,sE,hpd',h7',nM,hall,rfl⟩:=j5 (g:=ag [0] 12) (b:=ft 11 (aH (fq []) (ao (bD [14] (dD (aa 3)) (ag [0] 14) aV (aA iZ [.io 0,.val (aa 7),.val (aa 10),.val (aa 8)]))))) (λk δ=>∃ (pd:D) (s7:S) (fl:List Tx) (rs:Option S),dF pd/\sT ts s7/\fl.length=k/\(∀ r ∈ fl,r.length=w/\∀ n ∈ r,n ∈ ts)/\δ=rb pd m h w n f s7 wy blocks (some (.pure (.int place))) (some (.own (.lst (fl.map .str)))) rs)
  (cx 0 h) 0 _ ⟨pd,s7,[],rs,j_,h7,rfl,by simp,rfl⟩ (λi d δ hd ⟨pd,s7,fl,rs,j_,h7,nM,hall,e⟩=>by
   subst e;obtain⟨hi,rfl⟩:=yJ hd;obtain⟨x,cN,g_,e,hx,hxt,hpd',h7'⟩:=Tq (m:=m) (h:=h) (n:=n) (f:=f) (wy:=wy) nr hw j_ h7 blocks place eE (fl.map .str) i;have hz:fl.length < We:=by rw[cW]; omega
   have ej:=O1 x (by omega);refine⟨_,rb cN m h w n f g_ wy blocks (some (.pure (.int place))) (some (.own (.lst ((fl ++ [x]).map .str)))) (some (.pure (.int i))),rfl,?_,⟨cN,g_,fl ++ [x],_,hpd',h7',by simp[nM],?_,rfl⟩⟩
   ·unfold rb at e ⊢;simp[ft,gU,aa,kF w (by omega),cj,bT];rw[e];simp[ej,dh,putL,hz]
   ·intro r hr;rcases WC.mp hr with hr | hr
    ·exact hall r hr
    ·simp at hr; subst hr; exact⟨hx,hxt⟩)
 exact⟨fl,cN,g_,sE,e3,by simpa using nM,hall,hpd',h7'⟩
theorem Tt(hp:dF d)(m:Nat)(Tu:0 < m)(E4:m<=26):∃ (h w:Nat) (bs:List (Nat×List Tx)) (d':D),
  lF [.own d,.pure (.int m)]=some (.pure (au h w bs),[.own d',.pure (.int m)])/\dQ h w bs/\bs.length<=m/\dF d':=by
 obtain⟨h,w,d1,e1,h0,h1,w0,w1,hw,p1⟩:=Ti hp;obtain⟨r,d2,e2,l2,p2⟩:=vw p1 m Tu (by omega);obtain⟨f,d3,e3,l3,p3⟩:=iA p2 26 26 rfl (by decide) (by decide);obtain⟨wy,d4,e4,l4,p4⟩:=iA p3 5 5 rfl (by decide) (by decide);-- the tiles
 have ec:=Fb (cs:=[13]) (g:=ag [0] 13) (t:=aV) (el:=ah ay 6 (ao (aE fM (ah bI 5 (ao (aE e9 (eD (.int 5)) (ae 13)))) (ao (eD (.int 26)))))) (λd=>match d with | .int k=>.str [97 + (f + 5 * k.toNat) % 26] | _=>.aI)
  [some (.own d3),some (.pure (.int m)),some (.pure (.int h)),some (.pure (.int w)),some (.pure (.int (1 + (r:Int)))),some (.pure (.int f)),some (.pure (.str nq)),none,none,none,none,none,none,none,none] (cx 0 (1 + r)) [] (by rw[cW]; simp; omega) (λd hd=>by
   obtain⟨i,hi,rfl⟩:=u3 hd;refine⟨_,_,.pure (.str [97 + (f + 5 * i) % 26]),[some (.own d3),some (.pure (.int m)),some (.pure (.int h)),some (.pure (.int w)),some (.pure (.int (1 + (r:Int)))),some (.pure (.int f)),some (.pure (.str nq)),none,none,none,none,none,none,some (.pure (.int i)),none],rfl,rfl,?_,rfl,rfl⟩;have hk:(f + 5 * i) % 26 < 26:=Nat.mod_lt _ (by decide);have hx:=O3 nq ((f + 5 * i) % 26) hk (by decide);rw[Tn _ hk] at hx;have hc:((f:Int) + 5 * (i:Int)) % 26=(((f + 5 * i) % 26:Nat):Int):=by omega
   have hmul:e9 (.int 5) (.int i)=some (.pure (.int (5 * (i:Int)))):=by
    unfold e9 pE fj;have:ji 5 i=true:=by unfold ji; simp
    simp only[this,if_true]
   have Tv:fM (.int ((f:Int) + 5 * (i:Int))) (.int 26)=some (.pure (.int (((f + 5 * i) % 26:Nat):Int))):=by
    rw[<- hc]; rfl
   generalize nq=lt at hx ⊢;simp only[ah,aR,ae,kE,yt,E9,eB,yx,List.set_cons_succ,List.set_cons_zero,List.getElem?_cons_succ,List.getElem?_cons_zero,E8,hmul,bI,Tv,hx])
 have Tw:List.map (λ(d:D)=>match d with | .int k=>D.str [97 + (f + 5 * k.toNat) % 26] | _=>.aI) (cx 0 (1 + r))=(j9 f (1 + r)).map λn=>.str [n]:=by
  simp[cx,j9]
 rw[Tw] at ec;simp only[J4] at ec;have GG:(j9 f (1 + r)).length=1 + r:=by simp[j9]
 have es:=To (j9 f (1 + r)) (by rw[GG]; omega);have nr:(iW (j9 f (1 + r))).length=1 + r:=by rw[Fh,GG]
 have bx:=Fj (Tp f (1 + r) (by omega));have hle:∀ t ∈ iW (j9 f (1 + r)),97<=t/\t<=122:=λt ht=>by
  rw[yM] at ht;simp[j9] at ht;obtain⟨k,_,rfl⟩:=ht;omega
 generalize iW (j9 f (1 + r))=ts at es nr bx hle;-- the blocks
 obtain⟨δ',e5,pd,s7,bs,a,b,c,j_,h7,hbl,hbt,hall,rfl⟩:=j5 (g:=ag [0] 10) (b:=(az (ax (eV bB) (ag [0] 11)) (az (er (dD (aa 2)) (ag [0] 12) (ft 11 (aH (fq []) (ao (bD [14] (dD (aa 3)) (ag [0] 14) aV (aA iZ [.io 0,.val (aa 7),.val (aa 10),.val (aa 8)])))))) (ft 9 (cD (aG (ah ay 7 (ae 10)) (aG (aH en (ae 11)) bB)))))))
  (λk δ=>∃ (pd:D) (s7:S) (bs:List (Nat×List Tx)) (a b c:Option S),dF pd/\sT ts s7/\bs.length=k/\bs.map (·.1)=ts.take k/\(∀ b ∈ bs,b.2.length=h/\∀ r ∈ b.2,r.length=w/\∀ n ∈ r,n ∈ ts)/\δ=rb pd m h w r f s7 wy (bs.map cI) a b c)
  (cx 0 (1 + r)) 0 (rb d4 m h w r f (.own (tD ts)) wy [] none none none) ⟨d4,_,[],none,none,none,p4,.inl rfl,rfl,rfl,by simp,rfl⟩ (λi d δ hd ⟨pd,s7,bs,a,b,c,j_,h7,hbl,hbt,hall,e⟩=>by
   subst e;obtain⟨hi,rfl⟩:=yJ hd;rw[QD] at hbl hbt;obtain⟨fl,cN,g_,sE,e,nM,hflt,hpd',h7'⟩:=Ts (m:=m) (n:=r) (f:=f) (wy:=wy) (ts:=ts) (by omega) w1 h1 j_ h7 (bs.map cI) i (by omega) c;have hz:bs.length < We:=by rw[cW]; omega
   have hx:=GF ts i (by omega);refine⟨_,rb cN m h w r f g_ wy ((bs ++ [(ts.getD i 0,fl)]).map cI) (some (.pure (.int i))) (some (.own (.lst (fl.map .str)))) sE,rfl,?_,⟨cN,g_,bs ++ [(ts.getD i 0,fl)],_,_,_,hpd',h7',by simp[hbl],?_,?_,rfl⟩⟩
   ·unfold rb at e ⊢;simp[ax,aa,kF h (by omega)];rw[e];rcases h7' with rfl | rfl
    ·simp[ft,gU,ah,aR,ae,tD,hx,en,putL,hz,cI]
    ·simp[ft,gU,ah,aR,ae,tD,hx,en,putL,hz,cI]
   ·rw[QD,Qh,hbt,List.take_add_one];simp[show i < ts.length by omega]
   ·intro b hb;rcases WC.mp hb with hb | hb
    ·exact hall b hb
    ·simp at hb; subst hb; exact⟨nM,hflt⟩)
 have Xy:bs.length=1 + r:=by simpa using hbl
 have A0:bs.map (·.1)=ts:=by
  rw[hbt,Jm];simp[nr]
 refine⟨h,w,bs,pd,?_,⟨h0,h1,w0,w1,hw,by omega,by omega,by rw[A0]; exact bx,λb hb=>hle _ (by rw[<- A0]; exact Ji hb),λb hb=>by rw[A0]; exact hall b hb⟩,by omega,j_⟩;unfold lF cy zJ ik;unfold nq at ec;simp[cV,bq,ax,aA,a_,bN,cj,bJ,bu,e1,aT,bV,aQ,b9,aa,e2,bI,e3,Fn r (by omega),bT];rw[ec];simp[dh,es,e4,aT,aa,Fn r (by omega)];unfold rb nq tD at e5;rw[e5];simp[ae,en,dw,cH,aa]
theorem le_int(i j:Int):DD (.int i) (.int j)=some (.pure (.bl (decide (i<=j)))):=rfl
theorem gt_int(i j:Int):gx (.int i) (.int j)=some (.pure (.bl (decide (j < i)))):=rfl
theorem nt(i j:Int):bX (.int i) (.int j)=some (.pure (.bl (i == j))):=rfl
theorem ka(i j:Int):eU (.int i) (.int j)=some (.pure (.bl (!(i == j)))):=rfl
theorem lJ(h w:Nat)(bs:List (Nat×List Tx)):ay (au h w bs) (.int 0)=some (.pure (.int h))/\ay (au h w bs) (.int 1)=some (.pure (.int w))/\ay (au h w bs) (.int 2)=some (.pure (.tup (bs.map cI))):=by
 refine⟨?_,?_,?_⟩
 ·simp[ay,rW]
 ·simp[ay,yG]
 ·simp[ay,yz]
theorem oS(np:List Nat)(n:Nat)(b:DS)(ss:List S):cy np n b ss=if cV np 0 ss then(match b (bq n ss) with
 | .ok fl δ=>(dw fl).bind λr=>(cH 0 ss δ).map λbc=>(r,bc)
 | _=>none) else none:=rfl
theorem Tz(xs:List Tx)(m:Nat)(h:∀ x ∈ xs,x.length<=m):jl xs<=xs.length * m:=by
 induction xs with
 | nil=>simp[jl]
 | cons x r ih =>
  have h1:=h x Wj;have h2:=ih λy hy=>h y (Wa _ hy)
  have e:jl (x :: r)=x.length + jl r:=by simp[jl]
  rw[e,WP,Nat.succ_mul];omega
theorem mul_int(i j:Int)(h0:0<=j)(h1:j<=1000):e9 (.int i) (.int j)=some (.pure (.int (i * j))):=by
 unfold e9 pE fj;have:ji i j=true:=by unfold ji; simp; omega
 simp only[this,if_true]
theorem kO(e:b (bq n [.pure x,.pure y]) = .ok (.ret v) δ1):cy [] n b [.pure x,.pure y]=some (v,[.pure x,.pure y]):=by
 rw[oS,e]; rfl
theorem GH(e:b (bq n [.pure x,.pure y,.pure z]) = .ok (.ret v) δ1):cy [] n b [.pure x,.pure y,.pure z]=some (v,[.pure x,.pure y,.pure z]):=by
 rw[oS,e]; rfl
theorem gu(e:b (bq n [.pure x]) = .ok (.ret v) δ1):cy [] n b [.pure x]=some (v,[.pure x]):=by
 rw[oS,e]; rfl
theorem aZ(h:a δ = .ok .next δ1):az a b δ=b δ1:=by unfold az; rw[h]; rfl
theorem fR(h:a δ = .ok (.ret v) δ1):az a b δ = .ok (.ret v) δ1:=by unfold az; rw[h]; rfl
theorem jC(h:it δ = .ok ds δ1):er it g b δ=forL g b ds δ1:=by unfold er; rw[h]; rfl
theorem oT(ds:List D):bf (.tup ds)=some (.pure (.int ds.length)):=rfl
theorem TC(ts:List Nat):fW (ts.map λn=>D.str [n])=some (ts.map λn=>[n]):=by
 have:=u0 (ts.map λn=>[n]);simpa[Wy,Function.comp_def] using this
theorem TF(R:dQ h w bs):oK [.pure (au h w bs)]=some (.own (tD (bs.map (·.1))),[.pure (au h w bs)]):=by
 have n1:=R.n1;obtain⟨_,_,x2⟩:=lJ h w bs;have e:=gC (cs:=[1,2]) (g:=bV 2 (aQ (ag [] 1) (aQ (ag [] 2) b9))) (t:=aV) (el:=aa 1) cI (λb=>.str [b.1]) [some (.pure (au h w bs)),none,none] bs [] (by rw[cW]; simp; omega) (λb hb=>by
  refine⟨[some (.pure (au h w bs)),some (.pure (.str [b.1])),some (.pure (fZ b.2))],_,.pure (.str [b.1]),[some (.pure (au h w bs)),some (.pure (.str [b.1])),some (.pure (fZ b.2))],rfl,rfl,?_,rfl,rfl⟩;simp[aa])
 simp only[J4] at e;rw[oK];refine gu (δ1:=[some (.pure (au h w bs)),none,none]) ?_;rw[zR];have et:tD (bs.map (·.1)) = .lst (bs.map λb=>D.str [b.1]):=by simp[tD,Function.comp_def]
 rw[et];show bC (bD [1,2] (bG (ah ay 0 (ao (eD (.int 2))))) (bV 2 (aQ (ag [] 1) (aQ (ag [] 2) b9))) aV (aa 1)) [some (.pure (au h w bs)),none,none]=_;generalize au h w bs=U at *;simp[iy,ah,aR,ae,x2,cj,bT,e,dh]
theorem TH(xs:List Tx)(h:jl xs<=16777216):fq [] (fZ xs)=some (.pure (.str xs.flatten)):=by
 unfold fq;simp only[u0,yI];rw[if_pos (by simpa using h)]
theorem TJ{ts:List Nat}{ch:Nat}(h:ch ∈ ts):∃ n,(ts.map λn=>[n]).idxOf [ch]=n/\ts[n]? = some ch:=by
 have hm:([ch]:Tx) ∈ ts.map λn=>[n]:=Wq.mpr ⟨ch,h,rfl⟩
 have hl:=List.idxOf_lt_length_of_mem hm;refine⟨_,rfl,?_⟩;have e:=List.getElem_idxOf hl;have gL:(ts.map λn=>[n]).idxOf [ch] < ts.length:=by simpa using hl
 rw[List.getElem_map] at e;have e':ts[(ts.map λn=>[n]).idxOf [ch]]=ch:=by simpa using e
 rw[W4 gL,e']
theorem TK{ts:List Nat}(nd:ts.Nodup){n ch:Nat}(h:ts[n]? = some ch)(F G:Nat->D):(ts.map F).set n (G ch)=ts.map λs=>if s=ch then G s else F s:=by
 apply Qc;intro i;by_cases hi:n=i
 ·subst hi;have hl:=(W6.mp h).1;rw[Wb (by simpa using hl),Wh,h];simp
 ·rw[W5 hi,Wh,Wh]
  cases e:ts[i]? with
  | none=>rfl
  | some x =>
   have:x≠ch:=λz=>by
    subst z;obtain⟨h1,e1⟩:=W6.mp h;obtain⟨h2,e2⟩:=W6.mp e;exact hi ((List.getElem_inj nd).mp (e1.trans e2.symm))
   simp[this]
def c9(ts:List Nat)(f:Nat->Nat):List D:=ts.map λs=>.int ((f s:Nat):Int)
theorem GI{ts:List Nat}(nd:ts.Nodup)(hl:ts.length<=26)(U V:D)(b1:Nat):∀ (tx:Tx) (f:Nat->Nat) (s5 s6:Option D),(∀ n ∈ tx,n ∈ ts) ->
  ∃ qk ql:Option D,lz 3 6 [b1] (ag [2] 5) (ax (kD 1 (aa 5)) (ag [2] 6)) tx (c9 ts f) [some (.pure U),some (.own (tD ts)),none,some (.pure (.str [b1])),some (.pure V),s5.map .pure,s6.map .pure,none]
   = .ok (c9 ts λs=>f s + tx.count s) [some (.pure U),some (.own (tD ts)),none,some (.pure (.str [b1])),some (.pure V),qk.map .pure,ql.map .pure,none]
 | [],f,s5,s6,_=>⟨s5,s6,by simp[lz]⟩
 | ch :: r,f,s5,s6,h=>by
  obtain⟨n,e1,e2⟩:=TJ (h ch Wj);obtain⟨a,b,ih⟩:=GI nd hl U V b1 r (λs=>f s + if s=ch then 1 else 0) (some (.str [ch])) (some (.int (n:Int))) λk hk=>h k (Wa _ hk)
  refine⟨a,b,?_⟩;have hi:ot (tD ts) (.str [ch])=some (.pure (.int (n:Int))):=by
   unfold ot tD;simp only[TC];have hm:([ch]:Tx) ∈ ts.map λn=>[n]:=Wq.mpr ⟨ch,h ch Wj,rfl⟩
   rw[if_pos ⟨hm,by simp; omega⟩,e1]
  have kh:ax (kD 1 (aa 5)) (ag [2] 6) [some (.pure U),some (.own (tD ts)),none,some (.pure (.str [b1])),some (.pure V),some (.pure (.str [ch])),s6.map .pure,none] = .ok .next [some (.pure U),some (.own (tD ts)),none,some (.pure (.str [b1])),some (.pure V),some (.pure (.str [ch])),some (.pure (.int (n:Int))),none]:=by
   have hL:E5 (tD ts)=true:=rfl;generalize tD ts=T at *;simp[ax,kD,aa,hL,hi]
  have hx:(c9 ts f)[n]? = some (.int ((f ch:Nat):Int)):=by
   unfold c9;rw[Wh,e2];rfl
  have hs:(c9 ts f).set n (.int ((f ch:Nat) + 1:Int))=c9 ts λs=>f s + if s=ch then 1 else 0:=by
   unfold c9;have:=TK nd e2 (λs=>D.int ((f s:Nat):Int)) (λs=>D.int ((f s:Nat) + 1:Int));rw[this];refine Jw λs _=>?_
   by_cases q:s=ch
   ·simp[q]
   ·simp[q]
  have hf:(c9 ts λs=>f s + (ch :: r).count s)=c9 ts λs=>(f s + if s=ch then 1 else 0) + r.count s:=by
   refine Jw λs _=>?_
   show D.int (((f s + List.count s (ch :: r)):Nat):Int)=D.int ((((f s + if s=ch then 1 else 0) + List.count s r):Nat):Int);rw[List.count_cons];by_cases q:ch=s
   ·subst q;simp;omega
   ·simp[q,Ne.symm q]
  rw[hf,<- ih];conv=>lhs; unfold lz
  have hg:ag [2] 5 (.pure (.str [ch])) [some (.pure U),some (.own (tD ts)),none,some (.pure (.str [b1])),some (.pure V),s5.map .pure,s6.map .pure,none]=some [some (.pure U),some (.own (tD ts)),none,some (.pure (.str [b1])),some (.pure V),some (.pure (.str [ch])),s6.map .pure,none]:=rfl;rw[hg];dsimp only;rw[kh];simp only[eB];simp only[List.getElem?_cons_succ,List.getElem?_cons_zero];rw[if_pos (by simp)];simp only[Qy,hx];rw[hs];rfl
theorem TM(R:dQ h w bs)(F:Nat×List Tx->D)(hb:bs[i]? = some b):putD ((bs.take i).map λb=>((Sum.inr [b.1]:bU),F b)) (.inr [b.1]) (F b)=(bs.take (i + 1)).map λb=>((Sum.inr [b.1]:bU),F b):=by
 have hi:=(W6.mp hb).1;have hn:(((bs.take i).map λb=>((Sum.inr [b.1]:bU),F b)).any λkv=>decide (kv.1 = .inr [b.1]))=false:=by
  rw[JN];intro kv hkv;obtain⟨c,hc,rfl⟩:=Wq.mp hkv;simp only[decide_eq_true_eq];intro e;simp at e;obtain⟨j,hj⟩:=List.getElem?_of_mem hc;have GJ:j < i:=by have:=(W6.mp hj).1; simp at this; omega
  rw[List.getElem?_take_of_lt GJ] at hj;have:=List.pairwise_iff_getElem.mp R.up j i (by simp; omega) (by simpa using hi) GJ;have e1:=(W6.mp hj).2;have e2:=(W6.mp hb).2;simp only[List.getElem_map,e1,e2] at this;omega
 unfold putD;rw[hn,List.take_add_one,hb];simp
theorem A1(R:dQ h w bs)(hb:b ∈ bs):fq [] (fZ b.2)=some (.pure (.str b.2.flatten))/\b.2.flatten.length<=16/\∀ n ∈ b.2.flatten,n ∈ bs.map (·.1):=by
 obtain⟨h1,h2⟩:=R.oy b hb;have hh:=R.h1;have hw:=R.w1;have hs:=Tz b.2 w (λx hx=>Nat.le_of_eq (h2 x hx).1);have hm:b.2.length * w<=4 * 4:=Qe (by omega) hw;refine⟨TH _ (by omega),?_,λn hn=>?_⟩
 ·have:b.2.flatten.length=jl b.2:=by rw[List.length_flatten]; rfl
  omega
 ·obtain⟨r,hr,hn⟩:=List.mem_flatten.mp hn;exact(h2 r hr).2 n hn
def kb(bs:List (Nat×List Tx))(b2:List Tx):D:=.lst (c9 (bs.map (·.1)) λs=>b2.flatten.count s)
def dG(bs:List (Nat×List Tx)):D:=.aC (bs.map λb=>((Sum.inr [b.1]:bU),kb bs b.2))
theorem zeros(n:Nat)(ts:List Nat)(h:n=ts.length):(Wc n ([.int 0]:List D)).flatten=c9 ts λ_=>0:=by
 subst h;induction ts with
 | nil=>rfl
 | cons t r ih =>
  rw[WP,Q7,Qx,ih];rfl
theorem TN(U V T:D)(b1 n:Nat)(dd:List (bU×D))(tx:Tx)(zs j6:List D)(s5 s6 qk ql:Option S)(hl:bf T=some (.pure (.int (n:Int))))(hn:n<=1000)(hz:(Wc n ([.int 0]:List D)).flatten=zs)(hd:dd.length < We)(hj:fq [] V=some (.pure (.str tx)))
  (ht:lz 3 6 [b1] (ag [2] 5) (ax (kD 1 (aa 5)) (ag [2] 6)) tx zs [some (.pure U),some (.own T),none,some (.pure (.str [b1])),some (.pure V),s5,s6,none] = .ok j6 [some (.pure U),some (.own T),none,some (.pure (.str [b1])),some (.pure V),qk,ql,none]) :
  oA 2 3 6 (aE ly (iS [.int 0]) (ao (aH bf (ae 1)))) (aH (fq []) (ae 4)) (ag [2] 5) (ax (kD 1 (aa 5)) (ag [2] 6)) [some (.pure U),some (.own T),some (.own (.aC dd)),some (.pure (.str [b1])),some (.pure V),s5,s6,none]
   = .ok .next [some (.pure U),some (.own T),some (.own (.aC (putD dd (.inr [b1]) (.lst j6)))),some (.pure (.str [b1])),some (.pure V),qk,ql,none]:=by
 have hm:ly (.lst [.int 0]) (.int (n:Int))=some (.own (.lst zs)):=by
  unfold ly;dsimp only;rw[if_pos ⟨by omega,by omega,by simp,by simp⟩];simp only[Qy,hz]
 unfold oA;simp[oo,aE,iS,ae,hl,hm,hd,hj];rw[ht];rfl
theorem TQ{bs:List (Nat×List Tx)}(hn:bs.length<=26)(k:Nat)(δ:Dl)(hk:δ[k]? = some none):cU [k] (ag [] k) aV (ah ay k (ao (eD (.int 0)))) (bs.map cI) δ [] = .ok ((bs.map (·.1)).map λn=>.str [n]) δ:=by
 have hl:k < δ.length:=(W6.mp hk).1;have:=gC (cs:=[k]) (g:=ag [] k) (t:=aV) (el:=ah ay k (ao (eD (.int 0)))) cI (λb=>D.str [b.1]) δ bs [] (by rw[cW]; simp; omega) (λb hb=>by
  have q:ay (cI b) (.int 0)=some (.pure (.str [b.1])):=by simp[ay,dC,dS]
  have hg:(δ.set k (some (.pure (cI b))))[k]? = some (some (.pure (cI b))):=Wb hl;refine⟨δ.set k (some (.pure (cI b))),_,.pure (.str [b.1]),δ.set k (some (.pure (cI b))),by simp[ag],rfl,?_,?_,rfl⟩
  ·generalize cI b=B at *;simp[ah,aR,ae,hg,q]
  ·show(δ.set k (some (.pure (cI b)))).set k none=δ;rw[List.set_set];apply Qc;intro i;by_cases hi:k=i
   ·subst hi;rw[Wb hl,hk]
   ·rw[W5 hi])
 rw[this];simp
theorem TR{h w:Nat}{bs:List (Nat×List Tx)}(R:dQ h w bs):oO [.pure (au h w bs)]=some (.own (dG bs),[.pure (au h w bs)]):=by
 have x2:=(lJ h w bs).2.2;have n1:=R.n1;have nr:(bs.map (·.1)).length<=26:=by simpa using n1
 have hlen:bf (tD (bs.map (·.1)))=some (.pure (.int ((bs.length:Nat):Int))):=by simp[tD,bf]
 have hc:=TQ n1 7 [some (.pure (au h w bs)),none,none,none,none,none,none,none] rfl;have loop:∃ o3 o4 o5 o6:Option D,forL (bV 2 (aQ (ag [] 3) (aQ (ag [] 4) b9))) (az (oA 2 3 6 (aE ly (iS [.int 0]) (ao (aH bf (ae 1)))) (aH (fq []) (ae 4)) (ag [2] 5) (ax (kD 1 (aa 5)) (ag [2] 6))) cG) (bs.map cI) [some (.pure (au h w bs)),some (.own (tD (bs.map (·.1)))),some (.own (.aC [])),none,none,none,none,none]
   = .ok .next [some (.pure (au h w bs)),some (.own (tD (bs.map (·.1)))),some (.own (dG bs)),o3.map .pure,o4.map .pure,o5.map .pure,o6.map .pure,none]:=by
  obtain⟨δ',e,o3,o4,o5,o6,rfl⟩:=j5 (g:=bV 2 (aQ (ag [] 3) (aQ (ag [] 4) b9))) (b:=az (oA 2 3 6 (aE ly (iS [.int 0]) (ao (aH bf (ae 1)))) (aH (fq []) (ae 4)) (ag [2] 5) (ax (kD 1 (aa 5)) (ag [2] 6))) cG)
   (λk δ=>∃ o3 o4 o5 o6:Option D,δ=[some (.pure (au h w bs)),some (.own (tD (bs.map (·.1)))),some (.own (.aC ((bs.take k).map λb=>((Sum.inr [b.1]:bU),kb bs b.2)))),o3.map .pure,o4.map .pure,o5.map .pure,o6.map .pure,none]) (bs.map cI) 0 [some (.pure (au h w bs)),some (.own (tD (bs.map (·.1)))),some (.own (.aC [])),none,none,none,none,none] ⟨none,none,none,none,by simp⟩ (λi d δ hd ⟨o3,o4,o5,o6,e⟩=>by
   subst e;rw[Wh,WG] at hd;obtain⟨b,hb,rfl⟩:=hd;rw[QD];have hm:=WO hb;obtain⟨t1,t2,t3⟩:=A1 R hm;have hz:((bs.take i).map λb=>((Sum.inr [b.1]:bU),kb bs b.2)).length < We:=by
    rw[cW]; simp; omega
   obtain⟨qk,ql,et⟩:=GI (AO R) nr (au h w bs) (fZ b.2) b.1 b.2.flatten (λ_=>0) o5 o6 t3;have hq:=TN (au h w bs) (fZ b.2) (tD (bs.map (·.1))) b.1 bs.length _ b.2.flatten _ _ _ _ _ _ hlen (by omega) (zeros bs.length (bs.map (·.1)) (by simp)) hz t1 et;have hr:D.lst (c9 (bs.map (·.1)) λs=>0 + b.2.flatten.count s)=kb bs b.2:=by
    unfold kb;congr 1
    exact Jw λs _=>by simp
   rw[hr,TM R (λb=>kb bs b.2) hb] at hq;refine⟨[some (.pure (au h w bs)),some (.own (tD (bs.map (·.1)))),some (.own (.aC ((bs.take i).map λb=>((Sum.inr [b.1]:bU),kb bs b.2)))),some (.pure (.str [b.1])),some (.pure (fZ b.2)),o5.map .pure,o6.map .pure,none],_,rfl,?_,some (.str [b.1]),some (fZ b.2),qk,ql,rfl⟩;rw[aZ hq];rfl)
  refine⟨o3,o4,o5,o6,?_⟩;rw[e];simp[dG]
 obtain⟨o3,o4,o5,o6,e⟩:=loop;rw[oO,oS,Ag];have hT:D.lst ((bs.map (·.1)).map λn=>.str [n])=tD (bs.map (·.1)):=rfl;generalize ((bs.map (·.1)).map λn=>D.str [n])=TS at *;generalize tD (bs.map (·.1))=T at *;generalize dG bs=DT at *;generalize hru:au h w bs=ru at *;generalize o3.map S.pure=p3 at *;generalize o4.map S.pure=p4 at *;generalize o5.map S.pure=p5 at *;generalize o6.map S.pure=p6 at *;simp[cV,bq,ax,iy,aa,rP,ah,aR,ae,x2,cj,bT,hc,dh];rw[hT,e];simp[mH,dw,cH]
theorem GK(R:dQ h w bs)(ht:t ∈ bs.map (·.1))(s:Nat):M bs t s<=16:=by
 obtain⟨b,hb,_,_,e2⟩:=vj ht;unfold M;rw[e2];exact Ws List.count_le_length (A1 R hb).2.1
theorem TU(R:dQ h w bs)(ht:t ∈ bs.map (·.1)):pP (dG bs) (.str [t])=some (.pure (.lst (c9 (bs.map (·.1)) (M bs t)))):=by
 obtain⟨b,hb,e0,e1,e2⟩:=vj ht;have hv:gX (bs.map λb=>((Sum.inr [b.1]:bU),kb bs b.2)) (.inr [t])=some (kb bs b.2):=by
  unfold gX;rw[List.find?_map];have:((λkv:bU×D=>decide (kv.1 = .inr [t])) ∘ λb:Nat×List Tx=>((Sum.inr [b.1]:bU),kb bs b.2))=λb=>decide (b.1=t):=by
   funext b
   simp
  rw[this,e1];rfl
 unfold dG pP;simp only[iT,QZ,hv,WF];unfold kb M;rw[e2]
theorem A2(f F:A->D)(I:Dl->Prop):∀ (as:List A) (acc:List D) (δ:Dl),I δ->acc.length + as.length<=We ->
  (∀ a ∈ as,∀ δ,I δ->∃ δ1 δ2 x δ3,g (.pure (f a)) δ=some δ1/\t δ1 = .ok true δ2/\el δ2 = .ok x δ3/\I (bT cs δ3)/\x.d=F a)->∃ δ',cU cs g t el (as.map f) δ acc = .ok (acc ++ as.map F) δ'/\I δ'
 | [],acc,δ,h,_,_=>⟨δ,by simp[cU],h⟩
 | a :: r,acc,δ,h,hl,hs=>by
  obtain⟨δ1,δ2,x,δ3,e1,e2,e3,e4,e5⟩:=hs a Wj δ h;have gL:acc.length < We:=by simp at hl; omega
  obtain⟨δ',e6,h6⟩:=A2 (cs:=cs) (g:=g) (t:=t) (el:=el) f F I r (acc ++ [x.d]) (bT cs δ3) e4 (by simp at hl ⊢; omega) (λa ha=>hs a (Wa _ ha));refine⟨δ',?_,h6⟩;rw[Wu];unfold cU;rw[e1];simp only[e2,eB,if_true,e3,if_pos gL];rw[e6,e5];simp
def tb(ts:List Nat)(X:Nat->Nat->Nat):D:=.tup (ts.map λt=>.tup (c9 ts (X t)))
theorem TV{h w:Nat}{bs:List (Nat×List Tx)}(R:dQ h w bs){b:Nat×List Tx}(hb:b ∈ bs)(ru d2:D):cU [4] (ag [] 4) aV (ou (aH (fq []) (ae 3)) (aa 4)) ((bs.map (·.1)).map λn=>D.str [n]) [some (.pure ru),some (.pure (tD (bs.map (·.1)))),some (.pure d2),some (.pure (fZ b.2)),none] [] = .ok (c9 (bs.map (·.1)) (M bs b.1)) [some (.pure ru),some (.pure (tD (bs.map (·.1)))),some (.pure d2),some (.pure (fZ b.2)),none]:=by
 have n1:=R.n1;obtain⟨t1,_,_⟩:=A1 R hb;have:=gC (cs:=[4]) (g:=ag [] 4) (t:=aV) (el:=ou (aH (fq []) (ae 3)) (aa 4)) (λn=>D.str [n]) (λs=>D.int ((M bs b.1 s:Nat):Int)) [some (.pure ru),some (.pure (tD (bs.map (·.1)))),some (.pure d2),some (.pure (fZ b.2)),none] (bs.map (·.1)) [] (by rw[cW]; simp; omega) (λs hs=>by
  refine⟨[some (.pure ru),some (.pure (tD (bs.map (·.1)))),some (.pure d2),some (.pure (fZ b.2)),some (.pure (.str [s]))],_,.pure (.int ((M bs b.1 s:Nat):Int)),[some (.pure ru),some (.pure (tD (bs.map (·.1)))),some (.pure d2),some (.pure (fZ b.2)),some (.pure (.str [s]))],rfl,rfl,?_,rfl,rfl⟩;have e:M bs b.1 s=b.2.flatten.count s:=by unfold M; rw[SN R hb]
  rw[e];generalize b.2.flatten=z at *;generalize fZ b.2=FB at *;generalize tD (bs.map (·.1))=T at *;simp[ou,ae,t1,E7,aa,E6])
 rw[this];rfl
theorem TX{h w:Nat}{bs:List (Nat×List Tx)}(R:dQ h w bs):oM [.pure (au h w bs)]=some (.pure (tb (bs.map (·.1)) (M bs)),[.pure (au h w bs)]):=by
 have n1:=R.n1;have x2:=(lJ h w bs).2.2;have g:=TF R;obtain⟨δ',e,s1,h1,hδ⟩:=A2 (cs:=[2,3]) (g:=bV 2 (aQ (ag [] 2) (aQ (ag [] 3) b9))) (t:=aV) (el:=aH en (ao (bD [4] (bG (aa 1)) (ag [] 4) aV (ou (aH (fq []) (ae 3)) (aa 4))))) cI (λb=>D.tup (c9 (bs.map (·.1)) (M bs b.1)))
  (λδ=>∃ s1,sT (bs.map (·.1)) s1/\δ=[some (.pure (au h w bs)),some s1,none,none,none]) bs [] [some (.pure (au h w bs)),some (.own (tD (bs.map (·.1)))),none,none,none] ⟨_,.inl rfl,rfl⟩ (by rw[cW]; simp; omega) (λb hb δ ⟨s1,h1,hδ⟩=>by
  subst hδ;have hc:=TV R hb (au h w bs) (.str [b.1]);refine⟨[some (.pure (au h w bs)),some s1,some (.pure (.str [b.1])),some (.pure (fZ b.2)),none],_,.pure (.tup (c9 (bs.map (·.1)) (M bs b.1))),[some (.pure (au h w bs)),some (.pure (tD (bs.map (·.1)))),some (.pure (.str [b.1])),some (.pure (fZ b.2)),none],rfl,rfl,?_,⟨_,.inr rfl,rfl⟩,rfl⟩;have hT:tD (bs.map (·.1)) = .lst ((bs.map (·.1)).map λn=>.str [n]):=rfl;generalize ((bs.map (·.1)).map λn=>D.str [n])=TS at *;generalize c9 (bs.map (·.1)) (M bs b.1)=CC at *;generalize au h w bs=ru at *;generalize fZ b.2=FB at *;rcases h1 with rfl | rfl
  ·rw[hT] at *;simp[iy,aa,cj,bT,hc,dh,en]
  ·rw[hT] at *;simp[iy,aa,cj,bT,hc,dh,en])
 have hE:bs.map (λb=>D.tup (c9 (bs.map (·.1)) (M bs b.1)))=(bs.map (·.1)).map λt=>.tup (c9 (bs.map (·.1)) (M bs t)):=by
  rw[Wy]; rfl
 rw[hE,J4] at e;rw[oM,oS,zT];unfold tb;generalize ((bs.map (·.1)).map λt=>D.tup (c9 (bs.map (·.1)) (M bs t)))=RR at *;generalize tD (bs.map (·.1))=T at *;subst hδ;generalize au h w bs=ru at *;simp[cV,bq,ax,aA,a_,bN,bJ,aa,bu,g,aT,iy,ah,aR,ae,x2,cj,bT];rw[e];simp[dh,en,dw,cH]
theorem sF(h1:g (.pure d) δ=some δ1)(h2:b δ1 = .ok .next δ2):forL g b (d :: r) δ=forL g b r δ2:=by
 conv=>lhs; unfold forL
 rw[h1];simp only[h2,eB]
theorem GL(h1:t δ = .ok true δ1)(h2:b δ1 = .ok .next δ2):eF t b (n + 1) δ=eF t b n δ2:=by
 simp only[eF,h1,eB,if_true,h2]
theorem GN(h1:t δ = .ok false δ1):eF t b (n + 1) δ = .ok .next δ1:=by
 simp[eF,h1]
theorem TY{B:Type}(F:Nat->B)(ts:List Nat):(W3 ts.length).map (λi=>F (ts.getD i 0))=ts.map F:=by
 apply Qc;intro i;rw[Wh,Wh];by_cases h:i < ts.length
 ·rw[WR h,W4 h];simp[h]
 ·rw[WB (by simpa using h),WB (by simpa using h)];rfl
theorem TZ(ts:List Nat)(f:Nat->Nat){i:Nat}(h:i < ts.length):ay (.tup (c9 ts f)) (.int i)=some (.pure (.int ((f (ts.getD i 0):Nat):Int))):=by
 have:i < (c9 ts f).length:=by simpa[c9] using h
 simp[ay,gY,this];simp[c9,h]
theorem A3(a b:Int):WI b (a.fmod b)=WI a b:=by
 have e:b * a.fdiv b + a.fmod b=a:=Int.mul_fdiv_add_fmod a b;refine Nat.dvd_antisymm ?_ ?_
 ·refine Int.ofNat_dvd.mp (Int.dvd_coe_gcd ?_ (JY ..));rw[<- e];exact Int.dvd_add (Int.dvd_mul_of_dvd_left (JY ..)) (by rw[e]; exact JS ..)
 ·refine Int.ofNat_dvd.mp (Int.dvd_coe_gcd (JS ..) ?_);have e2:a.fmod b=a - b * a.fdiv b:=by omega
  rw[e2];exact Int.dvd_sub (JY ..) (Int.dvd_mul_of_dvd_left (JS ..))
theorem GO(a:Int)(h:0 < b):0<=a.fmod b/\a.fmod b < b:=by
 rw[Int.fmod_eq_emod_of_nonneg a (by omega)];exact⟨JB _ (by omega),JJ _ h⟩
theorem GP(a:Int)(h:b < 0):b < a.fmod b/\a.fmod b<=0:=by
 rw[Int.fmod_eq_emod];have h1:=JB a (show b≠0 by omega);have h2:=Int.emod_lt_of_neg a h;split
 ·rename_i q;rcases q with q | q
  ·omega
  ·rw[Int.emod_eq_zero_of_dvd q]; omega
 ·rename_i q;have:a % b≠0:=λz=>q (.inr (Int.dvd_of_emod_eq_zero z))
  omega
theorem T1{b r:Int}(h:(0 < r/\r < b)\/(r < 0/\b < r)):2 * (b.fmod r).natAbs < b.natAbs:=by
 have e:r * b.fdiv r + b.fmod r=b:=Int.mul_fdiv_add_fmod b r;generalize b.fdiv r=q at *;rcases h with ⟨h1,h2⟩ | ⟨h1,h2⟩
 ·obtain⟨k1,k2⟩:=GO b h1;generalize b.fmod r=s at *;have hq:1<=q:=by
   by_cases z:1<=q
   ·exact z
   ·have:r * q<=0:=Int.mul_nonpos_of_nonneg_of_nonpos (by omega) (by omega);omega
  have:r * 1<=r * q:=Int.mul_le_mul_of_nonneg_left hq (by omega);omega
 ·obtain⟨k1,k2⟩:=GP b h1;generalize b.fmod r=s at *;have hq:1<=q:=by
   by_cases z:1<=q
   ·exact z
   ·have:0<=r * q:=Int.mul_nonneg_of_nonpos_of_nonpos (by omega) (by omega);omega
  have:r * q<=r * 1:=Int.mul_le_mul_of_nonpos_left (by omega) hq;omega
abbrev gT:DT:=aB (ah eU 1 (ao (eD (.int 0))))
abbrev gB:DS:=kG [] 0 1 (aG (aa 1) (aG (ah u7 0 (ae 1)) bB))
abbrev g2(a b:Int):Dl:=[some (.pure (.int a)),some (.pure (.int b))]
theorem A4(a b:Int)(h:b≠0)(n:Nat):eF gT gB (n + 1) (g2 a b)=eF gT gB n (g2 b (a.fmod b)):=by
 have q:eU (.int b) (.int 0)=some (.pure (.bl true)):=by
  rw[ka];have:(b == 0)=false:=by simp; omega
  rw[this]; rfl
 have md:=PD a b h;generalize a.fmod b=c at *;refine GL (δ1:=g2 a b) ?_ ?_
 ·simp[gT,aB,ah,aR,ae,q]
 ·simp[gB,kG,aa,ah,aR,ae,md]
theorem A5(a:Int)(n:Nat):eF gT gB (n + 1) (g2 a 0) = .ok .next (g2 a 0):=by
 refine GN ?_;have q:eU (.int 0) (.int 0)=some (.pure (.bl false)):=by rw[ka]; rfl
 simp[gT,aB,ah,aR,ae,q]
theorem GQ:∀ (k:Nat) (a b:Int) (f:Nat),b.natAbs < 2 ^ k->2 * k + 1<=f->∃ x:Int,x.natAbs=WI a b/\eF gT gB f (g2 a b) = .ok .next (g2 x 0)
 | 0,a,b,f,h,hf=>by
  obtain⟨f,rfl⟩:∃ j,f=j + 1:=⟨f - 1,by omega⟩
  have:b=0:=by simp at h; exact h
  subst this;exact⟨a,by simp,A5 a f⟩
 | k + 1,a,b,f,h,hf=>by
  obtain⟨f,rfl⟩:∃ j,f=j + 1 + 1 + 1:=⟨f - 3,by omega⟩
  by_cases hb:b=0
  ·subst hb;exact⟨a,by simp,A5 a _⟩
  ·by_cases hr:a.fmod b=0
   ·refine⟨b,?_,?_⟩
    ·rw[<- A3,hr]; simp
    ·rw[A4 a b hb,hr,A5]
   ·have h2:2 * (b.fmod (a.fmod b)).natAbs < b.natAbs:=by
     apply T1;by_cases hp:0 < b
     ·have:=GO a hp; left; omega
     ·have:=GP a (show b < 0 by omega); right; omega
    have bx:(b.fmod (a.fmod b)).natAbs < 2 ^ k:=by
     rw[U0] at h;omega
    obtain⟨x,hx,e⟩:=GQ k (a.fmod b) (b.fmod (a.fmod b)) (f + 1) bx (by omega);refine⟨x,by rw[hx,A3,A3],?_⟩;rw[A4 a b hb,A4 b _ hr,e]
theorem sG(a b:Int)(h:b.natAbs < 2 ^ k)(hk:k<=400000):f_ [.pure (.int a),.pure (.int b)]=some (.pure (.int (WI a b:Nat)),[.pure (.int a),.pure (.int b)]):=by
 obtain⟨x,hx,e⟩:=GQ k a b 1000000 h (by omega);rw[f_,zM];refine kO (δ1:=g2 x 0) ?_;have e':eF gT gB 1000000 (bq 2 [.pure (.int a),.pure (.int b)]) = .ok .next (g2 x 0):=e;rw[aZ e'];have ab:mL (.int x)=some (.pure (.int (WI a b:Nat))):=by
  show some (S.pure (.int (if x < 0 then -x else x)))=_;rw[<- hx];congr 3
  split <;> omega
 simp[ae,ab]
theorem qm(a b:Int)(ha:a.natAbs < 2 ^ k)(hb:b.natAbs < 2 ^ k)(hk:k<=67108864):cL (.int a) (.int b)=some (.pure (.int (a * b))):=by
 show(if mK a b then some (S.pure (.int (a * b))) else none)=_;have bits:∀ x:Int,x.natAbs < 2 ^ k->PySem.Builtin.Int.intBits x<=k:=λx hx=>by
  have:=Pz hx;unfold PySem.Builtin.Int.intBits at this ⊢;have e:((x.natAbs:Nat):Int).natAbs=x.natAbs:=by omega
  have e2:(((x.natAbs:Nat):Int) == 0)=(x == 0):=by
   rw[Qq,beq_iff_eq,beq_iff_eq]; omega
  rw[e,e2] at this;exact this
 have:mK a b=true:=by
  unfold mK;simp only[Ww,decide_eq_true_eq];exact⟨Ws (bits a ha) hk,Ws (bits b hb) hk⟩
 rw[this,if_pos rfl]
def iL(r:List Int):D:=.lst (r.map .int)
theorem GR:∀ (r:List Int) (d:Nat),(∀ x ∈ r,x.natAbs<=B)->d<=B->gd d r<=B
 | [],d,_,h=>h
 | a :: r,d,hr,h=>GR r _ (λx hx=>hr x (Wa _ hx)) (by
   by_cases q:a=0
   ·subst q; simp; exact h
   ·exact Ws (Int.gcd_le_natAbs_right (d:Int) q) (hr a Wj))
theorem GS(hk:k<=8000)(R:D):∀ (r:List Int) (d:Nat) (o2:Option S),(∀ x ∈ r,x.natAbs < 2 ^ k)->∃ q2,(∀ s,o2≠some (.own s))->(∀ s,q2≠some (.own s)) /\
  forL (ag [] 2) (ax (aA f_ [.val (aa 1),.val (aa 2)]) (ag [] 1)) (r.map D.int) [some (.pure R),some (.pure (.int (d:Int))),o2] = .ok .next [some (.pure R),some (.pure (.int (gd d r:Nat))),q2]
 | [],d,o2,_=>⟨o2,λh=>⟨h,rfl⟩⟩
 | a :: r,d,o2,hr=>by
  obtain⟨q2,h2⟩:=GS hk R r (WI (d:Int) a) (some (.pure (.int a))) (λx hx=>hr x (Wa _ hx));refine⟨q2,λ_=>⟨(h2 (λs=>by simp)).1,?_⟩⟩;have g:=sG (d:Int) a (hr a Wj) (by omega);rw[Wu,sF (δ1:=[some (.pure R),some (.pure (.int (d:Int))),some (.pure (.int a))]) (δ2:=[some (.pure R),some (.pure (.int (WI (d:Int) a:Nat))),some (.pure (.int a))]) rfl (by
   generalize ((WI (d:Int) a:Nat):Int)=g0 at *;generalize (d:Int)=di at *;simp[ax,aA,a_,bN,bJ,aa,bu,g,aT])]
  exact(h2 (λs=>by simp)).2
theorem GU(L:List D)(i:Nat)(δ:Dl)(h:δ[i]? = some (some (.pure (.lst L)))):bG (aa i) δ = .ok L δ:=by
 have T2:δ.set i (some (.pure (.lst L)))=δ:=by
  apply Qc;intro j;by_cases hj:i=j
  ·subst hj;rw[Wb (W6.mp h).1,h]
  ·rw[W5 hj]
 simp[iy,aa,h,S.d]
theorem T3(hk:k<=8000)(r:List Int)(hl:r.length<=26)(hr:∀ x ∈ r,x.natAbs < 2 ^ k):∃ s:S,s.d=iL (rl r)/\mZ [.pure (iL r)]=some (s,[.pure (iL r)]):=by
 obtain⟨q2,h⟩:=GS hk (iL r) r 0 none hr;obtain⟨hq,e⟩:=h (λs=>by simp);have hd:gd 0 r < 2 ^ k:=by
  have:gd 0 r<=2 ^ k - 1:=GR r 0 (λx hx=>by have:=hr x hx; omega) (Qg _);have:0 < 2 ^ k:=U1 k;omega
 have gt:=gt_int ((gd 0 r:Nat):Int) 1;have T4:cj [some (.pure (iL r)),some (.pure (.int ((gd 0 r:Nat):Int))),q2] 2=false:=by
  cases q2 with
  | none=>rfl
  | some s =>
   cases s with
   | pure d=>rfl
   | own d=>exact absurd rfl (hq d)
 have dB:∀ s δ',bC (q_ (aB (ah gx 1 (ao (eD (.int 1))))) (bD [2] (bG (aa 0)) (ag [] 2) aV (ah fz 2 (ae 1))) (aa 0)) [some (.pure (iL r)),some (.pure (.int ((gd 0 r:Nat):Int))),q2] = .ok (.ret s) δ'->mZ [.pure (iL r)]=some (s,[.pure (iL r)]):=λs δ' q=>by
  rw[mZ,zN];refine gu (δ1:=δ') ?_;rw[aZ (δ1:=[some (.pure (iL r)),some (.pure (.int 0)),none]) (by generalize iL r=R at *; simp[bq,ax])];have iq:bG (aa 0) [some (.pure (iL r)),some (.pure (.int 0)),none] = .ok (r.map D.int) [some (.pure (iL r)),some (.pure (.int 0)),none]:=GU _ 0 _ rfl;rw[aZ ((jC iq).trans e)];exact q
 by_cases h1:1 < gd 0 r
 ·have eR:rl r=r.map λx=>x.fdiv (gd 0 r:Nat):=by unfold rl; rw[if_pos h1]
  rw[decide_eq_true (by omega)] at gt;have c:=gC (cs:=[2]) (g:=ag [] 2) (t:=aV) (el:=ah fz 2 (ae 1)) D.int (λx:Int=>D.int (x.fdiv (gd 0 r:Nat))) [some (.pure (iL r)),some (.pure (.int ((gd 0 r:Nat):Int))),none] r [] (by rw[cW]; simp; omega) (λx hx=>by
   have dv:=mP x ((gd 0 r:Nat):Int) (by omega) (show(((gd 0 r:Nat):Int)).natAbs < mM by
    have:2 ^ k<=2 ^ 8000:=WJ (by decide) hk;show _ < 2 ^ 8000;omega)
   refine⟨[some (.pure (iL r)),some (.pure (.int ((gd 0 r:Nat):Int))),some (.pure (.int x))],_,.pure (.int (x.fdiv (gd 0 r:Nat))),[some (.pure (iL r)),some (.pure (.int ((gd 0 r:Nat):Int))),some (.pure (.int x))],rfl,rfl,?_,rfl,rfl⟩;generalize iL r=R at *;generalize x.fdiv ((gd 0 r:Nat):Int)=y at *;generalize ((gd 0 r:Nat):Int)=g0 at *;simp[ah,aR,ae,dv])
  refine⟨.own (iL (rl r)),rfl,dB _ [some (.pure (iL r)),some (.pure (.int ((gd 0 r:Nat):Int))),q2] ?_⟩;have iq:bG (aa 0) [some (.pure (iL r)),some (.pure (.int ((gd 0 r:Nat):Int))),q2] = .ok (r.map D.int) [some (.pure (iL r)),some (.pure (.int ((gd 0 r:Nat):Int))),q2]:=GU _ 0 _ rfl;have eL:iL (rl r) = .lst (r.map λx:Int=>D.int (x.fdiv (gd 0 r:Nat))):=by
   unfold iL;rw[eR,Wy]; rfl
  rw[eL];have T5:bT [2] [some (.pure (iL r)),some (.pure (.int ((gd 0 r:Nat):Int))),q2]=[some (.pure (iL r)),some (.pure (.int ((gd 0 r:Nat):Int))),none]:=rfl;have Xz:∀ a b:S,dh [2] [some a,some b,q2] [some a,some b,none]=[some a,some b,q2]:=λa b=>rfl
  have T6:[2].any (cj [some (.pure (iL r)),some (.pure (.int ((gd 0 r:Nat):Int))),q2])=false:=by simp[T4]
  have cmp:bD [2] (bG (aa 0)) (ag [] 2) aV (ah fz 2 (ae 1)) [some (.pure (iL r)),some (.pure (.int ((gd 0 r:Nat):Int))),q2] = .ok (.own (.lst (r.map λx:Int=>D.int (x.fdiv (gd 0 r:Nat))))) [some (.pure (iL r)),some (.pure (.int ((gd 0 r:Nat):Int))),q2]:=by
   rw[yw,iq];simp only[eB];rw[T6,T5,c];rfl
  generalize (r.map λx:Int=>D.int (x.fdiv (gd 0 r:Nat)))=Y at *;generalize ((gd 0 r:Nat):Int)=g0 at *;generalize iL r=R at *;have ht:aB (ah gx 1 (ao (eD (.int 1)))) [some (.pure R),some (.pure (.int g0)),q2] = .ok true [some (.pure R),some (.pure (.int g0)),q2]:=by
   simp[aB,ah,aR,ae,gt]
  rw[yu,OY,ht];simp only[eB,if_true];rw[cmp];rfl
 ·have eR:rl r=r:=by unfold rl; rw[if_neg h1]
  rw[decide_eq_false (by omega)] at gt;refine⟨.pure (iL r),by rw[eR]; rfl,dB _ [some (.pure (iL r)),some (.pure (.int ((gd 0 r:Nat):Int))),q2] ?_⟩;generalize ((gd 0 r:Nat):Int)=g0 at *;generalize iL r=R at *;simp[aB,ah,aR,ae,aa,gt]
theorem nu{r:List Int}{c:Nat}(h:c < r.length):ay (iL r) (.int (c:Int))=some (.pure (.int (ak r c))):=by
 unfold iL ak;simp only[ay];rw[gY,Wh,W4 h,Wi,W4 h];rfl
theorem T7(r p:List Int):kC (r.map D.int) (p.map D.int)=(r.zip p).map λab:Int×Int=>D.tup [.int ab.1,.int ab.2]:=by
 unfold kC;rw[List.zipWith_map,List.zip,List.map_zipWith]
theorem T8{k n c:Nat}(hk:2 * k + 1<=8000){r p:List Int}(hr:r.length=n)(hp:p.length=n)(hn:n<=26)(hc:c < n)(br:∀ x ∈ r,x.natAbs < 2 ^ k)(bp:∀ x ∈ p,x.natAbs < 2 ^ k) :
  ∃ s:S,s.d=iL (rc r p c)/\kH [.pure (iL r),.pure (iL p),.pure (.int (c:Int))]=some (s,[.pure (iL r),.pure (iL p),.pure (.int (c:Int))]):=by
 have i1:=nu (r:=r) (c:=c) (by omega);have i2:=nu (r:=p) (c:=c) (by omega);have q:=nt (ak r c) 0;by_cases hz:ak r c=0
 ·have eR:rc r p c=r:=by unfold rc; rw[if_pos hz]
  have:(ak r c == 0)=true:=by simpa using hz
  rw[this] at q;refine⟨.pure (iL r),by rw[eR]; rfl,?_⟩;rw[kH,vc];generalize iL r=R at *;generalize iL p=P at *;refine GH (δ1:=[some (.pure R),some (.pure P),some (.pure (.int (c:Int))),none,none]) (fR ?_);simp[bq,aB,ah,aR,ae,aa,i1,q]
 ·have eR:rc r p c=rl (Qm (λa b=>a * ak p c - b * ak r c) r p):=by unfold rc; rw[if_neg hz]
  have:(ak r c == 0)=false:=by simpa using hz
  rw[this] at q;have ac:(ak r c).natAbs < 2 ^ k:=br _ (vm (by omega));have pc:(ak p c).natAbs < 2 ^ k:=bp _ (vm (by omega));have two:∀ a b x y:Int,a.natAbs < 2 ^ k->b.natAbs < 2 ^ k->x.natAbs < 2 ^ k->y.natAbs < 2 ^ k->(a * x - b * y).natAbs < 2 ^ (2 * k + 1):=λa b x y h1 h2 h3 h4=>by
   have e1:(a * x).natAbs < 2 ^ k * 2 ^ k:=by
    rw[J0]; exact Nat.mul_lt_mul'' h1 h3
   have e2:(b * y).natAbs < 2 ^ k * 2 ^ k:=by
    rw[J0]; exact Nat.mul_lt_mul'' h2 h4
   have e3:2 ^ (2 * k + 1)=2 ^ k * 2 ^ k + 2 ^ k * 2 ^ k:=by
    rw[U0,show 2 * k=k + k by omega,JT]; omega
   rw[e3];omega
  have bz:∀ x ∈ Qm (λa b=>a * ak p c - b * ak r c) r p,x.natAbs < 2 ^ (2 * k + 1):=λx hx=>by
   obtain⟨i,hi,rfl⟩:=Qp hx;rw[List.getElem_zipWith];exact two _ _ _ _ (br _ (WX _)) (bp _ (WX _)) pc ac
  obtain⟨s,hs,gl⟩:=T3 hk (Qm (λa b=>a * ak p c - b * ak r c) r p) (by simp; omega) bz;have c1:=gC (cs:=[3,4]) (g:=bV 2 (aQ (ag [] 3) (aQ (ag [] 4) b9))) (t:=aV) (el:=aE gj (ah cL 3 (ao (ah ay 1 (ae 2)))) (ao (ah cL 4 (ao (ah ay 0 (ae 2)))))) (λab:Int×Int=>D.tup [.int ab.1,.int ab.2]) (λab:Int×Int=>D.int (ab.1 * ak p c - ab.2 * ak r c)) [some (.pure (iL r)),some (.pure (iL p)),some (.pure (.int (c:Int))),none,none] (r.zip p) [] (by rw[cW]; simp; omega) (λab km=>by
   obtain⟨a,b⟩:=ab;have ma:=bp _ (Jz km).2;have mb:=br _ (Jz km).1;have m1:=qm a (ak p c) mb pc (by omega);have m2:=qm b (ak r c) ma ac (by omega);have sb:gj (.int (a * ak p c)) (.int (b * ak r c))=some (.pure (.int (a * ak p c - b * ak r c))):=rfl;refine⟨[some (.pure (iL r)),some (.pure (iL p)),some (.pure (.int (c:Int))),some (.pure (.int a)),some (.pure (.int b))],_,.pure (.int (a * ak p c - b * ak r c)),[some (.pure (iL r)),some (.pure (iL p)),some (.pure (.int (c:Int))),some (.pure (.int a)),some (.pure (.int b))],rfl,rfl,?_,rfl,rfl⟩;generalize iL r=R at *;generalize iL p=P at *;generalize a * ak p c - b * ak r c=x0 at *;generalize a * ak p c=x1 at *;generalize b * ak r c=x2 at *;generalize ak p c=x3 at *;generalize ak r c=x4 at *;simp[ah,aR,ae,i1,i2,m1,m2,sb])
  have eY:((r.zip p).map λab:Int×Int=>D.int (ab.1 * ak p c - ab.2 * ak r c))=(Qm (λa b=>a * ak p c - b * ak r c) r p).map D.int:=by
   rw[List.zip,List.map_zipWith,List.map_zipWith]
  rw[eY] at c1;refine⟨s,by rw[eR]; exact hs,?_⟩;have iz:gA (aa 0) (aa 1) [some (.pure (iL r)),some (.pure (iL p)),some (.pure (.int (c:Int))),none,none] = .ok ((r.zip p).map λab:Int×Int=>D.tup [.int ab.1,.int ab.2]) [some (.pure (iL r)),some (.pure (iL p)),some (.pure (.int (c:Int))),none,none]:=by
   rw[<- T7];simp[gA,aa,S.d,iL,j3]
  have cmp:bD [3,4] (gA (aa 0) (aa 1)) (bV 2 (aQ (ag [] 3) (aQ (ag [] 4) b9))) aV (aE gj (ah cL 3 (ao (ah ay 1 (ae 2)))) (ao (ah cL 4 (ao (ah ay 0 (ae 2)))))) [some (.pure (iL r)),some (.pure (iL p)),some (.pure (.int (c:Int))),none,none] = .ok (.own (iL (Qm (λa b=>a * ak p c - b * ak r c) r p))) [some (.pure (iL r)),some (.pure (iL p)),some (.pure (.int (c:Int))),none,none]:=by
   rw[yw,iz];simp only[eB];rw[show([3,4]:List Nat).any (cj [some (.pure (iL r)),some (.pure (iL p)),some (.pure (.int (c:Int))),none,none])=false from rfl,show bT [3,4] [some (.pure (iL r)),some (.pure (iL p)),some (.pure (.int (c:Int))),none,none]=[some (.pure (iL r)),some (.pure (iL p)),some (.pure (.int (c:Int))),none,none] from rfl,c1];rfl
  rw[kH,vc];clear c1 iz eY;generalize iL (Qm (λa b=>a * ak p c - b * ak r c) r p)=Z at *;generalize iL r=R at *;generalize iL p=P at *;refine GH (δ1:=[some (.pure R),some (.pure P),some (.pure (.int (c:Int))),none,none]) ?_;rw[aZ (δ1:=[some (.pure R),some (.pure P),some (.pure (.int (c:Int))),none,none]) (by simp[bq,aB,ah,aR,ae,aa,i1,q])];generalize (bD [3,4] (gA (aa 0) (aa 1)) (bV 2 (aQ (ag [] 3) (aQ (ag [] 4) b9))) aV (aE gj (ah cL 3 (ao (ah ay 1 (ae 2)))) (ao (ah cL 4 (ao (ah ay 0 (ae 2)))))))=E at *;simp[aA,a_,bN,bJ,bu,cmp,gl,aT,S.d]
def bS(L:List (List Int)):D:=.lst (L.map iL)
def sD(l:List (Nat×List Int)):List (bU×D):=l.map λx=>(Sum.inl (x.1:Int),iL x.2)
theorem A6:mB 6 < 2 ^ 320:=by decide
theorem sH{c:Nat}:∀ {d:Nat},c<=d->mB c<=mB d
 | 0,h=>by
  have e:c=0:=by omega
  rw[e];exact Wg _
 | d + 1,h=>by
  by_cases q:c=d + 1
  ·rw[q];exact Wg _
  ·exact Ws (sH (by omega)) (Gu d)
theorem GV(h:c<=6)(b:∀ i,(ak r i).natAbs<=mB c):∀ x ∈ r,x.natAbs < 2 ^ 320:=λx hx=>by
 obtain⟨i,hi,rfl⟩:=Qp hx;have e:ak r i=r[i]:=by unfold ak; rw[Wi,W4 hi]; rfl
 have h1:=b i;rw[e] at h1;exact Wx h1 (Wx (sH h) A6)
abbrev v8(R:D)(sl lf:Option S)(o3 o4 o5:Option S):Dl:=[some (.pure R),sl,lf,o3,o4,o5,none,none]
theorem T9{n c:Nat}(hc:c < n){L:List (List Int)}(hl:∀ r ∈ L,r.length=n)(A7:L.length<=26)(R:D)(sl lf o4 o5:Option S) :
  cU [6] (ag [] 6) (aB (aE eU (ah ay 6 (ae 3)) (ao (eD (.int 0))))) (aa 6) (L.map iL) (v8 R sl lf (some (.pure (.int (c:Int)))) o4 o5) [] = .ok ((L.filter λr=>ak r c != 0).map iL) (v8 R sl lf (some (.pure (.int (c:Int)))) o4 o5):=by
 have:=sC (cs:=[6]) (g:=ag [] 6) (t:=aB (aE eU (ah ay 6 (ae 3)) (ao (eD (.int 0))))) (el:=aa 6) iL iL (λr=>ak r c != 0) (v8 R sl lf (some (.pure (.int (c:Int)))) o4 o5) L [] (by rw[cW]; simp; omega) (λr hr=>by
  have i1:=nu (r:=r) (c:=c) (by rw[hl r hr]; exact hc);have q:=ka (ak r c) 0;refine⟨[some (.pure R),sl,lf,some (.pure (.int (c:Int))),o4,o5,some (.pure (iL r)),none],[some (.pure R),sl,lf,some (.pure (.int (c:Int))),o4,o5,some (.pure (iL r)),none],.pure (iL r),[some (.pure R),sl,lf,some (.pure (.int (c:Int))),o4,o5,some (.pure (iL r)),none],rfl,?_,rfl,?_,rfl,rfl⟩
  ·have e:(ak r c != 0) = !(ak r c == 0):=rfl;rw[e];generalize iL r=Q at *;generalize (ak r c == 0)=b at *;simp[aB,ah,aR,ae,i1,q]
  ·generalize iL r=Q at *;simp[aa])
 exact this
theorem T_{n c:Nat}(hc:c < n){L:List (List Int)}(hl:∀ r ∈ L,r.length=n)(A7:L.length<=26)(R:D)(sl lf o4 o5:Option S) :
  cU [6] (ag [] 6) (aB (aE bX (ah ay 6 (ae 3)) (ao (eD (.int 0))))) (aa 6) (L.map iL) (v8 R sl lf (some (.pure (.int (c:Int)))) o4 o5) [] = .ok ((L.filter λr=>ak r c == 0).map iL) (v8 R sl lf (some (.pure (.int (c:Int)))) o4 o5):=by
 have:=sC (cs:=[6]) (g:=ag [] 6) (t:=aB (aE bX (ah ay 6 (ae 3)) (ao (eD (.int 0))))) (el:=aa 6) iL iL (λr=>ak r c == 0) (v8 R sl lf (some (.pure (.int (c:Int)))) o4 o5) L [] (by rw[cW]; simp; omega) (λr hr=>by
  have i1:=nu (r:=r) (c:=c) (by rw[hl r hr]; exact hc);have q:=nt (ak r c) 0;refine⟨[some (.pure R),sl,lf,some (.pure (.int (c:Int))),o4,o5,some (.pure (iL r)),none],[some (.pure R),sl,lf,some (.pure (.int (c:Int))),o4,o5,some (.pure (iL r)),none],.pure (iL r),[some (.pure R),sl,lf,some (.pure (.int (c:Int))),o4,o5,some (.pure (iL r)),none],rfl,?_,rfl,?_,rfl,rfl⟩
  ·generalize iL r=Q at *;generalize (ak r c == 0)=b at *;simp[aB,ah,aR,ae,i1,q]
  ·generalize iL r=Q at *;simp[aa])
 exact this
abbrev jD:DE:=aA kH [.val (aa 6),.val (aa 5),.val (aa 3)]
theorem GW(hk:2 * k + 1<=8000)(hr:r.length=n)(hp:p.length=n)(hn:n<=26)(hc:c < n)(br:∀ x ∈ r,x.natAbs < 2 ^ k)(bp:∀ x ∈ p,x.natAbs < 2 ^ k)(R:D)(sl lf o4 o7:Option S) :
  ∃ s:S,s.d=iL (rc r p c)/\jD [some (.pure R),sl,lf,some (.pure (.int (c:Int))),o4,some (.pure (iL p)),some (.pure (iL r)),o7] = .ok s [some (.pure R),sl,lf,some (.pure (.int (c:Int))),o4,some (.pure (iL p)),some (.pure (iL r)),o7]:=by
 obtain⟨s,hs,g⟩:=T8 hk hr hp hn hc br bp;refine⟨s,hs,?_⟩;generalize iL r=Q at *;generalize iL p=P at *;simp[jD,aA,a_,bN,bJ,aa,bu,g,aT]
theorem Ua{k n c:Nat}(hk:2 * k + 1<=8000){p:List Int}(hp:p.length=n)(hn:n<=26)(hc:c < n)(bp:∀ x ∈ p,x.natAbs < 2 ^ k){L:List (List Int)}(hl:∀ r ∈ L,r.length=n)(bl:∀ r ∈ L,∀ x ∈ r,x.natAbs < 2 ^ k)(A7:L.length<=26)(R:D)(sl lf o4:Option S) :
  cU [6] (ag [] 6) aV jD (L.map iL) (v8 R sl lf (some (.pure (.int (c:Int)))) o4 (some (.pure (iL p)))) [] = .ok ((L.map λr=>rc r p c).map iL) (v8 R sl lf (some (.pure (.int (c:Int)))) o4 (some (.pure (iL p)))):=by
 have:=gC (cs:=[6]) (g:=ag [] 6) (t:=aV) (el:=jD) iL (λr=>iL (rc r p c)) (v8 R sl lf (some (.pure (.int (c:Int)))) o4 (some (.pure (iL p)))) L [] (by rw[cW]; simp; omega) (λr hr=>by
  obtain⟨s,hs,e⟩:=GW hk (hl r hr) hp hn hc (bl r hr) bp R sl lf o4 none;exact⟨_,_,s,_,rfl,rfl,e,rfl,hs⟩)
 rw[Wy];exact this
theorem GX:∀ l:List (Nat×List Int),kA (l.map λx=>D.tup [.int (x.1:Int),iL x.2])=some (sD l)
 | []=>rfl
 | x :: l=>by
  rw[Wu];simp only[kA,iT,GX l];rfl
theorem GY:∀ (kps acc:List (bU×D)),((acc ++ kps).map (·.1)).Nodup->mF kps acc=acc ++ kps
 | [],acc,_=>by simp[mF]
 | p :: r,acc,h=>by
  have hn:(acc.any λkv=>decide (kv.1=p.1))=false:=by
   rw[JN];intro kv hkv z;rw[Qh,Wu] at h;have:=(List.nodup_append.mp h).2.2 kv.1 (Wq.mpr ⟨kv,hkv,rfl⟩) p.1 Wj;exact this (by simpa using z)
  have e:putD acc p.1 p.2=acc ++ [p]:=by unfold putD; rw[hn]; simp
  show mF r (putD acc p.1 p.2)=_;rw[e,GY r (acc ++ [p]) (by simpa using h)];simp
theorem Ub(l:List (Nat×List Int))(h:(l.map (·.1)).Nodup):((sD l).map (·.1)).Nodup:=by
 have e:(sD l).map (·.1)=(l.map (·.1)).map λk:Nat=>(Sum.inl (k:Int):bU):=by
  unfold sD;rw[Wy,Wy]; rfl
 rw[e];exact List.Pairwise.map _ (λa b km z=>km (by injection z with z; omega)) h
theorem Uc(h:(l.map (·.1)).Nodup)(hl:l.length<=1000):mG (.lst (l.map λx=>D.tup [.int (x.1:Int),iL x.2]))=some (.own (.aC (sD l))):=by
 simp only[mG];rw[GX];show(if (sD l).length<=We then some (S.own (.aC (mF (sD l) []))) else none)=_;rw[if_pos (by rw[cW]; simp[sD]; omega),GY _ _ (by simpa using Ub l h)];rfl
theorem Ud(l:List (Nat×List Int)):pY (sD l)=l.map λx=>D.tup [.int (x.1:Int),iL x.2]:=by
 unfold pY sD;rw[Wy]; rfl
theorem Ue{l:List (Nat×List Int)}{c:Nat}{p:List Int}(h:∀ x ∈ l,x.1 < c):putD (sD l) (.inl (c:Int)) (iL p)=sD (l ++ [(c,p)]):=by
 unfold putD;rw[if_neg]
 ·unfold sD; rw[Qh]; rfl
 ·intro q;obtain⟨kv,h1,h2⟩:=List.any_eq_true.mp q;obtain⟨x,hx,rfl⟩:=Wq.mp h1;have:=h x hx;have e:(Sum.inl (x.1:Int):bU) = .inl (c:Int):=by simpa using h2
  injection e with e
  omega
abbrev sI:DE:=bD [6] (bG (aa 2)) (ag [] 6) (aB (aE eU (ah ay 6 (ae 3)) (ao (eD (.int 0))))) (aa 6)
abbrev vx:DE:=aE bI (bD [6] (bG (gk 4 (fP (eD (.int 1))) iN)) (ag [] 6) aV jD) (ao (bD [6] (bG (aa 2)) (ag [] 6) (aB (aE bX (ah ay 6 (ae 3)) (ao (eD (.int 0))))) (aa 6)))
abbrev vy:DE:=aH mG (ao (bD [7,6] (rX 1) (bV 2 (aQ (ag [] 7) (aQ (ag [] 6) b9))) aV (cD (aG (aa 7) (aG jD bB)))))
abbrev sB:DS:=(az (ax sI (ag [] 4)) (cE (aB (aE gx (aH bf (ae 4)) (ao (eD (.int 0))))) (az (ax (ah ay 4 (ao (eD (.int 0)))) (ag [] 5)) (az (ax vx (ag [] 2)) (az (ax vy (ag [] 1)) (pQ 1 (aa 3) (aa 5))))) cG))
theorem iB(h1:it δ = .ok ds δ1)(h2:cs.any (cj δ1)=false)(h3:cU cs g t el ds (bT cs δ1) [] = .ok acc δ2):bD cs it g t el δ = .ok (.own (.lst acc)) (dh cs δ1 δ2):=by
 rw[yw,h1];simp only[eB];rw[h2,h3];rfl
theorem GZ(L:List D)(s:S)(hs:s = .pure (.lst L)\/s = .own (.lst L))(R:D)(sl o3 o4 o5:Option S):bG (aa 2) (v8 R sl (some s) o3 o4 o5) = .ok L (v8 R sl (some (.pure (.lst L))) o3 o4 o5):=by
 rcases hs with rfl | rfl <;> simp[iy,aa,S.d]
theorem Ug{k n c:Nat}(hk:2 * k + 1<=8000){p:List Int}(hp:p.length=n)(hn:n<=26)(hc:c < n)(bp:∀ x ∈ p,x.natAbs < 2 ^ k){l:List (Nat×List Int)}(hl:∀ x ∈ l,x.2.length=n)(bl:∀ x ∈ l,∀ y ∈ x.2,y.natAbs < 2 ^ k)(A7:l.length<=26)(R:D)(sl lf o4:Option S) :
  cU [7,6] (bV 2 (aQ (ag [] 7) (aQ (ag [] 6) b9))) aV (cD (aG (aa 7) (aG jD bB))) (l.map λx=>D.tup [.int (x.1:Int),iL x.2]) (v8 R sl lf (some (.pure (.int (c:Int)))) o4 (some (.pure (iL p)))) [] = .ok ((l.map λx=>(x.1,rc x.2 p c)).map λx=>D.tup [.int (x.1:Int),iL x.2]) (v8 R sl lf (some (.pure (.int (c:Int)))) o4 (some (.pure (iL p)))):=by
 have:=gC (cs:=[7,6]) (g:=bV 2 (aQ (ag [] 7) (aQ (ag [] 6) b9))) (t:=aV) (el:=cD (aG (aa 7) (aG jD bB))) (λx:Nat×List Int=>D.tup [.int (x.1:Int),iL x.2]) (λx:Nat×List Int=>D.tup [.int (x.1:Int),iL (rc x.2 p c)]) (v8 R sl lf (some (.pure (.int (c:Int)))) o4 (some (.pure (iL p)))) l [] (by rw[cW]; simp; omega) (λx hx=>by
  obtain⟨s,hs,e⟩:=GW hk (hl x hx) hp hn hc (bl x hx) bp R sl lf o4 (some (.pure (.int (x.1:Int))));refine⟨[some (.pure R),sl,lf,some (.pure (.int (c:Int))),o4,some (.pure (iL p)),some (.pure (iL x.2)),some (.pure (.int (x.1:Int)))],_,.pure (.tup [.int (x.1:Int),iL (rc x.2 p c)]),[some (.pure R),sl,lf,some (.pure (.int (c:Int))),o4,some (.pure (iL p)),some (.pure (iL x.2)),some (.pure (.int (x.1:Int)))],rfl,rfl,?_,rfl,rfl⟩;rw[<- hs];generalize iL x.2=Q at *;generalize iL p=P at *;have e:jD [some (.pure R),sl,lf,some (.pure (.int (c:Int))),o4,some (.pure P),some (.pure Q),some (.pure (.int (x.1:Int)))] = .ok s [some (.pure R),sl,lf,some (.pure (.int (c:Int))),o4,some (.pure P),some (.pure Q),some (.pure (.int (x.1:Int)))]:=e;generalize jD=E at *;simp[aa,e])
 rw[Wy];exact this
theorem Uh{n c:Nat}(hn:n<=6)(hc:c < n){rows:List (List Int)}(XA:rows.length<=n){st:fA}(G:Gj n c (mB c) rows st)(R:D)(s2:S)(h2:s2 = .pure (bS st.2)\/s2 = .own (bS st.2))(o4 o5:Option S) :
  ∃ s2' q4 q5,(s2' = .pure (bS (kM c st).2)\/s2' = .own (bS (kM c st).2))/\sB (v8 R (some (.own (.aC (sD st.1)))) (some s2) (some (.pure (.int (c:Int)))) o4 o5) = .ok .next (v8 R (some (.own (.aC (sD (kM c st).1)))) (some s2') (some (.pure (.int (c:Int)))) q4 q5):=by
 have c2:st.2.length<=26:=by have:=G.ct; omega
 have c1:st.1.length<=26:=by
  have:=sA G.nd (ts:=W3 c) λx hx=>by
   obtain⟨y,hy,rfl⟩:=Wq.mp hx;exact WA.mpr (G.kc y hy)
  simp at this;omega
 have b1:∀ x ∈ st.1,∀ y ∈ x.2,y.natAbs < 2 ^ 320:=λx hx=>GV (by omega) (G.b1 x hx)
 have b2:∀ r ∈ st.2,∀ y ∈ r,y.natAbs < 2 ^ 320:=λr hr=>GV (by omega) (G.b2 r hr)
 have pk:=T9 hc G.l2 c2 R (some (.own (.aC (sD st.1)))) (some (.pure (bS st.2))) o4 o5;have e1:sI (v8 R (some (.own (.aC (sD st.1)))) (some s2) (some (.pure (.int (c:Int)))) o4 o5) = .ok (.own (.lst ((st.2.filter λr=>ak r c != 0).map iL))) (v8 R (some (.own (.aC (sD st.1)))) (some (.pure (bS st.2))) (some (.pure (.int (c:Int)))) o4 o5):=iB (GZ _ s2 h2 R _ _ _ _) rfl pk;have k1:ax sI (ag [] 4) (v8 R (some (.own (.aC (sD st.1)))) (some s2) (some (.pure (.int (c:Int)))) o4 o5) = .ok .next (v8 R (some (.own (.aC (sD st.1)))) (some (.pure (bS st.2))) (some (.pure (.int (c:Int)))) (some (.own (.lst ((st.2.filter λr=>ak r c != 0).map iL)))) o5):=by
  show(sI _).bind _=_;rw[e1];rfl
 unfold kM
 cases hf:st.2.filter (λr=>ak r c != 0) with
 | nil =>
  rw[hf] at k1;refine⟨.pure (bS st.2),some (.own (.lst [])),o5,.inl rfl,?_⟩;have k1:ax sI (ag [] 4) (v8 R (some (.own (.aC (sD st.1)))) (some s2) (some (.pure (.int (c:Int)))) o4 o5) = .ok .next (v8 R (some (.own (.aC (sD st.1)))) (some (.pure (bS st.2))) (some (.pure (.int (c:Int)))) (some (.own (.lst []))) o5):=k1;rw[sB,aZ k1];have gt:=gt_int 0 0;generalize bS st.2=Q at *;generalize sD st.1=W at *;have ln:bf (.lst [])=some (.pure (.int 0)):=rfl;simp[aB,ae,S.d,ln,gt]
 | cons p q =>
  rw[hf] at k1;have i_:∀ r,r ∈ p :: q->r ∈ st.2:=λr hr=>by rw[<- hf] at hr; exact(Qz.mp hr).1
  have hp:=i_ p Wj;have pl:=G.l2 p hp;have pb:=b2 p hp;have Ui:q.length<=26:=by
   have:=List.length_filter_le (λr=>ak r c != 0) st.2;rw[hf,WP] at this;omega
  have cl:=Ua (by decide:2 * 320 + 1<=8000) pl (by omega) hc pb (λr hr=>G.l2 r (i_ r (Wa _ hr))) (λr hr=>b2 r (i_ r (Wa _ hr))) Ui R (some (.own (.aC (sD st.1)))) (some (.pure (bS st.2))) (some (.own (.lst ((p :: q).map iL))));have zr:=T_ hc G.l2 c2 R (some (.own (.aC (sD st.1)))) (some (.pure (bS st.2))) (some (.own (.lst ((p :: q).map iL)))) (some (.pure (iL p)));have dc:=Ug (by decide:2 * 320 + 1<=8000) pl (by omega) hc pb G.l1 b1 c1 R none (some (.own (bS (q.map (λr=>rc r p c) ++ st.2.filter λr=>ak r c == 0)))) (some (.own (.lst ((p :: q).map iL))));rw[<- Ud] at dc;have dd:=Uc (l:=st.1.map λx=>(x.1,rc x.2 p c)) (by rw[Wy]; exact G.nd) (by simp; omega);have ps:=Ue (l:=st.1.map λx=>(x.1,rc x.2 p c)) (c:=c) (p:=p) (λx hx=>by
   obtain⟨y,hy,rfl⟩:=Wq.mp hx;exact G.kc y hy)
  refine⟨.own (bS (q.map (λr=>rc r p c) ++ st.2.filter λr=>ak r c == 0)),some (.own (.lst ((p :: q).map iL))),some (.pure (iL p)),.inr rfl,?_⟩;rw[sB,aZ k1];-- the test
  have ht:aB (aE gx (aH bf (ae 4)) (ao (eD (.int 0)))) (v8 R (some (.own (.aC (sD st.1)))) (some (.pure (bS st.2))) (some (.pure (.int (c:Int)))) (some (.own (.lst ((p :: q).map iL)))) o5) = .ok true (v8 R (some (.own (.aC (sD st.1)))) (some (.pure (bS st.2))) (some (.pure (.int (c:Int)))) (some (.own (.lst ((p :: q).map iL)))) o5):=by
   have ln:bf (.lst ((p :: q).map iL))=some (.pure (.int ((q.length + 1:Nat):Int))):=by simp[bf]
   have gt:=gt_int ((q.length + 1:Nat):Int) 0;rw[decide_eq_true (by omega)] at gt;generalize D.lst ((p :: q).map iL)=PQ at *;generalize bS st.2=Q at *;generalize sD st.1=W at *;generalize ((q.length + 1:Nat):Int)=z at *;simp[aB,ae,S.d,ln,gt]
  rw[yv,ht];simp only[eB,if_true];-- the pivot
  have kp:ax (ah ay 4 (ao (eD (.int 0)))) (ag [] 5) (v8 R (some (.own (.aC (sD st.1)))) (some (.pure (bS st.2))) (some (.pure (.int (c:Int)))) (some (.own (.lst ((p :: q).map iL)))) o5) = .ok .next (v8 R (some (.own (.aC (sD st.1)))) (some (.pure (bS st.2))) (some (.pure (.int (c:Int)))) (some (.own (.lst ((p :: q).map iL)))) (some (.pure (iL p)))):=by
   have ix:ay (.lst ((p :: q).map iL)) (.int 0)=some (.pure (iL p)):=by
    simp only[ay]; rw[rW]; rfl
   generalize D.lst ((p :: q).map iL)=PQ at *;generalize iL p=P at *;generalize bS st.2=Q at *;generalize sD st.1=W at *;simp[ax,ah,aR,ae,S.d,ix]
  rw[aZ kp];-- the rows that are left
  have i4:bG (gk 4 (fP (eD (.int 1))) iN) (v8 R (some (.own (.aC (sD st.1)))) (some (.pure (bS st.2))) (some (.pure (.int (c:Int)))) (some (.own (.lst ((p :: q).map iL)))) (some (.pure (iL p)))) = .ok (q.map iL) (v8 R (some (.own (.aC (sD st.1)))) (some (.pure (bS st.2))) (some (.pure (.int (c:Int)))) (some (.own (.lst ((p :: q).map iL)))) (some (.pure (iL p)))):=by
   have sl:iO (some 1) none (.lst ((p :: q).map iL))=some (.own (.lst (q.map iL))):=by
    have:cu ((p :: q).map iL) (some 1) none=q.map iL:=by
     unfold cu HT.aX;simp;exact Jm (by simp)
    simp only[iO,this]
   generalize D.lst ((p :: q).map iL)=PQ at *;generalize iL p=P at *;generalize bS st.2=Q at *;generalize sD st.1=W at *;generalize q.map iL=QL at *;simp[iy,gk,fP,ae,S.d,sl]
  have kl:ax vx (ag [] 2) (v8 R (some (.own (.aC (sD st.1)))) (some (.pure (bS st.2))) (some (.pure (.int (c:Int)))) (some (.own (.lst ((p :: q).map iL)))) (some (.pure (iL p)))) = .ok .next (v8 R (some (.own (.aC (sD st.1)))) (some (.own (bS (q.map (λr=>rc r p c) ++ st.2.filter λr=>ak r c == 0)))) (some (.pure (.int (c:Int)))) (some (.own (.lst ((p :: q).map iL)))) (some (.pure (iL p)))):=by
   have a1:=iB (cs:=[6]) (g:=ag [] 6) (t:=aV) (el:=jD) i4 rfl cl;have a2:=iB (cs:=[6]) (g:=ag [] 6) (t:=aB (aE bX (ah ay 6 (ae 3)) (ao (eD (.int 0))))) (el:=aa 6) (GZ _ (.pure (bS st.2)) (.inl rfl) R (some (.own (.aC (sD st.1)))) (some (.pure (.int (c:Int)))) (some (.own (.lst ((p :: q).map iL)))) (some (.pure (iL p)))) rfl zr;have ad:bI (.lst ((q.map λr=>rc r p c).map iL)) (.lst ((st.2.filter λr=>ak r c == 0).map iL))=some (.own (bS (q.map (λr=>rc r p c) ++ st.2.filter λr=>ak r c == 0))):=by
    have l1:=List.length_filter_le (λr=>ak r c == 0) st.2;unfold bS;simp only[bI];rw[if_pos (by rw[cW]; simp; omega),Qh]
   show(vx _).bind _=_;unfold vx;rw[yt,a1];simp only[eB,kE];have Uj:bD [6] (bG (aa 2)) (ag [] 6) (aB (aE bX (ah ay 6 (ae 3)) (ao (eD (.int 0))))) (aa 6) (dh [6] (v8 R (some (.own (.aC (sD st.1)))) (some (.pure (bS st.2))) (some (.pure (.int (c:Int)))) (some (.own (.lst ((p :: q).map iL)))) (some (.pure (iL p)))) (v8 R (some (.own (.aC (sD st.1)))) (some (.pure (bS st.2))) (some (.pure (.int (c:Int)))) (some (.own (.lst ((p :: q).map iL)))) (some (.pure (iL p)))))=_:=a2;rw[Uj];simp only[eB,yx,ow];rw[ad];rfl
  rw[aZ kl];-- the dict
  have kd:ax vy (ag [] 1) (v8 R (some (.own (.aC (sD st.1)))) (some (.own (bS (q.map (λr=>rc r p c) ++ st.2.filter λr=>ak r c == 0)))) (some (.pure (.int (c:Int)))) (some (.own (.lst ((p :: q).map iL)))) (some (.pure (iL p)))) = .ok .next (v8 R (some (.own (.aC (sD (st.1.map λx=>(x.1,rc x.2 p c)))))) (some (.own (bS (q.map (λr=>rc r p c) ++ st.2.filter λr=>ak r c == 0)))) (some (.pure (.int (c:Int)))) (some (.own (.lst ((p :: q).map iL)))) (some (.pure (iL p)))):=by
   have ii:rX 1 (v8 R (some (.own (.aC (sD st.1)))) (some (.own (bS (q.map (λr=>rc r p c) ++ st.2.filter λr=>ak r c == 0)))) (some (.pure (.int (c:Int)))) (some (.own (.lst ((p :: q).map iL)))) (some (.pure (iL p)))) = .ok (pY (sD st.1)) (v8 R none (some (.own (bS (q.map (λr=>rc r p c) ++ st.2.filter λr=>ak r c == 0)))) (some (.pure (.int (c:Int)))) (some (.own (.lst ((p :: q).map iL)))) (some (.pure (iL p)))):=rfl;have a1:=iB (cs:=[7,6]) (g:=bV 2 (aQ (ag [] 7) (aQ (ag [] 6) b9))) (t:=aV) (el:=cD (aG (aa 7) (aG jD bB))) ii rfl dc;show(vy _).bind _=_;unfold vy;rw[ox,kE,a1];simp only[eB,pV,ow];rw[dd];rfl
  rw[aZ kd];have hw:(sD (st.1.map λx=>(x.1,rc x.2 p c))).length < We:=by rw[cW]; simp[sD]; omega
  show pQ 1 (aa 3) (aa 5) _ = .ok .next (v8 R (some (.own (.aC (sD (st.1.map (λx=>(x.1,rc x.2 p c)) ++ [(c,p)]))))) _ _ _ _);rw[<- ps];generalize D.lst ((p :: q).map iL)=PQ at *;generalize iL p=P at *;generalize bS (q.map (λr=>rc r p c) ++ st.2.filter λr=>ak r c == 0)=Q at *;generalize sD (st.1.map λx=>(x.1,rc x.2 p c))=W at *;simp[pQ,oo,aa,S.d,iT,hw]
theorem Uk(hn:n<=6)(hr:rows.length=n)(hl:∀ r ∈ rows,r.length=n)(hb:∀ r ∈ rows,∀ i,(ak r i).natAbs<=16) :
  lG [.pure (bS rows)]=some (.own (.aC (sD (gJ rows n).1)),[.pure (bS rows)]):=by
 obtain⟨δ',e,I⟩:=j5 (g:=ag [] 3) (b:=sB) (λc δ=>c<=n->∃ s2 o3 o4 o5,(s2 = .pure (bS (gJ rows c).2)\/s2 = .own (bS (gJ rows c).2))/\δ=v8 (bS rows) (some (.own (.aC (sD (gJ rows c).1)))) (some s2) o3 o4 o5) (cx 0 n) 0 (v8 (bS rows) (some (.own (.aC []))) (some (.pure (bS rows))) none none none) (λ_=>⟨_,none,none,none,.inl rfl,rfl⟩) (λi d δ hd I=>by
   obtain⟨hi,rfl⟩:=xr hd;rw[QD] at I ⊢;obtain⟨s2,o3,o4,o5,h2,rfl⟩:=I (by omega);obtain⟨s2',q4,q5,h2',e⟩:=Uh hn hi (by omega) (vq hl hb i (by omega)) (bS rows) s2 h2 o4 o5;rw[Int.zero_add];exact⟨_,_,rfl,e,λ_=>⟨s2',_,q4,q5,h2',rfl⟩⟩)
 have hlen:0 + (cx 0 n).length=n:=by simp[cx]
 rw[hlen] at I;obtain⟨s2,o3,o4,o5,h2,rfl⟩:=I (Wg _);have ln:bf (bS rows)=some (.pure (.int (n:Int))):=by unfold bS; simp[bf,hr]
 have rn:=kF n (by omega);rw[lG,zQ];refine gu (δ1:=[some (.pure (bS rows)),none,some s2,o3,o4,o5,none,none]) ?_;generalize bS rows=Q at *;generalize sD (gJ rows n).1=W at *;rw[aZ (δ1:=[some (.pure Q),some (.own (.aC [])),none,none,none,none,none,none]) (by simp[bq,ax,rP])];rw[aZ (δ1:=v8 Q (some (.own (.aC []))) (some (.pure Q)) none none none) (by simp[ax,aa])];have iq:dD (aH bf (ae 0)) (v8 Q (some (.own (.aC []))) (some (.pure Q)) none none none) = .ok (cx 0 n) (v8 Q (some (.own (.aC []))) (some (.pure Q)) none none none):=by
  simp[ae,ln,rn]
 refine(aZ ((jC iq).trans e)).trans ?_;simp[mH]
def bO(bs:List (Nat×List Tx))(i j:Nat):Int:=((M bs ((bs.map (·.1)).getD i 0) ((bs.map (·.1)).getD j 0):Nat):Int)
def c_(bs:List (Nat×List Tx))(A:Int)(j:Nat):List Int:=((W3 bs.length).map λi=>bO bs i j).set j (bO bs j j - A)
theorem G1(n:Nat)(f:Nat->Int)(hi:i < n):ak ((W3 n).map f) i=f i:=by
 unfold ak;rw[Wi,Wh,WR hi]; rfl
theorem A8(hi:i < bs.length)(hj:j < bs.length):ak (c_ bs A j) i=bO bs i j - (if i=j then A else 0):=by
 unfold c_;by_cases q:i=j
 ·subst q;unfold ak;rw[Wi,Wb (by simpa using hi),if_pos rfl]; rfl
 ·have e:ak (((W3 bs.length).map λi=>bO bs i j).set j (bO bs j j - A)) i=ak ((W3 bs.length).map λi=>bO bs i j) i:=by
   unfold ak;rw[Wi,Wi,W5 (λz=>q z.symm)]
  rw[e,G1 _ _ hi,if_neg q]; omega
theorem G5(bs:List (Nat×List Tx))(i j:Nat):0<=bO bs i j:=by unfold bO; omega
section
variable {h w:Nat} {bs:List (Nat×List Tx)} (R:dQ h w bs)
theorem vz(hi:i < bs.length):(bs.map (·.1)).getD i 0 ∈ bs.map (·.1):=by
 rw[Wi,W4 (by simpa using hi)];exact WX _
include R
theorem Ul(hi:i < bs.length)(j:Nat):bO bs i j<=16:=by
 have:=GK R (vz hi) ((bs.map (·.1)).getD j 0);unfold bO; omega
theorem G6:(h:Int) * (w:Int)<=16/\0 < (h:Int) * (w:Int):=by
 have h0:=R.h0;have w0:=R.w0;have h4:=R.h1;have w4:=R.w1;have:h * w<=4 * 4:=Qe h4 w4;have p:0 < h * w:=Nat.mul_pos h0 w0;have e:((h * w:Nat):Int)=(h:Int) * (w:Int):=WQ _ _;omega
theorem vA(hj:j < bs.length):∀ i,(ak (c_ bs ((h:Int) * (w:Int)) j) i).natAbs<=16:=λi=>by
 by_cases hi:i < bs.length
 ·rw[A8 hi hj];have:=Ul R hi j;have:=G5 bs i j;have:=G6 R;split <;> omega
 ·rw[AV (by simp[c_]; omega)]; exact Qg _
theorem G7(hi:i < bs.length):sN bs.length (bO bs i)=(h:Int) * (w:Int):=by
 obtain⟨b,hb,e1,_,e2⟩:=vj (vz hi);obtain⟨b1,b2⟩:=R.oy b hb;have nd:=AO R;have cnt:∀ tx:Tx,(∀ n ∈ tx,n ∈ bs.map (·.1))->sN bs.length (λj=>((tx.count ((bs.map (·.1)).getD j 0):Nat):Int))=tx.length:=λtx=>by
  induction tx with
  | nil=>intro _; exact qg λj _=>by simp
  | cons x r ih =>
   intro hx;have Um:=hx x Wj;obtain⟨j0,hj0,ej⟩:=Qp Um;have Uo:j0 < bs.length:=by simpa using hj0
   have g0:(bs.map (·.1)).getD j0 0=x:=by
    rw[Wi,W4 hj0]; exact ej
   have e:sN bs.length (λj=>(((x :: r).count ((bs.map (·.1)).getD j 0):Nat):Int))=sN bs.length (λj=>((r.count ((bs.map (·.1)).getD j 0):Nat):Int)) + sN bs.length (λj=>if j=j0 then 1 else 0):=by
    rw[<- lI];refine g9 λj hj=>?_
    rw[List.count_cons];by_cases q:j=j0
    ·subst q; rw[g0]; simp
    ·have:¬ x=(bs.map (·.1)).getD j 0:=λz=>q (by
      have z2:(bs.map (·.1)).getD j 0=(bs.map (·.1)).getD j0 0:=by rw[<- z,g0]
      have pU:j < (bs.map (·.1)).length:=by simpa using hj
      rw[Wi,Wi,W4 pU,W4 hj0] at z2;have z3:(bs.map (·.1))[j]=(bs.map (·.1))[j0]:=z2;have up:=List.pairwise_iff_getElem.mp R.up;by_cases l1:j < j0
      ·have:=up j j0 pU hj0 l1; omega
      ·by_cases l2:j0 < j
       ·have:=up j0 j hj0 pU l2; omega
       ·omega)
     have e0:(x == (bs.map (·.1)).getD j 0)=false:=beq_false_of_ne this;rw[e0,if_neg q];simp
   rw[e,ih λn hn=>hx n (Wa _ hn),oQ (k:=j0) Uo (λi _ q=>by simp[q])];simp
 have e3:bO bs i=λj=>((b.2.flatten.count ((bs.map (·.1)).getD j 0):Nat):Int):=by
  funext j
  unfold bO M;rw[e2]
 rw[e3,cnt b.2.flatten λn hn=>by
  obtain⟨r,hr,hnr⟩:=List.mem_flatten.mp hn;exact(b2 r hr).2 n hnr]
 have fl:∀ (L:List Tx),(∀ r ∈ L,r.length=w)->L.flatten.length=L.length * w:=λL=>by
  induction L with
  | nil=>intro _; simp
  | cons a l ih =>
   intro hL;rw[Qx,Qi,ih λr hr=>hL r (Wa _ hr),hL a Wj,WP,Nat.add_mul]; omega
 rw[fl b.2 λr hr=>(b2 r hr).1,b1,WQ]
end
abbrev t7(ru tb ar:D)(rows:List D)(o4:Option S)(o5:Option S):Dl:=[some (.pure ru),some (.pure tb),some (.pure ar),some (.own (.lst rows)),o4,o5,none]
abbrev A9:DS:=(az (ax (bD [6] (bG (aa 1)) (ag [] 6) aV (ah ay 6 (ae 4))) (ag [] 5)) (az (gW 5 (aa 4) (aE gj (ah ay 5 (ae 4)) (ae 2))) (ft 3 (aa 5))))
theorem Up(R:dQ h w bs)(hj:j < bs.length)(rows:List D)(Tb:rows.length<=1000)(A:Int)(o5:Option S):∃ q5,A9 (t7 (au h w bs) (tb (bs.map (·.1)) (M bs)) (.int A) rows (some (.pure (.int (j:Int)))) o5) = .ok .next (t7 (au h w bs) (tb (bs.map (·.1)) (M bs)) (.int A) (rows ++ [iL (c_ bs A j)]) (some (.pure (.int (j:Int)))) q5):=by
 have n1:=R.n1;have hl:(bs.map (·.1)).length=bs.length:=by simp
 have c:=gC (cs:=[6]) (g:=ag [] 6) (t:=aV) (el:=ah ay 6 (ae 4)) (λt=>D.tup (c9 (bs.map (·.1)) (M bs t))) (λt=>D.int ((M bs t ((bs.map (·.1)).getD j 0):Nat):Int)) (t7 (au h w bs) (tb (bs.map (·.1)) (M bs)) (.int A) rows (some (.pure (.int (j:Int)))) o5) (bs.map (·.1)) [] (by rw[cW]; simp; omega) (λt ht=>by
  have ix:=TZ (bs.map (·.1)) (M bs t) (i:=j) (by omega);refine⟨[some (.pure (au h w bs)),some (.pure (tb (bs.map (·.1)) (M bs))),some (.pure (.int A)),some (.own (.lst rows)),some (.pure (.int (j:Int))),o5,some (.pure (.tup (c9 (bs.map (·.1)) (M bs t))))],_,.pure (.int ((M bs t ((bs.map (·.1)).getD j 0):Nat):Int)),[some (.pure (au h w bs)),some (.pure (tb (bs.map (·.1)) (M bs))),some (.pure (.int A)),some (.own (.lst rows)),some (.pure (.int (j:Int))),o5,some (.pure (.tup (c9 (bs.map (·.1)) (M bs t))))],rfl,rfl,?_,rfl,rfl⟩;generalize D.tup (c9 (bs.map (·.1)) (M bs t))=Q at *;generalize tb (bs.map (·.1)) (M bs)=TB at *;generalize au h w bs=ru at *;generalize ((M bs t ((bs.map (·.1)).getD j 0):Nat):Int)=x at *;simp[ah,aR,ae,ix])
 have eY:((bs.map (·.1)).map λt=>D.int ((M bs t ((bs.map (·.1)).getD j 0):Nat):Int))=((W3 bs.length).map λi=>bO bs i j).map D.int:=by
  rw[<- TY (λt=>D.int ((M bs t ((bs.map (·.1)).getD j 0):Nat):Int)),hl,Wy];rfl
 rw[eY] at c;have iq:bG (aa 1) (t7 (au h w bs) (tb (bs.map (·.1)) (M bs)) (.int A) rows (some (.pure (.int (j:Int)))) o5) = .ok ((bs.map (·.1)).map λt=>D.tup (c9 (bs.map (·.1)) (M bs t))) (t7 (au h w bs) (tb (bs.map (·.1)) (M bs)) (.int A) rows (some (.pure (.int (j:Int)))) o5):=by
  simp[iy,aa,S.d,tb]
 have cm:=iB (cs:=[6]) (g:=ag [] 6) (t:=aV) (el:=ah ay 6 (ae 4)) iq rfl c;have k1:ax (bD [6] (bG (aa 1)) (ag [] 6) aV (ah ay 6 (ae 4))) (ag [] 5) (t7 (au h w bs) (tb (bs.map (·.1)) (M bs)) (.int A) rows (some (.pure (.int (j:Int)))) o5) = .ok .next (t7 (au h w bs) (tb (bs.map (·.1)) (M bs)) (.int A) rows (some (.pure (.int (j:Int)))) (some (.own (iL ((W3 bs.length).map λi=>bO bs i j))))):=by
  show(bD _ _ _ _ _ _).bind _=_;rw[cm];rfl
 refine⟨some (.pure (iL (c_ bs A j))),?_⟩;rw[A9,aZ k1];have ix:=nu (r:=(W3 bs.length).map λi=>bO bs i j) (c:=j) (by simpa using hj);rw[G1 _ _ hj] at ix;have sb:gj (.int (bO bs j j)) (.int A)=some (.pure (.int (bO bs j j - A))):=rfl;have eS:(((W3 bs.length).map λi=>bO bs i j).map D.int).set j (.int (bO bs j j - A))=(c_ bs A j).map D.int:=by
  unfold c_;rw[List.map_set]
 have eI:iL ((W3 bs.length).map λi=>bO bs i j) = .lst (((W3 bs.length).map λi=>bO bs i j).map D.int):=rfl;have eJ:iL (c_ bs A j) = .lst ((c_ bs A j).map D.int):=rfl;have hN:dS (((W3 bs.length).map λi=>bO bs i j).map D.int).length (j:Int)=some j:=by
  unfold dS;rw[if_pos (by omega),if_pos (by simpa using hj)];simp
 have hz:rows.length < We:=by rw[cW]; omega
 rw[eI] at ix ⊢;rw[eJ];clear c iq cm k1 eY;generalize tb (bs.map (·.1)) (M bs)=TB at *;generalize au h w bs=ru at *;generalize (((W3 bs.length).map λi=>bO bs i j).map D.int)=X1 at *;generalize (c_ bs A j).map D.int=X2 at *;generalize bO bs j j - A=x2 at *;generalize bO bs j j=x1 at *;rw[aZ (δ1:=t7 ru TB (.int A) rows (some (.pure (.int (j:Int)))) (some (.own (.lst X2)))) (by
  simp[gW,gU,putL,aa,ah,aR,ae,S.d,ix,sb,hN,eS])]
 simp[ft,gU,putL,aa,S.d,hz]
theorem G8(R:dQ h w bs):iu [.pure (au h w bs)]=some (.own (bS ((W3 bs.length).map (c_ bs ((h:Int) * (w:Int))))),[.pure (au h w bs)]):=by
 have n1:=R.n1;have gt:=TX R;have w4:=R.w1;obtain⟨i0,i1,_⟩:=lJ h w bs;have ml:=mul_int (h:Int) (w:Int) (by omega) (by omega);generalize (h:Int) * (w:Int)=A at *;obtain⟨δ',e,o4,o5,rfl⟩:=j5 (g:=ag [] 4) (b:=A9) (λi δ=>∃ o4 o5,δ=t7 (au h w bs) (tb (bs.map (·.1)) (M bs)) (.int A) (((W3 i).map (c_ bs A)).map iL) o4 o5) (cx 0 bs.length) 0 (t7 (au h w bs) (tb (bs.map (·.1)) (M bs)) (.int A) [] none none) ⟨none,none,rfl⟩ (λi d δ hd ⟨o4,o5,e⟩=>by
  subst e;obtain⟨hi,rfl⟩:=xr hd;rw[QD,Int.zero_add];obtain⟨q5,e⟩:=Up R hi (((W3 i).map (c_ bs A)).map iL) (by simp; omega) A o5;refine⟨_,_,rfl,e,some (.pure (.int (i:Int))),q5,?_⟩;rw[List.range_succ,Qh,Qh];rfl)
 have hlen:0 + (cx 0 bs.length).length=bs.length:=by simp[cx]
 rw[hlen] at e;have ln:bf (tb (bs.map (·.1)) (M bs))=some (.pure (.int (bs.length:Int))):=by unfold tb; rw[oT]; simp
 have rn:=kF bs.length (by omega);rw[iu,zV];refine gu (δ1:=[some (.pure (au h w bs)),some (.pure (tb (bs.map (·.1)) (M bs))),some (.pure (.int A)),none,o4,o5,none]) ?_;have eR:bS ((W3 bs.length).map (c_ bs A)) = .lst (((W3 bs.length).map (c_ bs A)).map iL):=rfl;rw[eR];generalize ((W3 bs.length).map (c_ bs A)).map iL=Q at *;generalize tb (bs.map (·.1)) (M bs)=TB at *;generalize au h w bs=ru at *;rw[aZ (δ1:=[some (.pure ru),some (.pure TB),none,none,none,none,none]) (by simp[bq,ax,aA,a_,bN,bJ,aa,bu,gt,aT])];rw[aZ (δ1:=[some (.pure ru),some (.pure TB),some (.pure (.int A)),none,none,none,none]) (by simp[ax,ah,aR,ae,i0,i1,ml])];rw[aZ (δ1:=t7 ru TB (.int A) [] none none) (by simp[ax])];have iq:dD (aH bf (ae 1)) (t7 ru TB (.int A) [] none none) = .ok (cx 0 bs.length) (t7 ru TB (.int A) [] none none):=by
  simp[ae,ln,rn]
 refine(aZ ((jC iq).trans e)).trans ?_;simp[mH]
theorem Uq(s:fA)(c:Nat):gX (sD s.1) (.inl (c:Int))=(fo s c).map iL:=by
 unfold gX sD fo;rw[List.find?_map,Option.map_map,Option.map_map];have:((λkv:bU×D=>decide (kv.1 = .inl (c:Int))) ∘ λx:Nat×List Int=>((Sum.inl (x.1:Int):bU),iL x.2))=λx=>decide (x.1=c):=by
  funext x
  show decide ((Sum.inl (x.1:Int):bU) = .inl (c:Int))=decide (x.1=c);rw[Qq,decide_eq_true_eq,decide_eq_true_eq];exact⟨λz=>by injection z with z; omega,λz=>by rw[z]⟩
 rw[this];rfl
theorem Ur(s:fA)(c:Nat):jZ true (.int (c:Int)) (.aC (sD s.1))=some (.pure (.bl ((fo s c).isNone))):=by
 show some (S.pure (.bl (!(gX (sD s.1) (.inl (c:Int))).isSome)))=_;rw[Uq]
 cases fo s c <;> rfl
theorem G9(s:fA)(c:Nat):j7 (cM (sD s.1)) (.int (c:Int))=(fo s c).map iL:=by
 unfold j7 cM sD fo;rw[Wy,List.find?_map,Option.map_map,Option.map_map];have:((λq:D×D=>aK q.1 (.int (c:Int))) ∘ ((λp:bU×D=>(u4 p.1,p.2)) ∘ λx:Nat×List Int=>((Sum.inl (x.1:Int):bU),iL x.2)))=λx=>decide (x.1=c):=by
  funext x
  show((x.1:Int) == (c:Int))=decide (x.1=c);rw[Qq,beq_iff_eq,decide_eq_true_eq];omega
 rw[this];rfl
theorem G_(s:fA)(c:Nat):oC (va (.int (c:Int))) (cM (sD s.1)) (.int (c:Int))=true:=by
 have h0:va (.int (c:Int))=false:=rfl;rw[h0];unfold oC;have h1:(cM (sD s.1)).all (λq=>jx false q.1)=true:=by
  rw[Q5];intro q hq;unfold cM sD at hq;rw[Wy] at hq;obtain⟨x,_,rfl⟩:=Wq.mp hq;rfl
 rw[h1];rfl
theorem Us(s:fA)(c:Nat):oD false (.int (c:Int)) (.dic (cM (sD s.1)))=some (.pure (.bl ((fo s c).isSome))):=by
 simp only[oD,G_,if_true,G9]
 cases fo s c <;> rfl
theorem Ut(h:fo s c=some r):oE (.dic (cM (sD s.1))) (.int (c:Int))=some (.pure (iL r)):=by
 simp only[oE,G_,if_true,G9,h];rfl
def lK(t b:Int):D:=.tup [.int (t.fdiv (WI t b:Nat)),.int (b.fdiv (WI t b:Nat))]
theorem Uu(hk:k<=7000)(t b:Int)(hb:0 < b)(hB:b.natAbs < 2 ^ k):kI [.pure (.int t),.pure (.int b)]=some (.pure (lK t b),[.pure (.int t),.pure (.int b)]):=by
 have g:=sG t b hB (by omega);have gp:0 < WI t b:=Int.gcd_pos_of_ne_zero_right _ (by omega);have gl:WI t b<=b.natAbs:=Int.gcd_le_natAbs_right t (by omega);have hz:(((WI t b:Nat):Int)).natAbs < mM:=by
  have:2 ^ k<=2 ^ 8000:=WJ (by decide) (by omega);show _ < 2 ^ 8000;omega
 have d1:=mP t ((WI t b:Nat):Int) (by omega) hz;have d2:=mP b ((WI t b:Nat):Int) (by omega) hz;rw[kI,zX];unfold lK;generalize t.fdiv ((WI t b:Nat):Int)=x1 at *;generalize b.fdiv ((WI t b:Nat):Int)=x2 at *;generalize ((WI t b:Nat):Int)=gi at *;refine kO (δ1:=[some (.pure (.int t)),some (.pure (.int b)),some (.pure (.int gi))]) ?_;rw[aZ (δ1:=[some (.pure (.int t)),some (.pure (.int b)),some (.pure (.int gi))]) (by simp[bq,ax,aA,a_,bN,bJ,aa,bu,g,aT])];simp[ah,aR,ae,d1,d2]
abbrev fS(ru:D)(n:Nat)(sl fr:Option S)(w:Int)(o5 o6 o7 o8:Option S):Dl:=[some (.pure ru),some (.pure (.int (n:Int))),sl,fr,some (.pure (.int w)),o5,o6,o7,o8,none]
abbrev wB:DS:=ax (aE fz (ah cL 4 (ao (aH mL (ao (ah ay 6 (ae 5)))))) (ao (aA f_ [.val (aa 4),.val (ah ay 6 (ae 5))]))) (ag [] 4)
theorem Ha(hn:n<=6)(ru:D)(sl fr o7 o8:Option S):∀ (l:List (Nat×List Int)) (w e:Nat) (o5 o6:Option S),(∀ x ∈ l,x.1 < n/\x.2.length=n/\ak x.2 x.1≠0/\∀ y ∈ x.2,y.natAbs < 2 ^ 320)->0 < w->w<=2 ^ e->e + 320 * l.length<=6000->∃ q5 q6,
  forL (bV 2 (aQ (ag [] 5) (aQ (ag [] 6) b9))) wB (l.map λx=>D.tup [.int (x.1:Int),iL x.2]) (fS ru n sl fr (w:Int) o5 o6 o7 o8) = .ok .next (fS ru n sl fr ((wt l w:Nat):Int) q5 q6 o7 o8)
 | [],w,e,o5,o6,_,_,_,_=>⟨o5,o6,rfl⟩
 | x :: l,w,e,o5,o6,hl,hw,hwe,he=>by
  obtain⟨h1,h2,h3,h4⟩:=hl x Wj;have hx:(ak x.2 x.1).natAbs < 2 ^ 320:=h4 _ (vm (by omega));have lc:Jv w (ak x.2 x.1).natAbs<=2 ^ (e + 320):=by
   refine Ws (J5 _ _) ?_;rw[JT];exact Qe hwe (QC hx)
  rw[WP] at he;obtain⟨q5,q6,e2⟩:=Ha hn ru sl fr o7 o8 l (Jv w (ak x.2 x.1).natAbs) (e + 320) (some (.pure (.int (x.1:Int)))) (some (.pure (iL x.2))) (λy hy=>hl y (Wa _ hy)) (Nat.lcm_pos hw (by omega)) lc (by omega);refine⟨q5,q6,?_⟩;have ix:=nu (r:=x.2) (c:=x.1) (by omega);have ab:mL (.int (ak x.2 x.1))=some (.pure (.int ((ak x.2 x.1).natAbs:Int))):=by
   show some (S.pure (.int (if ak x.2 x.1 < 0 then -(ak x.2 x.1) else ak x.2 x.1)))=_;congr 3
   split <;> omega
  have w6:((w:Int)).natAbs < 2 ^ 6001:=by
   have:2 ^ e < 2 ^ 6001:=Je (by decide) (by omega);omega
  have x6:(((ak x.2 x.1).natAbs:Int)).natAbs < 2 ^ 6001:=by
   have:2 ^ 320<=2 ^ 6001:=WJ (by decide) (by decide);omega
  have ml:=qm (w:Int) ((ak x.2 x.1).natAbs:Int) w6 x6 (by decide);have g:=sG (w:Int) (ak x.2 x.1) hx (by decide);have gp:0 < WI (w:Int) (ak x.2 x.1):=Int.gcd_pos_of_ne_zero_right _ h3;have gl:WI (w:Int) (ak x.2 x.1)<=(ak x.2 x.1).natAbs:=Int.gcd_le_natAbs_right _ h3;have hz:(((WI (w:Int) (ak x.2 x.1):Nat):Int)).natAbs < mM:=by
   have:2 ^ 320<=2 ^ 8000:=WJ (by decide) (by decide);show _ < 2 ^ 8000;omega
  have dv:=mP ((w:Int) * ((ak x.2 x.1).natAbs:Int)) ((WI (w:Int) (ak x.2 x.1):Nat):Int) (by omega) hz;have el:((w:Int) * ((ak x.2 x.1).natAbs:Int)).fdiv ((WI (w:Int) (ak x.2 x.1):Nat):Int)=((Jv w (ak x.2 x.1).natAbs:Nat):Int):=by
   rw[<- WQ,<- JM];rfl
  rw[el] at dv;rw[Wu,sF (δ1:=fS ru n sl fr (w:Int) (some (.pure (.int (x.1:Int)))) (some (.pure (iL x.2))) o7 o8) (δ2:=fS ru n sl fr ((Jv w (ak x.2 x.1).natAbs:Nat):Int) (some (.pure (.int (x.1:Int)))) (some (.pure (iL x.2))) o7 o8) rfl (by
   clear el e2 hz gl gp lc;generalize ((Jv w (ak x.2 x.1).natAbs:Nat):Int)=y1 at *;generalize (w:Int) * ((ak x.2 x.1).natAbs:Int)=y2 at *;generalize ((WI (w:Int) (ak x.2 x.1):Nat):Int)=y3 at *;generalize ((ak x.2 x.1).natAbs:Int)=y4 at *;generalize ak x.2 x.1=y5 at *;generalize iL x.2=Q at *;generalize (w:Int)=wi at *;simp[wB,ax,ah,aR,ae,aa,S.d,ix,ab,ml,aA,a_,bN,bJ,bu,g,aT,dv])]
  exact e2
theorem Uv(h:fo s i=some r):(i,r) ∈ s.1:=by
 unfold fo at h;obtain⟨x,h1,h2⟩:=WG.mp h;have h3:=List.mem_of_find?_eq_some h1;have h4:x.1=i:=by simpa using List.find?_some h1
 rw[<- h2,<- h4];exact h3
theorem Uw:(fo s i).isNone=true ↔ ¬ eC s i:=by
 constructor
 ·rintro h ⟨r,hr⟩;unfold fo at h;rw[Option.isNone_iff_eq_none,Option.map_eq_none_iff] at h;have:=List.find?_eq_none.mp h _ hr;simp at this
 ·intro h;rw[Gz h]; rfl
def jE(bs:List (Nat×List Tx))(A:Int):List (List Int):=(W3 bs.length).map (c_ bs A)
abbrev fH(bs:List (Nat×List Tx))(A:Int):fA:=gJ (jE bs A) bs.length
section
variable {h w:Nat} {bs:List (Nat×List Tx)} (R:dQ h w bs) (h6:bs.length<=6)
include R
theorem Hb:Gj bs.length bs.length (mB bs.length) (jE bs ((h:Int) * (w:Int))) (fH bs ((h:Int) * (w:Int))):=by
 refine vq (λr hr=>?_) (λr hr=>?_) bs.length (Wg _)
 ·obtain⟨j,hj,rfl⟩:=Wq.mp hr;simp[c_]
 ·obtain⟨j,hj,rfl⟩:=Wq.mp hr;exact vA R (WA.mp hj)
omit R in
theorem Hc(v:Nat->Int)(A:Int):(∀ r ∈ jE bs A,dot bs.length (ak r) v=0) ↔ oR bs.length (bO bs) A v :=
 Ta (by simp[jE]) (λj hj i hi=>by
  have e:(jE bs A).getD j []=c_ bs A j:=by
   unfold jE;rw[Wi,Wh,WR hj]; rfl
  rw[e,A8 hi hj]) v
end
abbrev vB:DS:=(cE (aB (aE (oD false) (aa 5) (ae 2))) (az (ax (ah oE 2 (ae 5)) (ag [] 6)) (ft 7 (aE fz (aE cL (aH jr (ao (ah ay 6 (ao (ah ay 3 (ao (eD (.int 0)))))))) (ae 4)) (ao (ah ay 6 (ae 5)))))) (ft 7 (aa 4)))
theorem Ux:(2:Nat) ^ 320 < 2 ^ 2000/\(2:Nat) ^ 1920 < 2 ^ 2000:=⟨Je (by decide) (by decide),Je (by decide) (by decide)⟩
theorem Uy{n m:Nat}{gr:List (List Int)}{s:fA}(G:Gj n n m gr s)(hm:m < 2 ^ 320){f:Nat}(hf:f < n){w:Nat}(hw:w<=2 ^ 1920)(ru:D){i:Nat}(hi:i < n)(L:List D)(hL:L.length<=1000)(o6 o8:Option S):∃ q6,
  vB (fS ru n (some (.pure (.dic (cM (sD s.1))))) (some (.own (.lst [.int (f:Int)]))) (w:Int) (some (.pure (.int (i:Int)))) o6 (some (.own (.lst L))) o8) = .ok .next (fS ru n (some (.pure (.dic (cM (sD s.1))))) (some (.own (.lst [.int (f:Int)]))) (w:Int) (some (.pure (.int (i:Int)))) q6 (some (.own (.lst (L ++ [.int (vv s f w i)])))) o8):=by
 have vC:=Us s i;have hz:L.length < We:=by rw[cW]; omega
 cases hr:fo s i with
 | none =>
  rw[hr] at vC;have ev:vv s f w i=w:=by unfold vv; rw[hr]
  rw[ev];refine⟨o6,?_⟩;generalize D.dic (cM (sD s.1))=Q at *;generalize (w:Int)=wi at *;simp[vB,aB,aa,ae,S.d,vC,ft,gU,putL,hz]
 | some r =>
  rw[hr] at vC;have rV:=Uv hr;have hl:=G.l1 _ rV;have h0:=G.pv _ rV;have hb:=G.b1 _ rV;have ev:vv s f w i=(-(ak r f) * w).fdiv (ak r i):=by unfold vv; rw[hr]
  have ix:=Ut hr;have i6:=nu (r:=r) (c:=i) (by rw[hl]; exact hi);have Uz:=nu (r:=r) (c:=f) (by rw[hl]; exact hf);have i3:ay (.lst [.int (f:Int)]) (.int 0)=some (.pure (.int (f:Int))):=rfl;have ng:jr (.int (ak r f))=some (.pure (.int (-(ak r f)))):=rfl;obtain⟨p1,p2⟩:=Ux;have b1:(ak r f).natAbs < 2 ^ 2000:=J1 (Wx (hb f) hm) p1;have ml:=qm (k:=2000) (-(ak r f)) (w:Int) (by rw[Int.natAbs_neg]; exact b1) (by rw[Qs]; exact Wx hw p2) (by decide);have b2:(ak r i).natAbs < mM:=by
   have:2 ^ 320<=2 ^ 8000:=WJ (by decide) (by decide);show _ < 2 ^ 8000;exact Wv (Wx (hb i) hm) this
  have dv:=mP (-(ak r f) * (w:Int)) (ak r i) h0 b2;refine⟨some (.pure (iL r)),?_⟩;rw[ev];clear ev b1 b2;generalize (-(ak r f) * (w:Int)).fdiv (ak r i)=y0 at *;generalize -(ak r f) * (w:Int)=y1 at *;generalize -(ak r f)=y2 at *;generalize ak r f=y3 at *;generalize ak r i=y4 at *;generalize iL r=Q6 at *;generalize D.dic (cM (sD s.1))=Q at *;generalize (w:Int)=wi at *;simp[vB,aB,ax,aa,ae,ah,aR,S.d,vC,ix,i6,Uz,i3,ng,ml,dv,ft,gU,putL,hz]
def fI(s:fA)(n:Nat):List Nat:=(W3 n).filter λc=>(fo s c).isNone
theorem vD:c ∈ fI s n ↔ c < n/\¬ eC s c:=by
 unfold fI;rw[List.mem_filter,List.mem_range,Uw]
theorem UA(s:fA)(hn:n<=26)(ru:D):cU [5] (ag [] 5) (aB (aE (jZ true) (aa 5) (ae 2))) (aa 5) ((W3 n).map λk:Nat=>D.int (k:Int)) [some (.pure ru),some (.pure (.int (n:Int))),some (.own (.aC (sD s.1))),none,none,none,none,none,none,none] [] = .ok ((fI s n).map λk:Nat=>D.int (k:Int)) [some (.pure ru),some (.pure (.int (n:Int))),some (.own (.aC (sD s.1))),none,none,none,none,none,none,none]:=by
 have:=sC (cs:=[5]) (g:=ag [] 5) (t:=aB (aE (jZ true) (aa 5) (ae 2))) (el:=aa 5) (λk:Nat=>D.int (k:Int)) (λk:Nat=>D.int (k:Int)) (λc=>(fo s c).isNone) [some (.pure ru),some (.pure (.int (n:Int))),some (.own (.aC (sD s.1))),none,none,none,none,none,none,none] (W3 n) [] (by rw[cW]; simp; omega) (λc hc=>by
  have i1:=Ur s c;refine⟨[some (.pure ru),some (.pure (.int (n:Int))),some (.own (.aC (sD s.1))),none,none,some (.pure (.int (c:Int))),none,none,none,none],[some (.pure ru),some (.pure (.int (n:Int))),some (.own (.aC (sD s.1))),none,none,some (.pure (.int (c:Int))),none,none,none,none],.pure (.int (c:Int)),[some (.pure ru),some (.pure (.int (n:Int))),some (.own (.aC (sD s.1))),none,none,some (.pure (.int (c:Int))),none,none,none,none],rfl,?_,rfl,?_,rfl,rfl⟩
  ·generalize D.aC (sD s.1)=Q at *;generalize (fo s c).isNone=b at *;simp[aB,aa,ae,S.d,i1]
  ·simp[aa])
 exact this
theorem sJ(xs:List Int):gq (.lst (xs.map D.int))=some (.pure (.int xs.sum)):=by
 unfold gq;simp only[DV.ints_map]
theorem Hd(h:∀ i,i < n->(v i).natAbs<=B):(sN n v).natAbs<=n * B:=by
 have h1:=AU v n;have h2:sN n (λi=>((v i).natAbs:Int))<=sN n (λ_=>(B:Int)):=Gn λi hi=>by have:=h i hi; omega
 have h3:∀ n:Nat,sN n (λ_=>(B:Int))=((n * B:Nat):Int):=λn=>by
  induction n with
  | zero=>simp[sN]
  | succ n ih =>
   show sN n (λ_=>(B:Int)) + (B:Int)=_;rw[ih,Nat.add_mul]; omega
 rw[h3] at h2;omega
structure A_(bs:List (Nat×List Tx))(A:Int)(f:Nat)(v:Nat->Int):Prop where
 nn:∀ i,i < bs.length->0<=v i
 st:oR bs.length (bO bs) A v
 pos:0 < sN bs.length v
 le:∀ i,i < bs.length->(v i).natAbs<=2 ^ 960
theorem UB{h w:Nat}{bs:List (Nat×List Tx)}(R:dQ h w bs):(∀ x ∈ (fH bs ((h:Int) * (w:Int))).1,∀ i,(ak x.2 i).natAbs<=mB (fH bs ((h:Int) * (w:Int))).1.length)/\∀ r ∈ (fH bs ((h:Int) * (w:Int))).2,∀ i,(ak r i).natAbs<=mB (fH bs ((h:Int) * (w:Int))).1.length :=
 GD (λr hr=>by
  obtain⟨j,hj,rfl⟩:=Wq.mp hr;simp[c_]) (λr hr=>by
  obtain⟨j,hj,rfl⟩:=Wq.mp hr;exact vA R (WA.mp hj)) bs.length (Wg _)
theorem UC:mB 5 < 2 ^ 160:=by decide
theorem UD(R:dQ h w bs)(h6:bs.length<=6)(hf:f < bs.length)(fG:¬ eC (fH bs ((h:Int) * (w:Int))) f)(only:∀ j,j < bs.length->j≠f->eC (fH bs ((h:Int) * (w:Int))) j) :
  0 < wt (fH bs ((h:Int) * (w:Int))).1 1/\wt (fH bs ((h:Int) * (w:Int))).1 1<=2 ^ 1920/\(∀ x ∈ (fH bs ((h:Int) * (w:Int))).1,ak x.2 x.1 ∣ ((wt (fH bs ((h:Int) * (w:Int))).1 1:Nat):Int))/\A_ bs ((h:Int) * (w:Int)) f (vv (fH bs ((h:Int) * (w:Int))) f ((wt (fH bs ((h:Int) * (w:Int))).1 1:Nat):Int)):=by
 have G:=Hb R;have B:=(UB R).1;have hA:=(G6 R).2;have hr:∀ i,i < bs.length->sN bs.length (bO bs i)=(h:Int) * (w:Int):=λi hi=>G7 R hi
 have hk:=λv=>Hc (bs:=bs) v ((h:Int) * (w:Int))
 generalize (h:Int) * (w:Int)=A at *;generalize fH bs A=s at *;have UE:mB bs.length<=2 ^ 320:=QC (Wx (sH h6) A6);have ls:s.1.length<=6:=by
  have:=sA G.nd (ts:=W3 bs.length) λx hx=>by
   obtain⟨y,hy,rfl⟩:=Wq.mp hx;exact WA.mpr (G.kc y hy)
  simp at this;omega
 have wp:=GC s.1 1 (λx hx=>G.pv x hx) (by decide);have wl:wt s.1 1<=2 ^ 1920:=by
  have h1:=AZ (m:=2 ^ 320) s.1 1 λx hx=>Ws (G.b1 x hx x.1) UE
  rw[Nat.one_mul,<- Nat.pow_mul] at h1;exact Ws h1 (WJ (by decide) (by omega))
 have wd:∀ x ∈ s.1,ak x.2 x.1 ∣ ((wt s.1 1:Nat):Int):=λx hx=>by
  have:=(GB s.1 1).2 x hx;exact Int.natAbs_dvd_natAbs.mp (by rw[Qs]; exact this)
 have UG:s.1.length<=5:=by
  have:=sA (l:=f :: s.1.map (·.1)) (ts:=W3 bs.length) (List.nodup_cons.mpr ⟨λz=>by
   obtain⟨y,hy,e⟩:=Wq.mp z;exact fG ⟨y.2,by rw[<- e]; exact hy⟩,G.nd⟩) λx hx=>by
   rcases Wl.mp hx with rfl | hx
   ·exact WA.mpr hf
   ·obtain⟨y,hy,rfl⟩:=Wq.mp hx;exact WA.mpr (G.kc y hy)
  simp at this;omega
 have m5:mB s.1.length<=2 ^ 160:=QC (Wx (sH UG) UC);have He:wt s.1 1<=2 ^ 800:=by
  have h1:=AZ (m:=2 ^ 160) s.1 1 λx hx=>Ws (B x hx x.1) m5
  rw[Nat.one_mul,<- Nat.pow_mul] at h1;exact Ws h1 (WJ (by decide) (by omega))
 have nn:=Td G (G5 bs) hA hr hk hf fG only wd (by omega);refine⟨wp,wl,wd,nn,(hk _).mp (GA G hf fG only wd),?_,λi hi=>?_⟩
 ·have h1:=AR nn;by_cases q:sN bs.length (vv s f ((wt s.1 1:Nat):Int))=0
  ·have:=AS nn q f hf;rw[sy fG] at this;omega
  ·omega
 ·by_cases q:i=f
  ·subst q;rw[sy fG,Qs];exact Ws He (WJ (by decide) (by decide))
  ·obtain⟨r,kL⟩:=only i hi q;have e:=AY G (f:=f) kL (wd _ kL);have:=Gs (G.pv _ kL) e;refine Ws this ?_;rw[J0,Int.natAbs_neg,Qs,show 960=160 + 800 by decide,JT];exact Qe (Ws (B _ kL f) m5) He
theorem UH(h6:n<=6)(h:∀ i,i < n->(v i).natAbs<=2 ^ 2240):(sN n v).natAbs < 2 ^ 2250:=by
 have e:(2:Nat) ^ 2250=2 ^ 2240 * 2 ^ 10:=by rw[<- JT]
 have p:0 < (2:Nat) ^ 2240:=U1 _;rw[e];generalize (2:Nat) ^ 2240=X at *;have h1:=Hd (n:=n) (v:=v) h;have h2:n * X<=6 * X:=QR _ h6;omega
abbrev Ba:DS:=(az (ax (eD (.int 1)) (ag [] 4)) (az (er (r9 (r_ 2)) (bV 2 (aQ (ag [] 5) (aQ (ag [] 6) b9))) wB) (az (ax (eV bB) (ag [] 7)) (az (er (dD (aa 1)) (ag [] 5) vB) (az (ax (aH gq (ae 7)) (ag [] 8)) (bC (aH en (ao (bD [9] (bG (aa 7)) (ag [] 9) aV (aA kI [.val (aa 9),.val (aa 8)]))))))))))
def Hf(n:Nat)(v:Nat->Int):D:=.tup ((W3 n).map λi=>lK (v i) (sN n v))
def Hg:Nat:=2 ^ 320
def Hh:Nat:=2 ^ 1920
def UI:Nat:=2 ^ 2240
theorem UJ(G:Gj n n m gr s)(hm:m < Hg)(h6:n<=6)(hf:f < n)(wl:wt s.1 1<=Hh)(hV:vv s f ((wt s.1 1:Nat):Int)=v)(Kp:0 < sN n v)(Kl:∀ i,i < n->(v i).natAbs<=UI)(ru:D) :
  ∃ δ',Ba [some (.pure ru),some (.pure (.int (n:Int))),some (.own (.aC (sD s.1))),some (.own (.lst [.int (f:Int)])),none,none,none,none,none,none] = .ok (.ret (.pure (Hf n v))) δ':=by
 have hx:∀ x ∈ s.1,x.1 < n/\x.2.length=n/\ak x.2 x.1≠0/\∀ y ∈ x.2,y.natAbs < 2 ^ 320:=λx hx=>⟨G.kc x hx,G.l1 x hx,G.pv x hx,λy hy=>by
   obtain⟨i,hi,rfl⟩:=Qp hy;have e:ak x.2 i=x.2[i]:=by unfold ak; rw[Wi,W4 hi]; rfl
   have h1:=G.b1 x hx i;rw[e] at h1;exact Wx h1 hm⟩
 have ls:s.1.length<=6:=by
  have:=sA G.nd (ts:=W3 n) λx hx=>by
   obtain⟨y,hy,rfl⟩:=Wq.mp hx;exact WA.mpr (G.kc y hy)
  simp at this;omega
 obtain⟨q5,q6,e1⟩:=Ha (n:=n) (by omega) ru (some (.pure (.dic (cM (sD s.1))))) (some (.own (.lst [.int (f:Int)]))) none none s.1 1 0 none none hx (by decide) (by decide) (by omega);generalize hW:wt s.1 1=W at *;obtain⟨δ',e2,p5,p6,rfl⟩:=j5 (g:=ag [] 5) (b:=vB) (λi δ=>∃ p5 p6,δ=fS ru n (some (.pure (.dic (cM (sD s.1))))) (some (.own (.lst [.int (f:Int)]))) (W:Int) p5 p6 (some (.own (.lst (((W3 i).map v).map D.int)))) none) ((W3 n).map λk:Nat=>D.int (k:Int)) 0 (fS ru n (some (.pure (.dic (cM (sD s.1))))) (some (.own (.lst [.int (f:Int)]))) (W:Int) q5 q6 (some (.own (.lst []))) none) ⟨q5,q6,rfl⟩ (λi d δ hd ⟨p5,p6,e⟩=>by
  subst e;have hi:i < n:=by
   have:=(W6.mp hd).1;simpa using this
  have vK:d = .int (i:Int):=by
   rw[Wh,WR hi] at hd;simpa using hd.symm
  subst vK;rw[QD];obtain⟨z6,e⟩:=Uy G hm hf wl ru hi (((W3 i).map v).map D.int) (by simp; omega) p6 none;rw[hV] at e;refine⟨_,_,rfl,e,some (.pure (.int (i:Int))),z6,?_⟩;rw[List.range_succ,Qh,Qh];rfl)
 have hlen:0 + ((W3 n).map λk:Nat=>D.int (k:Int)).length=n:=by simp
 rw[hlen] at e2;have sm:=sJ ((W3 n).map v);rw[qj] at sm;have sb:=UH h6 Kl;have fr:=gC (cs:=[9]) (g:=ag [] 9) (t:=aV) (el:=aA kI [.val (aa 9),.val (aa 8)]) (λi:Nat=>D.int (v i)) (λi:Nat=>lK (v i) (sN n v)) (fS ru n (some (.pure (.dic (cM (sD s.1))))) (some (.own (.lst [.int (f:Int)]))) (W:Int) p5 p6 (some (.pure (.lst (((W3 n).map v).map D.int)))) (some (.pure (.int (sN n v))))) (W3 n) [] (by rw[cW]; simp; omega) (λi hi=>by
  have g:=Uu (k:=2250) (by decide) (v i) (sN n v) Kp sb;refine⟨[some (.pure ru),some (.pure (.int (n:Int))),some (.pure (.dic (cM (sD s.1)))),some (.own (.lst [.int (f:Int)])),some (.pure (.int (W:Int))),p5,p6,some (.pure (.lst (((W3 n).map v).map D.int))),some (.pure (.int (sN n v))),some (.pure (.int (v i)))],_,.pure (lK (v i) (sN n v)),[some (.pure ru),some (.pure (.int (n:Int))),some (.pure (.dic (cM (sD s.1)))),some (.own (.lst [.int (f:Int)])),some (.pure (.int (W:Int))),p5,p6,some (.pure (.lst (((W3 n).map v).map D.int))),some (.pure (.int (sN n v))),some (.pure (.int (v i)))],rfl,rfl,?_,rfl,rfl⟩;generalize lK (v i) (sN n v)=FR at *;generalize D.lst (((W3 n).map v).map D.int)=VL at *;generalize D.dic (cM (sD s.1))=Q at *;generalize sN n v=SS at *;generalize v i=vi at *;simp[aA,a_,bN,bJ,aa,bu,g,aT])
 have eM:((W3 n).map λi:Nat=>D.int (v i))=((W3 n).map v).map D.int:=by rw[Wy]; rfl
 rw[eM] at fr;have rn:=kF n (by omega);rw[show cx 0 n=(W3 n).map λk:Nat=>D.int (k:Int) from by unfold cx; simp] at rn;refine⟨fS ru n (some (.pure (.dic (cM (sD s.1))))) (some (.own (.lst [.int (f:Int)]))) (W:Int) p5 p6 (some (.pure (.lst (((W3 n).map v).map D.int)))) (some (.pure (.int (sN n v)))),?_⟩;unfold Ba;rw[aZ (δ1:=fS ru n (some (.own (.aC (sD s.1)))) (some (.own (.lst [.int (f:Int)]))) 1 none none none none) (by
  generalize D.lst [.int (f:Int)]=FF at *;generalize D.aC (sD s.1)=Q at *;simp[ax])]
 have it:r9 (r_ 2) (fS ru n (some (.own (.aC (sD s.1)))) (some (.own (.lst [.int (f:Int)]))) 1 none none none none) = .ok (s.1.map λx=>D.tup [.int (x.1:Int),iL x.2]) (fS ru n (some (.pure (.dic (cM (sD s.1))))) (some (.own (.lst [.int (f:Int)]))) 1 none none none none):=by
  have e:p_ (cM (sD s.1))=s.1.map λx=>D.tup [.int (x.1:Int),iL x.2]:=by
   unfold p_ cM sD;rw[Wy,Wy]; rfl
  rw[<- e];rfl
 rw[aZ ((jC it).trans e1)];rw[aZ (δ1:=fS ru n (some (.pure (.dic (cM (sD s.1))))) (some (.own (.lst [.int (f:Int)]))) (W:Int) q5 q6 (some (.own (.lst []))) none) (by
  generalize D.lst [.int (f:Int)]=FF at *;generalize D.dic (cM (sD s.1))=Q at *;simp[ax])]
 have i2:dD (aa 1) (fS ru n (some (.pure (.dic (cM (sD s.1))))) (some (.own (.lst [.int (f:Int)]))) (W:Int) q5 q6 (some (.own (.lst []))) none) = .ok ((W3 n).map λk:Nat=>D.int (k:Int)) (fS ru n (some (.pure (.dic (cM (sD s.1))))) (some (.own (.lst [.int (f:Int)]))) (W:Int) q5 q6 (some (.own (.lst []))) none):=by
  clear fr e2 e1 it;generalize D.lst [.int (f:Int)]=FF at *;generalize D.dic (cM (sD s.1))=Q at *;generalize ((W3 n).map λk:Nat=>D.int (k:Int))=LL at *;simp[aa,rn]
 rw[aZ ((jC i2).trans e2)];rw[aZ (δ1:=fS ru n (some (.pure (.dic (cM (sD s.1))))) (some (.own (.lst [.int (f:Int)]))) (W:Int) p5 p6 (some (.own (.lst (((W3 n).map v).map D.int)))) (some (.pure (.int (sN n v))))) (by
  clear fr e2 e1 it;generalize D.lst (((W3 n).map v).map D.int)=VL at *;generalize D.lst [.int (f:Int)]=FF at *;generalize D.dic (cM (sD s.1))=Q at *;generalize sN n v=SS at *;simp[ax,ae,S.d,sm])]
 have i7:bG (aa 7) (fS ru n (some (.pure (.dic (cM (sD s.1))))) (some (.own (.lst [.int (f:Int)]))) (W:Int) p5 p6 (some (.own (.lst (((W3 n).map v).map D.int)))) (some (.pure (.int (sN n v))))) = .ok (((W3 n).map v).map D.int) (fS ru n (some (.pure (.dic (cM (sD s.1))))) (some (.own (.lst [.int (f:Int)]))) (W:Int) p5 p6 (some (.pure (.lst (((W3 n).map v).map D.int)))) (some (.pure (.int (sN n v))))):=by
  clear fr e2 e1 it;generalize D.lst [.int (f:Int)]=FF at *;generalize D.dic (cM (sD s.1))=Q at *;generalize sN n v=SS at *;generalize ((W3 n).map v).map D.int=VL at *;simp[iy,aa,S.d]
 have cm:=iB (cs:=[9]) (g:=ag [] 9) (t:=aV) (el:=aA kI [.val (aa 9),.val (aa 8)]) i7 rfl fr;rw[yu,ox,kE,cm];rfl
theorem UK{s:fA}{n:Nat}(h6:n<=6)(ru BD:D){RW:D}(x2:ay ru (.int 2)=some (.pure BD))(ln:bf BD=some (.pure (.int (n:Int))))(Bb:iu [.pure ru]=some (.own RW,[.pure ru]))(rN:lG [.pure RW]=some (.own (.aC (sD s.1)),[.pure RW]))(d:D)(δ':Dl)(q:(az (cE (aB (aE gx (aH bf (ae 3)) (ao (eD (.int 1))))) (bC (eD .aI)) cG) Ba)
   [some (.pure ru),some (.pure (.int (n:Int))),some (.own (.aC (sD s.1))),some (.own (.lst ((fI s n).map λk:Nat=>D.int (k:Int)))),none,none,none,none,none,none] = .ok (.ret (.pure d)) δ'):j8 [.pure ru]=some (.pure d,[.pure ru]):=by
 have fc:=UA s (n:=n) (by omega) ru;have rn:=kF n (by omega);rw[show cx 0 n=(W3 n).map λk:Nat=>D.int (k:Int) from by unfold cx; simp] at rn;rw[j8,zY];refine gu (δ1:=δ') ?_;rw[aZ (δ1:=[some (.pure ru),some (.pure (.int (n:Int))),none,none,none,none,none,none,none,none]) (by
  clear fc q;simp[bq,ax,ah,aR,ae,x2,ln])]
 rw[aZ (δ1:=[some (.pure ru),some (.pure (.int (n:Int))),some (.own (.aC (sD s.1))),none,none,none,none,none,none,none]) (by
  clear fc q;generalize D.aC (sD s.1)=Q at *;simp[ax,aA,a_,bN,bJ,aa,bu,Bb,rN,aT,S.d])]
 have iq:dD (aa 1) [some (.pure ru),some (.pure (.int (n:Int))),some (.own (.aC (sD s.1))),none,none,none,none,none,none,none] = .ok ((W3 n).map λk:Nat=>D.int (k:Int)) [some (.pure ru),some (.pure (.int (n:Int))),some (.own (.aC (sD s.1))),none,none,none,none,none,none,none]:=by
  clear fc q;generalize D.aC (sD s.1)=Q at *;generalize ((W3 n).map λk:Nat=>D.int (k:Int))=LL at *;simp[aa,rn]
 have cm:=iB (cs:=[5]) (g:=ag [] 5) (t:=aB (aE (jZ true) (aa 5) (ae 2))) (el:=aa 5) iq rfl fc;rw[aZ (δ1:=[some (.pure ru),some (.pure (.int (n:Int))),some (.own (.aC (sD s.1))),some (.own (.lst ((fI s n).map λk:Nat=>D.int (k:Int)))),none,none,none,none,none,none]) (by
  show(bD _ _ _ _ _ _).bind _=_;rw[cm];rfl)]
 exact q
theorem UL{h w:Nat}{bs:List (Nat×List Tx)}(R:dQ h w bs)(h6:bs.length<=6) :
  (∃ f1 f2,f1 < bs.length/\f2 < bs.length/\f1≠f2/\¬ eC (fH bs ((h:Int) * (w:Int))) f1/\¬ eC (fH bs ((h:Int) * (w:Int))) f2/\j8 [.pure (au h w bs)]=some (.pure .aI,[.pure (au h w bs)])) \/
  (∃ f v,f < bs.length/\¬ eC (fH bs ((h:Int) * (w:Int))) f/\(∀ j,j < bs.length->j≠f->eC (fH bs ((h:Int) * (w:Int))) j)/\A_ bs ((h:Int) * (w:Int)) f v/\j8 [.pure (au h w bs)]=some (.pure (Hf bs.length v),[.pure (au h w bs)])):=by
 have G:=Hb R;have g1:=G8 R;have g2:=Uk (n:=bs.length) h6 (rows:=jE bs ((h:Int) * (w:Int))) (by simp[jE]) (λr hr=>by
  obtain⟨j,hj,rfl⟩:=Wq.mp hr;simp[c_]) (λr hr=>by
  obtain⟨j,hj,rfl⟩:=Wq.mp hr;exact vA R (WA.mp hj))
 have sf:=Tc G R.n0 (λi hi=>G7 R hi) (λv=>Hc (bs:=bs) v ((h:Int) * (w:Int)));have sh:=λf hf fG only=>UD R h6 (f:=f) hf fG only
 have x2:=(lJ h w bs).2.2;have ln:bf (.tup (bs.map cI))=some (.pure (.int (bs.length:Int))):=by rw[oT]; simp
 have Bb:iu [.pure (au h w bs)]=some (.own (bS (jE bs ((h:Int) * (w:Int)))),[.pure (au h w bs)]):=g1;have rN:lG [.pure (bS (jE bs ((h:Int) * (w:Int))))]=some (.own (.aC (sD (fH bs ((h:Int) * (w:Int))).1)),[.pure (bS (jE bs ((h:Int) * (w:Int))))]):=g2;clear g1 g2;generalize (h:Int) * (w:Int)=A at *;generalize bS (jE bs A)=RW at *;have hm:mB bs.length < Hg:=Wx (sH h6) A6;generalize fH bs A=s at *;generalize hnn:bs.length=n at *;generalize D.tup (bs.map cI)=BD at *;have dB:=λd δ' q=>UK (s:=s) (n:=n) h6 (au h w bs) BD x2 ln Bb rN d δ' q
 have lf:bf (.lst ((fI s n).map λk:Nat=>D.int (k:Int)))=some (.pure (.int ((fI s n).length:Int))):=by simp[bf]
 have gt:=gt_int ((fI s n).length:Int) 1;by_cases h1:1 < (fI s n).length
 ·obtain⟨f1,f2,r,hF⟩:∃ f1 f2 r,fI s n=f1 :: f2 :: r:=by
   match fI s n,h1 with
   | a :: b :: r,_=>exact⟨a,b,r,rfl⟩
   | [_],h=>simp at h
   | [],h=>simp at h
  have m1:=vD.mp (show f1 ∈ fI s n by rw[hF]; simp);have m2:=vD.mp (show f2 ∈ fI s n by rw[hF]; simp);have nd:(fI s n).Nodup:=List.Pairwise.filter _ List.nodup_range;refine .inl ⟨f1,f2,m1.1,m2.1,λz=>?_,m1.2,m2.2,dB .aI [some (.pure (au h w bs)),some (.pure (.int (n:Int))),some (.own (.aC (sD s.1))),some (.own (.lst ((fI s n).map λk:Nat=>D.int (k:Int)))),none,none,none,none,none,none] (fR ?_)⟩
  ·rw[hF,z] at nd; simp at nd
  ·rw[decide_eq_true (by omega)] at gt;clear dB hF;generalize D.lst ((fI s n).map λk:Nat=>D.int (k:Int))=FF at *;generalize D.aC (sD s.1)=Q at *;generalize au h w bs=ru at *;generalize ((fI s n).length:Int)=z at *;simp[aB,ae,S.d,lf,gt]
 ·obtain⟨f,hf,fG⟩:=sf;have fm:f ∈ fI s n:=vD.mpr ⟨hf,fG⟩;have hF:fI s n=[f]:=by
   match fI s n,h1,fm with
   | [a],_,m=>simp at m; rw[m]
   | [],_,m=>cases m
   | a :: b :: r,h,_=>simp at h
  have only:∀ j,j < n->j≠f->eC s j:=λj hj UM=>by
   by_cases z:eC s j
   ·exact z
   ·have:=vD.mpr ⟨hj,z⟩;rw[hF] at this;simp at this;exact absurd this UM
  obtain⟨_,wl0,_,K⟩:=sh f hf fG only;have wl:wt s.1 1<=Hh:=wl0;clear wl0;refine .inr ⟨f,vv s f ((wt s.1 1:Nat):Int),hf,fG,only,K,?_⟩;obtain⟨δ',e⟩:=UJ G hm h6 hf wl rfl (by have:=K.pos; rw[hnn] at this; exact this) (λi hi=>Ws (K.le i (by rw[hnn]; exact hi)) (show 2 ^ 960<=2 ^ 2240 from WJ (by decide) (by decide))) (au h w bs);refine dB _ δ' ?_;rw[hF];have UN:bf (.lst [.int (f:Int)])=some (.pure (.int 1)):=rfl;have UO:=gt_int 1 1;clear dB sh K gt lf;rw[aZ (δ1:=[some (.pure (au h w bs)),some (.pure (.int (n:Int))),some (.own (.aC (sD s.1))),some (.own (.lst [.int (f:Int)])),none,none,none,none,none,none])]
  ·exact e
  ·show cE _ _ _ [some (.pure (au h w bs)),some (.pure (.int (n:Int))),some (.own (.aC (sD s.1))),some (.own (.lst [.int (f:Int)])),none,none,none,none,none,none]=_;clear e;generalize D.lst [.int (f:Int)]=FF at *;generalize D.aC (sD s.1)=Q at *;generalize au h w bs=ru at *;simp[aB,ae,S.d,UN,UO]
def aF(v:Nat->Int)(W:Int)(i:Nat):Nat:=(v i).toNat / Qa (v i).toNat W.toNat
def bF(v:Nat->Int)(W:Int)(i:Nat):Nat:=W.toNat / Qa (v i).toNat W.toNat
theorem UP(h0:0<=v i)(hW:0 < W):lK (v i) W = .tup [.int (aF v W i:Nat),.int (bF v W i:Nat)]:=by
 obtain⟨a,ea⟩:=Jk h0;obtain⟨b,eb⟩:=Jk (show 0<=W by omega);unfold lK aF bF;rw[ea,eb];have e1:WI ((a:Nat):Int) ((b:Nat):Int)=Qa a b:=rfl;rw[e1];have f1:∀ x g:Nat,((x:Nat):Int).fdiv ((g:Nat):Int)=((x / g:Nat):Int):=λx g=>(JM x g).symm
 rw[f1,f1];simp only[Qy]
structure UQ(n:Nat)(X:Nat)(v:Nat->Int)(W:Int):Prop where
 one:∀ i,i < n->Qa (aF v W i) (bF v W i)=1
 pos:∀ i,i < n->0 < bF v W i
 ble:∀ i,i < n->bF v W i<=X
 UR:∀ i,i < n->aF v W i<=X
 XB:∀ i,i < n->aF v W i * W.toNat=(v i).toNat * bF v W i
theorem US(h0:∀ i,i < n->0<=v i)(hW:0 < W)(hX:W.toNat<=X)(hv:∀ i,i < n->(v i).toNat<=X):UQ n X v W:=by
 have gp:∀ i,0 < Qa (v i).toNat W.toNat:=λi=>Nat.gcd_pos_of_pos_right _ (by omega)
 refine⟨λi hi=>?_,λi hi=>?_,λi hi=>?_,λi hi=>?_,λi hi=>?_⟩
 ·exact Nat.gcd_div_gcd_div_gcd_of_pos_right (by omega)
 ·exact Nat.div_pos (Nat.le_of_dvd (by omega) (Nat.gcd_dvd_right ..)) (gp i)
 ·exact Ws (J5 _ _) hX
 ·exact Ws (J5 _ _) (hv i hi)
 ·unfold aF bF;have g:=gp i;have d1:=Nat.gcd_dvd_left (v i).toNat W.toNat;have d2:=Nat.gcd_dvd_right (v i).toNat W.toNat;generalize Qa (v i).toNat W.toNat=d at *;obtain⟨x,hx⟩:=d1;obtain⟨y,hy⟩:=d2;rw[hx,hy,QV _ g,QV _ g,JH d x,JV,Nat.mul_left_comm]
def pB(b:Nat->Nat):Nat->Nat
 | 0=>1
 | k + 1=>pB b k * b k
theorem Hi(h:∀ i,i < n->b i<=X):∀ k,k<=n->pB b k<=X ^ k
 | 0,_=>Wg _
 | k + 1,hk=>by
  rw[U0];exact Qe (Hi h k (by omega)) (h k (by omega))
abbrev lT:DT:=aB (ah gx 3 (ao (eD (.int 0))))
abbrev lB:DS:=kG [] 2 3 (aG (aa 3) (aG (ah fM 2 (ae 3)) bB))
abbrev l4(x y:D)(a b:Nat):Dl:=[some (.pure x),some (.pure y),some (.pure (.int (a:Int))),some (.pure (.int (b:Int)))]
theorem UT(a b:Nat)(h:0 < b):fM (.int (a:Int)) (.int (b:Int))=some (.pure (.int ((a % b:Nat):Int))):=by
 show(if decide (0 < (b:Int)) then some (S.pure (.int ((a:Int) % (b:Int)))) else none)=_;rw[decide_eq_true (by omega)];rfl
theorem Bc(x y:D)(a b:Nat)(h:0 < b)(n:Nat):eF lT lB (n + 1) (l4 x y a b)=eF lT lB n (l4 x y b (a % b)):=by
 have q:=gt_int (b:Int) 0;rw[decide_eq_true (by omega)] at q;have md:=UT a b h;refine GL (δ1:=l4 x y a b) ?_ ?_
 ·simp[lT,aB,ah,aR,ae,q]
 ·unfold l4;generalize ((a % b:Nat):Int)=c at *;simp[lB,kG,aa,ah,aR,ae,md]
theorem Be(x y:D)(a n:Nat):eF lT lB (n + 1) (l4 x y a 0) = .ok .next (l4 x y a 0):=by
 refine GN ?_;have q:=gt_int 0 0;simp[lT,aB,ah,aR,ae,q]
theorem Hj(x y:D):∀ (k a b f:Nat),b < 2 ^ k->2 * k + 1<=f->eF lT lB f (l4 x y a b) = .ok .next (l4 x y (Qa a b) 0)
 | 0,a,b,f,h,hf=>by
  obtain⟨f,rfl⟩:∃ j,f=j + 1:=⟨f - 1,by omega⟩
  have:b=0:=by simp at h; exact h
  subst this;rw[Nat.gcd_zero_right];exact Be x y a f
 | k + 1,a,b,f,h,hf=>by
  obtain⟨f,rfl⟩:∃ j,f=j + 1 + 1 + 1:=⟨f - 3,by omega⟩
  by_cases hb:b=0
  ·subst hb;rw[Nat.gcd_zero_right];exact Be x y a _
  ·have g1:Qa a b=Qa b (a % b):=by rw[Nat.gcd_comm a b,Nat.gcd_rec b a,Nat.gcd_comm]
   by_cases hr:a % b=0
   ·rw[Bc x y a b (by omega),hr,Be,g1,hr,Nat.gcd_zero_right]
   ·have bx:=Nat.mod_lt a (show 0 < b by omega);have g2:Qa b (a % b)=Qa (a % b) (b % (a % b)):=by rw[Nat.gcd_comm b,Nat.gcd_rec (a % b) b,Nat.gcd_comm]
    have h2:b % (a % b) < 2 ^ k:=by
     have m1:=Nat.mod_lt b (show 0 < a % b by omega);have m2:b % (a % b)<=b - a % b:=by
      rw[Nat.mod_eq_sub_mod (by omega)];exact Nat.mod_le _ _
     rw[U0] at h;omega
    rw[Bc x y a b (by omega),Bc x y b (a % b) (by omega),Hj x y k (a % b) (b % (a % b)) (f + 1) h2 (by omega),g1,g2]
def cT:Nat:=2 ^ 1000
def cb:Nat:=2 ^ 16000
theorem UU:cT ^ 7 < cb:=by
 show(2 ^ 1000) ^ 7 < 2 ^ 16000;rw[<- Nat.pow_mul];exact Je (by decide) (by decide)
theorem UW:0 < cT:=U1 1000
theorem oU(h:k<=7):cT ^ k < cb:=Wx (WJ UW h) UU
theorem vE:cT < cb:=by have:=oU (k:=1) (by decide); rwa [Nat.pow_one] at this
theorem Bf:cT < mM:=by
 show 2 ^ 1000 < 2 ^ 8000;exact Je (by decide) (by decide)
inductive Sc:D->Prop
 | int (i:Int):i.natAbs < cT->Sc (.int i)
 | bl (b:Bool):Sc (.bl b)
 | str (x:Tx):Sc (.str x)
inductive El:D->Prop
 | two {x y:D}:Sc x->Sc y->El (.tup [x,y])
 | one (x:D):El (.tup [x])
 | aI:El .aI
 | lst (xs:List D):El (.lst xs)
 | int (i:Int):El (.int i)
def wf(k:Int):D->Bool
 | .int i=>decide (k<=i)
 | _=>false
def bW:D->Bool
 | .tup [.int a,.int b]=>decide (0<=a) && (decide (1<=b) && decide (WI a b=1))
 | _=>false
theorem Hk(h:Sc a)(k:Int):m_ [.pure a,.pure (.int k)]=some (.pure (.bl (wf k a)),[.pure a,.pure (.int k)]):=by
 rw[m_,z7];refine kO (δ1:=[some (.pure a),some (.pure (.int k))]) ?_
 cases h with
 | int i hi =>
  have:=le_int k i;simp[bq,fV,nS,cP,fk,ae,S.d,wf,ah,aR,this]
 | _=>simp[bq,fV,nS,cP,fk,ae,S.d,wf]
def wh:D->Bool
 | .int _=>true
 | _=>false
theorem Hl(h:Sc a):gH [.pure a]=some (.pure (.bl (wh a)),[.pure a]):=by
 rw[gH,Aa];refine gu (δ1:=[some (.pure a)]) ?_
 cases h <;> simp[bq,fV,nS,cP,fk,ae,S.d,wh]
theorem UX(a b:Nat)(hb:b < cT):nc [.pure (.int (a:Int)),.pure (.int (b:Int))]=some (.pure (.bl (decide (Qa a b=1))),[.pure (.int (a:Int)),.pure (.int (b:Int))]):=by
 have e:=Hj (.int (a:Int)) (.int (b:Int)) 1000 a b 1000000 hb (by omega);rw[nc,Ac];refine kO (δ1:=l4 (.int (a:Int)) (.int (b:Int)) (Qa a b) 0) ?_;rw[aZ (δ1:=l4 (.int (a:Int)) (.int (b:Int)) a b) (by
  simp[bq,kG,aa])]
 rw[aZ e];have q:=nt ((Qa a b:Nat):Int) 1;have e2:(((Qa a b:Nat):Int) == 1)=decide (Qa a b=1):=by
  rw[Qq,beq_iff_eq,decide_eq_true_eq]; omega
 rw[e2] at q;unfold l4;generalize ((Qa a b:Nat):Int)=g at *;generalize decide (Qa a b=1)=bb at *;simp[ah,aR,ae,q]
theorem UY(a b:Int):bX (.int ((WI a b:Nat):Int)) (.int 1)=some (.pure (.bl (decide (WI a b=1)))):=by
 rw[nt];have:(((WI a b:Nat):Int) == 1)=decide (WI a b=1):=by
  rw[Qq,beq_iff_eq,decide_eq_true_eq]; omega
 rw[this]
theorem UZ(x y:D):bW (.tup [x,y])=(wf 0 x && (wf 1 y && (match x,y with
 | .int a,.int b=>decide (WI a b=1)
 | _,_=>false))):=by
 cases x <;> cases y <;> simp[bW,wf]
theorem U2(h:El d):jy [.pure d]=some (.pure (.bl (bW d)),[.pure d]):=by
 rw[jy,z8]
 cases h with
 | @two x y hx hy =>
  have f0:=Hk hx 0;have f1:=Hk hy 1;have l2:bf (.tup [x,y])=some (.pure (.int 2)):=rfl;have n2:=ka 2 2;refine gu (δ1:=[some (.pure (.tup [x,y])),some (.pure x),some (.pure y)]) ?_;rw[aZ (δ1:=[some (.pure (.tup [x,y])),none,none]) (by simp[bq,aB,cP,fk,ae,S.d,l2,n2])];rw[aZ (δ1:=[some (.pure (.tup [x,y])),some (.pure x),some (.pure y)]) (by simp[ax,aa,bV,aQ,b9,S.d])];rw[UZ]
  cases h0:wf 0 x with
  | false =>
   rw[h0] at f0;generalize D.tup [x,y]=d at *;simp[fV,aA,a_,bN,bJ,aa,bu,f0,aT]
  | true =>
   rw[h0] at f0
   cases h1:wf 1 y with
   | false =>
    rw[h1] at f1;generalize D.tup [x,y]=d at *;simp[fV,aA,a_,bN,bJ,aa,bu,f0,f1,aT]
   | true =>
    rw[h1] at f1
    cases hx with
    | int a ha =>
     cases hy with
     | int b hb =>
      have g:=sG (k:=1000) a b hb (by decide);have q:=UY a b;generalize D.tup [.int a,.int b]=d at *;generalize ((WI a b:Nat):Int)=gi at *;simp[fV,aA,a_,bN,bJ,aa,bu,f0,f1,g,aT,S.d,q]
     | _=>simp[wf] at h1
    | _=>simp[wf] at h0
 | one x =>
  have l1:bf (.tup [x])=some (.pure (.int 1)):=rfl;have n1:=ka 1 2;refine gu (δ1:=[some (.pure (.tup [x])),none,none]) (fR ?_);simp[bq,aB,cP,fk,ae,S.d,l1,n1,bW]
 | aI=>exact gu (δ1:=[some (.pure .aI),none,none]) (fR (by simp[bq,aB,cP,fk,ae,S.d,bW]))
 | lst xs=>exact gu (δ1:=[some (.pure (.lst xs)),none,none]) (fR (by simp[bq,aB,cP,fk,ae,S.d,bW]))
 | int i=>exact gu (δ1:=[some (.pure (.int i)),none,none]) (fR (by simp[bq,aB,cP,fk,ae,S.d,bW]))
theorem Hm(i j:Int):rh (.int i) (.int j)=some (.pure (.bl (decide (j<=i)))):=rfl
theorem U3(h:El d):jA [.pure d]=some (.pure (.bl (bW d)),[.pure d]):=by
 rw[jA,Ae]
 cases h with
 | @two x y hx hy =>
  have f0:=Hl hx;have f1:=Hl hy;have l2:bf (.tup [x,y])=some (.pure (.int 2)):=rfl;have n2:=ka 2 2;have ty:fk "tuple" (.tup [x,y])=some true:=rfl;have i0:ay (.tup [x,y]) (.int 0)=some (.pure x):=rfl;have i1:ay (.tup [x,y]) (.int 1)=some (.pure y):=rfl;refine gu (δ1:=[some (.pure (.tup [x,y]))]) ?_
  cases hx with
  | int a ha =>
   cases hy with
   | int b hb =>
    have f0:gH [.pure (.int a)]=some (.pure (.bl true),[.pure (.int a)]):=f0;have f1:gH [.pure (.int b)]=some (.pure (.bl true),[.pure (.int b)]):=f1;have g0:=Hm a 0;have g1:=Hm b 1;have eg:bW (.tup [.int a,.int b])=(decide (0<=a) && (decide (1<=b) && decide (WI a b=1))):=rfl;rw[eg];by_cases h0:0<=a
    ·by_cases h1:1<=b
     ·obtain⟨a',ea⟩:=Jk h0;obtain⟨b',eb⟩:=Jk (show 0<=b by omega);have vk:b' < cT:=by have:=hb; rw[eb] at this; exact this
      have lw:=UX a' b' vk;have eI:WI a b=Qa a' b':=by rw[ea,eb]; rfl
      have lw:nc [.pure (.int a),.pure (.int b)]=some (.pure (.bl (decide (WI a b=1))),[.pure (.int a),.pure (.int b)]):=by rw[eI,ea,eb]; exact lw
      rw[decide_eq_true h0] at g0 ⊢;rw[decide_eq_true h1] at g1 ⊢;generalize D.tup [.int a,.int b]=d at *;generalize decide (WI a b=1)=bb at *;simp[bq,aB,cP,ty,ae,S.d,l2,n2,aA,a_,bN,bJ,bu,ah,aR,i0,i1,f0,f1,aT,fV,g0,g1,lw]
     ·rw[decide_eq_true h0] at g0 ⊢;rw[decide_eq_false h1] at g1 ⊢;generalize D.tup [.int a,.int b]=d at *;simp[bq,aB,cP,ty,ae,S.d,l2,n2,aA,a_,bN,bJ,bu,ah,aR,i0,i1,f0,f1,aT,fV,g0,g1]
    ·rw[decide_eq_false h0] at g0 ⊢;generalize D.tup [.int a,.int b]=d at *;simp[bq,aB,cP,ty,ae,S.d,l2,n2,aA,a_,bN,bJ,bu,ah,aR,i0,i1,f0,f1,aT,fV,g0]
   | bl b =>
    have f1:gH [.pure (.bl b)]=some (.pure (.bl false),[.pure (.bl b)]):=f1;have f0:gH [.pure (.int a)]=some (.pure (.bl true),[.pure (.int a)]):=f0;have eg:bW (.tup [.int a,.bl b])=false:=rfl;rw[eg];generalize D.tup [.int a,.bl b]=d at *;simp[bq,aB,cP,ty,ae,S.d,l2,n2,aA,a_,bN,bJ,bu,ah,aR,i0,i1,f0,f1,aT]
   | str b =>
    have f1:gH [.pure (.str b)]=some (.pure (.bl false),[.pure (.str b)]):=f1;have f0:gH [.pure (.int a)]=some (.pure (.bl true),[.pure (.int a)]):=f0;have eg:bW (.tup [.int a,.str b])=false:=rfl;rw[eg];generalize D.tup [.int a,.str b]=d at *;simp[bq,aB,cP,ty,ae,S.d,l2,n2,aA,a_,bN,bJ,bu,ah,aR,i0,i1,f0,f1,aT]
  | bl a =>
   have f0:gH [.pure (.bl a)]=some (.pure (.bl false),[.pure (.bl a)]):=f0;have eg:bW (.tup [.bl a,y])=false:=rfl;rw[eg];generalize D.tup [.bl a,y]=d at *;simp[bq,aB,cP,ty,ae,S.d,l2,n2,aA,a_,bN,bJ,bu,ah,aR,i0,i1,f0,aT]
  | str a =>
   have f0:gH [.pure (.str a)]=some (.pure (.bl false),[.pure (.str a)]):=f0;have eg:bW (.tup [.str a,y])=false:=rfl;rw[eg];generalize D.tup [.str a,y]=d at *;simp[bq,aB,cP,ty,ae,S.d,l2,n2,aA,a_,bN,bJ,bu,ah,aR,i0,i1,f0,aT]
 | one x =>
  have l1:bf (.tup [x])=some (.pure (.int 1)):=rfl;have n1:=ka 1 2;refine gu (δ1:=[some (.pure (.tup [x]))]) (fR ?_);simp[bq,aB,cP,fk,ae,S.d,l1,n1,bW]
 | aI=>exact gu (δ1:=[some (.pure .aI)]) (fR (by simp[bq,aB,cP,fk,ae,S.d,bW]))
 | lst xs=>exact gu (δ1:=[some (.pure (.lst xs))]) (fR (by simp[bq,aB,cP,fk,ae,S.d,bW]))
 | int i=>exact gu (δ1:=[some (.pure (.int i))]) (fR (by simp[bq,aB,cP,fk,ae,S.d,bW]))
def lc(b:Nat->Nat):Nat->Nat
 | 0=>1
 | k + 1=>Jv (lc b k) (b k)
theorem Hn(b:Nat->Nat):∀ n,i < n->b i ∣ lc b n
 | 0,h=>by omega
 | n + 1,h=>by
  show b i ∣ Jv (lc b n) (b n);by_cases q:i=n
  ·subst q; exact Nat.dvd_lcm_right ..
  ·exact Nat.dvd_trans (Hn b n (by omega)) (Nat.dvd_lcm_left ..)
theorem Bg(b:Nat->Nat):∀ n,lc b n ∣ pB b n
 | 0=>Nat.dvd_refl _
 | n + 1=>by
  show Jv (lc b n) (b n) ∣ pB b n * b n;exact Nat.lcm_dvd (Nat.dvd_trans (Bg b n) (Nat.dvd_mul_right _ _)) (Nat.dvd_mul_left _ _)
theorem Bh(h:∀ i,i < n->0 < b i):∀ k,k<=n->0 < pB b k
 | 0,_=>Nat.one_pos
 | k + 1,hk=>Nat.mul_pos (Bh h k (by omega)) (h k (by omega))
theorem Ho(h:∀ i,i < n->0 < b i):∀ k,k<=n->0 < lc b k
 | 0,_=>Nat.one_pos
 | k + 1,hk=>Nat.lcm_pos (Ho h k (by omega)) (h k (by omega))
structure Ab(n:Nat)(a b:Nat->Nat):Prop where
 al:∀ i,i < n->a i < cT
 bl:∀ i,i < n->b i < cT
 b0:∀ i,i < n->0 < b i
section
variable {n:Nat} {a b:Nat->Nat} (N:Ab n a b) (h6:n<=6)
include N
theorem vF:∀ k,k<=n->pB b k<=cT ^ k:=λk hk=>Hi (λi hi=>QC (N.bl i hi)) k hk
theorem Bi(k:Nat)(hk:k<=n):lc b k<=cT ^ k:=by
 refine Ws (Nat.le_of_dvd ?_ (Bg b k)) (vF N k hk);exact Bh N.b0 k hk
def wF(a b:Nat->Nat)(n i:Nat):Nat:=a i * (lc b n / b i)
def cp(a b:Nat->Nat)(n i:Nat):Nat:=a i * pB b n / b i
theorem tw(hi:i < n):cp a b n i=wF a b n i * (pB b n / lc b n)/\pB b n=lc b n * (pB b n / lc b n)/\0 < pB b n / lc b n:=by
 obtain⟨c,hc⟩:=Hn b n hi;obtain⟨k,hk⟩:=Bg b n;have b0:=N.b0 i hi;have l0:=Ho N.b0 n (Wg _);have p0:=Bh N.b0 n (Wg _);have ek:pB b n / lc b n=k:=by rw[hk,QV _ l0]
 have k0:0 < k:=by
  rcases Nat.eq_zero_or_pos k with z | z
  ·rw[z,Nat.mul_zero] at hk; omega
  ·exact z
 refine⟨?_,by rw[ek]; exact hk,by rw[ek]; exact k0⟩;unfold cp wF;rw[ek,hk,hc,QV _ b0,JV (b i),Nat.mul_left_comm,QV _ b0,JV]
include h6
theorem U4(hi:i < n):wF a b n i < cb:=by
 refine Wx (Qe (QC (N.al i hi)) (Ws (J5 _ _) (Bi N n (Wg _)))) ?_;rw[<- Nat.pow_succ'];exact oU (by omega)
theorem U5(hi:i < n):cp a b n i < cb:=by
 refine Wx (J5 _ _) (Wx (Qe (QC (N.al i hi)) (vF N n (Wg _))) ?_);rw[<- Nat.pow_succ'];exact oU (by omega)
end
def Tr(bs:List (Nat×List Tx))(A:Int)(t:Nat->Nat)(P:Nat):Prop:=sN bs.length (λi=>((t i:Nat):Int))=(P:Int)/\∀ j,j < bs.length->sN bs.length (λi=>((t i:Nat):Int) * bO bs i j)=A * ((t j:Nat):Int)
theorem U6(N:Ab bs.length a b)(h0:0 < bs.length)(A:Int):Tr bs A (cp a b bs.length) (pB b bs.length) ↔ Tr bs A (wF a b bs.length) (lc b bs.length):=by
 obtain⟨_,e2,e3⟩:=tw N h0;have e1:=λi (hi:i < bs.length)=>(tw N hi).1
 generalize pB b bs.length / lc b bs.length=k at *;have s1:sN bs.length (λi=>((cp a b bs.length i:Nat):Int))=(k:Int) * sN bs.length (λi=>((wF a b bs.length i:Nat):Int)):=by
  rw[<- gI];exact g9 λi hi=>by rw[e1 i hi,WQ,WN]
 have s2:∀ j,sN bs.length (λi=>((cp a b bs.length i:Nat):Int) * bO bs i j)=(k:Int) * sN bs.length (λi=>((wF a b bs.length i:Nat):Int) * bO bs i j):=λj=>by
  rw[<- gI];exact g9 λi hi=>by rw[e1 i hi,WQ,WN ((wF a b bs.length i:Nat):Int),Qn]
 have p1:((pB b bs.length:Nat):Int)=(k:Int) * ((lc b bs.length:Nat):Int):=by
  rw[e2,WQ,WN]
 unfold Tr;rw[s1,p1];have ck:∀ x y:Int,(k:Int) * x=(k:Int) * y ↔ x=y:=λx y=>⟨λh=>Int.eq_of_mul_eq_mul_left (by omega) h,λh=>by rw[h]⟩
 rw[ck];constructor
 ·rintro ⟨h1,h2⟩;refine⟨h1,λj hj=>?_⟩;have:=h2 j hj;rw[s2,e1 j hj,WQ,WN ((wF a b bs.length j:Nat):Int),Int.mul_left_comm,ck] at this;exact this
 ·rintro ⟨h1,h2⟩;refine⟨h1,λj hj=>?_⟩;rw[s2,e1 j hj,WQ,WN ((wF a b bs.length j:Nat):Int),Int.mul_left_comm,ck];exact h2 j hj
theorem mulC(a b:Nat)(ha:a < cb)(hb:b < cb):cL (.int (a:Int)) (.int (b:Int))=some (.pure (.int ((a * b:Nat):Int))):=by
 have:=qm (k:=16000) (a:Int) (b:Int) ha hb (by decide);rw[this,WQ]
abbrev df(a b:Nat->Nat)(i:Nat):D:=.tup [.int (a i:Nat),.int (b i:Nat)]
abbrev bL(n:Nat)(a b:Nat->Nat):D:=.tup ((W3 n).map (df a b))
theorem Hq(st:A->Dl)(bad:Nat->Bool)(r:S)(f:Nat->D):∀ (l:List Nat) (v:A),(∀ i ∈ l,∀ v,∃ δ1,g (.pure (f i)) (st v)=some δ1/\((bad i=true/\∃ δ2,b δ1 = .ok (.ret r) δ2)\/(bad i=false/\∃ v',b δ1 = .ok .next (st v')))) ->
  (l.any bad=true/\∃ δ',forL g b (l.map f) (st v) = .ok (.ret r) δ')\/(l.any bad=false/\∃ v',forL g b (l.map f) (st v) = .ok .next (st v'))
 | [],v,_=>.inr ⟨rfl,v,rfl⟩
 | i :: l,v,hs=>by
  obtain⟨δ1,e1,⟨hb,δ2,e2⟩ | ⟨hb,v',e2⟩⟩:=hs i Wj v
  ·refine .inl ⟨by simp[hb],δ2,?_⟩;rw[Wu];unfold forL;rw[e1];simp only[e2,eB]
  ·rw[Wu,sF e1 e2];rcases Hq st bad r f l v' (λi hi=>hs i (Wa _ hi)) with ⟨h1,h2⟩ | ⟨h1,h2⟩
   ·exact .inl ⟨by simp[h1],h2⟩
   ·exact .inr ⟨by simp[hb,h1],h2⟩
theorem Bj(bs:List Bool):gy (.lst (bs.map D.bl))=some (.pure (.bl (bs.all λb=>b))):=by
 unfold gy;simp only[O2];rfl
abbrev cB(ru d:D)(o2 o3 o4 o5:Option S):Dl:=[some (.pure ru),some (.pure d),o2,o3,o4,o5,none,none,none,none]
abbrev ke:DS:=(cE (jh (gw (aB (cP "tuple" (ae 1)))) (aB (aE eU (aH bf (ae 1)) (ao (aH bf (ao (ah ay 0 (ao (eD (.int 2)))))))))) (bC (eD (.bl false))) cG)
abbrev Hr:DS:=(cE (gw (aB (aH gy (ao (bD [7] (bG (aa 1)) (ag [] 7) aV (aA jy [.val (aa 7)])))))) (bC (eD (.bl false))) cG)
abbrev Bk:DS:=(ax (aE fz (ah cL 2 (ae 4)) (ao (aA f_ [.val (aa 2),.val (aa 4)]))) (ag [] 2))
section
variable {h w:Nat} {bs:List (Nat×List Tx)} (R:dQ h w bs)
theorem Ht:bf (.tup (bs.map cI))=some (.pure (.int (bs.length:Int))):=by rw[oT]; simp
theorem U7 (o:fk "tuple" d=some false) (δ3:Dl):ke (some (.pure (au h w bs)) :: some (.pure d) :: δ3) = .ok (.ret (.pure (.bl false))) (some (.pure (au h w bs)) :: some (.pure d) :: δ3):=by
 generalize au h w bs=ru at *;simp[ke,aB,cP,o,ae,S.d]
theorem U8(o:xs.length≠bs.length)(δ3:Dl):ke (some (.pure (au h w bs)) :: some (.pure (.tup xs)) :: δ3) = .ok (.ret (.pure (.bl false))) (some (.pure (au h w bs)) :: some (.pure (.tup xs)) :: δ3):=by
 have x2:=(lJ h w bs).2.2;have l1:=Ht (bs:=bs);have l2:=oT xs;have ne:=ka (xs.length:Int) (bs.length:Int);have:((xs.length:Int) == (bs.length:Int))=false:=by rw[beq_eq_false_iff_ne]; omega
 rw[this] at ne;have ty:fk "tuple" (.tup xs)=some true:=rfl;generalize D.tup (bs.map cI)=BD at *;generalize D.tup xs=d at *;generalize au h w bs=ru at *;generalize (xs.length:Int)=y1 at *;generalize (bs.length:Int)=y2 at *;simp[ke,aB,cP,ty,ae,S.d,ah,aR,x2,l1,l2,ne]
theorem Bl(o:xs.length=bs.length)(δ3:Dl):ke (some (.pure (au h w bs)) :: some (.pure (.tup xs)) :: δ3) = .ok .next (some (.pure (au h w bs)) :: some (.pure (.tup xs)) :: δ3):=by
 have x2:=(lJ h w bs).2.2;have l1:=Ht (bs:=bs);have l2:=oT xs;rw[o] at l2;have ne:=ka (bs.length:Int) (bs.length:Int);rw[beq_self_eq_true] at ne;have ty:fk "tuple" (.tup xs)=some true:=rfl;generalize D.tup (bs.map cI)=BD at *;generalize D.tup xs=d at *;generalize au h w bs=ru at *;generalize (bs.length:Int)=y2 at *;simp[ke,aB,cP,ty,ae,S.d,ah,aR,x2,l1,l2,ne]
end
theorem qo(L:List D)(i:Nat)(δ:Dl)(h:δ[i]? = some (some (.pure (.tup L)))):bG (aa i) δ = .ok L δ:=by
 have T2:δ.set i (some (.pure (.tup L)))=δ:=by
  apply Qc;intro j;by_cases hj:i=j
  ·subst hj;rw[Wb (W6.mp h).1,h]
  ·rw[W5 hj]
 simp[iy,aa,h,S.d]
theorem Hu(ru:D)(hx:∀ x ∈ xs,El x)(hl:xs.length<=1000):Hr (cB ru (.tup xs) none none none none) = .ok (if xs.all bW then .next else .ret (.pure (.bl false))) (cB ru (.tup xs) none none none none):=by
 have c:=gC (cs:=[7]) (g:=ag [] 7) (t:=aV) (el:=aA jy [.val (aa 7)]) (λx:D=>x) (λx=>D.bl (bW x)) (cB ru (.tup xs) none none none none) xs [] (by rw[cW]; simp; omega) (λx gM=>by
  have g:=U2 (hx x gM);refine⟨[some (.pure ru),some (.pure (.tup xs)),none,none,none,none,none,some (.pure x),none,none],_,.pure (.bl (bW x)),[some (.pure ru),some (.pure (.tup xs)),none,none,none,none,none,some (.pure x),none,none],rfl,rfl,?_,rfl,rfl⟩;generalize D.tup xs=d at *;simp[aA,a_,bN,bJ,aa,bu,g,aT])
 rw[List.map_id'] at c;have iq:bG (aa 1) (cB ru (.tup xs) none none none none) = .ok xs (cB ru (.tup xs) none none none none):=qo xs 1 _ rfl;have cmp:=iB (cs:=[7]) (g:=ag [] 7) (t:=aV) (el:=aA jy [.val (aa 7)]) iq rfl c;have ep:([] ++ xs.map λx=>D.bl (bW x))=(xs.map bW).map D.bl:=by rw[Wy]; rfl
 rw[ep] at cmp;have al:=Bj (xs.map bW);have ea:((xs.map bW).all λb=>b)=xs.all bW:=by rw[JF]; rfl
 rw[ea] at al;have t1:aH gy (ao (bD [7] (bG (aa 1)) (ag [] 7) aV (aA jy [.val (aa 7)]))) (cB ru (.tup xs) none none none none) = .ok (.pure (.bl (xs.all bW))) (cB ru (.tup xs) none none none none):=by
  rw[ox,kE,cmp];simp only[eB,pV,ow];rw[al];rfl
 have t2:aB (aH gy (ao (bD [7] (bG (aa 1)) (ag [] 7) aV (aA jy [.val (aa 7)])))) (cB ru (.tup xs) none none none none) = .ok (xs.all bW) (cB ru (.tup xs) none none none none):=by
  unfold aB;rw[t1];rfl
 rw[Hr,yv,E_,t2]
 cases xs.all bW <;> rfl
theorem U9(N:Ab n a b)(h6:n<=6)(ru d:D):∃ q3 q4,(∀ s,q3≠some (.own s))/\(∀ s,q4≠some (.own s))/\forL (bV 2 (aQ (ag [] 3) (aQ (ag [] 4) b9))) Bk ((W3 n).map (df a b)) (cB ru d (some (.pure (.int 1))) none none none) = .ok .next (cB ru d (some (.pure (.int (lc b n:Nat)))) q3 q4 none):=by
 obtain⟨δ',e,q3,q4,h3,h4,rfl⟩:=j5 (g:=bV 2 (aQ (ag [] 3) (aQ (ag [] 4) b9))) (b:=Bk) (λi δ=>∃ q3 q4,(∀ s,q3≠some (S.own s))/\(∀ s,q4≠some (S.own s))/\δ=cB ru d (some (.pure (.int (lc b i:Nat)))) q3 q4 none) ((W3 n).map (df a b)) 0 (cB ru d (some (.pure (.int 1))) none none none) ⟨none,none,(λs=>by simp),(λs=>by simp),rfl⟩ (λi x δ hx ⟨q3,q4,_,_,e⟩=>by
  subst e;have hi:i < n:=by
   have:=(W6.mp hx).1;simpa using this
  have gM:x=df a b i:=by
   rw[Wh,WR hi] at hx;simpa using hx.symm
  subst gM;rw[QD];have hb:=N.bl i hi;have b0:=N.b0 i hi;have hl:lc b i < cb:=Wx (Bi N i (by omega)) (oU (by omega));have ml:=mulC (lc b i) (b i) hl (J1 hb vE);have g:=sG (k:=1000) ((lc b i:Nat):Int) ((b i:Nat):Int) hb (by decide);have gp:0 < Qa (lc b i) (b i):=Nat.gcd_pos_of_pos_right _ b0;have gl:Qa (lc b i) (b i)<=b i:=Nat.gcd_le_right _ b0;have eg:WI ((lc b i:Nat):Int) ((b i:Nat):Int)=Qa (lc b i) (b i):=rfl;rw[eg] at g;have dv:=mP ((lc b i * b i:Nat):Int) ((Qa (lc b i) (b i):Nat):Int) (by omega) (by rw[Qs]; exact Wx gl (J1 hb Bf));have f1:((lc b i * b i:Nat):Int).fdiv ((Qa (lc b i) (b i):Nat):Int)=((lc b (i + 1):Nat):Int):=by
   rw[<- JM];rfl
  rw[f1] at dv;refine⟨cB ru d (some (.pure (.int (lc b i:Nat)))) (some (.pure (.int (a i:Nat)))) (some (.pure (.int (b i:Nat)))) none,cB ru d (some (.pure (.int (lc b (i + 1):Nat)))) (some (.pure (.int (a i:Nat)))) (some (.pure (.int (b i:Nat)))) none,rfl,?_,_,_,(λs=>by simp),(λs=>by simp),rfl⟩;clear f1 eg gl gp hl;generalize ((lc b i * b i:Nat):Int)=y1 at *;generalize ((Qa (lc b i) (b i):Nat):Int)=y2 at *;generalize ((lc b (i + 1):Nat):Int)=y3 at *;generalize ((lc b i:Nat):Int)=y4 at *;generalize ((b i:Nat):Int)=y5 at *;simp[Bk,ax,ah,aR,ae,aa,S.d,ml,aA,a_,bN,bJ,bu,g,aT,dv])
 have hlen:0 + ((W3 n).map (df a b)).length=n:=by simp
 rw[hlen] at e;exact⟨q3,q4,h3,h4,e⟩
theorem U_(hj:j < bs.length)(v:Nat->Int):sN bs.length (λi=>ak (c_ bs A j) i * v i)=sN bs.length (λi=>v i * bO bs i j) - A * v j:=by
 have e:sN bs.length (λi=>ak (c_ bs A j) i * v i)=sN bs.length (λi=>v i * bO bs i j + (-1) * ((if i=j then A else 0) * v i)):=by
  refine g9 λi hi=>?_
  rw[A8 hi hj,Int.sub_mul,WN (bO bs i j)]; omega
 rw[e,lI,gI,oQ (k:=j) (f:=λi=>(if i=j then A else 0) * v i) hj (λi _ q=>by simp[q])];simp only[if_true];omega
theorem Va(h:r.length=n):r.map D.int=(W3 n).map λi=>D.int (ak r i):=by
 apply Qc;intro i;rw[Wh,Wh];by_cases hi:i < n
 ·rw[WR hi,W4 (by omega)];have:ak r i=r[i]:=by unfold ak; rw[Wi,W4 (by omega)]; rfl
  simp[this]
 ·rw[WB (by omega),WB (by simpa using hi)];rfl
abbrev oV:DE:=aH gq (ao (bD [8,9] (gA (aa 6) (aa 5)) (bV 2 (aQ (ag [] 8) (aQ (ag [] 9) b9))) aV (ah cL 8 (ae 9))))
abbrev hW(w:Nat->Nat)(n:Nat):D:=.lst ((W3 n).map λi=>D.int ((w i:Nat):Int))
theorem Vb(hn:n<=26)(hr:r.length=n)(hb:∀ i,(ak r i).natAbs<=16)(hw:∀ i,i < n->w i < cb)(ru d:D)(o2 o3 o4:Option S)(s5:S)(h5:s5 = .own (hW w n)\/s5 = .pure (hW w n)) :
  oV [some (.pure ru),some (.pure d),o2,o3,o4,some s5,some (.pure (iL r)),none,none,none] = .ok (.pure (.int (sN n λi=>ak r i * ((w i:Nat):Int)))) [some (.pure ru),some (.pure d),o2,o3,o4,some (.pure (hW w n)),some (.pure (iL r)),none,none,none]:=by
 have Hv:16 < cb:=Wv (show 16 < 2 ^ 5 by decide) (show 2 ^ 5<=2 ^ 16000 from WJ (by decide) (by decide));have eZ:kC (r.map D.int) ((W3 n).map λi=>D.int ((w i:Nat):Int))=(W3 n).map λi=>D.tup [.int (ak r i),.int ((w i:Nat):Int)]:=by
  rw[Va hr];unfold kC;rw[List.zipWith_map,List.zipWith_self]
 have iz:gA (aa 6) (aa 5) [some (.pure ru),some (.pure d),o2,o3,o4,some s5,some (.pure (iL r)),none,none,none] = .ok ((W3 n).map λi=>D.tup [.int (ak r i),.int ((w i:Nat):Int)]) [some (.pure ru),some (.pure d),o2,o3,o4,some (.pure (hW w n)),some (.pure (iL r)),none,none,none]:=by
  rw[<- eZ];rcases h5 with rfl | rfl <;> simp[gA,aa,S.d,iL,j3]
 have c:=gC (cs:=[8,9]) (g:=bV 2 (aQ (ag [] 8) (aQ (ag [] 9) b9))) (t:=aV) (el:=ah cL 8 (ae 9)) (λi=>D.tup [.int (ak r i),.int ((w i:Nat):Int)]) (λi=>D.int (ak r i * ((w i:Nat):Int))) [some (.pure ru),some (.pure d),o2,o3,o4,some (.pure (hW w n)),some (.pure (iL r)),none,none,none] (W3 n) [] (by rw[cW]; simp; omega) (λi hi=>by
  have hi:=WA.mp hi;have ml:=qm (k:=16000) (ak r i) ((w i:Nat):Int) (Wx (hb i) Hv) (hw i hi) (by decide);refine⟨[some (.pure ru),some (.pure d),o2,o3,o4,some (.pure (hW w n)),some (.pure (iL r)),none,some (.pure (.int (ak r i))),some (.pure (.int ((w i:Nat):Int)))],_,.pure (.int (ak r i * ((w i:Nat):Int))),[some (.pure ru),some (.pure d),o2,o3,o4,some (.pure (hW w n)),some (.pure (iL r)),none,some (.pure (.int (ak r i))),some (.pure (.int ((w i:Nat):Int)))],rfl,rfl,?_,rfl,rfl⟩;clear iz eZ;unfold hW;generalize D.lst ((W3 n).map λi=>D.int ((w i:Nat):Int))=HW at *;generalize iL r=Q at *;generalize ak r i * ((w i:Nat):Int)=y1 at *;generalize ak r i=y2 at *;generalize ((w i:Nat):Int)=y3 at *;simp[ah,aR,ae,S.d,ml])
 have cmp:=iB (cs:=[8,9]) (g:=bV 2 (aQ (ag [] 8) (aQ (ag [] 9) b9))) (t:=aV) (el:=ah cL 8 (ae 9)) iz rfl c;have eL:([] ++ (W3 n).map λi=>D.int (ak r i * ((w i:Nat):Int)))=((W3 n).map λi=>ak r i * ((w i:Nat):Int)).map D.int:=by rw[Wy]; rfl
 rw[eL] at cmp;have sm:=sJ ((W3 n).map λi=>ak r i * ((w i:Nat):Int));rw[qj] at sm;rw[oV,ox,kE,cmp];simp only[eB,pV,ow];rw[sm];rfl
theorem Vc(R:dQ h w bs)(ht:∀ i,i < bs.length->t i < cb)(d:D)(o2 o3 o4:Option S) :
  ∃ δ',aH gy (ao (bD [6] (bG (aA iu [.val (aa 0)])) (ag [] 6) aV (aE bX oV (ao (eD (.int 0)))))) (cB (au h w bs) d o2 o3 o4 (some (.own (hW t bs.length)))) = .ok (.pure (.bl ((W3 bs.length).all λj=>decide (sN bs.length (λi=>((t i:Nat):Int) * bO bs i j)=((h:Int) * (w:Int)) * ((t j:Nat):Int))))) δ':=by
 have n1:=R.n1;have g:=G8 R;obtain⟨δ',c,s5,h5,rfl⟩:=A2 (cs:=[6]) (g:=ag [] 6) (t:=aV) (el:=aE bX oV (ao (eD (.int 0)))) (λj=>iL (c_ bs ((h:Int) * (w:Int)) j)) (λj=>D.bl (decide (sN bs.length (λi=>((t i:Nat):Int) * bO bs i j)=((h:Int) * (w:Int)) * ((t j:Nat):Int)))) (λδ=>∃ s5,(s5=S.own (hW t bs.length)\/s5=S.pure (hW t bs.length))/\δ=cB (au h w bs) d o2 o3 o4 (some s5)) (W3 bs.length) [] (cB (au h w bs) d o2 o3 o4 (some (.own (hW t bs.length)))) ⟨_,.inl rfl,rfl⟩ (by rw[cW]; simp; omega) (λj hj δ ⟨s5,h5,e⟩=>by
  subst e;have hj:=WA.mp hj;have dr:=Vb (n:=bs.length) (by omega) (r:=c_ bs ((h:Int) * (w:Int)) j) (by simp[c_]) (vA R hj) ht (au h w bs) d o2 o3 o4 s5 h5;rw[U_ hj] at dr;have q:=nt (sN bs.length (λi=>((t i:Nat):Int) * bO bs i j) - ((h:Int) * (w:Int)) * ((t j:Nat):Int)) 0;have e2:(sN bs.length (λi=>((t i:Nat):Int) * bO bs i j) - ((h:Int) * (w:Int)) * ((t j:Nat):Int) == 0)=decide (sN bs.length (λi=>((t i:Nat):Int) * bO bs i j)=((h:Int) * (w:Int)) * ((t j:Nat):Int)):=by
   rw[Qq,beq_iff_eq,decide_eq_true_eq]; omega
  rw[e2] at q;refine⟨[some (.pure (au h w bs)),some (.pure d),o2,o3,o4,some s5,some (.pure (iL (c_ bs ((h:Int) * (w:Int)) j))),none,none,none],_,.pure (.bl (decide (sN bs.length (λi=>((t i:Nat):Int) * bO bs i j)=((h:Int) * (w:Int)) * ((t j:Nat):Int)))),[some (.pure (au h w bs)),some (.pure d),o2,o3,o4,some (.pure (hW t bs.length)),some (.pure (iL (c_ bs ((h:Int) * (w:Int)) j))),none,none,none],rfl,rfl,?_,⟨_,.inr rfl,rfl⟩,rfl⟩;generalize oV=E at *;rw[yt,dr];simp only[eB,kE,E9,yx,E8];rw[q])
 have iq:bG (aA iu [.val (aa 0)]) (cB (au h w bs) d o2 o3 o4 (some (.own (hW t bs.length)))) = .ok ((W3 bs.length).map λj=>iL (c_ bs ((h:Int) * (w:Int)) j)) (cB (au h w bs) d o2 o3 o4 (some (.own (hW t bs.length)))):=by
  have e:bS ((W3 bs.length).map (c_ bs ((h:Int) * (w:Int)))) = .lst ((W3 bs.length).map λj=>iL (c_ bs ((h:Int) * (w:Int)) j)):=by unfold bS; rw[Wy]; rfl
  rw[e] at g;clear c;unfold cB;generalize hW t bs.length=HW at *;generalize ((W3 bs.length).map λj=>iL (c_ bs ((h:Int) * (w:Int)) j))=RL at *;generalize au h w bs=ru at *;simp[iy,aA,a_,bN,bJ,aa,bu,g,aT,S.d]
 have cmp:=iB (cs:=[6]) (g:=ag [] 6) (t:=aV) (el:=aE bX oV (ao (eD (.int 0)))) iq rfl c;have eL:([] ++ (W3 bs.length).map λj=>D.bl (decide (sN bs.length (λi=>((t i:Nat):Int) * bO bs i j)=((h:Int) * (w:Int)) * ((t j:Nat):Int))))=((W3 bs.length).map λj=>decide (sN bs.length (λi=>((t i:Nat):Int) * bO bs i j)=((h:Int) * (w:Int)) * ((t j:Nat):Int))).map D.bl:=by rw[Wy]; rfl
 rw[eL] at cmp;have al:=Bj ((W3 bs.length).map λj=>decide (sN bs.length (λi=>((t i:Nat):Int) * bO bs i j)=((h:Int) * (w:Int)) * ((t j:Nat):Int)));have ea:(((W3 bs.length).map λj=>decide (sN bs.length (λi=>((t i:Nat):Int) * bO bs i j)=((h:Int) * (w:Int)) * ((t j:Nat):Int))).all λb=>b)=(W3 bs.length).all λj=>decide (sN bs.length (λi=>((t i:Nat):Int) * bO bs i j)=((h:Int) * (w:Int)) * ((t j:Nat):Int)):=by rw[JF]; rfl
 rw[ea] at al;refine⟨dh [6] (cB (au h w bs) d o2 o3 o4 (some (.own (hW t bs.length)))) (cB (au h w bs) d o2 o3 o4 (some s5)),?_⟩;rw[ox,kE,cmp];simp only[eB,pV,ow];rw[al]
theorem Vd(R:dQ h w bs)(h6:bs.length<=6)(N:Ab bs.length a b)(hE:∀ x ∈ (W3 bs.length).map (df a b),El x)(hg:((W3 bs.length).map (df a b)).all bW=true) :
  ∃ r:Bool,i8 [.pure (au h w bs),.pure (bL bs.length a b)]=some (.pure (.bl r),[.pure (au h w bs),.pure (bL bs.length a b)])/\(r=true ↔ Tr bs ((h:Int) * (w:Int)) (wF a b bs.length) (lc b bs.length)):=by
 have n1:=R.n1;have s1:=Bl (h:=h) (w:=w) (bs:=bs) (xs:=(W3 bs.length).map (df a b)) (by simp) [none,none,none,none,none,none,none,none];have s2:=Hu (au h w bs) hE (by simp; omega);rw[hg,if_pos rfl] at s2;obtain⟨q3,q4,h3,h4,s4⟩:=U9 N h6 (au h w bs) (bL bs.length a b);have Ve:lc b bs.length < cb:=Wx (Bi N bs.length (Wg _)) (oU (by omega));have c:=gC (cs:=[3,4]) (g:=bV 2 (aQ (ag [] 3) (aQ (ag [] 4) b9))) (t:=aV) (el:=ah cL 3 (ao (ah fz 2 (ae 4)))) (df a b) (λi=>D.int ((wF a b bs.length i:Nat):Int)) (cB (au h w bs) (bL bs.length a b) (some (.pure (.int (lc b bs.length:Nat)))) none none none) (W3 bs.length) [] (by rw[cW]; simp; omega) (λi hi=>by
  have hi:=WA.mp hi;have b0:=N.b0 i hi;have dv:=mP ((lc b bs.length:Nat):Int) ((b i:Nat):Int) (by omega) (by rw[Qs]; exact J1 (N.bl i hi) Bf);rw[<- JM] at dv;have ml:=mulC (a i) (lc b bs.length / b i) (J1 (N.al i hi) vE) (Wx (J5 _ _) Ve);refine⟨[some (.pure (au h w bs)),some (.pure (bL bs.length a b)),some (.pure (.int (lc b bs.length:Nat))),some (.pure (.int (a i:Nat))),some (.pure (.int (b i:Nat))),none,none,none,none,none],_,.pure (.int ((wF a b bs.length i:Nat):Int)),[some (.pure (au h w bs)),some (.pure (bL bs.length a b)),some (.pure (.int (lc b bs.length:Nat))),some (.pure (.int (a i:Nat))),some (.pure (.int (b i:Nat))),none,none,none,none,none],rfl,rfl,?_,rfl,rfl⟩;have ml:cL (.int (a i:Nat)) (.int (lc b bs.length / b i:Nat))=some (.pure (.int ((wF a b bs.length i:Nat):Int))):=ml;clear s1 s2 s4;generalize bL bs.length a b=TD at *;generalize ((wF a b bs.length i:Nat):Int)=y1 at *;generalize ((lc b bs.length / b i:Nat):Int)=y2 at *;generalize ((lc b bs.length:Nat):Int)=y3 at *;generalize ((a i:Nat):Int)=y4 at *;generalize ((b i:Nat):Int)=y5 at *;generalize au h w bs=ru at *;simp[ah,aR,ae,S.d,dv,ml])
 have gz:([3,4]:List Nat).any (cj (cB (au h w bs) (bL bs.length a b) (some (.pure (.int (lc b bs.length:Nat)))) q3 q4 none))=false:=by
  have e1:cj (cB (au h w bs) (bL bs.length a b) (some (.pure (.int (lc b bs.length:Nat)))) q3 q4 none) 3=false:=by
   cases q3 with
   | none=>rfl
   | some s =>
    cases s with
    | pure d=>rfl
    | own d=>exact absurd rfl (h3 d)
  have e2:cj (cB (au h w bs) (bL bs.length a b) (some (.pure (.int (lc b bs.length:Nat)))) q3 q4 none) 4=false:=by
   cases q4 with
   | none=>rfl
   | some s =>
    cases s with
    | pure d=>rfl
    | own d=>exact absurd rfl (h4 d)
  simp[e1,e2]
 have iq:bG (aa 1) (cB (au h w bs) (bL bs.length a b) (some (.pure (.int (lc b bs.length:Nat)))) q3 q4 none) = .ok ((W3 bs.length).map (df a b)) (cB (au h w bs) (bL bs.length a b) (some (.pure (.int (lc b bs.length:Nat)))) q3 q4 none):=qo _ 1 _ rfl;have cmp:=iB (cs:=[3,4]) (g:=bV 2 (aQ (ag [] 3) (aQ (ag [] 4) b9))) (t:=aV) (el:=ah cL 3 (ao (ah fz 2 (ae 4)))) iq gz c;have kP:bG (aa 1) (cB (au h w bs) (bL bs.length a b) (some (.pure (.int 1))) none none none) = .ok ((W3 bs.length).map (df a b)) (cB (au h w bs) (bL bs.length a b) (some (.pure (.int 1))) none none none):=qo _ 1 _ rfl;obtain⟨δr,rr⟩:=Vc R (t:=wF a b bs.length) (λi hi=>U4 N h6 hi) (bL bs.length a b) (some (.pure (.int (lc b bs.length:Nat)))) q3 q4;have sm:=sJ ((W3 bs.length).map λi=>((wF a b bs.length i:Nat):Int));rw[qj] at sm;have eT:(((W3 bs.length).map λi=>((wF a b bs.length i:Nat):Int)).map D.int)=(W3 bs.length).map λi=>D.int ((wF a b bs.length i:Nat):Int):=by rw[Wy]; rfl
 rw[eT] at sm;have ne:=ka (sN bs.length λi=>((wF a b bs.length i:Nat):Int)) ((lc b bs.length:Nat):Int);have dB:∀ r δ',(az (cE (aB (aE eU (aH gq (ae 5)) (ae 2))) (bC (eD (.bl false))) cG) (bC (aH gy (ao (bD [6] (bG (aA iu [.val (aa 0)])) (ag [] 6) aV (aE bX oV (ao (eD (.int 0))))))))) (cB (au h w bs) (bL bs.length a b) (some (.pure (.int (lc b bs.length:Nat)))) q3 q4 (some (.own (hW (wF a b bs.length) bs.length)))) = .ok (.ret (.pure (.bl r))) δ'->i8 [.pure (au h w bs),.pure (bL bs.length a b)]=some (.pure (.bl r),[.pure (au h w bs),.pure (bL bs.length a b)]):=λr δ' q=>by
  rw[i8,sr];refine kO (δ1:=δ') ?_;have oW:ke (bq 10 [.pure (au h w bs),.pure (bL bs.length a b)]) = .ok .next (cB (au h w bs) (bL bs.length a b) none none none none):=s1;rw[aZ oW,aZ s2];rw[aZ (δ1:=cB (au h w bs) (bL bs.length a b) (some (.pure (.int 1))) none none none) (by
   clear s1 s2 s4 c cmp iq kP rr q;show ax (eD (.int 1)) (ag [] 2) (cB (au h w bs) (bL bs.length a b) none none none none)=_;generalize bL bs.length a b=TD at *;generalize au h w bs=ru at *;simp[ax])]
  rw[aZ ((jC kP).trans s4)];rw[aZ (δ1:=cB (au h w bs) (bL bs.length a b) (some (.pure (.int (lc b bs.length:Nat)))) q3 q4 (some (.own (hW (wF a b bs.length) bs.length)))) (by
   show(bD _ _ _ _ _ _).bind _=_;rw[cmp];rfl)]
  exact q
 by_cases hs:sN bs.length (λi=>((wF a b bs.length i:Nat):Int))=((lc b bs.length:Nat):Int)
 ·rw[hs,beq_self_eq_true] at ne;rw[hs] at sm;refine⟨(W3 bs.length).all λj=>decide (sN bs.length (λi=>((wF a b bs.length i:Nat):Int) * bO bs i j)=((h:Int) * (w:Int)) * ((wF a b bs.length j:Nat):Int)),dB _ δr ?_,?_⟩
  ·rw[aZ (δ1:=cB (au h w bs) (bL bs.length a b) (some (.pure (.int (lc b bs.length:Nat)))) q3 q4 (some (.own (hW (wF a b bs.length) bs.length)))) (by
    clear s1 s2 s4 c cmp iq kP rr dB;unfold hW;generalize D.lst ((W3 bs.length).map λi=>D.int ((wF a b bs.length i:Nat):Int))=HW at *;generalize bL bs.length a b=TD at *;generalize au h w bs=ru at *;generalize ((lc b bs.length:Nat):Int)=y at *;simp[aB,ae,S.d,sm,ne])]
   rw[yu,rr];rfl
  ·rw[Q5];unfold Tr;constructor
   ·intro hh;exact⟨hs,λj hj=>by simpa using hh j (WA.mpr hj)⟩
   ·intro hh j hj;simpa using hh.2 j (WA.mp hj)
 ·have e0:(sN bs.length (λi=>((wF a b bs.length i:Nat):Int)) == ((lc b bs.length:Nat):Int))=false:=by rw[beq_eq_false_iff_ne]; exact hs
  rw[e0] at ne;refine⟨false,dB false (cB (au h w bs) (bL bs.length a b) (some (.pure (.int (lc b bs.length:Nat)))) q3 q4 (some (.own (hW (wF a b bs.length) bs.length)))) (fR ?_),⟨(λz=>by cases z),λz=>absurd z.1 hs⟩⟩;clear s1 s2 s4 c cmp iq kP rr dB e0 hs;unfold hW;generalize D.lst ((W3 bs.length).map λi=>D.int ((wF a b bs.length i:Nat):Int))=HW at *;generalize bL bs.length a b=TD at *;generalize au h w bs=ru at *;generalize ((lc b bs.length:Nat):Int)=y at *;generalize (sN bs.length λi=>((wF a b bs.length i:Nat):Int))=y2 at *;simp[aB,ae,S.d,sm,ne]
abbrev cX(ru sh:D)(bt:Nat)(o3 o4 o5 o6 o7:Option S):Dl:=[some (.pure ru),some (.pure sh),some (.pure (.int (bt:Int))),o3,o4,o5,o6,o7,none,none]
theorem Vf(ts:List Nat)(f:Nat->Nat)(h:i < ts.length):ay (.lst (c9 ts f)) (.int (i:Int))=some (.pure (.int ((f (ts.getD i 0):Nat):Int))):=by
 simp only[ay];unfold c9;rw[gY,Wh,Wi,W4 h];rfl
abbrev gE:DE:=ah cL 8 (ao (aE ay (ah pP 5 (ao (ah ay 9 (ao (eD (.int 0)))))) (ae 6)))
abbrev gF:DS:=az (ax (aH gq (ao (bD [8,9] (gA (aa 4) (ah ay 0 (ao (eD (.int 2))))) (bV 2 (aQ (ag [] 8) (aQ (ag [] 9) b9))) aV gE))) (ag [] 7)) (cE (aB (ah eU 7 (ao (aE cL (aE cL (ah ay 0 (ao (eD (.int 0)))) (ao (ah ay 0 (ao (eD (.int 1)))))) (ao (ah ay 4 (ae 6))))))) (bC (eD (.bl false))) cG)
theorem Vg(bs:List (Nat×List Tx))(f:Nat->D):kC ((W3 bs.length).map f) (bs.map cI)=(W3 bs.length).map λi=>D.tup [f i,cI (bs.getD i (0,[]))]:=by
 unfold kC;apply Qc;intro i;rw[List.getElem?_zipWith,Wh,Wh,Wh];by_cases hi:i < bs.length
 ·have e:bs.getD i (0,[])=bs[i]:=by rw[Wi,W4 hi]; rfl
  rw[WR hi,W4 hi];show some (D.tup [f i,cI bs[i]])=some (D.tup [f i,cI (bs.getD i (0,[]))]);rw[e]
 ·rw[WB (by simpa using hi)];rfl
theorem Vh{h w:Nat}{bs:List (Nat×List Tx)}(R:dQ h w bs){t:Nat->Nat}(ht:∀ i,i < bs.length->t i < cb){j:Nat}(hj:j < bs.length)(sh:D)(bt:Nat)(o3:Option S)(s4:S)(h4:s4 = .own (.lst ((W3 bs.length).map λi=>D.int ((t i:Nat):Int)))\/s4 = .pure (.lst ((W3 bs.length).map λi=>D.int ((t i:Nat):Int))))(o7:Option S) :
  ∃ q7,gF (cX (au h w bs) sh bt o3 (some s4) (some (.own (dG bs))) (some (.pure (.int (j:Int)))) o7) = .ok (if decide (sN bs.length (λi=>((t i:Nat):Int) * bO bs i j)=((h * w * t j:Nat):Int)) then .next else .ret (.pure (.bl false))) (cX (au h w bs) sh bt o3 (some (.pure (.lst ((W3 bs.length).map λi=>D.int ((t i:Nat):Int))))) (some (.own (dG bs))) (some (.pure (.int (j:Int)))) q7):=by
 have n1:=R.n1;obtain⟨x0,x1,x2⟩:=lJ h w bs;have hl:(bs.map (·.1)).length=bs.length:=by simp
 have iz:gA (aa 4) (ah ay 0 (ao (eD (.int 2)))) (cX (au h w bs) sh bt o3 (some s4) (some (.own (dG bs))) (some (.pure (.int (j:Int)))) o7) = .ok ((W3 bs.length).map λi=>D.tup [D.int ((t i:Nat):Int),cI (bs.getD i (0,[]))]) (cX (au h w bs) sh bt o3 (some (.pure (.lst ((W3 bs.length).map λi=>D.int ((t i:Nat):Int))))) (some (.own (dG bs))) (some (.pure (.int (j:Int)))) o7):=by
  rw[<- Vg bs (λi=>D.int ((t i:Nat):Int))];unfold cX;generalize ((W3 bs.length).map λi=>D.int ((t i:Nat):Int))=TL at *;generalize bs.map cI=BD at *;generalize dG bs=DT at *;generalize au h w bs=ru at *;rcases h4 with rfl | rfl <;> simp[gA,aa,ah,aR,ae,S.d,x2,j3]
 have c:=gC (cs:=[8,9]) (g:=bV 2 (aQ (ag [] 8) (aQ (ag [] 9) b9))) (t:=aV) (el:=gE) (λi=>D.tup [D.int ((t i:Nat):Int),cI (bs.getD i (0,[]))]) (λi=>D.int (((t i:Nat):Int) * bO bs i j)) (cX (au h w bs) sh bt o3 (some (.pure (.lst ((W3 bs.length).map λi=>D.int ((t i:Nat):Int))))) (some (.own (dG bs))) (some (.pure (.int (j:Int)))) o7) (W3 bs.length) [] (by rw[cW]; simp; omega) (λi hi=>by
  have hi:=WA.mp hi;have eb:(bs.getD i (0,[])).1=(bs.map (·.1)).getD i 0:=by
   rw[Wi,Wi,Wh,W4 hi];rfl
  have p0:ay (cI (bs.getD i (0,[]))) (.int 0)=some (.pure (.str [(bs.map (·.1)).getD i 0])):=by
   rw[<- eb]; rfl
  have p1:=TU R (vz hi);have p2:=Vf (bs.map (·.1)) (M bs ((bs.map (·.1)).getD i 0)) (i:=j) (by omega);have hM:M bs ((bs.map (·.1)).getD i 0) ((bs.map (·.1)).getD j 0) < cb:=by
   have h1:=GK R (vz hi) ((bs.map (·.1)).getD j 0);have h2:16 < cb:=by
    show 16 < 2 ^ 16000;exact Wv (show 16 < 2 ^ 5 by decide) (WJ (by decide) (by decide))
   omega
  have ml:=mulC (t i) (M bs ((bs.map (·.1)).getD i 0) ((bs.map (·.1)).getD j 0)) (ht i hi) hM;have em:((t i * M bs ((bs.map (·.1)).getD i 0) ((bs.map (·.1)).getD j 0):Nat):Int)=((t i:Nat):Int) * bO bs i j:=WQ _ _;rw[em] at ml;refine⟨[some (.pure (au h w bs)),some (.pure sh),some (.pure (.int (bt:Int))),o3,some (.pure (.lst ((W3 bs.length).map λi=>D.int ((t i:Nat):Int)))),some (.own (dG bs)),some (.pure (.int (j:Int))),o7,some (.pure (.int ((t i:Nat):Int))),some (.pure (cI (bs.getD i (0,[]))))],_,.pure (.int (((t i:Nat):Int) * bO bs i j)),[some (.pure (au h w bs)),some (.pure sh),some (.pure (.int (bt:Int))),o3,some (.pure (.lst ((W3 bs.length).map λi=>D.int ((t i:Nat):Int)))),some (.own (dG bs)),some (.pure (.int (j:Int))),o7,some (.pure (.int ((t i:Nat):Int))),some (.pure (cI (bs.getD i (0,[]))))],rfl,rfl,?_,rfl,rfl⟩;clear em hM iz;generalize ((t i:Nat):Int) * bO bs i j=y1 at *;generalize ((M bs ((bs.map (·.1)).getD i 0) ((bs.map (·.1)).getD j 0):Nat):Int)=y2 at *;generalize D.lst (c9 (bs.map (·.1)) (M bs ((bs.map (·.1)).getD i 0)))=Q1 at *;generalize (bs.map (·.1)).getD i 0=ti at *;generalize cI (bs.getD i (0,[]))=B1 at *;generalize D.lst ((W3 bs.length).map λi=>D.int ((t i:Nat):Int))=TL at *;generalize ((t i:Nat):Int)=y3 at *;generalize dG bs=DT at *;generalize au h w bs=ru at *;simp[gE,ah,aR,ae,S.d,p0,p1,p2,ml])
 have cmp:=iB (cs:=[8,9]) (g:=bV 2 (aQ (ag [] 8) (aQ (ag [] 9) b9))) (t:=aV) (el:=gE) iz rfl c;have eL:([] ++ (W3 bs.length).map λi=>D.int (((t i:Nat):Int) * bO bs i j))=((W3 bs.length).map λi=>((t i:Nat):Int) * bO bs i j).map D.int:=by rw[Wy]; rfl
 rw[eL] at cmp;have sm:=sJ ((W3 bs.length).map λi=>((t i:Nat):Int) * bO bs i j);rw[qj] at sm;generalize hSS:sN bs.length (λi=>((t i:Nat):Int) * bO bs i j)=SS at *;have k1:ax (aH gq (ao (bD [8,9] (gA (aa 4) (ah ay 0 (ao (eD (.int 2))))) (bV 2 (aQ (ag [] 8) (aQ (ag [] 9) b9))) aV gE))) (ag [] 7) (cX (au h w bs) sh bt o3 (some s4) (some (.own (dG bs))) (some (.pure (.int (j:Int)))) o7) = .ok .next (cX (au h w bs) sh bt o3 (some (.pure (.lst ((W3 bs.length).map λi=>D.int ((t i:Nat):Int))))) (some (.own (dG bs))) (some (.pure (.int (j:Int)))) (some (.pure (.int SS)))):=by
  show(aH _ _ _).bind _=_;rw[ox,kE,cmp];simp only[eB,pV,ow];rw[sm];rfl
 refine⟨some (.pure (.int SS)),?_⟩;rw[gF,aZ k1];have Vi:=R.h1;have Vj:=R.w1;have Hv:16 < cb:=by
  show 16 < 2 ^ 16000;exact Wv (show 16 < 2 ^ 5 by decide) (WJ (by decide) (by decide))
 have XD:h * w<=4 * 4:=Qe Vi Vj;have m1:=mulC h w (by omega) (by omega);have m2:=mulC (h * w) (t j) (by omega) (ht j hj);have ij:ay (.lst ((W3 bs.length).map λi=>D.int ((t i:Nat):Int))) (.int (j:Int))=some (.pure (.int ((t j:Nat):Int))):=by
  simp only[ay];rw[gY,Wh,WR hj];rfl
 have ne:=ka SS ((h * w * t j:Nat):Int);have e0:(SS == ((h * w * t j:Nat):Int))=decide (SS=((h * w * t j:Nat):Int)):=by rw[Qq,beq_iff_eq,decide_eq_true_eq]
 rw[e0] at ne;clear c cmp k1 iz sm hSS e0 eL;generalize decide (SS=((h * w * t j:Nat):Int))=bb at *;unfold cX;generalize D.lst ((W3 bs.length).map λi=>D.int ((t i:Nat):Int))=TL at *;generalize ((h * w * t j:Nat):Int)=y1 at *;generalize ((h * w:Nat):Int)=y2 at *;generalize ((t j:Nat):Int)=y3 at *;generalize (h:Int)=hi at *;generalize (w:Int)=wi at *;generalize dG bs=DT at *;generalize au h w bs=ru at *
 cases bb <;> simp[aB,ah,aR,ae,S.d,x0,x1,m1,m2,ij,ne]
abbrev Hw:DS:=(cE (gw (aB (aH gy (ao (bD [3] (bG (aa 1)) (ag [] 3) aV (aA jA [.val (aa 3)])))))) (bC (eD (.bl false))) cG)
abbrev ja(ru d:D):Dl:=[some (.pure ru),some (.pure d),none,none,none,none,none,none,none,none]
theorem Hx(ru:D)(hx:∀ x ∈ xs,El x)(hl:xs.length<=1000):Hw (ja ru (.tup xs)) = .ok (if xs.all bW then .next else .ret (.pure (.bl false))) (ja ru (.tup xs)):=by
 have c:=gC (cs:=[3]) (g:=ag [] 3) (t:=aV) (el:=aA jA [.val (aa 3)]) (λx:D=>x) (λx=>D.bl (bW x)) (ja ru (.tup xs)) xs [] (by rw[cW]; simp; omega) (λx gM=>by
  have g:=U3 (hx x gM);refine⟨[some (.pure ru),some (.pure (.tup xs)),none,some (.pure x),none,none,none,none,none,none],_,.pure (.bl (bW x)),[some (.pure ru),some (.pure (.tup xs)),none,some (.pure x),none,none,none,none,none,none],rfl,rfl,?_,rfl,rfl⟩;generalize D.tup xs=d at *;simp[aA,a_,bN,bJ,aa,bu,g,aT])
 rw[List.map_id'] at c;have iq:bG (aa 1) (ja ru (.tup xs)) = .ok xs (ja ru (.tup xs)):=qo xs 1 _ rfl;have cmp:=iB (cs:=[3]) (g:=ag [] 3) (t:=aV) (el:=aA jA [.val (aa 3)]) iq rfl c;have ep:([] ++ xs.map λx=>D.bl (bW x))=(xs.map bW).map D.bl:=by rw[Wy]; rfl
 rw[ep] at cmp;have al:=Bj (xs.map bW);have ea:((xs.map bW).all λb=>b)=xs.all bW:=by rw[JF]; rfl
 rw[ea] at al;have t1:aH gy (ao (bD [3] (bG (aa 1)) (ag [] 3) aV (aA jA [.val (aa 3)]))) (ja ru (.tup xs)) = .ok (.pure (.bl (xs.all bW))) (ja ru (.tup xs)):=by
  rw[ox,kE,cmp];simp only[eB,pV,ow];rw[al];rfl
 have t2:aB (aH gy (ao (bD [3] (bG (aa 1)) (ag [] 3) aV (aA jA [.val (aa 3)])))) (ja ru (.tup xs)) = .ok (xs.all bW) (ja ru (.tup xs)):=by
  unfold aB;rw[t1];rfl
 rw[Hw,yv,E_,t2]
 cases xs.all bW <;> rfl
abbrev Bm:DS:=ax (ah cL 2 (ao (ah ay 3 (ao (eD (.int 1)))))) (ag [] 2)
theorem Vk(N:Ab n a b)(h6:n<=6)(ru d:D):∃ q3,(∀ s,q3≠some (.own s))/\forL (ag [] 3) Bm ((W3 n).map (df a b)) (cX ru d 1 none none none none none) = .ok .next (cX ru d (pB b n) q3 none none none none):=by
 obtain⟨δ',e,q3,h3,rfl⟩:=j5 (g:=ag [] 3) (b:=Bm) (λi δ=>∃ q3,(∀ s,q3≠some (S.own s))/\δ=cX ru d (pB b i) q3 none none none none) ((W3 n).map (df a b)) 0 (cX ru d 1 none none none none none) ⟨none,(λs=>by simp),rfl⟩ (λi x δ hx ⟨q3,_,e⟩=>by
  subst e;have hi:i < n:=by
   have:=(W6.mp hx).1;simpa using this
  have gM:x=df a b i:=by
   rw[Wh,WR hi] at hx;simpa using hx.symm
  subst gM;rw[QD];have hl:pB b i < cb:=Wx (vF N i (by omega)) (oU (by omega));have ml:=mulC (pB b i) (b i) hl (J1 (N.bl i hi) vE);have i1:ay (df a b i) (.int 1)=some (.pure (.int (b i:Nat))):=rfl;refine⟨cX ru d (pB b i) (some (.pure (df a b i))) none none none none,cX ru d (pB b (i + 1)) (some (.pure (df a b i))) none none none none,rfl,?_,_,(λs=>by simp),rfl⟩;have ml:cL (.int (pB b i:Nat)) (.int (b i:Nat))=some (.pure (.int (pB b (i + 1):Nat))):=ml;unfold cX;generalize df a b i=F at *;generalize ((pB b (i + 1):Nat):Int)=y1 at *;generalize ((pB b i:Nat):Int)=y2 at *;generalize ((b i:Nat):Int)=y3 at *;simp[Bm,ax,ah,aR,ae,S.d,i1,ml])
 have hlen:0 + ((W3 n).map (df a b)).length=n:=by simp
 rw[hlen] at e;exact⟨q3,h3,e⟩
theorem Vl(R:dQ h w bs)(h6:bs.length<=6)(N:Ab bs.length a b)(hE:∀ x ∈ (W3 bs.length).map (df a b),El x)(hg:((W3 bs.length).map (df a b)).all bW=true) :
  ∃ r:Bool,i9 [.pure (au h w bs),.pure (bL bs.length a b)]=some (.pure (.bl r),[.pure (au h w bs),.pure (bL bs.length a b)])/\(r=true ↔ Tr bs ((h:Int) * (w:Int)) (cp a b bs.length) (pB b bs.length)):=by
 have n1:=R.n1;have s1:=Bl (h:=h) (w:=w) (bs:=bs) (xs:=(W3 bs.length).map (df a b)) (by simp) [none,none,none,none,none,none,none,none];have s2:=Hx (au h w bs) hE (by simp; omega);rw[hg,if_pos rfl] at s2;obtain⟨q3,h3,s4⟩:=Vk N h6 (au h w bs) (bL bs.length a b);have Vm:pB b bs.length < cb:=Wx (vF N bs.length (Wg _)) (oU (by omega));have Vn:=TR R;have c:=gC (cs:=[3]) (g:=ag [] 3) (t:=aV) (el:=aE fz (aE cL (ah ay 3 (ao (eD (.int 0)))) (ae 2)) (ao (ah ay 3 (ao (eD (.int 1)))))) (df a b) (λi=>D.int ((cp a b bs.length i:Nat):Int)) (cX (au h w bs) (bL bs.length a b) (pB b bs.length) none none none none none) (W3 bs.length) [] (by rw[cW]; simp; omega) (λi hi=>by
  have hi:=WA.mp hi;have b0:=N.b0 i hi;have i0:ay (df a b i) (.int 0)=some (.pure (.int (a i:Nat))):=rfl;have i1:ay (df a b i) (.int 1)=some (.pure (.int (b i:Nat))):=rfl;have ml:=mulC (a i) (pB b bs.length) (J1 (N.al i hi) vE) Vm;have dv:=mP ((a i * pB b bs.length:Nat):Int) ((b i:Nat):Int) (by omega) (by rw[Qs]; exact J1 (N.bl i hi) Bf);rw[<- JM] at dv;have dv:fz (.int (a i * pB b bs.length:Nat)) (.int (b i:Nat))=some (.pure (.int ((cp a b bs.length i:Nat):Int))):=dv;refine⟨[some (.pure (au h w bs)),some (.pure (bL bs.length a b)),some (.pure (.int (pB b bs.length:Nat))),some (.pure (df a b i)),none,none,none,none,none,none],_,.pure (.int ((cp a b bs.length i:Nat):Int)),[some (.pure (au h w bs)),some (.pure (bL bs.length a b)),some (.pure (.int (pB b bs.length:Nat))),some (.pure (df a b i)),none,none,none,none,none,none],rfl,rfl,?_,rfl,rfl⟩;clear s1 s2 s4;generalize bL bs.length a b=TD at *;generalize df a b i=F at *;generalize ((cp a b bs.length i:Nat):Int)=y1 at *;generalize ((a i * pB b bs.length:Nat):Int)=y2 at *;generalize ((pB b bs.length:Nat):Int)=y3 at *;generalize ((a i:Nat):Int)=y4 at *;generalize ((b i:Nat):Int)=y5 at *;generalize au h w bs=ru at *;simp[ah,aR,ae,S.d,i0,i1,dv,ml])
 have gz:([3]:List Nat).any (cj (cX (au h w bs) (bL bs.length a b) (pB b bs.length) q3 none none none none))=false:=by
  cases q3 with
  | none=>rfl
  | some s =>
   cases s with
   | pure d=>rfl
   | own d=>exact absurd rfl (h3 d)
 have iq:bG (aa 1) (cX (au h w bs) (bL bs.length a b) (pB b bs.length) q3 none none none none) = .ok ((W3 bs.length).map (df a b)) (cX (au h w bs) (bL bs.length a b) (pB b bs.length) q3 none none none none):=qo _ 1 _ rfl;have cmp:=iB (cs:=[3]) (g:=ag [] 3) (t:=aV) (el:=aE fz (aE cL (ah ay 3 (ao (eD (.int 0)))) (ae 2)) (ao (ah ay 3 (ao (eD (.int 1)))))) iq gz c;have kP:bG (aa 1) (cX (au h w bs) (bL bs.length a b) 1 none none none none none) = .ok ((W3 bs.length).map (df a b)) (cX (au h w bs) (bL bs.length a b) 1 none none none none none):=qo _ 1 _ rfl;have lp:=Hq (g:=ag [] 6) (b:=gF) (λv:Bool×Option S×Option S=>cX (au h w bs) (bL bs.length a b) (pB b bs.length) q3 (some (if v.1 then .own (hW (cp a b bs.length) bs.length) else .pure (hW (cp a b bs.length) bs.length))) (some (.own (dG bs))) v.2.1 v.2.2) (λj=>!decide (sN bs.length (λi=>((cp a b bs.length i:Nat):Int) * bO bs i j)=((h * w * cp a b bs.length j:Nat):Int))) (.pure (.bl false)) (λj:Nat=>D.int (j:Int)) (W3 bs.length) (true,none,none) (λj hj v=>by
  have hj:=WA.mp hj;obtain⟨q7,e⟩:=Vh R (t:=cp a b bs.length) (λi hi=>U5 N h6 hi) hj (bL bs.length a b) (pB b bs.length) q3 (if v.1 then .own (hW (cp a b bs.length) bs.length) else .pure (hW (cp a b bs.length) bs.length)) (by cases v.1 <;> simp) v.2.2;refine⟨cX (au h w bs) (bL bs.length a b) (pB b bs.length) q3 (some (if v.1 then .own (hW (cp a b bs.length) bs.length) else .pure (hW (cp a b bs.length) bs.length))) (some (.own (dG bs))) (some (.pure (.int (j:Int)))) v.2.2,rfl,?_⟩
  cases q:decide (sN bs.length (λi=>((cp a b bs.length i:Nat):Int) * bO bs i j)=((h * w * cp a b bs.length j:Nat):Int)) with
  | true =>
   rw[q,if_pos rfl] at e;exact .inr ⟨rfl,(false,some (.pure (.int (j:Int))),q7),e⟩
  | false =>
   rw[q] at e;exact .inl ⟨rfl,_,e⟩)
 have sm:=sJ ((W3 bs.length).map λi=>((cp a b bs.length i:Nat):Int));rw[qj] at sm;have eT:(((W3 bs.length).map λi=>((cp a b bs.length i:Nat):Int)).map D.int)=(W3 bs.length).map λi=>D.int ((cp a b bs.length i:Nat):Int):=by rw[Wy]; rfl
 rw[eT] at sm;have eq:=nt (sN bs.length λi=>((cp a b bs.length i:Nat):Int)) ((pB b bs.length:Nat):Int);have ee:((sN bs.length λi=>((cp a b bs.length i:Nat):Int)) == ((pB b bs.length:Nat):Int))=decide ((sN bs.length λi=>((cp a b bs.length i:Nat):Int))=((pB b bs.length:Nat):Int)):=by rw[Qq,beq_iff_eq,decide_eq_true_eq]
 rw[ee] at eq;have lt:bf (hW (cp a b bs.length) bs.length)=some (.pure (.int (bs.length:Int))):=by simp[bf]
 have rn:=kF bs.length (by omega);rw[show cx 0 bs.length=(W3 bs.length).map λk:Nat=>D.int (k:Int) from by unfold cx; simp] at rn;have dB:∀ r δ',(az (er (dD (aH bf (ae 4))) (ag [] 6) gF) (bC (aE bX (aH gq (ae 4)) (ae 2)))) (cX (au h w bs) (bL bs.length a b) (pB b bs.length) q3 (some (.own (hW (cp a b bs.length) bs.length))) (some (.own (dG bs))) none none) = .ok (.ret (.pure (.bl r))) δ'->i9 [.pure (au h w bs),.pure (bL bs.length a b)]=some (.pure (.bl r),[.pure (au h w bs),.pure (bL bs.length a b)]):=λr δ' q=>by
  rw[i9,su];refine kO (δ1:=δ') ?_;have oW:ke (bq 10 [.pure (au h w bs),.pure (bL bs.length a b)]) = .ok .next (ja (au h w bs) (bL bs.length a b)):=s1;rw[aZ oW,aZ s2];rw[aZ (δ1:=cX (au h w bs) (bL bs.length a b) 1 none none none none none) (by
   clear s1 s2 s4 c cmp iq kP lp q;show ax (eD (.int 1)) (ag [] 2) (ja (au h w bs) (bL bs.length a b))=_;generalize bL bs.length a b=TD at *;generalize au h w bs=ru at *;simp[ax])]
  rw[aZ ((jC kP).trans s4)];rw[aZ (δ1:=cX (au h w bs) (bL bs.length a b) (pB b bs.length) q3 (some (.own (hW (cp a b bs.length) bs.length))) none none none) (by
   show(bD _ _ _ _ _ _).bind _=_;rw[cmp];rfl)]
  rw[aZ (δ1:=cX (au h w bs) (bL bs.length a b) (pB b bs.length) q3 (some (.own (hW (cp a b bs.length) bs.length))) (some (.own (dG bs))) none none) (by
   clear s1 s2 s4 c cmp iq kP lp q;unfold cX;generalize bL bs.length a b=TD at *;generalize hW (cp a b bs.length) bs.length=HW at *;generalize dG bs=DT at *;generalize au h w bs=ru at *;simp[ax,aA,a_,bN,bJ,aa,bu,Vn,aT])]
  exact q
 have iR:dD (aH bf (ae 4)) (cX (au h w bs) (bL bs.length a b) (pB b bs.length) q3 (some (.own (hW (cp a b bs.length) bs.length))) (some (.own (dG bs))) none none) = .ok ((W3 bs.length).map λk:Nat=>D.int (k:Int)) (cX (au h w bs) (bL bs.length a b) (pB b bs.length) q3 (some (.own (hW (cp a b bs.length) bs.length))) (some (.own (dG bs))) none none):=by
  clear s1 s2 s4 c cmp iq kP lp dB;unfold cX;generalize bL bs.length a b=TD at *;generalize hW (cp a b bs.length) bs.length=HW at *;generalize ((W3 bs.length).map λk:Nat=>D.int (k:Int))=LL at *;generalize dG bs=DT at *;generalize au h w bs=ru at *;simp[ae,S.d,lt,rn]
 have Hy:∀ j,((h * w * cp a b bs.length j:Nat):Int)=((h:Int) * (w:Int)) * ((cp a b bs.length j:Nat):Int):=λj=>by rw[WQ,WQ]
 rcases lp with ⟨l1,δ',l2⟩ | ⟨l1,v',l2⟩
 ·refine⟨false,dB false δ' (fR ((jC iR).trans l2)),(λz=>by cases z),λz=>?_⟩;exfalso
  obtain⟨j,hj,q⟩:=List.any_eq_true.mp l1;have:=z.2 j (WA.mp hj);rw[<- Hy j] at this;rw[decide_eq_true this] at q
  cases q
 ·refine⟨decide ((sN bs.length λi=>((cp a b bs.length i:Nat):Int))=((pB b bs.length:Nat):Int)),dB _ (cX (au h w bs) (bL bs.length a b) (pB b bs.length) q3 (some (if v'.1 then .own (hW (cp a b bs.length) bs.length) else .pure (hW (cp a b bs.length) bs.length))) (some (.own (dG bs))) v'.2.1 v'.2.2) ?_,?_⟩
  ·refine(aZ ((jC iR).trans l2)).trans ?_;clear s1 s2 s4 c cmp iq kP dB iR l1 l2 ee;have sm:gq (hW (cp a b bs.length) bs.length)=_:=sm;unfold cX;generalize bL bs.length a b=TD at *;generalize hW (cp a b bs.length) bs.length=HW at *;generalize dG bs=DT at *;generalize au h w bs=ru at *;generalize decide ((sN bs.length λi=>((cp a b bs.length i:Nat):Int))=((pB b bs.length:Nat):Int))=bb at *;generalize (sN bs.length λi=>((cp a b bs.length i:Nat):Int))=y1 at *;generalize ((pB b bs.length:Nat):Int)=y2 at *
   cases v'.1 <;> simp[ae,S.d,sm,eq]
  ·rw[decide_eq_true_eq];unfold Tr;refine⟨λhh=>⟨hh,λj hj=>?_⟩,λhh=>hh.1⟩;have:=List.any_eq_false.mp l1 j (WA.mpr hj);rw[<- Hy j];simpa using this
def sL:D->Nat
 | .tup [.int a,_]=>a.toNat
 | _=>0
def oX:D->Nat
 | .tup [_,.int b]=>b.toNat
 | _=>0
theorem Vo(hE:El x)(hg:bW x=true):x = .tup [.int (sL x:Nat),.int (oX x:Nat)]/\sL x < cT/\oX x < cT/\0 < oX x:=by
 cases hE with
 | @two x y hx hy =>
  cases hx with
  | int a ha =>
   cases hy with
   | int b hb =>
    simp only[bW,Ww,decide_eq_true_eq] at hg;obtain⟨h0,h1,_⟩:=hg;have ea:((a.toNat:Nat):Int)=a:=by omega
    have eb:((b.toNat:Nat):Int)=b:=by omega
    refine⟨?_,?_,?_,?_⟩
    ·show _=D.tup [.int ((a.toNat:Nat):Int),.int ((b.toNat:Nat):Int)];rw[ea,eb]
    ·show a.toNat < cT;omega
    ·show b.toNat < cT;omega
    ·show 0 < b.toNat;omega
   | bl b=>simp[bW] at hg
   | str b=>simp[bW] at hg
  | bl a=>simp[bW] at hg
  | str a=>simp[bW] at hg
 | one x=>simp[bW] at hg
 | aI=>simp[bW] at hg
 | lst xs=>simp[bW] at hg
 | int i=>simp[bW] at hg
theorem Vp(hE:∀ x ∈ xs,El x)(hg:xs.all bW=true):∃ a b:Nat->Nat,xs=(W3 xs.length).map (df a b)/\Ab xs.length a b:=by
 have k:=λi (hi:i < xs.length)=>Vo (hE _ (WX hi)) (Q5.mp hg _ (WX hi))
 have e:∀ i (hi:i < xs.length),xs.getD i .aI=xs[i]:=λi hi=>by rw[Wi,W4 hi]; rfl
 refine⟨λi=>sL (xs.getD i .aI),λi=>oX (xs.getD i .aI),?_,⟨λi hi=>?_,λi hi=>?_,λi hi=>?_⟩⟩
 ·apply Qc;intro i;rw[Wh];by_cases hi:i < xs.length
  ·rw[WR hi,W4 hi];show some xs[i]=some (D.tup [.int (sL (xs.getD i .aI):Nat),.int (oX (xs.getD i .aI):Nat)]);rw[e i hi,<- (k i hi).1]
  ·rw[WB (by omega),WB (by simpa using hi)];rfl
 ·show sL (xs.getD i .aI) < cT;rw[e i hi]; exact(k i hi).2.1
 ·show oX (xs.getD i .aI) < cT;rw[e i hi]; exact(k i hi).2.2.1
 ·show 0 < oX (xs.getD i .aI);rw[e i hi]; exact(k i hi).2.2.2
def Th (n:Nat) (d:D):Prop:=fk "tuple" d=some false\/∃ xs,d = .tup xs/\(xs.length≠n\/∀ x ∈ xs,El x)
section
variable {h w:Nat} {bs:List (Nat×List Tx)} (R:dQ h w bs) (h6:bs.length<=6)
theorem Hz(q:ke (bq 10 [.pure (au h w bs),.pure d]) = .ok (.ret (.pure (.bl false))) δ'):i8 [.pure (au h w bs),.pure d]=some (.pure (.bl false),[.pure (au h w bs),.pure d])/\i9 [.pure (au h w bs),.pure d]=some (.pure (.bl false),[.pure (au h w bs),.pure d]):=by
 constructor
 ·rw[i8,sr];exact kO (δ1:=δ') (fR q)
 ·rw[i9,su];exact kO (δ1:=δ') (fR q)
include R h6
theorem both(T:Th bs.length d):∃ r:Bool,i8 [.pure (au h w bs),.pure d]=some (.pure (.bl r),[.pure (au h w bs),.pure d])/\i9 [.pure (au h w bs),.pure d]=some (.pure (.bl r),[.pure (au h w bs),.pure d]):=by
 rcases T with T | ⟨xs,rfl,T⟩
 ·exact⟨false,Hz (U7 T [none,none,none,none,none,none,none,none])⟩
 ·by_cases hl:xs.length=bs.length
  ·rcases T with T | T
   ·exact absurd hl T
   ·have s1:=Bl (h:=h) (w:=w) hl [none,none,none,none,none,none,none,none]
    cases hg:xs.all bW with
    | false =>
     have s2:=Hu (au h w bs) T (by omega);have s3:=Hx (au h w bs) T (by omega);rw[hg] at s2 s3;refine⟨false,?_,?_⟩
     ·rw[i8,sr];have oW:ke (bq 10 [.pure (au h w bs),.pure (.tup xs)]) = .ok .next (cB (au h w bs) (.tup xs) none none none none):=s1;refine kO (δ1:=cB (au h w bs) (.tup xs) none none none none) ?_;rw[aZ oW];exact fR s2
     ·rw[i9,su];have oW:ke (bq 10 [.pure (au h w bs),.pure (.tup xs)]) = .ok .next (ja (au h w bs) (.tup xs)):=s1;refine kO (δ1:=ja (au h w bs) (.tup xs)) ?_;rw[aZ oW];exact fR s3
    | true =>
     obtain⟨a,b,ex,N⟩:=Vp T hg;rw[hl] at ex N;rw[ex] at T hg ⊢;obtain⟨r1,e1,i1⟩:=Vd R h6 N T hg;obtain⟨r2,e2,i2⟩:=Vl R h6 N T hg;have:r1=r2:=by
      rw[Qq,i1,i2];exact(U6 N R.n0 _).symm
     rw[<- this] at e2;exact⟨r1,e1,e2⟩
  ·exact⟨false,Hz (U8 hl [none,none,none,none,none,none,none,none])⟩
end
def cS:Nat:=2 ^ 990
theorem Bn:7 < cS:=Wv (show 7 < 2 ^ 3 by decide) (WJ (by decide) (by decide))
theorem HA:2 * cS + 2<=cT:=by
 have e:cT=cS * 2 ^ 10:=by show 2 ^ 1000=2 ^ 990 * 2 ^ 10; rw[<- JT]
 have:=Bn;rw[e];omega
def sM(x:D):Prop:=∃ a b:Nat,a < cS/\b < cS/\x = .tup [.int (a:Int),.int (b:Int)]
structure lL(n:Nat)(xs:List D):Prop where
 len:xs.length=n
 fr:∀ x ∈ xs,sM x
theorem sO(a b:Nat)(ha:a<=7)(hb:b<=7):sM (.tup [.int (a:Int),.int (b:Int)]):=⟨a,b,by have:=Bn; omega,by have:=Bn; omega,rfl⟩
theorem Vq(h6:bs.length<=6)(K:A_ bs A f v):lL bs.length ((W3 bs.length).map λi=>lK (v i) (sN bs.length v)):=by
 have hW:=K.pos;have e:cS=2 ^ 960 * 2 ^ 30:=by show 2 ^ 990=_; rw[<- JT]
 have le:=K.le;have p:0 < (2:Nat) ^ 960:=U1 _;generalize (2:Nat) ^ 960=X at *;have h1:=Hd (n:=bs.length) (v:=v) le;have h2:bs.length * X<=6 * X:=QR _ h6;have F:=US (X:=6 * X) K.nn hW (by omega) (λi hi=>by have:=le i hi; omega);refine⟨by simp,λx hx=>?_⟩;obtain⟨i,hi,rfl⟩:=Wq.mp hx;have hi:=WA.mp hi;refine⟨_,_,?_,?_,UP (K.nn i hi) hW⟩
 ·have:=F.UR i hi; omega
 ·have:=F.ble i hi; omega
theorem HB(x:D){n:Nat}(h:n<=6):mU (.tup [x]) (.int (n:Int))=some (.pure (.tup (Wc n x))):=by
 have:n=0\/n=1\/n=2\/n=3\/n=4\/n=5\/n=6:=by omega
 rcases this with rfl | rfl | rfl | rfl | rfl | rfl | rfl <;> simp[mU,rT,e9,cW]
theorem Vr(h:m=n)(hx:sM x):lL n (Wc m x):=⟨by simp[h],λy hy=>by rw[(List.mem_replicate.mp hy).2]; exact hx⟩
theorem vG(xs ys:List D)(h:xs.length + ys.length<=1000):bI (.tup xs) (.tup ys)=some (.pure (.tup (xs ++ ys))):=by
 simp only[bI];rw[if_pos (by rw[cW]; omega)]
abbrev w7(ru pd:D)(o2 o3 o4 o5:Option S):Dl:=[some (.pure ru),some (.own pd),o2,o3,o4,o5,none]
abbrev wA:DS:=(ax (aH bf (ao (ah ay 0 (ao (eD (.int 2)))))) (ag [1] 2))
abbrev HC:DS:=(ax (aA c8 [.io 1,.val (eD (.int 4))]) (ag [1] 3))
abbrev wC:DS:=(ax (aA j8 [.val (aa 0)]) (ag [1] 4))
abbrev sP:DS:=(cE (mi (aB (ah mq 3 (ao (eD (.int 2))))) (aB (aE (om true) (aa 4) (ao (eD .aI))))) (bC (aa 4)) cG)
abbrev wE:DS:=(cE (aB (ah bX 3 (ao (eD (.int 2))))) (az (ax (aA c8 [.io 1,.val (aa 2)]) (ag [1] 5)) (bC (aH en (ao (bD [6] (dD (aa 2)) (ag [1] 6) aV (aE ay (iS [.tup [.int 0,.int 1],.tup [.int 1,.int 1]]) (ao (aH jS (ao (ah bX 6 (ae 5))))))))))) cG)
abbrev wG:DS:=(cE (mi (aB (ah bX 3 (ao (eD (.int 3))))) (aB (ah gx 2 (ao (eD (.int 1)))))) (bC (aE bI (eD (.tup [.tup [.int 1,.int 2],.tup [.int 1,.int 2]])) (ao (aE mU (eD (.tup [.tup [.int 0,.int 1]])) (ao (ah gj 2 (ao (eD (.int 2))))))))) cG)
abbrev wH:DS:=(bC (aE mU (cD (aG (cD (aG (eD (.int 1)) (aG (aa 2) bB))) bB)) (ae 2)))
def nv(s:Nat):D->D
 | .int k=>if k=s then .tup [.int 1,.int 1] else .tup [.int 0,.int 1]
 | _=>.aI
theorem Vs(hp:dF pd)(h0:0 < n)(h6:n<=6)(o4:Option S):∃ (xs:List D) (cN:D) (δ':Dl),dF cN/\lL n xs/\δ'[1]? = some (some (.own cN))/\wE (w7 ru pd (some (.pure (.int (n:Int)))) (some (.pure (.int 2))) o4 none) = .ok (.ret (.pure (.tup xs))) δ':=by
 obtain⟨s,d1,e1,l1,p1⟩:=iA hp n (n:Int) rfl h0 (by omega);have rn:=kF n (by omega);have c:=Fb (cs:=[6]) (g:=ag [1] 6) (t:=aV) (el:=aE ay (iS [.tup [.int 0,.int 1],.tup [.int 1,.int 1]]) (ao (aH jS (ao (ah bX 6 (ae 5)))))) (nv s)
  (w7 ru d1 (some (.pure (.int (n:Int)))) (some (.pure (.int 2))) o4 (some (.pure (.int (s:Int))))) (cx 0 n) [] (by rw[cW]; simp; omega) (λd hd=>by
   obtain⟨i,hi,rfl⟩:=u3 hd;refine⟨_,_,.pure (nv s (.int (i:Int))),[some (.pure ru),some (.own d1),some (.pure (.int (n:Int))),some (.pure (.int 2)),o4,some (.pure (.int (s:Int))),some (.pure (.int (i:Int)))],rfl,rfl,?_,rfl,rfl⟩;have q:=nt (i:Int) (s:Int);by_cases hi:(i:Int)=(s:Int)
   ·have:((i:Int) == (s:Int))=true:=by simpa using hi
    rw[this] at q;have ip:jS (.bl true)=some (.pure (.int 1)):=rfl;have ix:ay (.lst [.tup [.int 0,.int 1],.tup [.int 1,.int 1]]) (.int 1)=some (.pure (.tup [.int 1,.int 1])):=rfl;have e:nv s (.int (i:Int)) = .tup [.int 1,.int 1]:=by unfold nv; simp[hi]
    rw[e];generalize (i:Int)=z at *;simp[aE,iS,ah,aR,ae,q,ip,ix]
   ·have:((i:Int) == (s:Int))=false:=by simpa using hi
    rw[this] at q;have ip:jS (.bl false)=some (.pure (.int 0)):=rfl;have ix:ay (.lst [.tup [.int 0,.int 1],.tup [.int 1,.int 1]]) (.int 0)=some (.pure (.tup [.int 0,.int 1])):=rfl;have e:nv s (.int (i:Int)) = .tup [.int 0,.int 1]:=by unfold nv; simp; intro z; exact absurd z (by omega)
    rw[e];generalize (i:Int)=z at *;simp[aE,iS,ah,aR,ae,q,ip,ix])
 refine⟨(cx 0 n).map (nv s),d1,w7 ru d1 (some (.pure (.int (n:Int)))) (some (.pure (.int 2))) o4 (some (.pure (.int (s:Int)))),p1,⟨by simp[cx],λx hx=>?_⟩,rfl,?_⟩
 ·obtain⟨d,hd,rfl⟩:=Wq.mp hx;obtain⟨i,hi,rfl⟩:=u3 hd;show sM (if (i:Int)=(s:Int) then D.tup [.int 1,.int 1] else D.tup [.int 0,.int 1]);by_cases z:(i:Int)=(s:Int)
  ·rw[if_pos z]; exact sO 1 1 (by decide) (by decide)
  ·rw[if_neg z]; exact sO 0 1 (by decide) (by decide)
 ·have q:=nt 2 2;generalize (cx 0 n).map (nv s)=XS at *;have pt:en (.lst XS)=some (.pure (.tup XS)):=rfl;generalize cx 0 n=RG at *;generalize (n:Int)=nz at *;generalize (s:Int)=sz at *;simp[wE,aB,ah,aR,ae,q,ax,aA,a_,bN,cj,bJ,aa,bu,e1,aT,S.d,rn,bT];rw[c];simp[dh,pt,S.d]
theorem Vt{h w:Nat}{bs:List (Nat×List Tx)}(R:dQ h w bs)(h6:bs.length<=6){pd:D}(hp:dF pd):∃ (xs:List D) (cN:D),dF cN/\lL bs.length xs/\kJ [.pure (au h w bs),.own pd]=some (.pure (.tup xs),[.pure (au h w bs),.own cN]):=by
 have n0:=R.n0;obtain⟨y,d1,e1,l1,p1⟩:=iA hp 4 4 rfl (by decide) (by decide);have x2:=(lJ h w bs).2.2;have ln:bf (.tup (bs.map cI))=some (.pure (.int (bs.length:Int))):=by rw[oT]; simp
 have tl:∃ d:D,j8 [.pure (au h w bs)]=some (.pure d,[.pure (au h w bs)])/\(d = .aI\/∃ xs,d = .tup xs/\lL bs.length xs):=by
  rcases UL R h6 with ⟨_,_,_,_,_,_,_,g⟩ | ⟨f,v,_,_,_,K,g⟩
  ·exact⟨_,g,.inl rfl⟩
  ·exact⟨_,g,.inr ⟨_,rfl,Vq h6 K⟩⟩
 obtain⟨td,gt,ht⟩:=tl;have fin:∀ (xs:List D) (cN:D) (δ':Dl),δ'[1]? = some (some (.own cN))->(az sP (az wE (az wG wH))) (w7 (au h w bs) d1 (some (.pure (.int (bs.length:Int)))) (some (.pure (.int (y:Int)))) (some (.pure td)) none) = .ok (.ret (.pure (.tup xs))) δ'->kJ [.pure (au h w bs),.own pd]=some (.pure (.tup xs),[.pure (au h w bs),.own cN]):=λxs cN δ' h1 q=>by
  have q':ve (bq 7 [.pure (au h w bs),.own pd]) = .ok (.ret (.pure (.tup xs))) δ':=by
   rw[ve];show az wA (az HC (az wC _)) (w7 (au h w bs) pd none none none none)=_;generalize au h w bs=ru at *;generalize D.tup (bs.map cI)=BD at *;generalize (bs.length:Int)=n at *;generalize (y:Int)=yi at *;rw[aZ (δ1:=w7 ru pd (some (.pure (.int n))) none none none) (by simp[wA,ax,ah,aR,ae,x2,ln])];rw[aZ (δ1:=w7 ru d1 (some (.pure (.int n))) (some (.pure (.int yi))) none none) (by simp[HC,ax,aA,a_,bN,cj,bJ,aa,bu,e1,aT])];rw[aZ (δ1:=w7 ru d1 (some (.pure (.int n))) (some (.pure (.int yi))) (some (.pure td)) none) (by simp[wC,ax,aA,a_,bN,bJ,aa,bu,gt,aT])];exact q
  rw[kJ,oS,q'];simp[cV,dw,cH,h1]
 generalize au h w bs=ru at *;clear x2 ln e1 gt;have hy:y=0\/y=1\/y=2\/y=3:=by omega
 generalize hn:bs.length=n at *;have last:∀ o3:Option S,wH (w7 ru d1 (some (.pure (.int (n:Int)))) o3 (some (.pure td)) none) = .ok (.ret (.pure (.tup (Wc n (.tup [.int 1,.int (n:Int)]))))) (w7 ru d1 (some (.pure (.int (n:Int)))) o3 (some (.pure td)) none):=λo3=>by
  have m:=HB (.tup [.int 1,.int (n:Int)]) h6;generalize Wc n (D.tup [.int 1,.int (n:Int)])=Y at *;generalize (n:Int)=nz at *;simp[wH,aE,aa,ae,S.d,m]
 have qp:lL n (Wc n (.tup [.int 1,.int (n:Int)])):=Vr rfl (sO 1 n (by decide) (by omega));have Vu:∀ xs,om true (.tup xs) .aI=some (.pure (.bl true)):=λ_=>rfl
 have Vv:om true .aI .aI=some (.pure (.bl false)):=rfl;have early:∀ yy:Int,yy=0\/yy=1->yy=(y:Int)->∃ (xs:List D) (cN:D),dF cN/\lL n xs/\kJ [.pure ru,.own pd]=some (.pure (.tup xs),[.pure ru,.own cN]):=λyy Bo Vw=>by
  rw[<- Vw] at fin;have lt:mq (.int yy) (.int 2)=some (.pure (.bl true)):=by rcases Bo with rfl | rfl <;> rfl
  have q2:bX (.int yy) (.int 2)=some (.pure (.bl false)):=by rcases Bo with rfl | rfl <;> rfl
  have q3:bX (.int yy) (.int 3)=some (.pure (.bl false)):=by rcases Bo with rfl | rfl <;> rfl
  rcases ht with rfl | ⟨xs,rfl,hs⟩
  ·refine⟨_,d1,p1,qp,fin _ d1 (w7 ru d1 (some (.pure (.int (n:Int)))) (some (.pure (.int yy))) (some (.pure .aI)) none) rfl ?_⟩
   ·rw[<- last];clear last qp fin;generalize (n:Int)=nz at *;rw[aZ (δ1:=w7 ru d1 (some (.pure (.int nz))) (some (.pure (.int yy))) (some (.pure .aI)) none) (by simp[sP,aB,ah,aR,aE,aa,ae,lt,Vv,S.d])];rw[aZ (δ1:=w7 ru d1 (some (.pure (.int nz))) (some (.pure (.int yy))) (some (.pure .aI)) none) (by simp[wE,aB,ah,aR,ae,q2])];rw[aZ (δ1:=w7 ru d1 (some (.pure (.int nz))) (some (.pure (.int yy))) (some (.pure .aI)) none) (by simp[wG,aB,ah,aR,ae,q3])]
  ·refine⟨_,d1,p1,hs,fin _ d1 (w7 ru d1 (some (.pure (.int (n:Int)))) (some (.pure (.int yy))) (some (.pure (.tup xs))) none) rfl (fR ?_)⟩;have:=Vu xs;clear last qp fin;generalize (n:Int)=nz at *;generalize D.tup xs=XS at *;simp[sP,aB,ah,aR,aE,aa,ae,lt,this,S.d]
 have skip:∀ yy:Int,yy=2\/yy=3->sP (w7 ru d1 (some (.pure (.int (n:Int)))) (some (.pure (.int yy))) (some (.pure td)) none) = .ok .next (w7 ru d1 (some (.pure (.int (n:Int)))) (some (.pure (.int yy))) (some (.pure td)) none):=λyy Vx=>by
  have lt:mq (.int yy) (.int 2)=some (.pure (.bl false)):=by rcases Vx with rfl | rfl <;> rfl
  simp[sP,aB,ah,aR,ae,lt]
 rcases hy with rfl | rfl | rfl | rfl
 ·exact early 0 (.inl rfl) rfl
 ·exact early 1 (.inr rfl) rfl
 ·obtain⟨xs,d2,δ',p2,hs,hd,e⟩:=Vs (ru:=ru) p1 (show 0 < n by omega) h6 (some (.pure td));refine⟨xs,d2,p2,hs,fin xs d2 δ' hd ?_⟩;refine(aZ (skip 2 (.inl rfl))).trans (fR e)
 ·have q2:bX (.int 3) (.int 2)=some (.pure (.bl false)):=rfl;have q3:bX (.int 3) (.int 3)=some (.pure (.bl true)):=rfl;have g1:=gt_int (n:Int) 1;have vH:wE (w7 ru d1 (some (.pure (.int (n:Int)))) (some (.pure (.int 3))) (some (.pure td)) none) = .ok .next (w7 ru d1 (some (.pure (.int (n:Int)))) (some (.pure (.int 3))) (some (.pure td)) none):=by
   simp[wE,aB,ah,aR,ae,q2]
  by_cases h1:n=1
  ·rw[decide_eq_false (by omega)] at g1;refine⟨_,d1,p1,qp,fin _ d1 (w7 ru d1 (some (.pure (.int (n:Int)))) (some (.pure (.int 3))) (some (.pure td)) none) rfl ?_⟩
   ·rw[<- last];refine(aZ (skip 3 (.inr rfl))).trans ((aZ vH).trans (aZ ?_));clear last qp fin skip vH h1;generalize (n:Int)=nz at *;simp[wG,aB,ah,aR,ae,q3,g1]
  ·rw[decide_eq_true (by omega)] at g1;have m:=HB (.tup [.int 0,.int 1]) (show n - 2<=6 by omega);have sb:gj (.int (n:Int)) (.int 2)=some (.pure (.int ((n - 2:Nat):Int))):=by
    have e:(n:Int) - 2=((n - 2:Nat):Int):=by omega
    rw[<- e]; rfl
   have ad:=vG [.tup [.int 1,.int 2],.tup [.int 1,.int 2]] (Wc (n - 2) (.tup [.int 0,.int 1])) (by simp; omega);refine⟨[.tup [.int 1,.int 2],.tup [.int 1,.int 2]] ++ Wc (n - 2) (.tup [.int 0,.int 1]),d1,p1,⟨by simp; omega,λx hx=>?_⟩,fin _ d1 (w7 ru d1 (some (.pure (.int (n:Int)))) (some (.pure (.int 3))) (some (.pure td)) none) rfl ?_⟩
   ·rcases WC.mp hx with hx | hx
    ·have:x = .tup [.int 1,.int 2]:=by simpa using hx
     rw[this]; exact sO 1 2 (by decide) (by decide)
    ·rw[(List.mem_replicate.mp hx).2]; exact sO 0 1 (by decide) (by decide)
   ·refine(aZ (skip 3 (.inr rfl))).trans ((aZ vH).trans (fR ?_));clear last qp fin skip vH h1;generalize ([.tup [.int 1,.int 2],.tup [.int 1,.int 2]] ++ Wc (n - 2) (.tup [.int 0,.int 1]):List D)=Y2 at *;generalize Wc (n - 2) (D.tup [.int 0,.int 1])=Y at *;generalize ((n - 2:Nat):Int)=n2 at *;generalize (n:Int)=nz at *;simp[wG,aB,ah,aR,aE,ae,q3,g1,sb,m,ad,S.d]
theorem Bp(h:x ∈ cu xs l1 l2):x ∈ xs:=by
 unfold cu at h;exact List.mem_of_mem_drop (List.mem_of_mem_take h)
theorem Vy(xs ys:List D)(h:xs.length + ys.length<=1000):bI (.lst xs) (.lst ys)=some (.own (.lst (xs ++ ys))):=by
 simp only[bI];rw[if_pos (by rw[cW]; omega)]
theorem HD(xs:List D)(h:r < xs.length):∃ x,x ∈ xs/\ay (.lst xs) (.int (r:Int))=some (.pure x):=by
 refine⟨xs[r],WX h,?_⟩;simp only[ay];rw[gY,W4 h];rfl
theorem HE(xs:List D)(h:r < xs.length):∃ x,x ∈ xs/\ay (.tup xs) (.int (r:Int))=some (.pure x):=by
 refine⟨xs[r],WX h,?_⟩;simp only[ay];rw[gY,W4 h];rfl
theorem Bq(ds:List D)(lo hi:Option Int):iO lo hi (.tup ds)=some (.pure (.tup (cu ds lo hi))):=rfl
theorem HF(i:Int):e9 (.int 2) (.int i)=some (.pure (.int (2 * i))):=by
 unfold e9 pE fj;have:ji 2 i=true:=by unfold ji; simp
 simp[this]
theorem Vz(h:a < cS):∃ x,oF (.int (a:Int))=some (.pure (.str x)):=by
 have hc:(a:Int).natAbs.log2 < 1920:=by
  rw[Qs];by_cases z:a=0
  ·subst z; decide
  ·have:a.log2 < 990:=(Nat.log2_lt z).mpr h;omega
 simp only[oF];rw[if_pos hc];exact⟨_,rfl⟩
theorem HG(h:sM x):El x:=by
 obtain⟨a,b,ha,hb,rfl⟩:=h;have:=HA;exact .two (.int _ (by omega)) (.int _ (by omega))
abbrev gP(T pd:D)(sp to top bot:Option S)(o6 o7 o8 o9:Option S):Dl:=[some (.pure T),some (.own pd),sp,to,top,bot,o6,o7,o8,o9]
abbrev xA:DS:=(ax (aA c8 [.io 1,.val (aH bf (ae 0))]) (ag [1] 2))
abbrev xB:DS:=(ax (aA c8 [.io 1,.val (aH bf (ae 0))]) (ag [1] 3))
abbrev xC:DS:=(ax (ah ay 0 (ae 2)) (bV 2 (aQ (ag [1] 4) (aQ (ag [1] 5) b9))))
abbrev xD:DS:=(ax (aH mz (ae 0)) (ag [1] 6))
abbrev xE:DS:=(gW 6 (aa 2) (ah ay 0 (ae 3)))
abbrev xF:DS:=(gW 6 (aa 3) (ah ay 0 (ae 2)))
abbrev xG:DS:=(ax (eV (aG (cD (aG (aE e9 (eD (.int 2)) (ae 4)) (aG (aE e9 (eD (.int 2)) (ae 5)) bB))) (aG (cD (aG (aE gj (aH jr (ae 4)) (ao (eD (.int 1)))) (aG (aa 5) bB))) (aG (cD (aG (eD (.bl true)) (aG (aa 5) bB))) (aG (cD (aG (aa 4) (aG (eD (.bl true)) bB))) (aG (eD .aI) (aG (cD (aG (aa 4) (aG (eD (.int 0)) bB))) (aG (eV (aG (aa 4) (aG (aa 5) bB))) bB)))))))) (ag [1] 7))
abbrev xH:DS:=(ax (ah bI 7 (ao (eV (aG (cD (aG (aa 4) bB)) (aG (cD (aG (ah bI 4 (ao (eD (.int 1)))) (aG (aa 5) bB))) (aG (aa 4) (aG (cD (aG (aa 4) (aG (aH jr (ae 5)) bB))) (aG (cD (aG (aH oF (ae 4)) (aG (aa 5) bB))) bB)))))))) (ag [1] 7))
abbrev xI:DS:=(ax (aE bI (aE bI (gk 0 iN (fP (aa 2))) (ao (cD (aG (ah ay 7 (ao (aA c8 [.io 1,.val (eD (.int 12))]))) bB)))) (ao (gk 0 (fP (ah bI 2 (ao (eD (.int 1))))) iN))) (ag [1] 8))
abbrev xJ:DS:=(ax (eV (aG (aH en (ae 6)) (aG (aa 8) (aG (gk 0 (fP (eD (.int 1))) iN) (aG (aH mz (ae 0)) (aG (eD .aI) (aG (ah bI 0 (ao (eD (.tup [.tup [.int 0,.int 1]])))) (aG (aa 8) (aG (cD bB) bB))))))))) (ag [1] 9))
abbrev xK:DS:=(bC (ah ay 9 (ao (aA c8 [.io 1,.val (eD (.int 8))]))))
theorem VA(ha:a < cS)(hb:b < cS)(sp to o6:Option S):∃ L:List D,L.length=12/\(∀ x ∈ L,El x) /\
  ∀ k:DS,az xG (az xH k) (gP T pd sp to (some (.pure (.int (a:Int)))) (some (.pure (.int (b:Int)))) o6 none none none)=k (gP T pd sp to (some (.pure (.int (a:Int)))) (some (.pure (.int (b:Int)))) o6 (some (.own (.lst L))) none none):=by
 have c2:=HA;obtain⟨sx,es⟩:=Vz ha;have m1:=HF (a:Int);have m2:=HF (b:Int);have n1:jr (.int (a:Int))=some (.pure (.int (-(a:Int)))):=rfl;have n2:jr (.int (b:Int))=some (.pure (.int (-(b:Int)))):=rfl;have sb:gj (.int (-(a:Int))) (.int 1)=some (.pure (.int (-(a:Int) - 1))):=rfl;have ad:bI (.int (a:Int)) (.int 1)=some (.pure (.int ((a:Int) + 1))):=rfl;refine⟨[.tup [.int (2 * (a:Int)),.int (2 * (b:Int))],.tup [.int (-(a:Int) - 1),.int (b:Int)],.tup [.bl true,.int (b:Int)],.tup [.int (a:Int),.bl true],.aI,.tup [.int (a:Int),.int 0],.lst [.int (a:Int),.int (b:Int)]] ++ [.tup [.int (a:Int)],.tup [.int ((a:Int) + 1),.int (b:Int)],.int (a:Int),.tup [.int (a:Int),.int (-(b:Int))],.tup [.str sx,.int (b:Int)]],rfl,λx hx=>?_,λk=>?_⟩
 ·have ia:Sc (.int (a:Int)):=.int _ (by omega);have ib:Sc (.int (b:Int)):=.int _ (by omega);simp only[List.mem_append,Wl,List.not_mem_nil,or_false] at hx;rcases hx with (rfl | rfl | rfl | rfl | rfl | rfl | rfl) | (rfl | rfl | rfl | rfl | rfl)
  ·exact .two (.int _ (by omega)) (.int _ (by omega))
  ·exact .two (.int _ (by omega)) ib
  ·exact .two (.bl _) ib
  ·exact .two ia (.bl _)
  ·exact .aI
  ·exact .two ia (.int _ (by rw[Int.natAbs_zero]; omega))
  ·exact .lst _
  ·exact .one _
  ·exact .two (.int _ (by omega)) ib
  ·exact .int _
  ·exact .two ia (.int _ (by omega))
  ·exact .two (.str _) ib
 ·clear c2;have al:=Vy [.tup [.int (2 * (a:Int)),.int (2 * (b:Int))],.tup [.int (-(a:Int) - 1),.int (b:Int)],.tup [.bl true,.int (b:Int)],.tup [.int (a:Int),.bl true],.aI,.tup [.int (a:Int),.int 0],.lst [.int (a:Int),.int (b:Int)]] [.tup [.int (a:Int)],.tup [.int ((a:Int) + 1),.int (b:Int)],.int (a:Int),.tup [.int (a:Int),.int (-(b:Int))],.tup [.str sx,.int (b:Int)]] (by simp);generalize -(a:Int) - 1=v1 at *;generalize -(a:Int)=v2 at *;generalize -(b:Int)=v3 at *;generalize 2 * (a:Int)=v4 at *;generalize 2 * (b:Int)=v5 at *;generalize (a:Int) + 1=v6 at *;generalize (a:Int)=v7 at *;generalize (b:Int)=v8 at *;rw[aZ (δ1:=gP T pd sp to (some (.pure (.int v7))) (some (.pure (.int v8))) o6 (some (.own (.lst [.tup [.int v4,.int v5],.tup [.int v1,.int v8],.tup [.bl true,.int v8],.tup [.int v7,.bl true],.aI,.tup [.int v7,.int 0],.lst [.int v7,.int v8]]))) none none) (by
   simp[xG,ax,aa,ae,m1,m2,n1,sb,S.d])]
  refine aZ ?_;generalize ([.tup [.int v4,.int v5],.tup [.int v1,.int v8],.tup [.bl true,.int v8],.tup [.int v7,.bl true],.aI,.tup [.int v7,.int 0],.lst [.int v7,.int v8]] ++ [.tup [.int v7],.tup [.int v6,.int v8],.int v7,.tup [.int v7,.int v3],.tup [.str sx,.int v8]]:List D)=LL at *;generalize ([.tup [.int v4,.int v5],.tup [.int v1,.int v8],.tup [.bl true,.int v8],.tup [.int v7,.bl true],.aI,.tup [.int v7,.int 0],.lst [.int v7,.int v8]]:List D)=L7 at *;simp[xH,ax,aa,ae,ah,aR,n2,ad,es,al,S.d]
theorem VB(X:lL n xs)(h0:0 < n)(h6:n<=6)(hp:dF pd):∃ (th cN:D),dF cN/\Th n th/\lH [.pure (.tup xs),.own pd]=some (.pure th,[.pure (.tup xs),.own cN]):=by
 have hl:=X.len;have hE:∀ x ∈ xs,El x:=λx hx=>HG (X.fr x hx)
 have ln:bf (.tup xs)=some (.pure (.int (n:Int))):=by rw[oT,hl]
 obtain⟨r1,d1,e1,l1,p1⟩:=iA hp n (n:Int) rfl h0 (by omega);obtain⟨r2,d2,e2,l2,p2⟩:=iA p1 n (n:Int) rfl h0 (by omega);obtain⟨x1,rY,i1⟩:=HE xs (r:=r1) (by omega);obtain⟨x2,u6,i2⟩:=HE xs (r:=r2) (by omega);obtain⟨a,b,ha,hb,rfl⟩:=X.fr x1 rY;obtain⟨r3,d3,e3,l3,p3⟩:=iA p2 12 12 rfl (by decide) (by decide);obtain⟨r4,d4,e4,l4,p4⟩:=iA p3 8 8 rfl (by decide) (by decide);have lx:mz (.tup xs)=some (.own (.lst xs)):=rfl;have k1:dS xs.length (r1:Int)=some r1:=by
  unfold dS;rw[if_pos (by omega),if_pos (by omega)]; simp
 have k2:dS (xs.set r1 x2).length (r2:Int)=some r2:=by
  unfold dS;rw[if_pos (by omega),if_pos (by simp; omega)]; simp
 generalize hrow:(xs.set r1 x2).set r2 (.tup [.int (a:Int),.int (b:Int)])=row at *;have HH:∀ x ∈ row,El x:=λx hx=>by
  rw[<- hrow] at hx;rcases List.mem_or_eq_of_mem_set hx with hx | rfl
  ·rcases List.mem_or_eq_of_mem_set hx with hx | rfl
   ·exact hE x hx
   ·exact hE _ u6
  ·exact hE _ rY
 obtain⟨L,hL,hLE,oddk⟩:=VA (T:=.tup xs) (pd:=d2) ha hb (some (.pure (.int (r1:Int)))) (some (.pure (.int (r2:Int)))) (some (.own (.lst row)));obtain⟨od,mT,io⟩:=HD L (r:=r3) (by omega);have HI:=hLE od mT;have c1:=wU xs none (some (r1:Int));have c2:=wU xs (some ((r1:Int) + 1)) none;have s1:=Bq xs none (some (r1:Int));have s2:=Bq xs (some ((r1:Int) + 1)) none;have s3:=Bq xs (some 1) none;have a1:bI (.int (r1:Int)) (.int 1)=some (.pure (.int ((r1:Int) + 1))):=rfl;have a2:=vG (cu xs none (some (r1:Int))) [od] (by simp; omega);have a3:=vG (cu xs none (some (r1:Int)) ++ [od]) (cu xs (some ((r1:Int) + 1)) none) (by simp; omega);have a4:=vG xs [.tup [.int 0,.int 1]] (by simp; omega);have t1:Th n (.tup (cu xs none (some (r1:Int)) ++ [od] ++ cu xs (some ((r1:Int) + 1)) none)):=.inr ⟨_,rfl,.inr λy hy=>by
  rcases WC.mp hy with hy | hy
  ·rcases WC.mp hy with hy | hy
   ·exact hE y (Bp hy)
   ·have:y=od:=by simpa using hy
    rw[this]; exact HI
  ·exact hE y (Bp hy)⟩
 have t2:Th n (.tup (cu xs (some 1) none)):=.inr ⟨_,rfl,.inr λy hy=>hE y (Bp hy)⟩;have t3:Th n (.tup (xs ++ [.tup [.int 0,.int 1]])):=.inr ⟨_,rfl,.inl (by simp; omega)⟩;have t4:Th n (.tup row):=.inr ⟨_,rfl,.inr HH⟩;have t5:Th n (.lst xs):=.inl rfl;have t6:Th n .aI:=.inl rfl;have t7:Th n (.tup []):=.inr ⟨_,rfl,.inl (by simp; omega)⟩;generalize cu xs none (some (r1:Int)) ++ [od] ++ cu xs (some ((r1:Int) + 1)) none=X1 at *;generalize cu xs none (some (r1:Int)) ++ [od]=X0 at *;generalize cu xs none (some (r1:Int))=X2 at *;generalize cu xs (some ((r1:Int) + 1)) none=X3 at *;generalize cu xs (some 1) none=X4 at *;generalize xs ++ [.tup [.int 0,.int 1]]=X5 at *;obtain⟨th,hth,it⟩:=HD [.tup row,.tup X1,.tup X4,.lst xs,.aI,.tup X5,.tup X1,.tup []] (r:=r4) (by simpa using l4);have HJ:Th n th:=by
  simp only[Wl,List.not_mem_nil,or_false] at hth;rcases hth with rfl | rfl | rfl | rfl | rfl | rfl | rfl | rfl
  ·exact t4
  ·exact t1
  ·exact t2
  ·exact t5
  ·exact t6
  ·exact t3
  ·exact t1
  ·exact t7
 have pt:en (.lst row)=some (.pure (.tup row)):=rfl;refine⟨th,d4,p4,HJ,?_⟩;have q:vf (bq 10 [.pure (.tup xs),.own pd]) = .ok (.ret (.pure th)) (gP (.tup xs) d4 (some (.pure (.int (r1:Int)))) (some (.pure (.int (r2:Int)))) (some (.pure (.int (a:Int)))) (some (.pure (.int (b:Int)))) (some (.own (.lst row))) (some (.own (.lst L))) (some (.pure (.tup X1))) (some (.own (.lst [.tup row,.tup X1,.tup X4,.lst xs,.aI,.tup X5,.tup X1,.tup []])))):=by
  rw[vf];show az xA (az xB (az xC (az xD (az xE (az xF (az xG (az xH (az xI (az xJ xK))))))))) (gP (.tup xs) pd none none none none none none none none)=_;clear t1 t2 t3 t4 t5 t6 t7 HJ hth c1 c2 mT HI hLE HH hE X rY u6;rw[aZ (δ1:=gP (.tup xs) d1 (some (.pure (.int (r1:Int)))) none none none none none none none) (by
   generalize D.tup xs=T at *;generalize (n:Int)=nz at *;generalize (r1:Int)=z1 at *;simp[xA,ax,aA,a_,bN,cj,bJ,aa,ae,bu,ln,e1,aT,S.d])]
  rw[aZ (δ1:=gP (.tup xs) d2 (some (.pure (.int (r1:Int)))) (some (.pure (.int (r2:Int)))) none none none none none none) (by
   generalize D.tup xs=T at *;generalize (n:Int)=nz at *;generalize (r1:Int)=z1 at *;generalize (r2:Int)=z2 at *;simp[xB,ax,aA,a_,bN,cj,bJ,aa,ae,bu,ln,e2,aT,S.d])]
  rw[aZ (δ1:=gP (.tup xs) d2 (some (.pure (.int (r1:Int)))) (some (.pure (.int (r2:Int)))) (some (.pure (.int (a:Int)))) (some (.pure (.int (b:Int)))) none none none none) (by
   generalize D.tup xs=T at *;generalize (a:Int)=za at *;generalize (b:Int)=zb at *;generalize (r1:Int)=z1 at *;generalize (r2:Int)=z2 at *;simp[xC,ax,ah,aR,ae,i1,bV,aQ,b9,S.d])]
  rw[aZ (δ1:=gP (.tup xs) d2 (some (.pure (.int (r1:Int)))) (some (.pure (.int (r2:Int)))) (some (.pure (.int (a:Int)))) (some (.pure (.int (b:Int)))) (some (.own (.lst xs))) none none none) (by
   generalize (a:Int)=za at *;generalize (b:Int)=zb at *;generalize (r1:Int)=z1 at *;generalize (r2:Int)=z2 at *;simp[xD,ax,ae,lx,S.d])]
  rw[aZ (δ1:=gP (.tup xs) d2 (some (.pure (.int (r1:Int)))) (some (.pure (.int (r2:Int)))) (some (.pure (.int (a:Int)))) (some (.pure (.int (b:Int)))) (some (.own (.lst (xs.set r1 x2)))) none none none) (by
   generalize D.tup xs=T at *;generalize (a:Int)=za at *;generalize (b:Int)=zb at *;generalize (r1:Int)=z1 at *;generalize (r2:Int)=z2 at *;simp[xE,gW,gU,putL,aa,ah,aR,ae,S.d,i2,k1])]
  rw[aZ (δ1:=gP (.tup xs) d2 (some (.pure (.int (r1:Int)))) (some (.pure (.int (r2:Int)))) (some (.pure (.int (a:Int)))) (some (.pure (.int (b:Int)))) (some (.own (.lst row))) none none none) (by
   rw[<- hrow];generalize xs.set r1 x2=row1 at *;generalize D.tup xs=T at *;generalize D.tup [.int (a:Int),.int (b:Int)]=x1 at *;generalize (a:Int)=za at *;generalize (b:Int)=zb at *;generalize (r1:Int)=z1 at *;generalize (r2:Int)=z2 at *;simp[xF,gW,gU,putL,aa,ah,aR,ae,S.d,i1,k2])]
  rw[oddk];clear oddk k1 k2 hrow i1 i2 e1 e2;rw[aZ (δ1:=gP (.tup xs) d3 (some (.pure (.int (r1:Int)))) (some (.pure (.int (r2:Int)))) (some (.pure (.int (a:Int)))) (some (.pure (.int (b:Int)))) (some (.own (.lst row))) (some (.own (.lst L))) (some (.pure (.tup X1))) none) (by
   generalize D.tup xs=T at *;generalize D.lst L=LL at *;generalize (a:Int)=za at *;generalize (b:Int)=zb at *;generalize (r1:Int) + 1=z3 at *;generalize (r1:Int)=z1 at *;generalize (r2:Int)=z2 at *;generalize (r3:Int)=z4 at *;simp[xI,ax,gk,aa,ae,ah,aR,iN,fP,s1,s2,a1,a2,a3,aA,a_,bN,cj,bJ,bu,e3,aT,io,S.d])]
  rw[aZ (δ1:=gP (.tup xs) d3 (some (.pure (.int (r1:Int)))) (some (.pure (.int (r2:Int)))) (some (.pure (.int (a:Int)))) (some (.pure (.int (b:Int)))) (some (.own (.lst row))) (some (.own (.lst L))) (some (.pure (.tup X1))) (some (.own (.lst [.tup row,.tup X1,.tup X4,.lst xs,.aI,.tup X5,.tup X1,.tup []])))) (by
   clear s1 s2 a1 a2 a3;generalize (a:Int)=za at *;generalize (b:Int)=zb at *;generalize (r1:Int)=z1 at *;generalize (r2:Int)=z2 at *;generalize (r3:Int)=z4 at *;simp[xJ,ax,gk,aa,ae,ah,aR,iN,fP,pt,lx,s3,a4,S.d])]
  generalize D.lst [.tup row,.tup X1,.tup X4,.lst xs,.aI,.tup X5,.tup X1,.tup []]=SM at *;generalize D.tup xs=T at *;generalize (a:Int)=za at *;generalize (b:Int)=zb at *;generalize (r1:Int)=z1 at *;generalize (r2:Int)=z2 at *;generalize (r4:Int)=z4 at *;simp[xK,aA,a_,bN,cj,bJ,aa,ae,ah,aR,bu,e4,aT,it,S.d]
 rw[lH,oS,q];simp[cV,dw,cH]
theorem VC(a b:Bool):eU (.bl a) (.bl b)=some (.pure (.bl (a != b))):=by cases a <;> cases b <;> rfl
theorem VD(X:lL n xs):Th n (.tup xs):=.inr ⟨_,rfl,.inr λx hx=>HG (X.fr x hx)⟩
abbrev y8(du:D)(a1 a2 a3 a4 a5 a6 a7:Option S):Dl:=[some (.pure du),a1,a2,a3,a4,a5,a6,a7]
abbrev yA:DS:=(ax (aA mX [.val (aa 1)]) (ag [] 2))
abbrev yB:DS:=(ax (aA lF [.io 2,.val (eD (.int 6))]) (ag [] 3))
abbrev yC:DS:=(ax (aA kJ [.val (aa 3),.io 2]) (ag [] 5))
abbrev yE:DS:=(ax (aA i8 [.val (aa 3),.val (aa 6)]) (ag [] 7))
abbrev yF:DS:=(cE (jh (gw (aB (cP "bool" (ae 7)))) (aB (ah eU 7 (ao (aA i9 [.val (aa 3),.val (aa 6)]))))) (bC (eD (.bl false))) cG)
abbrev yD:DS:=(er (bG (eV (aG (aa 5) (aG (aA lH [.val (aa 5),.io 2]) bB)))) (ag [] 6) (az yE yF))
abbrev yL:DS:=(er (dD (eD (.int 3))) (ag [] 4) (az yC yD))
theorem HK(R:dQ h w bs)(h6:bs.length<=6)(T:Th bs.length d)(du:D)(a1 a2 a4 a5 a7:Option S):∃ q7,(az yE yF) (y8 du a1 a2 (some (.pure (au h w bs))) a4 a5 (some (.pure d)) a7) = .ok .next (y8 du a1 a2 (some (.pure (au h w bs))) a4 a5 (some (.pure d)) q7):=by
 obtain⟨r,g1,g2⟩:=both R h6 T;refine⟨some (.pure (.bl r)),?_⟩;have nb:=VC r r;have e:(r != r)=false:=by cases r <;> rfl
 rw[e] at nb;have ty:fk "bool" (.bl r)=some true:=rfl;generalize au h w bs=ru at *;rw[aZ (δ1:=y8 du a1 a2 (some (.pure ru)) a4 a5 (some (.pure d)) (some (.pure (.bl r)))) (by
  simp[yE,ax,aA,a_,bN,bJ,aa,bu,g1,aT])]
 generalize D.bl r=rr at *;simp[yF,aB,cP,ah,aR,ae,aa,aA,a_,bN,bJ,bu,g2,aT,S.d,ty,nb]
theorem VE(R:dQ h w bs)(h6:bs.length<=6)(hp:dF pd)(du:D)(a1 a4 a5 a6 a7:Option S):∃ cN q5 q6 q7,dF cN/\(az yC yD) (y8 du a1 (some (.own pd)) (some (.pure (au h w bs))) a4 a5 a6 a7) = .ok .next (y8 du a1 (some (.own cN)) (some (.pure (au h w bs))) a4 q5 q6 q7):=by
 obtain⟨xs,d1,p1,X,g1⟩:=Vt R h6 hp;obtain⟨th,d2,p2,T,g2⟩:=VB X R.n0 h6 p1;obtain⟨q7,k1⟩:=HK R h6 (VD X) du a1 (some (.own d2)) a4 (some (.pure (.tup xs))) a7;obtain⟨r7,k2⟩:=HK R h6 T du a1 (some (.own d2)) a4 (some (.pure (.tup xs))) q7;refine⟨d2,some (.pure (.tup xs)),some (.pure th),r7,p2,?_⟩;clear T X;generalize au h w bs=ru at *;generalize D.tup xs=XS at *;rw[aZ (δ1:=y8 du a1 (some (.own d1)) (some (.pure ru)) a4 (some (.pure XS)) a6 a7) (by
  simp[yC,ax,aA,a_,bN,cj,bJ,aa,bu,g1,aT])]
 have iq:bG (eV (aG (aa 5) (aG (aA lH [.val (aa 5),.io 2]) bB))) (y8 du a1 (some (.own d1)) (some (.pure ru)) a4 (some (.pure XS)) a6 a7) = .ok [XS,th] (y8 du a1 (some (.own d2)) (some (.pure ru)) a4 (some (.pure XS)) a6 a7):=by
  simp[iy,aA,a_,bN,cj,bJ,aa,bu,g2,aT,S.d]
 refine(jC iq).trans ?_;rw[sF (δ1:=y8 du a1 (some (.own d2)) (some (.pure ru)) a4 (some (.pure XS)) (some (.pure XS)) a7) rfl k1];rw[sF (δ1:=y8 du a1 (some (.own d2)) (some (.pure ru)) a4 (some (.pure XS)) (some (.pure th)) q7) rfl k2];rfl
theorem VF(du:D)(c:Int)(a2 a3 a4 a5 a6 a7:Option S):∃ q2 q3 q4 q5 q6 q7,(az yA (az yB yL)) (y8 du (some (.pure (.int c))) a2 a3 a4 a5 a6 a7) = .ok .next (y8 du (some (.pure (.int c))) q2 q3 q4 q5 q6 q7):=by
 obtain⟨d0,e0,p0⟩:=Tf c;obtain⟨h,w,bs,d1,e1,R,h6,p1⟩:=Tt p0 6 (by decide) (by decide);have e1:lF [.own d0,.pure (.int 6)]=some (.pure (au h w bs),[.own d1,.pure (.int 6)]):=e1;obtain⟨δ',e,cN,q4,q5,q6,q7,_,rfl⟩:=j5 (g:=ag [] 4) (b:=(az yC yD))
  (λ_ δ=>∃ (pd:D) (q4 q5 q6 q7:Option S),dF pd/\δ=y8 du (some (.pure (.int c))) (some (.own pd)) (some (.pure (au h w bs))) q4 q5 q6 q7) (cx 0 3) 0 (y8 du (some (.pure (.int c))) (some (.own d1)) (some (.pure (au h w bs))) a4 a5 a6 a7) ⟨d1,a4,a5,a6,a7,p1,rfl⟩ (λi d δ hd ⟨pd,q4,q5,q6,q7,hp,e⟩=>by
   subst e;obtain⟨cN,r5,r6,r7,oi,e⟩:=VE R h6 hp du (some (.pure (.int c))) (some (.pure d)) q5 q6 q7;exact⟨_,_,rfl,e,_,_,_,_,_,oi,rfl⟩)
 refine⟨some (.own cN),some (.pure (au h w bs)),q4,q5,q6,q7,?_⟩;rw[<- e];clear e;generalize au h w bs=ru at *;rw[aZ (δ1:=y8 du (some (.pure (.int c))) (some (.own d0)) a3 a4 a5 a6 a7) (by simp[yA,ax,aA,a_,bN,bJ,aa,bu,e0,aT])];rw[aZ (δ1:=y8 du (some (.pure (.int c))) (some (.own d1)) (some (.pure ru)) a4 a5 a6 a7) (by simp[yB,ax,aA,a_,bN,cj,bJ,aa,bu,e1,aT])];have rn:=kF 3 (by decide);exact jC (by simp[dD]; rfl)
theorem VG(ns:List Int)(hn:ns.length<=63):oP [.pure (.lst (ns.map .int))]=some (.pure (.bl true),[.pure (.lst (ns.map .int))]):=by
 obtain⟨c0,e0⟩:=Tg ns;have VH:∀ (ns:List Int) (lo hi:Option Int),cu (ns.map D.int) lo hi=(cu ns lo hi).map D.int:=λns lo hi=>by
  unfold cu;simp[List.map_take,List.map_drop]
 have ha:bI (.lst [.int c0]) (.lst (cu (ns.map .int) (some 1) (some 5)))=some (.own (.lst ((c0 :: cu ns (some 1) (some 5)).map .int))):=by
  rw[VH];have hl:(cu ns (some 1) (some 5)).length<=63:=by
   unfold cu;simp;omega
  simp only[bI];rw[if_pos (by rw[cW]; simp; omega)];simp
 have hs:iO (some 1) (some 5) (.lst (ns.map .int))=some (.own (.lst (cu (ns.map .int) (some 1) (some 5)))):=rfl;generalize D.lst (ns.map .int)=du at *;obtain⟨δ',e,o1,o2,o3,o4,o5,o6,o7,rfl⟩:=j5 (g:=ag [] 1) (b:=(az yA (az yB yL)))
  (λ_ δ=>∃ (o1 o2 o3 o4 o5 o6 o7:Option S),δ=y8 du o1 o2 o3 o4 o5 o6 o7) ((c0 :: cu ns (some 1) (some 5)).map .int) 0 (y8 du none none none none none none none) ⟨none,none,none,none,none,none,none,rfl⟩ (λi d δ hd ⟨o1,o2,o3,o4,o5,o6,o7,e⟩=>by
   subst e;simp only[Wh,WG] at hd;obtain⟨k,_,rfl⟩:=hd;obtain⟨q2,q3,q4,q5,q6,q7,e⟩:=VF du k o2 o3 o4 o5 o6 o7;exact⟨_,_,rfl,e,_,_,_,_,_,_,_,rfl⟩)
 generalize ((c0 :: cu ns (some 1) (some 5)).map D.int)=cs at *;generalize D.lst (cu (ns.map .int) (some 1) (some 5))=cl at *;rw[oP];refine gu (δ1:=y8 du o1 o2 o3 o4 o5 o6 o7) ?_;rw[Aj];have qi:bG (aE bI (eV (aG (aA mW [.val (aa 0),.val (eD (.int 0))]) bB)) (ao (gk 0 (fP (eD (.int 1))) (fP (eD (.int 5)))))) (y8 du none none none none none none none) = .ok cs (y8 du none none none none none none none):=by
  simp[iy,aA,a_,bN,bJ,aa,bu,e0,aT,gk,fP,ae,hs,ha]
 refine(aZ ((jC qi).trans e)).trans ?_;rfl
theorem VI(ns:List Int)(h:ns.length<=63):∃ bc,oP [.pure (.lst (ns.map .int))]=some (.pure (.bl true),bc):=⟨_,VG ns h⟩
end K22
open PySem PySem.W PyProof.Rows
namespace PySem.W.Fast
def tw8442926177045845186:=0
def tw16707201849386568761:=0
def tw11718986006699836544:=0
def tw2922126456380551224:=0
def tw3143647508520939918:=0
def tw3337964454491996638:=0
def tw17367633675071499278:=0
def tw16212274175237534370:=0
def tw14508501030987201136:=0
def tw11129120470432122635:=0
def tw15936779032345309181:=0
def tw338265769125455106:=0
def tw15787725077245914913:=0
def tw762425964869347496:=0
def tw6206466503172962393:=0
def tw16291453417189388127:=0
def tw6222173927103108678:=0
def tw9773785384796198991:=0
def tw13238093011716328908:=0
def tw10228754380867782600:=0
def tw12388764448154174647:=0
def tw3068299093108150589:=0
def tw12577255620501247698:=0
def tw9329062070413758730:=0
def tw16873096376130264290:=0
def tw13709077949558963840:=0
def tw14227240023622133826:=0
def tw6048349786264320876:=0
def tw18274665017288200127:=0
end PySem.W.Fast
set_option maxRecDepth 100000 in
set_option maxHeartbeats 0 in
theorem PySem.Challenge.cw_tilegrow_k22_shares_by_anybody_holds : PySem.Challenge.rw_tilegrow_k22_shares_by_anybody.Holds := by
 w_on; o_law; k_head; (case hw=>w_witness2)
 k_fill
 refine DV.NQ (l:=PySem.Challenge.rw_tilegrow_k22_shares_by_anybody) (k:=7) (G:=K22.oP) rfl rfl ⟨rfl,by decide,by decide⟩ (λw h Y=>PySem.W.kIn_of Y) ?L K22.VI ?F
 case L=>intro p; exact Eq.refl true
 case F =>
  intro w mg fa h KX G qQ;refine' K22.all_mk KX G qQ ?d0 ?d1 ?d2 ?d3 ?d4 ?d5 ?d6 ?d7 ?d8 ?d9 ?As ?Au ?Aw ?Ax ?Ay ?Az ?AA ?AB ?AD ?AE ?AF ?AG ?AH ?AI ?AJ ?AK ?rG ?AL ?AM ?AN ?qa ?oG ?oH ?sd ?mV ?iY ?e_ ?qb ?se ?gZ ?sg ?si ?lE ?g7 ?oI
  (case d0|d1|d2|d3|d4|d5|d6|d7|d8|d9|As|Au|Aw|Ax|Ay|Az|AA|AB|AD|AE|AF|AG|AH|AI|AJ|AK=>exact⟨_,_,_,_,_,_,_,_,_,_,by k_is,by k_is,by k_is,by k_is⟩)
  (case rG|AL|AM|AN|qa|oG|oH|sd|mV|iY|e_|qb|se|gZ|sg|si|lE|g7|oI=>k_is)
