import PyProof.Rows.All
import Wide.All
import OpenK.AllK
import Wide.FinOn
import Lean
import PyProof.EqAt
import PyProof.EqKinds
import PyProof.TupleCall
import PyProof.NeKinds
import PyProof.StrWalks
import PyProof.ListStr
import PyProof.StrOps2
import PyProof.StrLawsIn
import KE.KDictOf
import PyProof.AttrMissHeap
import PyProof.Draws
import PyProof.EnumMake
import PyProof.Rows.EnumRows
import PyProof.LongRange
import PyProof.NoPylong
import PyProof.SeqI3
import PyProof.Rows.SeqCalls
import PyProof.StrLawsChain
import PyProof.StrCalls2
import KE.KIntText
import PyProof.Rows.CallKwBuiltin
import OpenK.KOwn
import OpenK.KRaise
import PyProof.ExcBaseAll.ValueError
import PyProof.Rows.CatchOwn
import KE.KIsAll
import PyProof.ExcArgsOwn
import PyProof.ExcAttrAll.ValueError
import PyProof.Rows.SeqMore2
import PyProof.ListMulAny
import PyProof.ListMulRoad
import PyProof.ZipIter
import PyProof.Rows.FactsT2
import PyProof.ExcInit
import PyProof.InstStoreFacts
import PyProof.StrCalls
import PyProof.FactsAll.dict_1
import PyProof.FactsAll.subtypes_3
import PyProof.FactsAll.subtypes_4
import PyProof.Dict
import PyProof.MinMaxWalk
import PyProof.WalkInts
import PyProof.WalksMore
import PyProof.FactsAll.tuple_2
import KE.KSortTup
import PyProof.Rows.SortWalk
import PyProof.Rows.SetFrom
import PyProof.DictKinds
import PyProof.DictStraight
import PyProof.SetRoads
import PyProof.CollectWalk
import PyProof.CollectStr
import PyProof.DictIter
import PyProof.Rows.SortShell
import KE.KItemsList
import PyProof.Rows.SortStr
import PyProof.DictItemsLoops
import PyProof.ListNew
import PyProof.Rows.SumAny
import KE.IntBitsLaws
import KE.KLam
import KE.KDictList
import KE.KNestM
import PyProof.DictRoadsH
import PyProof.Rows.TupDisplay
import PySem.Challenge.RW_tilegrow_k19_parts_that_there_are_not
open PySem renaming wpAny_bind→W0,Shared→W1,wpAny_pure→W3,wpAny→W4,starEach→W7,Spec→W9,sizeLine→Wb,Program→Wg,World→Wh,Around→Wl,mainGlobals→Wr,mem_of_lookup→Wt,cLine→Ww,compareOp→WB,FuncData→WD,wpAny_call_entry→WE,wpAny_newObj_type→WG,wpAny_callSpecial?_slot→WI,wpAny_holding→WK,backTo→WN,wpAny_mono→WQ,rawInt→WR,wpAny_field→WV,wpAny_loadPart'→Q5,assignEach→Q6,attributeBase→Q9,wpAny_truthy_bool→Qb,wpAny_loadPart_at→Qc,binaryOp→Qe,sysModules→Qf,bootBuiltins→Qg,cellsFrom→Qn,codeAny→Qq,behindInMarks→Qu,pyNext→Qv,wpAny_setField→Qx,keywordEach→QA,wpAny_typeNameOfWhole_itemiter→QC,wpAny_Call_Name_kw→QG,wpAny_pyIter_enum→QM,wpAny_typeNameOf_itemiter→QQ,sizeLine_eq→QR,tupleKind_room_in1→J0,wpAny_rule→J4,wpAny_pyIter_tuple→J5,wpAny_setField_rec→Ja,backToKw→Jb,wpAny_typeOf→Jf,firstArgMember→Jg,swapsWith→Ji,sliceBounds→Jl,wpAny_passesOwn→Jo,codeAny_builtin→Jq,codeAny_mono→Js,pushCells→Jt,noteFrame→Ju,getattributeRaised→Jx,getItem→JB,typeIs_int→JC,call_meets→JD,wpAny_seqItems→JE,foldedSetIterable→JF,wpAny_sequenceKey→JG,wpAny_Call_method→JH,wpAny_dictEntries→JK,strIterType→JL
open PySem.W renaming Frag→W2,mg_none_of→WO,kia_one→WW,keepIn→Qa,fnOf→Qs,kitOne→Qw,kitOne→Qy,cellsFrom_some→Jc,findIn→Je,findIn→Jh
open List renaming getElem?_set_ne→W5,getElem?_eq_getElem→W8,replicate→Wc,mem_cons_of_mem→Wd,getElem?_eq_some_iff→We,mem_cons_self→Wj,map_cons→Wk,mem_cons→Wo,size_toArray→Wp,getElem?_set_self→Wq,mem_of_getElem?→Wx,getElem?_map→Wy,length_map→Wz,map_map→WF,getElem?_set→WL,mem_append_right→WP,find?_cons→WT,getElem?_eq_none→WU,append_nil→WX,lookup_cons→WY,replicate_succ→WZ,mem_map_of_mem→Q0,range→Q1,nodup_cons→Q4,length_cons→Q7,any_cons→Q8,length_append→Qi,all_eq_true→Qj,length_set→Qo,mem_map→Qt,nodup_iff_pairwise_ne→QK,flatten_cons→QL,drop_eq_getElem_cons→QO,getElem_mem→QW,map_congr_left→QX,foldl_cons→QZ,nil_append→J9,pairwise_map→Jd,mem_append_left→Jk,mem_append→Jn,length_nil→Jp,map_append→Jr,pairwise_cons→Jv,contains_cons→Jy,length_take→JM,not_mem_nil→JN,of_mem_zip→JP
open PySem.Heap renaming get?_push_of_some→W6,lt_size→Wi,get?_push_size→Wn,get?_update_self→WH,get?_update_other→WM,SameBut→Qh,size_push→QS,get?_none_of_le→Jj
open Option.some renaming injEq→Wa,inj→Ws
open Nat renaming le_refl→Wf,lt_of_lt_of_le→Wu,ne_of_lt→Wv,le_trans→Q2,lt_irrefl→Qk,zero_le→Ql,ne_of_gt→QT,le_succ→Jm,zero_add→Jw,pow_succ→JA,lt_succ_of_lt→JI,le_of_lt→JO,mul_comm→JR
open Bool renaming and_eq_true→Wm,false_ne_true→WC,false_eq_true→Jz,not_eq_true'→JJ,eq_iff_iff→JQ
open Option renaming bind_some→WA,map_some→WJ,map_eq_some_iff→WS,isSome_iff_exists→QB,bind_eq_some_iff→QY
open PySem.F renaming slot_dict_get→Q3,slot_dict_itemiterator_next→QD,entry_dict_get→QE,slot_tuple_iterator_next→QI
open Array renaming length_toList→Qd,getElem?_toList→QH,getElem?_eq_some_iff→QJ
open Int renaming toNat_natCast→Qm
open PySem.Builtin.Str renaming strSliceIndices→Qp
open PySem.Heap.SameBut renaming update→Qr
open PyProof.Rows renaming slot_tuple_getitem→Qz,callWith_type1→QF,envOfC→QU
open PySem.Builtin.Slice renaming slicePlaces→QN
open PySem.Builtin.SmallTypes renaming nextOf→QP
open PySem.Builtin.Tuple renaming tupleExact→QV
set_option Elab.async false
set_option linter.all false
set_option maxRecDepth 100000
namespace L2
open PySem PySem.Spec PyProof.Rows
abbrev Key:=Sum Int Str
def gw:Key->Value->Bool
 | .inl k,v=>Value.isInt k v
 | .inr x,v=>Value.isStrOf x v
def tK(w:Wh):Key->Int
 | .inl k=>hashInt k
 | .inr x=>hashStr w x
theorem iq:∀ {k:Key} {v:Value},gw k v=true->(∃ i t,k=Sum.inl i/\v=Value.int i t)\/(∃ x t,k=Sum.inr x/\v=Value.str x t)
 | .inl i,v,h=>by
  obtain⟨t,e⟩:=Value.isInt_shape (k:=i) (v:=v) h;exact .inl ⟨i,t,rfl,e⟩
 | .inr x,v,h=>by
  obtain⟨t,e⟩:=Value.isStrOf_shape (x:=x) (v:=v) h;exact .inr ⟨x,t,rfl,e⟩
theorem EX(i:Int)(t:Tok):gw (.inl i) (.int i t)=true:=by simp[gw,Value.isInt]
theorem EY(x:Str)(t:Tok):gw (.inr x) (.str x t)=true:=by simp[gw,Value.isStrOf]
theorem EZ(a b:Int):decide ((Sum.inl a:Key)=Sum.inl b)=(a == b):=by
 by_cases e:a=b
 ·subst e; simp
 ·have h:¬ (Sum.inl a:Key)=Sum.inl b:=λq=>e (Sum.inl.inj q)
  rw[decide_eq_false h];exact(beq_eq_false_iff_ne.mpr e).symm
theorem E1(a b:Str):decide ((Sum.inr a:Key)=Sum.inr b)=decide (a=b):=by
 by_cases e:a=b
 ·subst e; simp
 ·have h:¬ (Sum.inr a:Key)=Sum.inr b:=λq=>e (Sum.inr.inj q)
  rw[decide_eq_false h,decide_eq_false e]
theorem E2(a:Int)(b:Str):decide ((Sum.inl a:Key)=Sum.inr b)=false:=decide_eq_false (λq=>nomatch q)
theorem E3(a:Str)(b:Int):decide ((Sum.inr a:Key)=Sum.inl b)=false:=decide_eq_false (λq=>nomatch q)
def dB(prog:Wg)(w:Wh):PySem.KeyKind prog w Key where
 is:=gw
 hash:=tK w
 inj:=λv a b ha hb=>by
  rcases iq ha with ⟨i,t,rfl,rfl⟩ | ⟨x,t,rfl,rfl⟩
  ·rcases iq hb with ⟨j,u,rfl,e⟩ | ⟨y,u,rfl,e⟩
   ·injection e with e1 _; rw[e1]
   ·exact nomatch e
  ·rcases iq hb with ⟨j,u,rfl,e⟩ | ⟨y,u,rfl,e⟩
   ·exact nomatch e
   ·injection e with e1 _; rw[e1]
 byValue:=λk v h=>by
  rcases iq h with ⟨i,t,rfl,rfl⟩ | ⟨x,t,rfl,rfl⟩ <;> rfl
 pyHash:=λhv h=>by
  rcases iq hv with ⟨i,t,rfl,rfl⟩ | ⟨x,t,rfl,rfl⟩
  ·exact wpAny_pyHash_int h
  ·exact wpAny_pyHash_str h
 eqBool:=λhu hv h=>by
  rcases iq hu with ⟨i,t,rfl,rfl⟩ | ⟨x,t,rfl,rfl⟩
  ·rcases iq hv with ⟨j,u,rfl,rfl⟩ | ⟨y,u,rfl,rfl⟩
   ·rw[EZ] at h; exact wpAny_eqBool_int h
   ·rw[E2] at h; exact SeqAt.EqAt.int_str i t y u _ _ _ _ h
  ·rcases iq hv with ⟨j,u,rfl,rfl⟩ | ⟨y,u,rfl,rfl⟩
   ·rw[E3] at h; exact SeqAt.EqAt.str_int x t j u _ _ _ _ h
   ·rw[E1] at h; exact wpAny_eqBool_str h
 «strs»:=λk x t v h=>by
  rcases iq h with ⟨i,u,rfl,e⟩ | ⟨y,u,rfl,e⟩
  ·exact nomatch e
  ·injection e with e1 _
   subst e1
   cases v <;> rfl
theorem E4(prog:Wg)(w:Wh)(k:Key)(v:Value):(dB prog w).is k v=gw k v:=rfl
theorem E5(prog:Wg)(w:Wh)(i:Int)(t:Tok):(dB prog w).is (.inl i) (.int i t)=true:=EX i t
theorem E6(prog:Wg)(w:Wh)(x:Str)(t:Tok):(dB prog w).is (.inr x) (.str x t)=true:=EY x t
inductive V where
 | aw | bl (b:Bool) | int (i:Int) | str (x:Str) | byt (b:Array UInt8) | flt (b:UInt64) | ref (a:Addr) | ty (n:String)
 deriving DecidableEq
def RelV:V->Value->Prop
 | .aw,u=>u=Value.none
 | .bl b,u=>u=Value.bool b
 | .int i,u=>∃ t,u=Value.int i t
 | .str x,u=>∃ t,u=Value.str x t
 | .byt b,u=>∃ t,u=Value.bytes b t
 | .flt b,u=>∃ t,u=Value.float b t
 | .ref a,u=>u=Value.ref a
 | .ty n,u=>u=Value.type n
abbrev Vals:List V->List Value->Prop:=Paired RelV
theorem Vals.length(r:Vals xs us):xs.length=us.length:=Paired.length r
theorem Vals.get:∀ {xs:List V} {us:List Value} {i:Nat} {x:V},Vals xs us->xs[i]? = some x->∃ u,us[i]? = some u/\RelV x u
 | _,_,_,_,.nil,e=>by simp at e
 | _,_,0,_,.cons r _,e=>by simp at e; subst e; exact⟨_,rfl,r⟩
 | _,_,i + 1,x,.cons _ t,e=>by
  obtain⟨u,h1,h2⟩:=Vals.get (i:=i) (x:=x) t (by simpa using e);exact⟨u,by simpa using h1,h2⟩
theorem Vals.set(r:RelV x u):∀ {xs:List V} {us:List Value} (i:Nat),Vals xs us->Vals (xs.set i x) (us.set i u)
 | _,_,_,.nil=>.nil
 | _,_,0,.cons _ t=>.cons r t
 | _,_,i + 1,.cons q t=>.cons q (Vals.set r i t)
theorem Vals.append:∀ {xs ys:List V} {us ws:List Value},Vals xs us->Vals ys ws->Vals (xs ++ ys) (us ++ ws)
 | _,_,_,_,.nil,s=>s
 | _,_,_,_,.cons r t,s=>.cons r (Vals.append t s)
theorem Vals.take:∀ {xs:List V} {us:List Value} (n:Nat),Vals xs us->Vals (xs.take n) (us.take n)
 | _,_,0,_=>.nil
 | _,_,_ + 1,.nil=>.nil
 | _,_,n + 1,.cons r t=>.cons r (Vals.take n t)
theorem Vals.drop:∀ {xs:List V} {us:List Value} (n:Nat),Vals xs us->Vals (xs.drop n) (us.drop n)
 | _,_,0,r=>r
 | _,_,_ + 1,.nil=>.nil
 | _,_,n + 1,.cons _ t=>Vals.drop n t
def cX:Option V->Option Value->Prop
 | some v,some u=>RelV v u
 | none,none=>True
 | _,_=>False
def KV{κ:Type}:List (κ×V)->List (κ×Value)->Prop:=Paired λ(p:κ×V) (q:κ×Value)=>p.1=q.1/\RelV p.2 q.2
def kV:Key->V
 | .inl i=>.int i
 | .inr x=>.str x
inductive NK where
 | i (z:Int) | s (x:Str) | t (ks:List NK)
noncomputable instance nkDec:DecidableEq NK:=λa b=>Classical.propDecidable (a=b)
mutual
def fg(w:Wh):NK->Int
 | .i z=>tK w (.inl z)
 | .s x=>tK w (.inr x)
 | .t ks=>reduceHash (Builtin.Tuple.tupleHashOf (qw w ks))
def qw(w:Wh):List NK->List Int
 | []=>[]
 | k :: ks=>fg w k :: qw w ks
end
inductive HO where
  | lst (xs:List V)
  | tup (xs:List V)
  | dK (aa:List (Key×V)) | dT (aa:List (List Key×V))
  | set (S:Int->Bool) (n:Nat)
  | ins (C dx:Addr) (fs:List (Str×V))
  | own (x:Addr)
  | xd (fs:List (Str×V))
  | met (f x:Addr)
  | i3 (lo hi:Int)
  | frz (o:Obj) (u:HO)
  | tbl (ps:Array Value)
  | ctab (pos:Pos) (q:Str)
  | dN (ep:Nat) (aa:List (NK×V×V))
  | ext (φ:Heap->Prop)
abbrev Hp:=Addr->Option HO
def upd(H:Hp)(a:Addr)(o:HO):Hp:=λb=>if b=a then some o else H b
theorem cq:upd H a o a=some o:=by unfold upd; rw[if_pos rfl]
theorem aV(h:b≠a):upd H a o b=H b:=by unfold upd; rw[if_neg h]
theorem E7:upd (upd H a o) a u=upd H a u:=by
 funext b; unfold upd; split <;> rfl
theorem fD{H:Hp}{a b:Addr}{o:HO}(h:H a=some o)(h':H b=none):a≠b:=by
 intro e; subst e; rw[h] at h'; cases h'
def gx (h:Heap) (a:Addr) (af:Array Value):Prop:=∃ n,h.get? a=some { cls:=.type "tuple",dict:=none,data:=.seq af n,slots:=#[] }
theorem gx.tup(x:gx h a af):IsTup h a af:=let ⟨n,e⟩:=x; ⟨_,e,rfl,n,rfl⟩
theorem gx.new (h:Heap) (af:Array Value):gx (h.push { cls:=.type "tuple",data:=.seq af }) h.objs.size af:=⟨_,Wn _ rfl⟩
theorem gx.lt(x:gx h a af):a < h.objs.size:=let ⟨_,e⟩:=x; Wi e
section
variable (P:Wg) (w:Wh)
def bz(H:Hp)(h:Heap)(a:Addr):HO->Prop
 | .lst xs=>xs.length<=Wb/\∃ (af:List Value) (n:Nat),Vals xs af/\h.get? a=some { cls:=.type "list",data:=.seq af.toArray n }
 | .tup xs=>xs.length<=Wb/\∃ af:List Value,Vals xs af/\gx h a af.toArray
 | .dK aa=>aa.length<=Wb/\(a == Qf)=false/\∃ vs,KV aa vs/\h.DictOf (dB P w) a vs
 | .dT aa=>aa.length<=Wb/\(a == Qf)=false/\∃ xs:List (List Key×Addr×Value),
   Paired (λ(p:List Key×V) (q:List Key×Addr×Value)=>p.1=q.1/\H q.2.1=some (.tup (p.1.map kV))/\RelV p.2 q.2.2) aa xs /\
   ∃ o es ep,h.get? a=some o/\o.ExactDict/\o.data = .dict es ep/\es.toList=xs.map (entryOfKey (tupleKind (dB P w)))/\(xs.map (·.1)).Nodup
 | .set S n=>h.SetOf (intKind P w) a S n
 | .ins C dx fs=>H dx=some (.own a)/\fs.length<=1000/\dx≠a/\h.get? a=some (PySem.W.instObj C dx) /\
   ∃ mA,h.Ns1 dx mA/\(∀ f,cX (fs.lookup f) (mA f))/\PySem.Within mA (fs.map (·.1))
 | .own _=>∃ o,h.get? a=some o
 | .xd fs=>∃ mA,h.Ns1 a mA/\∀ f,cX (fs.lookup f) (mA f)
 | .i3 lo hi=>∃ t u v,h.get? a=some { cls:=.type "range",data:=.fields #[.int lo t,.int hi u,.int 1 v] }
 | .frz o u=>h.get? a=some o/\bz H h a u
 | .tbl ps=>h.get? a=some { cls:=.none,data:=.fields ps }
 | .dN ep aa=>aa.length<=Wb/\(a == Qf)=false/\∃ o es,h.get? a=some o/\o.ExactDict/\o.data = .dict es ep/\Paired (λ(p:NK×V×V) (e:DictEntry)=>e.hash=fg w p.1/\RelV p.2.1 e.key/\RelV p.2.2 e.val) aa es.toList/\(aa.map (·.1)).Nodup
 | .ctab pos q=>∃ ps,h.get? a=some { cls:=.none,data:=.fields ps }/\TriplesOk ps.toList/\∀ cv,codeAmong pos ps.toList=some cv->∃ c' oc,cv = .ref c'/\H c'=some (.frz oc (.ext λ_=>True))/\∃ vs tq,oc.data = .fields vs/\vs[1]? = some (.str q tq)
 | .met f x=>h.get? a=some (PySem.W.methodObj (.ref f) (.ref x))
 | .ext φ=>φ h/\(∃ o,h.get? a=some o)/\∀ h1 h2:Heap,φ h1->(∀ o,h1.get? a=some o->h2.get? a=some o)->φ h2
def bW(H:Hp)(h:Heap):Prop:=∀ a o,H a=some o->bz P w H h a o
end
section
variable {P:Wg} {w:Wh} {H H':Hp} {h h':Heap} {a:Addr} {o:HO}
theorem bz.lt(x:bz P w H h a o):a < h.objs.size:=by
 cases o with
 | lst xs=>obtain⟨_,_,_,_,e⟩:=x; exact Wi e
 | tup xs=>obtain⟨_,_,_,p⟩:=x; exact p.lt
 | dK aa=>obtain⟨_,_,_,_,o,_,_,e,_⟩:=x; exact Wi e
 | dT aa=>obtain⟨_,_,_,_,o,_,_,e,_⟩:=x; exact Wi e
 | set S n=>obtain⟨o,_,_,_,e,_⟩:=x; exact Wi e
 | ins C dx fs=>obtain⟨_,_,_,e,_⟩:=x; exact Wi e
 | own y=>obtain⟨_,e⟩:=x; exact Wi e
 | xd fs=>obtain⟨_,⟨_,_,_,e,_⟩,_⟩:=x; exact Wi e
 | i3 lo hi=>obtain⟨_,_,_,e⟩:=x; exact Wi e
 | frz ob u=>obtain⟨e,_⟩:=x; exact Wi e
 | tbl ps=>exact Wi (show h.get? a=some _ from x)
 | ctab pos q=>obtain⟨_,e,_⟩:=x; exact Wi e
 | dN ep aa=>obtain⟨_,_,_,_,e,_⟩:=x; exact Wi e
 | met f y=>exact Wi (show h.get? a=some _ from x)
 | ext φ=>obtain⟨_,⟨_,e⟩,_⟩:=x; exact Wi e
theorem Paired.tL:∀ {l₁:List α} {l₂:List β},Paired F l₁ l₂->(∀ a b,F a b->G a b)->Paired G l₁ l₂
 | _,_,.nil,_=>.nil
 | _,_,.cons r t,f=>.cons (f _ _ r) (Paired.tL t f)
theorem bz.jC(x:bz P w H h a o)(k:∀ b u,(b=a\/H b=some (.own a))->h.get? b=some u->h'.get? b=some u)
  (ho:∀ b,H b=some (.own a)->H' b=some (.own a)) (ht:∀ b xs,H b=some (.tup xs)->H' b=some (.tup xs)) (hf:∀ b o u,H b=some (.frz o u)->H' b=some (.frz o u)):bz P w H' h' a o:=by
 induction o with
 | lst xs=>obtain⟨z,af,n,r,e⟩:=x; exact⟨z,af,n,r,k _ _ (.inl rfl) e⟩
 | tup xs=>obtain⟨z,af,r,n,e⟩:=x; exact⟨z,af,r,n,k _ _ (.inl rfl) e⟩
 | dK aa=>obtain⟨z,y,vs,r,ob,es,ep,e,c⟩:=x; exact⟨z,y,vs,r,ob,es,ep,k _ _ (.inl rfl) e,c⟩
 | dT aa =>
  obtain⟨z,y,xs,r,ob,es,ep,e,c⟩:=x;exact⟨z,y,xs,Paired.tL r λp q z=>⟨z.1,ht _ _ z.2.1,z.2.2⟩,ob,es,ep,k _ _ (.inl rfl) e,c⟩
 | set S n=>obtain⟨ob,es,ep,t,e,c⟩:=x; exact⟨ob,es,ep,t,k _ _ (.inl rfl) e,c⟩
 | ins C dx fs =>
  obtain⟨d,z,ne,e,mA,⟨od,es,ep,e2,c⟩,r⟩:=x;exact⟨ho _ d,z,ne,k _ _ (.inl rfl) e,mA,⟨od,es,ep,k _ _ (.inr d) e2,c⟩,r⟩
 | own y=>obtain⟨ob,e⟩:=x; exact⟨ob,k _ _ (.inl rfl) e⟩
 | xd fs=>obtain⟨mA,⟨od,es,ep,e,c⟩,r⟩:=x; exact⟨mA,⟨od,es,ep,k _ _ (.inl rfl) e,c⟩,r⟩
 | i3 lo hi=>obtain⟨t,u,v,e⟩:=x; exact⟨t,u,v,k _ _ (.inl rfl) e⟩
 | frz ob u ih=>obtain⟨e,q⟩:=x; exact⟨k _ _ (.inl rfl) e,ih q⟩
 | dN ep aa=>obtain⟨z,y,ob,es,e,c⟩:=x; exact⟨z,y,ob,es,k _ _ (.inl rfl) e,c⟩
 | ctab pos q=>obtain⟨ps,e,t,r⟩:=x; exact⟨ps,k _ _ (.inl rfl) e,t,λcv z=>let ⟨c',oc,z1,z2,z3⟩:=r cv z; ⟨c',oc,z1,hf _ _ _ z2,z3⟩⟩
 | tbl ps =>
  have e:h.get? a=some { cls:=.none,data:=.fields ps }:=x;show h'.get? a=some { cls:=.none,data:=.fields ps };exact k a _ (.inl rfl) e
 | met f y =>
  have e:h.get? a=some (PySem.W.methodObj (.ref f) (.ref y)):=x;show h'.get? a=some (PySem.W.methodObj (.ref f) (.ref y));exact k a _ (.inl rfl) e
 | ext φ=>obtain⟨p,⟨o,e⟩,st⟩:=x; exact⟨st _ _ p λo q=>k _ _ (.inl rfl) q,⟨o,k _ _ (.inl rfl) e⟩,st⟩
theorem bW.lt(x:bW P w H h)(e:H a=some o):a < h.objs.size:=(x a o e).lt
theorem bW.fresh(x:bW P w H h)(e:h.objs.size<=a):H a=none:=by
 cases q:H a with
 | none=>rfl
 | some u=>exact absurd (Wu (x.lt q) e) (Qk _)
theorem bW.kept(x:bW P w H h)(k:∀ b u,h.get? b=some u->h'.get? b=some u):bW P w H h':=λa o e =>
 (x a o e).jC (λb u _ q=>k b u q) (λ_ q=>q) (λ_ _ q=>q) λ_ _ _ q=>q
theorem bW.laid(x:bW P w H h)(k:∀ b u,h.get? b=some u->h'.get? b=some u)(hp:h.objs.size<=a)(new:bz P w (upd H a o) h' a o):bW P w (upd H a o) h':=λb u e=>by
 have hn:=x.fresh hp;by_cases hb:b=a
 ·subst hb; rw[cq] at e; cases e; exact new
 ·rw[aV hb] at e;exact(x b u e).jC (λc v _ q=>k c v q) (λc q=>by rw[aV (fD q hn)]; exact q) (λc xs q=>by rw[aV (fD q hn)]; exact q) λc o u q=>by rw[aV (fD q hn)]; exact q
end
def Rd(H:Hp)(a:Addr)(u:HO):Prop:=H a=some u\/∃ o,H a=some (.frz o u)
theorem Rd.ok(r:Rd H a u)(x:bW P w H h):bz P w H h a u:=by
 rcases r with r | ⟨o,r⟩
 ·exact x a u r
 ·obtain⟨_,q⟩:=x a _ r;exact q
def n9:Option HO->Prop
 | some (.lst _)=>True
 | some (.dK _)=>True
 | some (.dT _)=>True
 | some (.dN _ _)=>True
 | some (.set _ _)=>True
 | some (.ins _ _ _)=>True
 | some (.ext _)=>True
 | _=>False
section
variable {P:Wg} {w:Wh} {H:Hp} {h h':Heap} {x e:Addr} {o':HO}
theorem bW.write(ok:bW P w H h)(mu:n9 (H x))(he:e=x\/H e=some (.own x))(k:∀ b u,b≠e->h.get? b=some u->h'.get? b=some u)(mR:∃ u,h'.get? e=some u)
  (new:bz P w (upd H x o') h' x o'):bW P w (upd H x o') h':=λb u q=>by
 have n_:∀ c y,H c=some (.own y)->c≠x:=λc y r z=>by subst z; rw[r] at mu; exact mu
 have E8:∀ c xs,H c=some (.tup xs)->c≠x:=λc xs r z=>by subst z; rw[r] at mu; exact mu
 have E9:∀ c o u,H c=some (.frz o u)->c≠x:=λc o u r z=>by subst z; rw[r] at mu; exact mu
 by_cases hb:b=x
 ·subst hb; rw[cq] at q; cases q; exact new
 ·rw[aV hb] at q;by_cases hbe:b=e
  ·have q':H b=some (.own x):=by
    rcases he with z | z
    ·exact absurd (hbe.trans z) hb
    ·rw[hbe]; exact z
   rw[q] at q'; cases q'
   obtain⟨v,hv⟩:=mR;exact⟨v,by rw[hbe]; exact hv⟩
  ·refine(ok b u q).jC (λc v hc r=>k c v ?_ r) (λc r=>by rw[aV (n_ c b r)]; exact r) (λc xs r=>by rw[aV (E8 c xs r)]; exact r) λc o u r=>by rw[aV (E9 c o u r)]; exact r
   rcases hc with rfl | hc
   ·exact hbe
   ·rintro rfl;rcases he with z | z
    ·exact n_ c b hc z
    ·rw[hc] at z; cases z; exact hb rfl
end
structure Un(fs ex:List Addr)(H H':Hp)(h h':Heap):Prop where
 keep:∀ b o,h.get? b=some o->H b=none->b ∉ fs->b ∉ ex->h'.get? b=some o
 slot:∀ b o,h.get? b=some o->H b=none->b ∈ fs->b ∉ ex->∃ sl,h'.get? b=some { o with slots:=sl }
 free:∀ b o,h.get? b=some o->H b=none->b ∉ ex->H' b=none
 there:∀ b o,h.get? b=some o->b ∉ ex->∃ o',h'.get? b=some o'
 gW:∀ b xs,H b=some (.tup xs)->H' b=some (.tup xs)
 gy:∀ b o u,H b=some (.frz o u)->H' b=some (.frz o u)
 gX:∀ b ps,H b=some (.tbl ps)->∃ more,H' b=some (.tbl (ps ++ more))
section
variable {fs E_ ex Sr:List Addr} {H H1 H2:Hp} {h h1 h2 h':Heap} {a x e:Addr} {o:HO}
theorem Un.any(u:Un fs ex H H1 h h1)(q:h.get? b=some ob)(n:H b=none)(hx:b ∉ ex):∃ sl,h1.get? b=some { ob with slots:=sl }:=by
 by_cases hb:b ∈ fs
 ·exact u.slot b ob q n hb hx
 ·exact⟨ob.slots,u.keep b ob q n hb hx⟩
theorem Un.kept(k:∀ b u,h.get? b=some u->h'.get? b=some u):Un fs ex H H h h' :=
 ⟨λb ob q _ _ _=>k b ob q,λb ob q _ _ _=>⟨ob.slots,k b ob q⟩,λ_ _ _ n _=>n,λb ob q _=>⟨ob,k b ob q⟩,λ_ _ q=>q,λ_ _ _ q=>q,λ_ ps q=>⟨#[],by rw[q]; simp⟩⟩
theorem Un.refl:Un fs ex H H h h:=Un.kept λ_ _ q=>q
theorem Un.laid(k:∀ b u,h.get? b=some u->h'.get? b=some u)(hp:h.objs.size<=a)(hn:H a=none):Un fs ex H (upd H a o) h h' where
 keep:=λb u q _ _ _=>k b u q
 slot:=λb u q _ _ _=>⟨u.slots,k b u q⟩
 free:=λb u q n _=>by rw[aV (Wv (Wu (Wi q) hp))]; exact n
 there:=λb u q _=>⟨u,k b u q⟩
 gW:=λb xs q=>by rw[aV (fD q hn)]; exact q
 gy:=λb u xs q=>by rw[aV (fD q hn)]; exact q
 gX:=λb ps q=>⟨#[],by rw[aV (fD q hn),q]; simp⟩
theorem Un.write(mu:n9 (H x))(he:e=x\/H e=some (.own x))(k:∀ b u,b≠e->h.get? b=some u->h'.get? b=some u)(mR:∃ u,h'.get? e=some u):Un fs ex H (upd H x o) h h':=by
 have hx:∀ b,H b=none->b≠x:=λb n z=>by subst z; rw[n] at mu; exact mu
 have hb:∀ b,H b=none->b≠e:=λb n z=>by
  subst z;rcases he with r | r
  ·exact hx b n r
  ·rw[n] at r; cases r
 have hm:∀ b u,H b=some u->¬ n9 (some u)->b≠x:=λb u q nm z=>by subst z; rw[q] at mu; exact nm mu
 refine⟨λb u q n _ _=>k b u (hb b n) q,λb u q n _ _=>⟨u.slots,k b u (hb b n) q⟩,λb u q n _=>by rw[aV (hx b n)]; exact n,λb u q _=>?_,
  λb xs q=>by rw[aV (hm b _ q λz=>z)]; exact q,λb u xs q=>by rw[aV (hm b _ q λz=>z)]; exact q,λb ps q=>⟨#[],by rw[aV (hm b _ q λz=>z),q]; simp⟩⟩
 by_cases hbe:b=e
 ·subst hbe; exact mR
 ·exact⟨u,k b u hbe q⟩
end
def qx(h:Heap)(H:Hp):List Addr:=(Q1 h.objs.size).filter λa=>(H a).isSome
def jE(h:Heap)(H:Hp):Heap:=PySem.W.hideAll h (qx h H)
theorem Fb(h:Heap)(H:Hp):(jE h H).objs.size=h.objs.size:=PySem.W.hideAll_size _ _
theorem Fd(e:h.get? b=some o)(n:H b=none):(jE h H).get? b=some o :=
 PySem.W.hideAll_get _ e λhm=>by
  have q:(H b).isSome=true:=(List.mem_filter.mp hm).2;rw[n] at q; simp at q
theorem Fe(e:(jE h H).get? b=some o):h.get? b=some o/\H b=none:=by
 have e':h.get? b=some o:=PySem.W.of_hideAll (qx h H) e;refine⟨e',?_⟩
 cases q:H b with
 | none=>rfl
 | some x =>
  have hm:b ∈ qx h H:=List.mem_filter.mpr ⟨List.mem_range.mpr (Wi e'),by simp[q]⟩;have z:(jE h H).get? b=none:=PySem.W.hideAll_none (qx h H) hm;rw[z] at e; cases e
def Ff(g h:Heap)(L:Addr):List (Addr×Obj):=(Q1 h.objs.size).filterMap λa=>if a=L\/(g.get? a).isSome=true then none else(h.get? a).map λo=>(a,o)
def rest(g h:Heap)(L d:Addr):List (Addr×Obj):=(Ff g h L).filter λp=>decide (p.1≠d)
structure Mod(K:W2)(mg:Str->Option Value)(base:Heap):Prop where
 lJ:K.In base
 glob:base.Ns Wr mg
 blt:∃ mb,base.Ns builtinsNs mb/\∀ x:Str,x≠"__name__"->mb x=Qg x
 nolimit:base.NoLimit
structure Cx where
 prog:Wg
 w:Wh
 K:W2
 mg:Str->Option Value
 base:Heap
 A:Wl
 N:List Str
 s₀:W1
 H₀:Hp
 env:Env
 outer:List Env
 stack:List Env
 ex:List Addr
 fn:Str->Bool
 calm:Bool
 pn:List (Addr×Obj)
 xe:Value->W1->Prop
def dQ(l:List Env):List Addr:=l.filterMap (·.frame)
abbrev Cx.fs(X:Cx):List Addr:=dQ X.outer
def qy(sc:Scope)(x:Str):Prop:=sc.names.lookup x=some .local\/sc.names.lookup x=some .cell\/sc.names.lookup x=some .free
def Loc(sc:Scope)(x:Str):Prop:=sc.names.lookup x=some .local\/sc.names.lookup x=some .cell
def Look(env:Env)(h:Heap)(m:Str->Option Value)(x:Str)(u:Value):Prop :=
 (env.kindOf x=some .local/\m x=some u)\/((env.kindOf x=some .cell\/env.kindOf x=some .free)/\∃ c,env.cells.lookup x=some c/\h.IsCell c (some u))
structure Cx.Ok(X:Cx):Prop where
 mod:Mod X.K X.mg X.base
 kind:X.env.scope.kind = .function
 glob:X.env.globals=Wr
 blt:X.env.builtins=builtinsNs
 above:X.s₀.heap.objs.size<=X.env.locals
 inj:∀ x y c,X.env.cells.lookup x=some c->X.env.cells.lookup y=some c->x=y
 has:∀ x,(X.env.kindOf x=some .cell\/X.env.kindOf x=some .free)->∃ c,X.env.cells.lookup x=some c
 kz:∀ x c,X.fn x=true->X.env.cells.lookup x=some c->X.s₀.heap.objs.size<=c
 hd:X.calm=true->X.A.handled=none
 frames:X.A.frames=some X.stack
 lK:X.stack=X.outer\/(X.stack=X.env :: X.outer/\X.env.frame=some X.env.locals)
 lL:∀ b ∈ X.ex,b≠X.env.locals/\∀ x c,X.env.cells.lookup x=some c->c≠b
 bs:∀ b o,X.base.get? b=some o->X.s₀.heap.get? b=some o/\X.H₀ b=none
 gz:X.base.objs.size<=X.s₀.heap.objs.size
 kA:∀ b o,X.base.get? b=some o->b ∉ X.ex
 kC:∀ b ∈ X.ex,b ∉ X.fs
 fE:X.s₀.heap.FunFrames X.base X.outer
 ir:∀ b ∈ X.fs,X.H₀ b=none
structure Inv(X:Cx)(pins:List (Addr×Obj))(σ:List (Option V))(H:Hp)(s:W1):Prop where
 ok:X.Ok
 os:s.os=X.s₀.os
 bare:AllBare s.gens
 base:Un X.fs X.ex X.H₀ H X.s₀.heap s.heap
 loc:∃ m,s.heap.Ns X.env.locals m/\∀ (i:Nat) (x:Str) (v:V),X.N[i]? = some x->σ[i]? = some (some v)->qy X.env.scope x->∃ u,RelV v u/\Look X.env s.heap m x u
 cell:∀ x c,X.env.cells.lookup x=some c->∃ v,s.heap.IsCell c v
 free:H X.env.locals=none
 dH:∀ x c,X.env.cells.lookup x=some c->H c=none
 pin:∀ p ∈ X.pn ++ pins,s.heap.get? p.1=some p.2/\H p.1=none/\p.1≠X.env.locals/\p.1 ∉ X.fs/\∀ v,p.2.data≠.cell v
 ah:bW X.prog X.w H s.heap
 len:σ.length=X.N.length
section
variable {X:Cx} {pins:List (Addr×Obj)} {σ:List (Option V)} {H H':Hp} {s:W1} {h':Heap}
theorem Cx.Ok.Fg(ok:X.Ok)(e:X.base.get? b=some o):b ∉ X.fs:=λhb=>by
 have:=(ok.fE.mem hb).1;rw[e] at this; cases this
theorem Inv.bs(I:Inv X pins σ H s):∀ b o,X.base.get? b=some o->s.heap.get? b=some o/\H b=none:=λb o e =>
 ⟨I.base.keep b o (I.ok.bs b o e).1 (I.ok.bs b o e).2 (I.ok.Fg e) (I.ok.kA b o e),I.base.free b o (I.ok.bs b o e).1 (I.ok.bs b o e).2 (I.ok.kA b o e)⟩
theorem Inv.bk(I:Inv X pins σ H s):∀ b o,X.base.get? b=some o->s.heap.get? b=some o:=λb o e=>(I.bs b o e).1
theorem Inv.mod(I:Inv X pins σ H s):Mod X.K X.mg X.base:=I.ok.mod
theorem Inv.cy(I:Inv X pins σ H s):X.K.In s.heap:=I.ok.mod.lJ.keeps I.bk
theorem Inv.fr(I:Inv X pins σ H s):∃ m,Fr X.base X.env.locals s.heap m :=
 let ⟨m,hn,_⟩:=I.loc
 ⟨m,hn,I.bk,Q2 I.ok.gz I.ok.above⟩
theorem Inv.lt(I:Inv X pins σ H s):X.env.locals < s.heap.objs.size:=let ⟨_,hn,_⟩:=I.loc; hn.lt
theorem Inv.sz(I:Inv X pins σ H s):X.s₀.heap.objs.size<=s.heap.objs.size:=Q2 I.ok.above (JO I.lt)
theorem Inv.Fh(I:Inv X pins σ H s)(h:s.heap.objs.size<=a):a ∉ X.fs:=λhb=>by
 obtain⟨_,o,ho,_⟩:=I.ok.fE.mem hb;exact absurd (Wu (Wi ho) (Q2 I.sz h)) (Qk _)
theorem Inv.iu(I:Inv X pins σ H s):∀ x c,X.env.cells.lookup x=some c->c≠X.env.locals:=λx c e z=>by
 obtain⟨v,o,ho,hd⟩:=I.cell x c e;obtain⟨m,⟨o',es,ep,ho',hd',_⟩,_⟩:=I.loc;rw[z,ho'] at ho; cases ho; rw[hd'] at hd; cases hd
theorem Inv.fE(I:Inv X pins σ H s):s.heap.FunFrames X.base X.outer:=by
 have all:∀ (l:List Env),(∀ b ∈ dQ l,b ∈ X.fs)->X.s₀.heap.FunFrames X.base l->s.heap.FunFrames X.base l:=by
  intro l;induction l with
  | nil=>intro _ _; trivial
  | cons env r ih =>
   intro hs hl;obtain⟨hk,⟨L,o,hf,hn,ho,hd⟩,hr⟩:=hl;have hL:L ∈ X.fs:=hs L (by unfold dQ; rw[List.filterMap_cons,hf]; exact Wj);obtain⟨sl,e⟩:=I.base.slot L o ho (I.ok.ir L hL) hL λz=>I.ok.kC L z hL
   exact⟨hk,⟨L,_,hf,hn,e,hd⟩,ih (λb hb=>hs b (by unfold dQ; rw[List.filterMap_cons,hf]; exact Wd _ hb)) hr⟩
 exact all X.outer (λ_ hb=>hb) I.ok.fE
theorem Inv.stack(I:Inv X pins σ H s):s.heap.FunFrames X.base X.stack:=by
 rcases I.ok.lK with e | ⟨e,hf⟩
 ·rw[e]; exact I.fE
 ·rw[e];obtain⟨m,hn,_⟩:=I.loc;refine .cons (by rw[I.ok.kind]; decide) hf hn ?_ I.fE;exact Jj (Q2 I.ok.gz I.ok.above)
theorem Inv.qz(I:Inv X pins σ H s):∀ b ∈ dQ X.stack,b ∈ X.env.locals :: X.fs:=λb hb=>by
 rcases I.ok.lK with e | ⟨e,hf⟩
 ·rw[e] at hb; exact Wd _ hb
 ·rw[e] at hb;unfold dQ at hb;rw[List.filterMap_cons,hf] at hb;exact hb
theorem Inv.qA(I:Inv X pins σ H s):∀ b ∈ dQ X.stack,H b=none:=λb hb=>by
 rcases Wo.mp (I.qz b hb) with e | hb
 ·rw[e]; exact I.free
 ·obtain⟨_,o,ho,_⟩:=I.ok.fE.mem hb;exact I.base.free b o ho (I.ok.ir b hb) λz=>I.ok.kC b z hb
theorem Inv.step{g':Array GenState}{t':Nat}{d':Drawn}{ch:List Addr}(I:Inv X pins σ H s)
  (i4:∀ b ∈ ch,(b ∈ X.ex\/X.s₀.heap.objs.size<=b)/\b≠X.env.locals/\(∀ x c,X.env.cells.lookup x=some c->c≠b)/\∀ p ∈ X.pn ++ pins,p.1≠b)
  (keep:∀ b o,b≠X.env.locals->b ∉ X.fs->b ∉ ch->s.heap.get? b=some o->H b=none->h'.get? b=some o)
  (slot:∀ b o,b≠X.env.locals->b ∈ X.fs->b ∉ ch->s.heap.get? b=some o->H b=none->∃ sl,h'.get? b=some { o with slots:=sl }) (free:∀ b o,b ∉ ch->s.heap.get? b=some o->H b=none->H' b=none)
  (there:∀ b o,b ∉ ch->s.heap.get? b=some o->∃ o',h'.get? b=some o')
  (gW:∀ b xs,H b=some (.tup xs)->H' b=some (.tup xs)) (gy:∀ b o u,H b=some (.frz o u)->H' b=some (.frz o u)) (gX:∀ b ps,H b=some (.tbl ps)->∃ more,H' b=some (.tbl (ps ++ more)))
  (ns:∀ m,s.heap.Ns X.env.locals m->h'.Ns X.env.locals m) (ah:bW X.prog X.w H' h') (hg:AllBare g') :
  Inv X pins σ H' { s with heap:=h',gens:=g',drawn:=d',toks:=t' }:=by
 have lM:∀ b o,X.s₀.heap.get? b=some o->b≠X.env.locals:=λb o e=>Wv (Wu (Wi e) I.ok.above)
 have qC:∀ b o,X.s₀.heap.get? b=some o->b ∉ X.ex->b ∉ ch:=λb o e hx hb=>by
  rcases (i4 b hb).1 with z | z
  ·exact hx z
  ·exact absurd (Wu (Wi e) z) (Qk _)
 have cellK:∀ x c,X.env.cells.lookup x=some c->∀ v,s.heap.IsCell c v->h'.IsCell c v:=λx c e v ⟨o,ho,hd⟩=>by
  have og:c ∉ ch:=λz=>(i4 c z).2.2.1 x c e rfl
  by_cases hc:c ∈ X.fs
  ·obtain⟨sl,q⟩:=slot c o (I.iu x c e) hc og ho (I.dH x c e);exact⟨_,q,hd⟩
  ·exact⟨o,keep c o (I.iu x c e) hc og ho (I.dH x c e),hd⟩
 refine⟨I.ok,I.os,hg,⟨λb o e n hb hx=>?_,λb o e n hb hx=>?_,λb o e n hx=>?_,λb o e hx=>?_,λb xs e=>gW b xs (I.base.gW b xs e),λb o xs e=>gy b o xs (I.base.gy b o xs e),λb ps e=>?_⟩,?_,λx c e=>?_,?_,λx c e=>?_,λp hp=>?_,ah,I.len⟩
 ·exact keep b o (lM b o e) hb (qC b o e hx) (I.base.keep b o e n hb hx) (I.base.free b o e n hx)
 ·obtain⟨sl,e1⟩:=I.base.slot b o e n hb hx;obtain⟨sl',e2⟩:=slot b _ (lM b o e) hb (qC b o e hx) e1 (I.base.free b o e n hx);exact⟨sl',e2⟩
 ·obtain⟨o',e1⟩:=I.base.there b o e hx;exact free b o' (qC b o e hx) e1 (I.base.free b o e n hx)
 ·obtain⟨o',e1⟩:=I.base.there b o e hx;exact there b o' (qC b o e hx) e1
 ·obtain⟨m1,e1⟩:=I.base.gX b ps e;obtain⟨m2,e2⟩:=gX b _ e1;exact⟨m1 ++ m2,by rw[e2,Array.append_assoc]⟩
 ·obtain⟨m,hn,hl⟩:=I.loc;refine⟨m,ns m hn,λi x v e1 e2 e3=>?_⟩;obtain⟨u,r,l⟩:=hl i x v e1 e2 e3;refine⟨u,r,?_⟩;rcases l with l | ⟨k,c,e,z⟩
  ·exact .inl l
  ·exact .inr ⟨k,c,e,cellK x c e _ z⟩
 ·obtain⟨v,z⟩:=I.cell x c e;exact⟨v,cellK x c e v z⟩
 ·obtain⟨m,⟨o,_,_,ho,_⟩,_⟩:=I.loc;exact free _ o (λz=>(i4 _ z).2.1 rfl) ho I.free
 ·obtain⟨v,o,ho,hd⟩:=I.cell x c e;exact free c o (λz=>(i4 c z).2.2.1 x c e rfl) ho (I.dH x c e)
 ·obtain⟨e,n,ne,nf,d⟩:=I.pin p hp;have og:p.1 ∉ ch:=λz=>(i4 p.1 z).2.2.2 p hp rfl
  exact⟨keep p.1 p.2 ne nf og e n,free p.1 p.2 og e n,ne,nf,d⟩
theorem Inv.un{t':Nat}(I:Inv X pins σ H s)(u:Un X.fs [] H H' s.heap h')(ah:bW X.prog X.w H' h'):Inv X pins σ H' { s with heap:=h',toks:=t' }:=by
 obtain⟨m,⟨o,es,ep,ho,r⟩,_⟩:=id I.loc;obtain⟨sl,hL⟩:=u.any ho I.free (by simp);exact I.step (g':=s.gens) (d':=s.drawn) (ch:=[]) (λ_ z=>nomatch z) (λb o _ hb _ e n=>u.keep b o e n hb (by simp)) (λb o _ hb _ e n=>u.slot b o e n hb (by simp)) (λb o _ e n=>u.free b o e n (by simp)) (λb o _ e=>u.there b o e (by simp)) u.gW u.gy u.gX (λm' hm=>by
  obtain⟨o',kD,gf,ho',r'⟩:=hm;rw[ho] at ho'; cases ho'
  exact⟨_,kD,gf,hL,r'⟩) ah I.bare
theorem Inv.call{g':Array GenState}{t':Nat}{d':Drawn}{ch:List Addr}(I:Inv X pins σ H s)(u:Un (dQ X.stack) ch H H' s.heap h')(ah:bW X.prog X.w H' h')(hg:AllBare g')
  (i4:∀ b ∈ ch,(b ∈ X.ex\/X.s₀.heap.objs.size<=b)/\b≠X.env.locals/\(∀ x c,X.env.cells.lookup x=some c->c≠b)/\∀ p ∈ X.pn ++ pins,p.1≠b) :
  Inv X pins σ H' { s with heap:=h',gens:=g',drawn:=d',toks:=t' }:=by
 obtain⟨m,⟨o,es,ep,ho,r⟩,_⟩:=id I.loc;obtain⟨sl,hL⟩:=u.any ho I.free λz=>(i4 _ z).2.1 rfl
 exact I.step (ch:=ch) i4 (λb o hL hb hc e n=>u.keep b o e n (λz=>(Wo.mp (I.qz b z)).elim hL hb) hc) (λb o _ _ hc e n=>u.any e n hc) (λb o hc e n=>u.free b o e n hc) (λb o hc e=>u.there b o e hc) u.gW u.gy u.gX (λm' hm=>by
  obtain⟨o',kD,gf,ho',r'⟩:=hm;rw[ho] at ho'; cases ho'
  exact⟨_,kD,gf,hL,r'⟩) ah hg
theorem Inv.turned{t':Nat}{it:Addr}(I:Inv X pins σ H s)(k:∀ b o,b≠it->s.heap.get? b=some o->h'.get? b=some o)(hn:H it=none)(hL:it≠X.env.locals)
  (h1:it ∈ X.ex\/X.s₀.heap.objs.size<=it) (h2:∀ x c,X.env.cells.lookup x=some c->c≠it) (h3:∀ p ∈ X.pn ++ pins,p.1≠it):Inv X pins σ H { s with heap:=h',toks:=t' }:=by
 have kE:∀ b u,H b=some u->b≠it:=λb u e z=>by rw[z,hn] at e; cases e
 refine I.step (g':=s.gens) (d':=s.drawn) (ch:=[it]) (λb hb=>?_) (λb o _ _ hc e _=>k b o (λz=>hc (by simp[z])) e) (λb o _ _ hc e _=>⟨o.slots,k b o (λz=>hc (by simp[z])) e⟩) (λ_ _ _ _ n=>n)
  (λb o hc e=>⟨o,k b o (λz=>hc (by simp[z])) e⟩) (λ_ _ e=>e) (λ_ _ _ e=>e) (λb ps e=>⟨#[],by rw[e]; simp⟩) (λm hm=>?_) (λb u e=>?_) I.bare
 ·have e:b=it:=by simpa using hb
  subst e;exact⟨h1,hL,h2,h3⟩
 ·obtain⟨o,es,ep,ho,r⟩:=hm;exact⟨o,es,ep,k _ o (Ne.symm hL) ho,r⟩
 ·refine(I.ah b u e).jC (λc v hc q=>k c v ?_ q) (λ_ q=>q) (λ_ _ q=>q) λ_ _ _ q=>q
  rcases hc with z | z
  ·rw[z]; exact kE b u e
  ·exact kE c _ z
theorem Inv.tok(I:Inv X pins σ H s)(t:Nat):Inv X pins σ H { s with toks:=t }:=I.un (h':=s.heap) (t':=t) Un.refl I.ah
theorem Inv.kept(I:Inv X pins σ H s)(k:∀ b u,s.heap.get? b=some u->h'.get? b=some u):Inv X pins σ H { s with heap:=h',toks:=t' }:=I.un (Un.kept k) (I.ah.kept k)
theorem Inv.laid(I:Inv X pins σ H s)(k:∀ b u,s.heap.get? b=some u->h'.get? b=some u)(hp:s.heap.objs.size<=a)(new:bz X.prog X.w (upd H a o) h' a o) :
  Inv X pins σ (upd H a o) { s with heap:=h',toks:=t' }:=I.un (Un.laid k hp (I.ah.fresh hp)) (I.ah.laid k hp new)
theorem Inv.write(I:Inv X pins σ H s)(mu:n9 (H x))(he:e=x\/H e=some (.own x))(k:∀ b u,b≠e->s.heap.get? b=some u->h'.get? b=some u)(mR:∃ u,h'.get? e=some u)
  (new:bz X.prog X.w (upd H x o) h' x o):Inv X pins σ (upd H x o) { s with heap:=h',toks:=t' }:=I.un (Un.write mu he k mR) (I.ah.write mu he k mR new)
theorem Inv.weak(I:Inv X pins σ H s)(hl:σ'.length=σ.length)(w:∀ (i:Nat) v,σ'[i]? = some (some v)->σ[i]? = some (some v)):Inv X pins σ' H s :=
 ⟨I.ok,I.os,I.bare,I.base,let ⟨m,hn,gC⟩:=I.loc; ⟨m,hn,λi x v e1 e2 e3=>gC i x v e1 (w i v e2) e3⟩,I.cell,I.free,I.dH,I.pin,I.ah,hl.trans I.len⟩
theorem Inv.yX(I:Inv X pins σ H s)(h:∀ p ∈ pins',s.heap.get? p.1=some p.2/\H p.1=none/\p.1≠X.env.locals/\p.1 ∉ X.fs/\∀ v,p.2.data≠.cell v):Inv X pins' σ H s :=
 ⟨I.ok,I.os,I.bare,I.base,I.loc,I.cell,I.free,I.dH,λp hp=>(Jn.mp hp).elim (λz=>I.pin p (Jk _ z)) (h p),I.ah,I.len⟩
theorem tM{N:List Str}(hN:N.Nodup){i j:Nat}{x:Str}(a:N[i]? = some x)(b:N[j]? = some x):i=j:=by
 obtain⟨h1,e1⟩:=We.mp a;obtain⟨h2,e2⟩:=We.mp b;exact(List.getElem_inj hN).mp (e1.trans e2.symm)
theorem tN{M:Model}{A:Wl}{E:Value->W1->Prop}{i:Nat}{x:Str}{v:V}{u:Value}{Q:Unit->W1->Prop}(I:Inv X pins σ H s)(hN:X.N.Nodup)(hi:X.N[i]? = some x)(hx:Loc X.env.scope x)(r:RelV v u)
  (h:∀ s',Inv X pins (σ.set i (some v)) H s'->(∃ a,Qh a s.heap s'.heap/\(a=X.env.locals\/X.env.cells.lookup x=some a))->Q () s') (hf:X.fn x=true\/X.env.scope.names.lookup x=some .local:=by first | exact .inl rfl | exact .inr rfl | assumption):W4 M A (storeName X.env x u) Q E s:=by
 obtain⟨m,hn,hl⟩:=id I.loc;have Fi:(X.env.scope.kind == .class || (X.env.scope.kind == .module && X.env.locals != X.env.globals))=false:=by rw[I.ok.kind]; rfl
 have oh:i < σ.length:=by rw[I.len]; exact(We.mp hi).1
 have iu:=I.iu;have tracked:∀ {a:Addr} {h':Heap},(∃ o,s.heap.get? a=some o/\H a=none)->Qh a s.heap h'->bW X.prog X.w H h':=λ{a h'} ha hs b ob e=>by
  obtain⟨_,_,lN⟩:=ha;refine(I.ah b ob e).jC (λc w' hc q=>(hs.2 c ?_).trans q) (λ_ q=>q) (λ_ _ q=>q) λ_ _ _ q=>q
  rintro rfl;rcases hc with rfl | hc
  ·rw[lN] at e; cases e
  ·rw[lN] at hc; cases hc
 rcases hx with hk | hk
 ·refine wpAny_storeName_local hk hn (λh' kF hs=>?_) Fi;obtain⟨oL,_,_,hoL,_⟩:=id hn;refine h _ ⟨I.ok,I.os,I.bare,⟨λb o e n hb hx=>?_,λb o e n hb hx=>?_,I.base.free,λb o e hx=>?_,I.base.gW,I.base.gy,I.base.gX⟩,⟨_,kF,λj y v' e1 e2 e3=>?_⟩,λy c e=>?_,I.free,I.dH,λp hp=>?_,tracked ⟨oL,hoL,I.free⟩ hs,by simpa using I.len⟩ ⟨_,hs,.inl rfl⟩
  ·exact(hs.2 b (Wv (Wu (Wi e) I.ok.above))).trans (I.base.keep b o e n hb hx)
  ·obtain⟨sl,e1⟩:=I.base.slot b o e n hb hx;exact⟨sl,(hs.2 b (Wv (Wu (Wi e) I.ok.above))).trans e1⟩
  ·obtain⟨o',e1⟩:=I.base.there b o e hx;exact⟨o',(hs.2 b (Wv (Wu (Wi e) I.ok.above))).trans e1⟩
  ·by_cases hj:j=i
   ·subst hj;rw[hi] at e1; cases e1
    rw[Wq oh] at e2
    cases e2;exact⟨u,r,.inl ⟨hk,by simp⟩⟩
   ·rw[W5 (Ne.symm hj)] at e2;obtain⟨u',r',q⟩:=hl j y v' e1 e2 e3;refine⟨u',r',?_⟩;rcases q with ⟨k,e⟩ | ⟨k,c,e,z⟩
    ·refine .inl ⟨k,?_⟩;have:y≠x:=λe=>hj (tM hN e1 (e ▸ hi))
     simp[this,e]
    ·exact .inr ⟨k,c,e,z.sameBut hs (iu y c e)⟩
  ·obtain⟨w',z⟩:=I.cell y c e;exact⟨w',z.sameBut hs (iu y c e)⟩
  ·obtain⟨e,n,ne,nf,d⟩:=I.pin p hp;exact⟨(hs.2 p.1 ne).trans e,n,ne,nf,d⟩
 ·have iw:X.fn x=true:=by
   rcases hf with z | z
   ·exact z
   ·rw[z] at hk; cases hk
  obtain⟨c,hc⟩:=I.ok.has x (.inl hk);obtain⟨w',z⟩:=I.cell x c hc;refine wpAny_storeName_cell I.ok.kind hk hc z (λh' iy hs=>?_);obtain⟨oc,hoc,hocd⟩:=id z;refine h { s with heap:=h' } ⟨I.ok,I.os,I.bare,⟨λb o e n hb hx=>?_,λb o e n hb hx=>?_,I.base.free,λb o e hx=>?_,I.base.gW,I.base.gy,I.base.gX⟩,⟨m,hn.sameBut hs (Ne.symm (iu x c hc)),λj y v' e1 e2 e3=>?_⟩,λy c' e=>?_,I.free,I.dH,λp hp=>?_,tracked ⟨oc,hoc,I.dH x c hc⟩ hs,by simpa using I.len⟩ ⟨c,hs,.inr hc⟩
  ·exact(hs.2 b (Wv (Wu (Wi e) (I.ok.kz x c iw hc)))).trans (I.base.keep b o e n hb hx)
  ·obtain⟨sl,e1⟩:=I.base.slot b o e n hb hx;exact⟨sl,(hs.2 b (Wv (Wu (Wi e) (I.ok.kz x c iw hc)))).trans e1⟩
  ·obtain⟨o',e1⟩:=I.base.there b o e hx;exact⟨o',(hs.2 b (Wv (Wu (Wi e) (I.ok.kz x c iw hc)))).trans e1⟩
  ·by_cases hj:j=i
   ·subst hj;rw[hi] at e1; cases e1
    rw[Wq oh] at e2
    cases e2;exact⟨u,r,.inr ⟨.inl hk,c,hc,iy⟩⟩
   ·rw[W5 (Ne.symm hj)] at e2;obtain⟨u',r',q⟩:=hl j y v' e1 e2 e3;refine⟨u',r',?_⟩;rcases q with q | ⟨k,c',e,z'⟩
    ·exact .inl q
    ·refine .inr ⟨k,c',e,z'.sameBut hs ?_⟩;rintro rfl;exact hj (tM hN e1 (I.ok.inj _ _ _ e hc ▸ hi))
  ·by_cases hcc:c'=c
   ·subst hcc; exact⟨_,iy⟩
   ·obtain⟨w2,z2⟩:=I.cell y c' e;exact⟨w2,z2.sameBut hs hcc⟩
  ·obtain⟨e,n,ne,nf,d⟩:=I.pin p hp;refine⟨(hs.2 p.1 ?_).trans e,n,ne,nf,d⟩;intro q;rw[q,hoc] at e;have q':oc=p.2:=Ws e;exact d w' (by rw[<- q']; exact hocd)
theorem yY(I:Inv X pins σ H s)(hN:X.N.Nodup)(hi:X.N[i]? = some x)(hx:Loc X.env.scope x)(r:RelV v u)
  (h:∀ s',Inv X pins (σ.set i (some v)) H s'->Q () s') (hf:X.fn x=true\/X.env.scope.names.lookup x=some .local:=by first | exact .inl rfl | exact .inr rfl | assumption):W4 M A (storeName X.env x u) Q E s :=
 tN I hN hi hx r (λs' I' _=>h s' I') hf
theorem Inv.yZ(I:Inv X pins σ H s)(ho:s'.os=s.os)(u:Un (dQ X.stack) ch H H' s.heap s'.heap)(ah:bW X.prog X.w H' s'.heap)(hg:AllBare s'.gens)
  (i4:∀ b ∈ ch,(b ∈ X.ex\/X.s₀.heap.objs.size<=b)/\b≠X.env.locals/\(∀ x c,X.env.cells.lookup x=some c->c≠b)/\∀ p ∈ X.pn ++ pins,p.1≠b):Inv X pins σ H' s':=by
 obtain⟨h',g',d',t',o'⟩:=s';have e:o'=s.os:=ho;subst e;exact I.call (g':=g') (t':=t') (d':=d') u ah hg i4
end
abbrev XK:=Value->Option Addr->Hp->Prop
abbrev St:=List (Option V)
abbrev VK:=V->Hp->Prop
abbrev TE:=St->Hp->VK->Prop
abbrev TT:=St->Hp->(Bool->Hp->Prop)->Prop
abbrev TA:=St->Hp->(List V->Hp->Prop)->Prop
structure Ends where
 nx:St->Hp->Prop
 rt:VK
 bk:St->Hp->Prop:=λ_ _=>False
 ct:St->Hp->Prop:=λ_ _=>False
abbrev TS:=Ends->St->Hp->Prop
def EP(X:Cx)(pins:List (Addr×Obj))(σ:St)(Q:VK)(u:Value)(s':W1):Prop:=∃ v H',Inv X pins σ H' s'/\RelV v u/\Q v H'
def TP(X:Cx)(pins:List (Addr×Obj))(σ:St)(Q:Bool->Hp->Prop)(b:Bool)(s':W1):Prop:=∃ H',Inv X pins σ H' s'/\Q b H'
def AP(X:Cx)(pins:List (Addr×Obj))(σ:St)(Q:List V->Hp->Prop)(us:List Value)(s':W1):Prop:=∃ vs H',Inv X pins σ H' s'/\Vals vs us/\Q vs H'
def SP(X:Cx)(pins:List (Addr×Obj))(D:Ends)(f:Flow)(s':W1):Prop :=
 match f with
 | .next=>∃ σ' H',Inv X pins σ' H' s'/\D.nx σ' H'
 | .brk=>∃ σ' H',Inv X pins σ' H' s'/\D.bk σ' H'
 | .cont=>∃ σ' H',Inv X pins σ' H' s'/\D.ct σ' H'
 | .ret u=>∃ v σ' H',Inv X pins σ' H' s'/\RelV v u/\D.rt v H'
def PE(X:Cx)(e:Expr)(t:TE):Prop :=
 ∀ (pins:List (Addr×Obj)) (s:W1) (σ:St) (H:Hp) (Q:VK),Inv X pins σ H s->t σ H Q->W4 (model X.prog X.w) X.A (eval e X.env) (EP X pins σ Q) X.xe s
def PT(X:Cx)(e:Expr)(t:TT):Prop :=
 ∀ (pins:List (Addr×Obj)) (s:W1) (σ:St) (H:Hp) (Q:Bool->Hp->Prop),Inv X pins σ H s->t σ H Q->W4 (model X.prog X.w) X.A (isTrue e X.env (eval e X.env)) (TP X pins σ Q) X.xe s
def PW(X:Cx)(e:Expr)(t:TT):Prop :=
 ∀ (whole:Sem Value) (pins:List (Addr×Obj)) (s:W1) (σ:St) (H:Hp) (Q:Bool->Hp->Prop),Inv X pins σ H s->t σ H Q->W4 (model X.prog X.w) X.A (isTrue e X.env whole) (TP X pins σ Q) X.xe s
theorem PW.pt(h:PW X e t):PT X e t:=h _
def PA(X:Cx)(es:List Expr)(t:TA):Prop :=
 ∀ (pos:Pos) (pins:List (Addr×Obj)) (s:W1) (σ:St) (H:Hp) (Q:List V->Hp->Prop),Inv X pins σ H s->t σ H Q->W4 (model X.prog X.w) X.A (spliced (WN pos (W7 es X.env))) (AP X pins σ Q) X.xe s
def PS(X:Cx)(st:Stmt)(t:TS):Prop :=
 ∀ (pins:List (Addr×Obj)) (s:W1) (σ:St) (H:Hp) (D:Ends),Inv X pins σ H s->t D σ H->W4 (model X.prog X.w) X.A (exec st X.env) (SP X pins D) X.xe s
def di(X:Cx)(st:List Stmt)(t:TS):Prop :=
 ∀ (pins:List (Addr×Obj)) (s:W1) (σ:St) (H:Hp) (D:Ends),Inv X pins σ H s->t D σ H->W4 (model X.prog X.w) X.A (execs st X.env) (SP X pins D) X.xe s
theorem aM(h:W4 M A t Q E s)(hQ:∀ a s,Q a s->Q' a s):W4 M A t Q' E s:=WQ h hQ λ_ _ x=>x
section
variable {X:Cx}
theorem bin{a b:Expr}{ta tb:TE}(ha:PE X a ta)(hb:PE X b tb){pins:List (Addr×Obj)}{s:W1}{σ:St}{H:Hp}{R:V->V->Hp->Prop}(I:Inv X pins σ H s)(h:ta σ H λx H1=>tb σ H1 λy H2=>R x y H2)
  {α:Type} {Q:α->W1->Prop} {f:Value->Value->Sem α}
  (hf:∀ v u s2 x y H2,Inv X pins σ H2 s2->RelV x v->RelV y u->R x y H2->W4 (model X.prog X.w) X.A (f v u) Q X.xe s2) :
  W4 (model X.prog X.w) X.A (eval a X.env) (λv s₁=>W4 (model X.prog X.w) X.A (eval b X.env) (λu s₂=>W4 (model X.prog X.w) X.A (f v u) Q X.xe s₂) X.xe s₁) X.xe s:=by
 refine aM (ha pins s σ H _ I h) λv s1 ⟨x,H1,I1,r1,q1⟩=>?_
 refine aM (hb pins s1 σ H1 _ I1 q1) λu s2 ⟨y,H2,I2,r2,q2⟩=>?_
 exact hf v u s2 x y H2 I2 r1 r2 q2
def da(i:Nat):TE:=λσ H Q=>∃ v,σ[i]? = some (some v)/\Q v H
def tC(v:V):TE:=λ_ H Q=>Q v H
theorem Fj (hN:X.N[i]? = some x) (hv:qy X.env.scope x) (hd:(x == ("__debug__" : Str))=false:=by decide) (dj:(x == ("__classdict__" : Str))=false:=by decide):PE X (.Name x pos) (da i):=by
 intro pins s σ H Q I h;obtain⟨v,e,h⟩:=h;obtain⟨m,hn,hl⟩:=I.loc;obtain⟨u,r,l⟩:=hl i x v hN e hv;have fin:EP X pins σ Q u s:=⟨v,H,I,r,h⟩
 rcases l with ⟨hk,hm⟩ | ⟨hk,c,hc,hcell⟩
 ·exact wpAny_Name (wpAny_loadName_local I.ok.kind hk hn hm fin) hd
 ·rcases hk with hk | hk
  ·exact wpAny_Name (wpAny_loadName_cell I.ok.kind hk hc hcell fin) hd
  ·exact wpAny_Name (wpAny_loadName_free I.ok.kind hk hc hcell fin dj) hd
theorem zev{i j pos}:PE X (.Constant (.int i) j pos) (tC (.int i)):=λ_ _ _ H _ I h=>wpAny_Constant_int ⟨.int i,H,I.tok _,⟨_,rfl⟩,h⟩
theorem tO{b j pos}:PE X (.Constant (.bool b) j pos) (tC (.bl b)):=λ_ _ _ H _ I h=>Constant_bool ⟨.bl b,H,I,rfl,h⟩
theorem Fm{j pos}:PE X (.Constant .none j pos) (tC .aw):=λ_ _ _ H _ I h=>Constant_none ⟨.aw,H,I,rfl,h⟩
theorem y4{x j pos}:PE X (.Constant (.str x) j pos) (tC (.str x)):=λ_ _ _ H _ I h=>Calls.Constant_str ⟨.str x,H,I.tok _,⟨_,rfl⟩,h⟩
def Gl(X:Cx)(x:Str):Prop:=X.env.kindOf x=some .globalImplicit
theorem lO(I:Inv X pins σ H s)(hg:Gl X x)(hm:X.mg x=some u)(h:Q u s)
  (hd:(x == ("__debug__" : Str))=false:=by decide):W4 (model X.prog X.w) X.A (eval (.Name x pos) X.env) Q E s :=
 Calls.Name_function_global I.ok.kind hg (Calls.loadGlobal_global (by rw[I.ok.glob]; exact I.mod.glob.keeps I.bk) hm h) hd
theorem mS(I:Inv X pins σ H s)(hg:Gl X x)(hm:X.mg x=none)(hv:Qg x=some u)(h:Q u s)
  (hn:x≠"__name__":=by decide) (hd:(x == ("__debug__" : Str))=false:=by decide):W4 (model X.prog X.w) X.A (eval (.Name x pos) X.env) Q E s:=by
 obtain⟨mb,h1,h2⟩:=I.mod.blt;exact Calls.Name_function_global I.ok.kind hg (Calls.loadGlobal_builtin (by rw[I.ok.glob]; exact I.mod.glob.keeps I.bk) hm (by rw[I.ok.blt]; exact h1.keeps I.bk) ((h2 x hn).trans hv) h) hd
theorem y6 (hg:Gl X x) (hm:X.mg x=none) (hv:Qg x=some u) (r:RelV v u) (hn:x≠"__name__":=by decide) (hd:(x == ("__debug__" : Str))=false:=by decide):PE X (.Name x pos) (tC v) :=
 λ_ _ _ H _ I h=>mS I hg hm hv ⟨v,H,I,r,h⟩ hn hd
variable {a b:Expr} {ta tb:TE} {pos:Pos}
def PC(X:Cx)(op:CmpOp)(a b:Expr)(t:TE):Prop :=
 ∀ (pins:List (Addr×Obj)) (s:W1) (σ:St) (H:Hp) (Q:VK),Inv X pins σ H s->t σ H Q ->
  W4 (model X.prog X.w) X.A (eval a X.env) (λv s₁=>W4 (model X.prog X.w) X.A (eval b X.env) (λu s₂=>W4 (model X.prog X.w) X.A (WB op v u) (EP X pins σ Q) X.xe s₂) X.xe s₁) X.xe s
theorem Fn(b:Expr)(h:op≠.In)(h2:op≠.NotIn):Qu op b=false:=by
 have e1:(op == CmpOp.In)=false:=by cases op <;> first | rfl | exact absurd rfl h
 have e2:(op == CmpOp.NotIn)=false:=by cases op <;> first | rfl | exact absurd rfl h2
 cases b <;> simp[Qu,e1,e2]
def tB(t:TE):TT:=λσ H Q=>t σ H λx H1=>∃ c,x = .bl c/\Q c H1
theorem Ss(h:PC X op a b t)(h1:Qu op b=false:=by first | exact Fn _ (by decide) (by decide) | rfl):PT X (.Compare a [op] [b] pos) (tB t):=by
 intro pins s σ H Q I hw;refine wpAny_isTrue_Compare1 (aM (h pins s σ H _ I hw) λv s1 h1=>aM h1 λu s2 h2=>aM h2 λc s3 ⟨x,H1,I1,r1,q1⟩=>?_) h1;obtain⟨d,rfl,q⟩:=q1
 cases r1;exact Qb ⟨H1,I1,q⟩
theorem Fo(h:PE X e t)(he:∀ whole,isTrue e X.env whole=(do let v <- whole; standAt e.pos; holding [v] (truthy v)):=by intro _; rfl):PT X e (tB t):=by
 intro pins s σ H Q I hw;refine isTrue_plain (aM (h pins s σ H _ I hw) λv s1 ⟨x,H1,I1,r1,q1⟩=>?_) (he _);obtain⟨d,rfl,q⟩:=q1
 cases r1;exact Qb ⟨H1,I1,q⟩
variable {tA qD:TT} {rest:List Expr}
def Fp(t u:TT):TT:=λσ H Q=>t σ H λc H1=>if c=true then u σ H1 Q else Q false H1
def Fq(t u:TT):TT:=λσ H Q=>t σ H λc H1=>if c=true then Q true H1 else u σ H1 Q
def Fs(t:TT):TT:=λσ H Q=>t σ H λc H1=>Q (!c) H1
theorem Ft(ha:PT X a tA):PW X (.BoolOp .And [a] pos) tA:=by
 intro wh pins s σ H Q I h;refine isTrue_and (aM (ha pins s σ H Q I h) λc s1 e=>?_)
 cases c with
 | true=>exact isTrue_and_nil e
 | false=>exact e
theorem Fu(ha:PT X a tA):PW X (.BoolOp .Or [a] pos) tA:=by
 intro wh pins s σ H Q I h;refine isTrue_or (aM (ha pins s σ H Q I h) λc s1 e=>?_)
 cases c with
 | false=>exact isTrue_or_nil e
 | true=>exact e
theorem Fv(ha:PT X a tA)(hb:PW X (.BoolOp .And (b :: rest) pos) qD):PW X (.BoolOp .And (a :: b :: rest) pos) (Fp tA qD):=by
 intro wh pins s σ H Q I h;refine isTrue_and (aM (ha pins s σ H _ I h) λc s1 ⟨H1,I1,q1⟩=>?_)
 cases c with
 | true=>exact hb wh pins s1 σ H1 Q I1 q1
 | false=>exact⟨H1,I1,q1⟩
theorem pw_or(ha:PT X a tA)(hb:PW X (.BoolOp .Or (b :: rest) pos) qD):PW X (.BoolOp .Or (a :: b :: rest) pos) (Fq tA qD):=by
 intro wh pins s σ H Q I h;refine isTrue_or (aM (ha pins s σ H _ I h) λc s1 ⟨H1,I1,q1⟩=>?_)
 cases c with
 | true=>exact⟨H1,I1,q1⟩
 | false=>exact hb wh pins s1 σ H1 Q I1 q1
theorem Fw(ha:PT X a tA):PT X (.UnaryOp .Not a pos) (Fs tA):=by
 intro pins s σ H Q I h;exact isTrue_not (ha pins s σ H (λc H1=>Q (!c) H1) I h)
def Fx(ta tb:TE):TE:=λσ H Q=>ta σ H λx H1=>∃ c,x = .bl c/\if c=true then tb σ H1 Q else Q (.bl false) H1
def Fy(ta tb:TE):TE:=λσ H Q=>ta σ H λx H1=>∃ c,x = .bl c/\if c=true then Q (.bl true) H1 else tb σ H1 Q
def Fz(ta:TE):TE:=λσ H Q=>ta σ H λx H1=>∃ c,x = .bl c/\Q (.bl (!c)) H1
theorem FA{op}(h:PE X a t):PE X (.BoolOp op [a] pos) t:=λpins s σ H Q I hw=>BoolOp_one (h pins s σ H Q I hw)
theorem FC(ha:PE X a ta)(hb:PE X (.BoolOp .And (b :: rest) pos) tb):PE X (.BoolOp .And (a :: b :: rest) pos) (Fx ta tb):=by
 intro pins s σ H Q I h;refine BoolOp_and (aM (ha pins s σ H _ I h) λv s1 ⟨x,H1,I1,r1,q1⟩=>?_);obtain⟨c,rfl,q1⟩:=q1
 cases r1;refine Qb ?_
 cases c with
 | true=>exact hb pins s1 σ H1 Q I1 q1
 | false=>exact⟨.bl false,H1,I1,rfl,q1⟩
theorem FD(ha:PE X a ta)(hb:PE X (.BoolOp .Or (b :: rest) pos) tb):PE X (.BoolOp .Or (a :: b :: rest) pos) (Fy ta tb):=by
 intro pins s σ H Q I h;refine BoolOp_or (aM (ha pins s σ H _ I h) λv s1 ⟨x,H1,I1,r1,q1⟩=>?_);obtain⟨c,rfl,q1⟩:=q1
 cases r1;refine Qb ?_
 cases c with
 | false=>exact hb pins s1 σ H1 Q I1 q1
 | true=>exact⟨.bl true,H1,I1,rfl,q1⟩
theorem FE(ha:PE X a ta):PE X (.UnaryOp .Not a pos) (Fz ta):=by
 intro pins s σ H Q I h;refine UnaryOp_ (aM (ha pins s σ H _ I h) λv s1 ⟨x,H1,I1,r1,q1⟩=>?_);obtain⟨c,rfl,q1⟩:=q1
 cases r1;exact not_of (Qb ⟨.bl (!c),H1,I1,rfl,q1⟩)
end
def ck(K:W2)(H:Hp)(a:Addr)(xs:List V):Prop :=
 Rd H a (.lst xs) \/
  ∃ (o:Obj) (af:Array Value) (n:Nat),K.lookup a=some o/\o.cls = .type "list"/\o.dict=none/\o.data = .seq af n/\af.size<=Wb/\Vals xs af.toList
def cz(K:W2)(H:Hp)(a:Addr)(xs:List V):Prop :=
 Rd H a (.tup xs) \/
  ∃ (o:Obj) (af:Array Value) (n:Nat),K.lookup a=some o/\o.cls = .type "tuple"/\o.data = .seq af n/\af.size<=Wb/\Vals xs af.toList
def FF:Value->Option V
 | .none=>some .aw
 | .bool b=>some (.bl b)
 | .int i _=>some (.int i)
 | .str x _=>some (.str x)
 | .bytes b _=>some (.byt b)
 | .float b _=>some (.flt b)
 | .ref a=>some (.ref a)
 | .type n=>some (.ty n)
 | _=>none
theorem RelV.abs(r:RelV x u):FF u=some x:=by
 cases x with
 | aw=>cases r; rfl
 | bl _=>cases r; rfl
 | int _=>obtain⟨t,rfl⟩:=r; rfl
 | str _=>obtain⟨t,rfl⟩:=r; rfl
 | byt _=>obtain⟨t,rfl⟩:=r; rfl
 | flt _=>obtain⟨t,rfl⟩:=r; rfl
 | ref _=>cases r; rfl
 | ty _=>cases r; rfl
theorem RelV.inj(r:RelV x u)(q:RelV y u):x=y:=Ws (r.abs.symm.trans q.abs)
theorem Vals.inj:∀ {xs ys:List V} {us:List Value},Vals xs us->Vals ys us->xs=ys
 | _,_,_,.nil,.nil=>rfl
 | _,_,_,.cons r t,.cons r' t'=>by rw[r.inj r',Vals.inj t t']
section
variable {X:Cx} {pins:List (Addr×Obj)} {σ:St} {H:Hp} {s:W1} {a:Addr} {xs ys:List V}
theorem ck.of{K:W2}(h:H a=some (.lst xs)):ck K H a xs:=.inl (.inl h)
theorem cz.of{K:W2}(h:H a=some (.tup xs)):cz K H a xs:=.inl (.inl h)
theorem Inv.list(I:Inv X pins σ H s)(h:ck X.K H a xs):∃ af:List Value,Vals xs af/\PlainL s.heap a af.toArray/\xs.length<=Wb:=by
 rcases h with h | ⟨o,af,n,hk,hc,hd,hs,hz,r⟩
 ·obtain⟨z,af,n,r,e⟩:=h.ok I.ah;exact⟨af,r,⟨_,n,e,rfl,rfl,rfl⟩,z⟩
 ·refine⟨af.toList,r,⟨o,n,I.cy a o hk,hc,hd,by simpa using hs⟩,?_⟩;have e:=r.length;simp only[Qd] at e;omega
theorem Inv.tuple(I:Inv X pins σ H s)(h:cz X.K H a xs):∃ af:List Value,Vals xs af/\IsTup s.heap a af.toArray/\xs.length<=Wb:=by
 rcases h with h | ⟨o,af,n,hk,hc,hs,hz,r⟩
 ·obtain⟨z,af,r,p⟩:=h.ok I.ah;exact⟨af,r,p.tup,z⟩
 ·refine⟨af.toList,r,⟨o,I.cy a o hk,hc,n,by simpa using hs⟩,?_⟩;have e:=r.length;simp only[Qd] at e;omega
theorem Inv.y8(I:Inv X pins σ H s)(h:ck X.K H a xs)(h':ck X.K H a ys):xs=ys:=by
 obtain⟨af,r,⟨o,n,e,_,_,d⟩,_⟩:=I.list h;obtain⟨its',r',⟨o',n',e',_,_,d'⟩,_⟩:=I.list h';rw[e] at e'; cases e'
 rw[d] at d';injection d' with d1 _
 have:af=its':=by simpa using congrArg Array.toList d1
 subst this;exact r.inj r'
theorem Inv.y9(I:Inv X pins σ H s)(h:cz X.K H a xs)(h':cz X.K H a ys):xs=ys:=by
 obtain⟨af,r,⟨o,e,_,n,d⟩,_⟩:=I.tuple h;obtain⟨its',r',⟨o',e',_,n',d'⟩,_⟩:=I.tuple h';rw[e] at e'; cases e'
 rw[d] at d';injection d' with d1 _
 have:af=its':=by simpa using congrArg Array.toList d1
 subst this;exact r.inj r'
end
abbrev Cx.gD(X:Cx)(E:Value->W1->Prop):Cx:={ X with xe:=E }
abbrev Cx.i5(X:Cx):Cx:=X.gD λ_ _=>False
theorem Cx.Ok.gD{X:Cx}(ok:X.Ok)(E:Value->W1->Prop):(X.gD E).Ok :=
 ⟨ok.mod,ok.kind,ok.glob,ok.blt,ok.above,ok.inj,ok.has,ok.kz,ok.hd,ok.frames,ok.lK,ok.lL,ok.bs,ok.gz,ok.kA,ok.kC,ok.fE,ok.ir⟩
theorem Cx.Ok.jF{X:Cx}{E:Value->W1->Prop}(ok:(X.gD E).Ok):X.Ok :=
 ⟨ok.mod,ok.kind,ok.glob,ok.blt,ok.above,ok.inj,ok.has,ok.kz,ok.hd,ok.frames,ok.lK,ok.lL,ok.bs,ok.gz,ok.kA,ok.kC,ok.fE,ok.ir⟩
section
variable {X:Cx} {pins:List (Addr×Obj)} {σ:St} {H:Hp} {s:W1} {E:Value->W1->Prop}
theorem Inv.gD(I:Inv X pins σ H s)(E:Value->W1->Prop):Inv (X.gD E) pins σ H s:=⟨I.ok.gD E,I.os,I.bare,I.base,I.loc,I.cell,I.free,I.dH,I.pin,I.ah,I.len⟩
theorem Inv.jF(I:Inv (X.gD E) pins σ H s):Inv X pins σ H s:=⟨I.ok.jF,I.os,I.bare,I.base,I.loc,I.cell,I.free,I.dH,I.pin,I.ah,I.len⟩
theorem SP.jF(h:SP (X.gD E) pins D f s'):SP X pins D f s':=by
 cases f with
 | next=>obtain⟨σ',H',I,q⟩:=h; exact⟨σ',H',I.jF,q⟩
 | brk=>obtain⟨σ',H',I,q⟩:=h; exact⟨σ',H',I.jF,q⟩
 | cont=>obtain⟨σ',H',I,q⟩:=h; exact⟨σ',H',I.jF,q⟩
 | ret u=>obtain⟨v,σ',H',I,r,q⟩:=h; exact⟨v,σ',H',I.jF,r,q⟩
theorem di.i5{st:List Stmt}{t:TS}(h:di X.i5 st t):di X st t:=λpins s σ H D I hw =>
 WQ (h pins s σ H D (I.gD _) hw) (λ_ _ q=>q.jF) λ_ _ z=>False.elim z
end
section
variable {X:Cx} {st:Stmt} {rest:List Stmt} {t u:TS} {e:Expr} {te:TE} {pos:Pos}
def FG:TS:=λD σ H=>D.nx σ H
def FH(t u:TS):TS:=λD σ H=>t { D with nx:=u D } σ H
theorem FI:di X [] FG:=λ_ _ σ H _ I h=>wpAny_execs_nil ⟨σ,H,I,h⟩
theorem FJ(h1:PS X st t)(h2:di X rest u):di X (st :: rest) (FH t u):=by
 intro pins s σ H D I h;refine wpAny_execs_cons (aM (h1 pins s σ H { D with nx:=u D } I h) λf s1 q=>?_)
 cases f with
 | next =>
  obtain⟨σ',H',I',q⟩:=q;exact h2 pins s1 σ' H' D I' q
 | ret v=>exact q
 | brk=>exact q
 | cont=>exact q
theorem y_(h1:PS X st t):di X [st] t:=by
 intro pins s σ H D I h;refine wpAny_execs_cons (aM (h1 pins s σ H D I h) λf s1 q=>?_)
 cases f with
 | next=>exact wpAny_execs_nil q
 | ret v=>exact q
 | brk=>exact q
 | cont=>exact q
theorem Inv.quiet(I:Inv X pins σ H s):interactive X.env=false:=by simp[interactive,I.ok.kind]
def tQ(te:TE):TS:=λD σ H=>te σ H λ_ H1=>D.nx σ H1
theorem zb(he:PE X e te)(hs:Ji e none pos.line X.env=pure false:=by rfl):PS X (.Expr e pos) (tQ te):=by
 intro pins s σ H D I h;exact wpAny_Expr_any (aM (he pins s σ H _ I h) λv s1 ⟨x,H1,I1,r1,q1⟩=>⟨σ,H1,I1,q1⟩) I.quiet hs
def FK(te:TE):TS:=λD σ H=>te σ H D.rt
theorem zc(he:PE X e te):PS X (.Return (some e) pos) (FK te):=by
 intro pins s σ H D I h;exact wpAny_Return_some (aM (he pins s σ H _ I h) λv s1 ⟨x,H1,I1,r1,q1⟩=>⟨x,σ,H1,I1,r1,q1⟩)
def FL(c:TT)(t u:TS):TS:=λD σ H=>c σ H λb H1=>if b=true then t D σ H1 else u D σ H1
theorem FN(hc:PT X c tc)(ha:di X a t)(hb:di X b u):PS X (.If c a b pos) (FL tc t u):=by
 intro pins s σ H D I h;refine wpAny_If (aM (hc pins s σ H _ I h) λd s1 ⟨H1,I1,q1⟩=>?_)
 cases d with
 | true=>exact ha pins s1 σ H1 D I1 q1
 | false=>exact hb pins s1 σ H1 D I1 q1
end
abbrev TG:=V->St->Hp->(St->Hp->Prop)->Prop
abbrev kG:=List V->St->Hp->(St->Hp->Prop)->Prop
def PG(X:Cx)(target:Expr)(t:TG):Prop :=
 ∀ (pins:List (Addr×Obj)) (s:W1) (σ:St) (H:Hp) (v:V) (u:Value) (Q:St->Hp->Prop),Inv X pins σ H s->RelV v u->t v σ H Q ->
  W4 (model X.prog X.w) X.A (assign target X.env u) (λ_ s'=>∃ σ' H',Inv X pins σ' H' s'/\Q σ' H') X.xe s
def gE(X:Cx)(ts:List Expr)(t:kG):Prop :=
 ∀ (pins:List (Addr×Obj)) (s:W1) (σ:St) (H:Hp) (vs:List V) (us:List Value) (Q:St->Hp->Prop),Inv X pins σ H s->Vals vs us->t vs σ H Q ->
  W4 (model X.prog X.w) X.A (assignInOrder ((Q6 ts X.env).map (·.2)) us) (λ_ s'=>∃ σ' H',Inv X pins σ' H' s'/\Q σ' H') X.xe s
abbrev zd:=V->V->V->Hp->(Hp->Prop)->Prop
def ze(X:Cx)(t:zd):Prop :=
 ∀ (pins:List (Addr×Obj)) (s:W1) (σ:St) (H:Hp) (o i v:V) (ov iv u:Value) (Q:Hp->Prop),Inv X pins σ H s->RelV o ov->RelV i iv->RelV v u->t o i v H Q ->
  W4 (model X.prog X.w) X.A (setItem ov iv u) (λ_ s'=>∃ H',Inv X pins σ H' s'/\Q H') X.xe s
section
variable {X:Cx} {pos:Pos}
def tR(i:Nat):TG:=λv σ H Q=>Q (σ.set i (some v)) H
theorem zf(hN:X.N.Nodup)(hi:X.N[i]? = some x)(hx:Loc X.env.scope x)(hf:X.fn x=true\/X.env.scope.names.lookup x=some .local:=by first | exact .inl rfl | exact .inr rfl | assumption):PG X (.Name x pos) (tR i):=by
 intro pins s σ H v u Q I r h;exact wpAny_assign_Name (yY I hN hi hx r (λs' I'=>⟨_,H,I',h⟩) hf)
def FO:kG:=λvs σ H Q=>vs=[]/\Q σ H
def FP(t:TG)(u:kG):kG:=λvs σ H Q=>∃ v r,vs=v :: r/\t v σ H λσ' H'=>u r σ' H' Q
theorem zg:gE X [] FO:=by
 intro pins s σ H vs us Q I r h;obtain⟨e,h⟩:=h;subst e
 cases r;exact assignInOrder_nil ⟨σ,H,I,h⟩
theorem zh(h1:PG X e t)(h2:gE X es u)
  (hs:(Q6 (e :: es) X.env).map (·.2)=assign e X.env :: (Q6 es X.env).map (·.2):=by rfl):gE X (e :: es) (FP t u):=by
 intro pins s σ H vs us Q I r h;obtain⟨v,vr,e1,h⟩:=h;subst e1
 cases r with
 | cons r rr =>
  rw[hs];refine assignInOrder_cons (aM (h1 pins s σ H _ _ _ I r h) λ_ s1 ⟨σ1,H1,I1,q1⟩=>?_);exact h2 pins s1 σ1 H1 _ _ Q I1 rr q1
def FQ(K:W2)(n:Nat)(t:kG):TG:=λv σ H Q=>∃ a xs,v = .ref a/\cz K H a xs/\xs.length=n/\t xs σ H Q
theorem zi(hc:X.calm=true)(h:gE X es t)
  (hn:(Q6 es X.env).length=n:=by rfl) (cO:(Q6 es X.env).findIdx? (·.1)=none:=by rfl):PG X (.Tuple es k pos) (FQ X.K n t):=by
 intro pins s σ H v u Q I r hw;obtain⟨a,xs,e1,hq,hl,hw⟩:=hw;subst e1
 cases r;obtain⟨af,rv,ht,hz⟩:=I.tuple hq;refine assign_Tuple_tuple (I.ok.hd hc) ht (by simp[hn,<- hl,rv.length]) cO λh' hx=>?_
 have I1:Inv X pins σ H { s with heap:=h' }:=I.kept (t':=s.toks) λb o e=>hx b o (Wv (Wi e)) e
 exact h pins _ σ H xs _ Q I1 (by simpa using rv) hw
def FR(to ti:TE)(t:zd):TG:=λv σ H Q=>to σ H λo H1=>ti σ H1 λi H2=>t o i v H2 λH3=>Q σ H3
theorem FU(ho:PE X o to)(hi:PE X i ti)(hs:ze X t)
  (ha:∀ v,assign (.Subscript o i pos) X.env v=(do
   let ov <- holding [v] (eval o X.env)
   let iv <- holding [v,ov] (eval i X.env)
   standAt pos
   holding [v,ov,iv] (setItem ov iv v)
   release [v,ov,iv] []):=by intro _; rfl):PG X (.Subscript o i pos) (FR to ti t):=by
 intro pins s σ H v u Q I r h;rw[ha];refine W0 (WK (aM (ho pins s σ H _ I h) λov s1 ⟨x,H1,I1,r1,q1⟩=>?_));refine W0 (WK (aM (hi pins s1 σ H1 _ I1 q1) λiv s2 ⟨y,H2,I2,r2,q2⟩=>?_));refine W0 (wpAny_standAt (W0 (WK (aM (hs pins s2 σ H2 x y v ov iv u _ I2 r1 r2 r q2) λ_ s3 ⟨H3,I3,q3⟩=>?_))));exact wpAny_release ⟨σ,H3,I3,q3⟩
def tS(te:TE)(g:TG):TS:=λD σ H=>te σ H λx H1=>g x σ H1 D.nx
theorem zj(he:PE X e te)(hg:PG X tg g)(hs:swapsWithSole [tg] e pos.line X.env=pure false:=by rfl)(hw:swappedStores [tg] e X.env=pure none:=by rfl)
  (h1:(Q6 [tg] X.env).map (·.2)=[assign tg X.env]:=by rfl):PS X (.Assign [tg] e pos) (tS te g):=by
 intro pins s σ H D I h;refine wpAny_Assign_stores (aM (he pins s σ H _ I h) λv s1 ⟨x,H1,I1,r1,q1⟩=>?_) hs hw;rw[h1];exact aM (hg pins s1 σ H1 x v _ I1 r1 q1) λ_ s2 q=>q
theorem FV(hN:X.N.Nodup)(hi:X.N[i]? = some x)(hx:Loc X.env.scope x)(he:PE X e te)(hs:Ji e (some (.Name x pos')) pos.line X.env=pure false:=by rfl)(hf:X.fn x=true\/X.env.scope.names.lookup x=some .local:=by first | exact .inl rfl | exact .inr rfl | assumption) :
  PS X (.Assign [.Name x pos'] e pos) (tS te (tR i)):=by
 intro pins s σ H D I h;refine wpAny_Assign_Name (aM (he pins s σ H _ I h) λv s1 ⟨y,H1,I1,r1,q1⟩=>?_) hs;exact yY I1 hN hi hx r1 (λs2 I2=>⟨_,H1,I2,q1⟩) hf
end
section
variable {X:Cx} {pos:Pos}
end
structure It where
 go:Nat->Hp->Prop
 oi:Nat->Hp->V->Hp->Prop
 stop:Nat->Hp->Prop
def fF(X:Cx)(pins:List (Addr×Obj))(H:Hp)(b:Addr):Prop :=
 H b=none/\b≠X.env.locals/\b ∉ X.fs/\(b ∈ X.ex\/X.s₀.heap.objs.size<=b)/\(∀ x c,X.env.cells.lookup x=some c->c≠b)/\∀ p ∈ X.pn ++ pins,p.1≠b
theorem Inv.iA(I:Inv X pins σ H s)(hb:s.heap.objs.size<=b)(hn:H' b=none):fF X pins H' b:=by
 refine⟨hn,QT (Wu I.lt hb),I.Fh hb,.inr (Q2 I.sz hb),λx c e z=>?_,λp hp z=>?_⟩
 ·obtain⟨v,q⟩:=I.cell x c e;exact absurd (Wu q.lt (by rw[z]; exact hb)) (Qk _)
 ·exact absurd (Wu (Wi (I.pin p hp).1) (by rw[z]; exact hb)) (Qk _)
structure Turn(P:Wg)(w:Wh)(K:W2)(tg:Expr)(J:It)(fp:List Addr)(it:Addr)(tn:Nat->Heap->Prop):Prop where
 mem:it ∈ fp
 obj:∀ i h,tn i h->∀ b ∈ fp,∃ o,h.get? b=some o/\∀ v,o.data≠.cell v
 keep:∀ i h h',tn i h->(∀ b ∈ fp,∀ o,h.get? b=some o->h'.get? b=some o)->tn i h'
 item:∀ (X:Cx),X.prog=P->X.w=w->X.K=K->X.calm=true->∀ (i:Nat) (pins:List (Addr×Obj)) (s:W1) (σ:St) (H:Hp) (E:Value->W1->Prop),Inv X pins σ H s->(∀ b ∈ fp,fF X pins H b)->tn i s.heap->J.go i H ->
  W4 (model P w) X.A (Qv (.ref it)) (λr s1=>∃ u,r=some u /\
   W4 (model P w) X.A (letOwnedTupleGo tg (.ref it) u) (λ_ s2=>∃ x H',Inv X pins σ H' s2/\RelV x u/\J.oi i H x H'/\tn (i + 1) s2.heap/\∀ b ∈ fp,H' b=none) E s1) E s
 done:∀ (X:Cx),X.prog=P->X.w=w->X.K=K->X.calm=true->∀ (i:Nat) (pins:List (Addr×Obj)) (s:W1) (σ:St) (H:Hp) (E:Value->W1->Prop),Inv X pins σ H s->(∀ b ∈ fp,fF X pins H b)->tn i s.heap->J.stop i H ->
  W4 (model P w) X.A (Qv (.ref it)) (λr s1=>r=none/\Inv X pins σ H s1) E s
 self:∀ (A:Wl) (i:Nat) (s:W1) (Q:Value->W1->Prop) (E:Value->W1->Prop),tn i s.heap->Q (.ref it) s->W4 (model P w) A (pyIter (.ref it)) Q E s
abbrev TI:=St->Hp->(It->Hp->Prop)->Prop
def zk(X:Cx)(pins:List (Addr×Obj))(σ:St)(tg:Expr)(R:It->Hp->Prop)(tU:Value)(s2:W1):Prop :=
 ∃ (it:Addr) (fp:List Addr) (tn:Nat->Heap->Prop) (J:It) (H':Hp),tU = .ref it/\Inv X pins σ H' s2/\Turn X.prog X.w X.K tg J fp it tn/\tn 0 s2.heap/\(∀ b ∈ fp,fF X pins H' b)/\R J H'
def PI(X:Cx)(tg iter:Expr)(wi:TI):Prop :=
 ∀ (pins:List (Addr×Obj)) (s:W1) (σ:St) (H:Hp) (R:It->Hp->Prop),Inv X pins σ H s->wi σ H R ->
  W4 (model X.prog X.w) X.A (eval iter X.env) (λv s1=>W4 (model X.prog X.w) X.A (pyIter v) (zk X pins σ tg R) X.xe s1) X.xe s
theorem qE(ho:s.heap.get? it=some o)(hc:o.cls = .type n)(hd:o.data = .fields vs)
  (hn:["enumerate","zip","dict_itemiterator","dict_reverseitemiterator","odict_iterator","itertools.zip_longest","itertools.pairwise"].contains n=false) (hQ:Q () s):W4 M A (letOwnedTupleGo tg (.ref it) u) Q E s:=by
 unfold letOwnedTupleGo
 cases tg <;> first
  | exact W3 hQ
  | (cases u <;> first
    | exact W3 hQ
    | (refine W0 (wpAny_load ho ?_); rw[hc,hd]; show W4 M A (if (["enumerate","zip","dict_itemiterator","dict_reverseitemiterator","odict_iterator","itertools.zip_longest","itertools.pairwise"].contains n && vs[0]? == some (WR _))=true then _ else _) Q E s; rw[if_neg (by intro h; rw[hn,Bool.false_and] at h; cases h)]; exact W3 hQ))
def tV(K:W2)(a:Addr):It :=
 ⟨λi H=>∃ xs x,ck K H a xs/\xs[i]? = some x,λi H x H'=>H'=H/\∀ xs,ck K H a xs->xs[i]? = some x,λi H=>∃ xs,ck K H a xs/\xs.length<=i⟩
def qF(K:W2)(a:Addr):It :=
 ⟨λi H=>∃ xs x,cz K H a xs/\xs[i]? = some x,λi H x H'=>H'=H/\∀ xs,cz K H a xs->xs[i]? = some x,λi H=>∃ xs,cz K H a xs/\xs.length<=i⟩
def qG(lo:Int)(n:Nat):It:=⟨λi _=>i < n,λi H x H'=>H'=H/\x = .int (lo + i),λi _=>n<=i⟩
theorem FW{P:Wg}{w:Wh}{K:W2}{tg:Expr}(a it:Addr):Turn P w K tg (tV K a) [it] it (λi h=>h.IsListIter it a i) where
 mem:=by simp
 obj:=λi h st b hb=>by
  have e:b=it:=by simpa using hb
  subst e;obtain⟨o,e,c,d⟩:=st;exact⟨o,e,λv z=>by rw[d] at z; cases z⟩
 keep:=λi h h' st k=>st.at λo e=>k it (by simp) o e
 item:=by
  intro X hP hw hK hc i pins s σ H E I hf st hg;subst hP hw hK;obtain⟨xs,x,hq,hx⟩:=hg;obtain⟨af,rv,p,hz⟩:=I.list hq;obtain⟨u,hu,ru⟩:=rv.get hx;obtain⟨f0,f1,f2,f3,f4,f5⟩:=hf it (by simp);refine wpAny_pyNext_list_item st p.isList (x:=u) (by simpa using hu) λh' fG sb=>?_
  have I1:Inv X pins σ H { s with heap:=h' }:=I.turned (t':=s.toks) (λb o hb e=>(sb.2 b hb).trans e) f0 f1 f3 f4 f5;obtain⟨o,e,c,d⟩:=id fG;exact⟨u,rfl,qE (s:={ s with heap:=h' }) e c d (by decide) ⟨x,H,I1,ru,⟨rfl,λys hy=>by rw[I.y8 hy hq]; exact hx⟩,fG,λb hb=>(hf b hb).1⟩⟩
 done:=by
  intro X hP hw hK hc i pins s σ H E I hf st hg;subst hP hw hK;obtain⟨xs,hq,hx⟩:=hg;obtain⟨af,rv,p,hz⟩:=I.list hq;obtain⟨f0,f1,f2,f3,f4,f5⟩:=hf it (by simp);have hl:=rv.length;exact wpAny_pyNext_list_end (I.ok.hd hc) st p.isList (by simp; omega) λh' eb=>⟨rfl,I.turned (t':=s.toks) (λb o hb e=>eb b o hb e) f0 f1 f3 f4 f5⟩
 self:=λ_ _ _ _ _ st h=>wpAny_pyIter_listiter st h
theorem FX{P:Wg}{w:Wh}{K:W2}{tg:Expr}(a it:Addr):Turn P w K tg (qF K a) [it] it (λi h=>h.IsTupleIter it a i) where
 mem:=by simp
 obj:=λi h st b hb=>by
  have e:b=it:=by simpa using hb
  subst e;obtain⟨o,e,c,d⟩:=st;exact⟨o,e,λv z=>by rw[d] at z; cases z⟩
 keep:=λi h h' st k=>st.at λo e=>k it (by simp) o e
 item:=by
  intro X hP hw hK hc i pins s σ H E I hf st hg;subst hP hw hK;obtain⟨xs,x,hq,hx⟩:=hg;obtain⟨af,rv,p,hz⟩:=I.tuple hq;obtain⟨u,hu,ru⟩:=rv.get hx;obtain⟨f0,f1,f2,f3,f4,f5⟩:=hf it (by simp);refine wpAny_pyNext_tuple_item st (show s.heap.IsTuple a af.toArray from p) (x:=u) (by simpa using hu) λh' fG sb=>?_
  have I1:Inv X pins σ H { s with heap:=h' }:=I.turned (t':=s.toks) (λb o hb e=>(sb.2 b hb).trans e) f0 f1 f3 f4 f5;obtain⟨o,e,c,d⟩:=id fG;exact⟨u,rfl,qE (s:={ s with heap:=h' }) e c d (by decide) ⟨x,H,I1,ru,⟨rfl,λys hy=>by rw[I.y9 hy hq]; exact hx⟩,fG,λb hb=>(hf b hb).1⟩⟩
 done:=by
  intro X hP hw hK hc i pins s σ H E I hf st hg;subst hP hw hK;obtain⟨xs,hq,hx⟩:=hg;obtain⟨af,rv,p,hz⟩:=I.tuple hq;obtain⟨f0,f1,f2,f3,f4,f5⟩:=hf it (by simp);have hl:=rv.length;exact wpAny_pyNext_tuple_end (I.ok.hd hc) st (show s.heap.IsTuple a af.toArray from p) (by simp; omega) λh' eb=>⟨rfl,I.turned (t':=s.toks) (λb o hb e=>eb b o hb e) f0 f1 f3 f4 f5⟩
 self:=λ_ _ _ _ _ st h=>wpAny_pyIter_tupleiter st h
theorem FY{P:Wg}{w:Wh}{K:W2}{tg:Expr}(it:Addr)(lo:Int)(n:Nat):Turn P w K tg (qG lo n) [it] it (λi h=>IsRangeIter h it (lo + (i:Nat) * 1) ((n:Int) - (i:Nat)) 1) where
 mem:=by simp
 obj:=λi h st b hb=>by
  have e:b=it:=by simpa using hb
  subst e;exact⟨_,st,λv z=>by
   have z':Data.fields _=Data.cell v:=z
   cases z'⟩
 keep:=λi h h' st k=>k it (by simp) _ st
 item:=by
  intro X hP hw hK hc i pins s σ H E I hf st hg;subst hP hw hK;obtain⟨f0,f1,f2,f3,f4,f5⟩:=hf it (by simp);have W:=Walks.range (prog:=X.prog) (w:=X.w) (I.ok.hd hc) it lo 1 n;refine W.item i s _ _ hg st λv h' tk hv fG kk=>?_
  obtain⟨t,rfl⟩:=hv;have I1:Inv X pins σ H { s with heap:=h',toks:=tk }:=I.turned (λb o hb e=>kk b o (by simpa using hb) e) f0 f1 f3 f4 f5;refine⟨_,rfl,qE (s:={ s with heap:=h',toks:=tk }) (n:="range_iterator") fG rfl rfl (by decide) ⟨.int (lo + i),H,I1,⟨t,?_⟩,⟨rfl,rfl⟩,fG,λb hb=>(hf b hb).1⟩⟩;rw[Int.mul_one]
 done:=by
  intro X hP hw hK hc i pins s σ H E I hf st hg;subst hP hw hK;obtain⟨f0,f1,f2,f3,f4,f5⟩:=hf it (by simp);exact wpAny_pyNext_range_end (I.ok.hd hc) st (by have:n<=i:=hg; omega) λh' eb=>⟨rfl,I.turned (t':=s.toks) (λb o hb e=>eb b o hb e) f0 f1 f3 f4 f5⟩
 self:=λ_ _ _ _ _ st h=>wpAny_pyIter_rangeiter st h
section
variable {X:Cx} {tg:Expr}
theorem FZ{pins:List (Addr×Obj)}{σ:St}{H:Hp}{s:W1}{R:It->Hp->Prop}{E:Value->W1->Prop}{lo hi:Int}{t u v:Tok}{tk:Nat}(I:Inv X pins σ H s)(h1 : -(2 ^ 62)<=lo)(h2:lo < 2 ^ 62)(h3 : -(2 ^ 62)<=hi)(h4:hi < 2 ^ 62)
  (q:R (qG lo (hi - lo).toNat) H):W4 (model X.prog X.w) X.A (pyIter (.ref s.heap.objs.size)) (zk X pins σ tg R) E { s with heap:=s.heap.push { cls:=.type "range",data:=.fields #[.int lo t,.int hi u,.int 1 v] },toks:=tk }:=by
 refine wpAny_pyIter_range (IsRange.new ..) (small_one h1 h2 h3 h4) ?_;have I1:Inv X pins σ H { s with heap:=s.heap.push { cls:=.type "range",data:=.fields #[.int lo t,.int hi u,.int 1 v] },toks:=tk }:=I.kept λb o e=>W6 _ e
 refine⟨(s.heap.push { cls:=.type "range",data:=.fields #[.int lo t,.int hi u,.int 1 v] }).objs.size,[(s.heap.push { cls:=.type "range",data:=.fields #[.int lo t,.int hi u,.int 1 v] }).objs.size],_,_,H,rfl,
  I1.kept (t':=tk) λb o e=>W6 _ e,FY _ lo (hi - lo).toNat,?_,λb hb=>?_,q⟩
 ·have e1:lo + ((0:Nat):Int) * 1=lo:=by simp
  have e2:(((hi - lo).toNat:Nat):Int) - ((0:Nat):Int)=Builtin.Range.rangeSize lo hi 1:=by rw[rangeSize_one]; split <;> omega
  show IsRangeIter _ _ (lo + ((0:Nat):Int) * 1) ((((hi - lo).toNat:Nat):Int) - ((0:Nat):Int)) 1;rw[e1,e2];exact Wn _ rfl
 ·have e:b=(s.heap.push { cls:=.type "range",data:=.fields #[.int lo t,.int hi u,.int 1 v] }).objs.size:=by simpa using hb
  subst e;exact I1.iA (Wf _) (I1.ah.fresh (Wf _))
def F_(ta:TA):TI:=λσ H R=>ta σ H λvs H1=>∃ j:Int,vs=[.int j]/\-(2 ^ 62)<=j/\j < 2 ^ 62/\R (qG 0 j.toNat) H1
theorem Ga {a:Expr} {ta:TA} {p pos:Pos} (hg:Gl X "range") (hm:X.mg "range" = none) (ha:PA X [a] ta) (hs:W7 [a] X.env=[(false,eval a X.env)]:=by rfl):PI X tg (.Call (.Name "range" p) [a] [] pos) (F_ ta):=by
 intro pins s σ H R I h;refine Call_ (mS I hg hm boot_range (QF (aM (ha pos pins s σ H _ I h) λus s1 ⟨vs,H1,I1,r1,q1⟩=>?_) hs rfl));obtain⟨j,e,q1,q2,q⟩:=q1;subst e
 cases r1 with
 | cons r rr =>
  cases rr;obtain⟨t,rfl⟩:=r;exact call_range_1 (FZ I1 (by omega) (by omega) q1 q2 (by simpa using q))
def Gb(wi:TI)(g:TG)(tb:TS):TS:=λD σ H=>wi σ H λJ H1=>∃ W:Nat->Nat->St->Hp->Prop,(∃ m,W 0 m σ H1)/\∀ i m σ H,W i m σ H ->
 (J.stop i H/\D.nx σ H)\/(J.go i H/\∃ N:St->Hp->Prop,(∀ σ' H',N σ' H'->∃ m',m' < m/\W (i + 1) m' σ' H')/\∀ x H',J.oi i H x H'->g x σ H' λσ2 H2=>tb { D with nx:=N,ct:=N,bk:=D.nx } σ2 H2)
def oj(fp:List Addr)(h:Heap):List (Addr×Obj):=fp.filterMap λb=>(h.get? b).map λo=>(b,o)
theorem qH(hb:b ∈ fp)(e:h.get? b=some o):(b,o) ∈ oj fp h:=List.mem_filterMap.mpr ⟨b,hb,by rw[e]; rfl⟩
theorem Gd(hp:p ∈ oj fp h):p.1 ∈ fp/\h.get? p.1=some p.2:=by
 obtain⟨b,hb,e⟩:=List.mem_filterMap.mp hp
 cases q:h.get? b with
 | none=>rw[q] at e; cases e
 | some o =>
  rw[q] at e;have e':(b,o)=p:=Ws e;subst e';exact⟨hb,q⟩
theorem Inv.pinned(I:Inv X pins σ H s)(hf:∀ b ∈ fp,fF X pins H b)(ho:∀ b ∈ fp,∃ o,s.heap.get? b=some o/\∀ v,o.data≠.cell v):Inv X (pins ++ oj fp s.heap) σ H s :=
 I.yX λp hp=>(Jn.mp hp).elim (λz=>I.pin p (WP _ z)) λz=>by
  obtain⟨hb,e⟩:=Gd z;obtain⟨f0,f1,f2,_⟩:=hf p.1 hb;obtain⟨o,e',d⟩:=ho p.1 hb;rw[e] at e'; cases e'
  exact⟨e,f0,f1,f2,d⟩
theorem Inv.qI(I:Inv X (pins ++ pl) σ H s):Inv X pins σ H s:=I.yX λp hp=>I.pin p (WP _ (Jk _ hp))
theorem Ge(hp:PassesOwn (model X.prog X.w) X.A X.env X.xe)(hc:X.calm=true)(hi:PI X tg iter wi)(hg:PG X tg g)(hb:di X body tb)
  (hs:∀ x,JF iter X.env x=pure x:=by intro _; rfl):PS X (.For tg iter body [] pos) (Gb wi g tb):=by
 intro pins s σ H D I h;refine wpAny_For (aM (hi pins s σ H _ I h) λv s1 h1=>aM h1 λtU s2 h2=>?_) hs;obtain⟨it,fp,tn,J,H2,e,I2,T,st2,f2,W,⟨m0,w0⟩,turn⟩:=h2;subst e;-- what stays true of the iterator's objects through the loop
 have tW:∀ {H':Hp},(∀ b ∈ fp,H' b=none)->∀ b ∈ fp,fF X pins H' b:=λhn b hb=>⟨hn b hb,(f2 b hb).2⟩
 refine codeAny_forLoop_any (λn s'=>∃ i σ' H',Inv X pins σ' H' s'/\tn i s'.heap/\(∀ b ∈ fp,H' b=none)/\W i n σ' H') ?_ m0 ⟨0,σ,H2,I2,st2,λb hb=>(f2 b hb).1,w0⟩;rintro n s3 ⟨i,σ3,H3,I3,kH,fr3,w3⟩;rcases turn i n σ3 H3 w3 with ⟨stop,qn⟩ | ⟨go,N,hN,step⟩
 ·refine Jo hp (aM (T.done X rfl rfl rfl hc i pins s3 σ3 H3 X.xe I3 (tW fr3) kH stop) λr s4 ⟨hr,I4⟩=>?_);subst hr;exact wpAny_execs_nil ⟨σ3,H3,I4,qn⟩
 ·refine Jo hp (aM (T.item X rfl rfl rfl hc i pins s3 σ3 H3 X.xe I3 (tW fr3) kH go) λr s4 ⟨u,hr,h4⟩=>?_);subst hr;refine Jo hp (aM h4 λ_ s5 ⟨x,H5,I5,r5,y5,st5,fr5⟩=>?_);have Gf:=I5.pinned (tW fr5) (T.obj _ _ st5);refine Jo hp (aM (hg _ s5 σ3 H5 x u _ Gf r5 (step x H5 y5)) λ_ s6 ⟨σ6,H6,I6,q6⟩=>?_);refine Jo hp (aM (hb _ s6 σ6 H6 _ I6 q6) λf s7 q7=>?_);have again:∀ {σ7:St} {H7:Hp},Inv X (pins ++ oj fp s5.heap) σ7 H7 s7->N σ7 H7->∃ m,m < n/\∃ i σ' H',Inv X pins σ' H' s7/\tn i s7.heap/\(∀ b ∈ fp,H' b=none)/\W i m σ' H':=λ{σ7 H7} I7 n7=>by
   obtain⟨m',hm,w7⟩:=hN σ7 H7 n7;refine⟨m',hm,i + 1,σ7,H7,I7.qI,T.keep _ _ _ st5 λb hb o e=>(I7.pin (b,o) (WP _ (WP _ (qH hb e)))).1,λb hb=>?_,w7⟩;obtain⟨o,e,d⟩:=T.obj _ _ st5 b hb;exact(I7.pin (b,o) (WP _ (WP _ (qH hb e)))).2.1
  cases f with
  | next=>obtain⟨σ7,H7,I7,n7⟩:=q7; exact again I7 n7
  | cont=>obtain⟨σ7,H7,I7,n7⟩:=q7; exact again I7 n7
  | brk=>obtain⟨σ7,H7,I7,q7⟩:=q7; exact⟨σ7,H7,I7.qI,q7⟩
  | ret v=>obtain⟨x7,σ7,H7,I7,r7,q7⟩:=q7; exact⟨x7,σ7,H7,I7.qI,r7,q7⟩
end
abbrev R2:=V->V->Hp->VK->Prop
def bD(X:Cx)(f:Value->Value->Sem Value)(r:R2):Prop :=
 ∀ (pins:List (Addr×Obj)) (s:W1) (σ:St) (H:Hp) (x y:V) (v u:Value) (Q:VK),Inv X pins σ H s->RelV x v->RelV y u->r x y H Q ->
  W4 (model X.prog X.w) X.A (f v u) (EP X pins σ Q) X.xe s
def tY(X:Cx)(f:Value->Sem Value)(r:V->Hp->VK->Prop):Prop :=
 ∀ (pins:List (Addr×Obj)) (s:W1) (σ:St) (H:Hp) (x:V) (v:Value) (Q:VK),Inv X pins σ H s->RelV x v->r x H Q ->
  W4 (model X.prog X.w) X.A (f v) (EP X pins σ Q) X.xe s
def eS(X:Cx)(f:Value)(r:List V->Hp->VK->Prop):Prop :=
 ∀ (pins:List (Addr×Obj)) (s:W1) (σ:St) (H:Hp) (xs:List V) (us:List Value) (Q:VK),Inv X pins σ H s->Vals xs us->r xs H Q ->
  W4 (model X.prog X.w) X.A (call f us) (EP X pins σ Q) X.xe s
def lP(r:R2)(ta tb:TE):TE:=λσ H Q=>ta σ H λx H1=>tb σ H1 λy H2=>r x y H2 Q
def zl(r:V->Hp->VK->Prop)(ta:TE):TE:=λσ H Q=>ta σ H λx H1=>r x H1 Q
def rI(C:Int->Int->Prop)(g:Int->Int->V):R2:=λx y H Q=>∃ i j,x = .int i/\y = .int j/\C i j/\Q (g i j) H
def gY(g:Int->Int->V):R2:=λx y H Q=>∃ i j,x = .int i/\y = .int j/\Q (g i j) H
def rU(g:Int->V):V->Hp->VK->Prop:=λx H Q=>∃ i,x = .int i/\Q (g i) H
section
variable {X:Cx} {a b c:Expr} {ta tb tc:TE} {pos:Pos}
theorem tZ(ha:PE X a ta)(hb:PE X b tb){pins:List (Addr×Obj)}{s:W1}{σ:St}{H:Hp}{R:V->V->Hp->Prop}(I:Inv X pins σ H s)
  (h:ta σ H λx H1=>tb σ H1 λy H2=>R x y H2) {Q:Value->W1->Prop} {f:Value->Value->Sem Value}
  (hf:∀ v u s2 x y H2,Inv X pins σ H2 s2->RelV x v->RelV y u->R x y H2->W4 (model X.prog X.w) X.A (f v u) Q X.xe s2) :
  W4 (model X.prog X.w) X.A (eval a X.env) (λv s₁=>W4 (model X.prog X.w) X.A (eval b X.env) (λu s₂=>W4 (model X.prog X.w) X.A (f v u) Q X.xe s₂) X.xe s₁) X.xe s:=by
 refine aM (ha pins s σ H _ I h) λv s1 ⟨x,H1,I1,r1,q1⟩=>?_
 refine aM (hb pins s1 σ H1 _ I1 q1) λu s2 ⟨y,H2,I2,r2,q2⟩=>?_
 exact hf v u s2 x y H2 I2 r1 r2 q2
theorem zm{op:Operator}{r:R2}(ho:bD X (Qe op) r)(ha:PE X a ta)(hb:PE X b tb):PE X (.BinOp a op b pos) (lP r ta tb):=by
 intro pins s σ H Q I h;exact wpAny_BinOp (tZ ha hb I h λv u s2 x y H2 I2 rx ry q=>ho pins s2 σ H2 x y v u Q I2 rx ry q)
theorem Gg(ho:tY X (unaryOp op) r)(ha:PE X a ta):PE X (.UnaryOp op a pos) (zl r ta):=by
 intro pins s σ H Q I h;exact UnaryOp_ (aM (ha pins s σ H _ I h) λv s1 ⟨x,H1,I1,r1,q1⟩=>ho pins s1 σ H1 x v Q I1 r1 q1)
theorem om{f:Value->Value->Sem Value}{C:Int->Int->Prop}{g:Int->Int->Int}
  (rule:∀ (i j:Int) (t u:Tok) (s:W1) (Q:Value->W1->Prop) (E:Value->W1->Prop),C i j->Q (.int (g i j) s.toks) { s with toks:=s.toks + 1 }->W4 (model X.prog X.w) X.A (f (.int i t) (.int j u)) Q E s) :
  bD X f (rI C λi j=>.int (g i j)):=by
 intro pins s σ H x y v u Q I rx ry h;obtain⟨i,j,rfl,rfl,hc,q⟩:=h;obtain⟨t,rfl⟩:=rx;obtain⟨t',rfl⟩:=ry;exact rule i j t t' s _ _ hc ⟨.int (g i j),H,I.tok _,⟨_,rfl⟩,q⟩
theorem zo{f:Value->Value->Sem Value}{g:Int->Int->Int}
  (rule:∀ (i j:Int) (t u:Tok) (s:W1) (Q:Value->W1->Prop) (E:Value->W1->Prop),Q (.int (g i j) s.toks) { s with toks:=s.toks + 1 }->W4 (model X.prog X.w) X.A (f (.int i t) (.int j u)) Q E s) :
  bD X f (gY λi j=>.int (g i j)):=by
 intro pins s σ H x y v u Q I rx ry h;obtain⟨i,j,rfl,rfl,q⟩:=h;obtain⟨t,rfl⟩:=rx;obtain⟨t',rfl⟩:=ry;exact rule i j t t' s _ _ ⟨.int (g i j),H,I.tok _,⟨_,rfl⟩,q⟩
theorem qJ{f:Value->Value->Sem Value}{g:Int->Int->Bool}
  (rule:∀ (i j:Int) (t u:Tok) (s:W1) (Q:Value->W1->Prop) (E:Value->W1->Prop),Q (.bool (g i j)) s->W4 (model X.prog X.w) X.A (f (.int i t) (.int j u)) Q E s) :
  bD X f (gY λi j=>.bl (g i j)):=by
 intro pins s σ H x y v u Q I rx ry h;obtain⟨i,j,rfl,rfl,q⟩:=h;obtain⟨t,rfl⟩:=rx;obtain⟨t',rfl⟩:=ry;exact rule i j t t' s _ _ ⟨.bl (g i j),H,I,rfl,q⟩
def zq(i j:Int):Prop:=0 < j/\j < 1073741824
def zr(i j:Int):Prop:=0<=j/\j<=1000000/\i.natAbs < 2 ^ 64
def oq(i j:Int):Prop:=(-(2 ^ 64) < i/\i < 2 ^ 64)\/(-(2 ^ 64) < j/\j < 2 ^ 64)
theorem oq.ok(h:oq i j):IntMulOk i j:=by
 rcases h with ⟨h1,h2⟩ | ⟨h1,h2⟩
 ·exact .of_left (intBits_le_64 h1 h2)
 ·exact .of_right (intBits_le_64 h1 h2)
theorem Gi:bD X (Qe .Add) (gY λi j=>.int (i + j)):=zo λ_ _ _ _ _ _ _ q=>add_int q
theorem zt:bD X (Qe .Sub) (gY λi j=>.int (i - j)):=zo λ_ _ _ _ _ _ _ q=>sub_int q
theorem Gj:bD X (Qe .Mult) (rI oq λi j=>.int (i * j)):=om λ_ _ _ _ _ _ _ hc q=>mul_int q hc.ok
theorem t4:bD X (Qe .FloorDiv) (rI zq λi j=>.int (i / j)):=om λi j _ _ _ _ _ hc q=>by
 have h1:(0:Int) < j:=hc.1;have h2:j < 1073741824:=hc.2;exact floordiv_int (by omega) (by rw[Int.fdiv_eq_ediv_of_nonneg i (by omega)]; exact q) (.inl (PyProof.noPylong_small (by omega)))
theorem jG:bD X (Qe .Mod) (rI (λ_ j=>0 < j) λi j=>.int (i % j)):=om λi j _ _ _ _ _ hc q=>by
 have h1:(0:Int) < j:=hc;exact mod_int' (by omega) (by rw[Int.fmod_eq_emod_of_nonneg i (by omega)]; exact q)
theorem zu:bD X (Qe .Pow) (rI zr λi j=>.int (i ^ j.toNat)):=om λ_ _ _ _ _ _ _ hc q=>pow_int_small hc.1 hc.2.1 hc.2.2 q
theorem Gk{f:Value->Sem Value}{g:Int->Int}
  (rule:∀ (i:Int) (t:Tok) (s:W1) (Q:Value->W1->Prop) (E:Value->W1->Prop),Q (.int (g i) s.toks) { s with toks:=s.toks + 1 }->W4 (model X.prog X.w) X.A (f (.int i t)) Q E s) :
  tY X f (rU λi=>.int (g i)):=by
 intro pins s σ H x v Q I rx h;obtain⟨i,rfl,q⟩:=h;obtain⟨t,rfl⟩:=rx;exact rule i t s _ _ ⟨.int (g i),H,I.tok _,⟨_,rfl⟩,q⟩
theorem Gm:tY X (unaryOp .USub) (rU λi=>.int (-i)):=Gk λ_ _ _ _ _ q=>neg_int q
end
section
variable {X:Cx} {a b c:Expr} {ta tb tc:TE} {pos:Pos}
theorem zv(I:Inv X pins σ H s)(q:Q (.bl k) H)(e:k=k'):EP X pins σ Q (.bool k') s:=by
 subst e;exact⟨.bl k,H,I,rfl,q⟩
theorem Gn:bD X (WB .Lt) (gY λi j=>.bl (decide (i < j))):=qJ λ_ _ _ _ _ _ _ q=>lt_int q
theorem Gp:bD X (WB .LtE) (gY λi j=>.bl (decide (i<=j))):=qJ λ_ _ _ _ _ _ _ q=>le_int q
theorem Gq:bD X (WB .Gt) (gY λi j=>.bl (decide (j < i))):=qJ λ_ _ _ _ _ _ _ q=>gt_int q
theorem Gr:bD X (WB .GtE) (gY λi j=>.bl (decide (j<=i))):=qJ λ_ _ _ _ _ _ _ q=>ge_int q
theorem Gs:bD X (WB .Lt) (λx y H Q=>∃ i j,x = .str i/\y = .str j/\Q (.bl (decide (i.cps.toList < j.cps.toList))) H):=by
 intro pins s σ H x y v u Q I rx ry h;obtain⟨i,j,rfl,rfl,q⟩:=h;obtain⟨t,rfl⟩:=rx;obtain⟨t',rfl⟩:=ry;exact lt_str (zv I q rfl)
theorem Gu:bD X (WB .NotIn) (λx y H Q=>∃ i j,x = .str i/\y = .str j/\Q (.bl (!(!(Builtin.Str.occurrences j i 0 j.length 1).isEmpty))) H):=by
 intro pins s σ H x y v u Q I rx ry h;obtain⟨i,j,rfl,rfl,q⟩:=h;obtain⟨t,rfl⟩:=rx;obtain⟨t',rfl⟩:=ry;exact notIn_str (zv I q rfl)
theorem bD.or(h:bD X f r)(h':bD X f r'):bD X f (λx y H Q=>r x y H Q\/r' x y H Q):=by
 intro pins s σ H x y v u Q I rx ry q;rcases q with q | q
 ·exact h pins s σ H x y v u Q I rx ry q
 ·exact h' pins s σ H x y v u Q I rx ry q
theorem de(b:Expr)(h:op≠.In:=by decide)(h2:op≠.NotIn:=by decide):Qu op b=false:=by
 have e1:(op == CmpOp.In)=false:=by cases op <;> first | rfl | exact absurd rfl h
 have e2:(op == CmpOp.NotIn)=false:=by cases op <;> first | rfl | exact absurd rfl h2
 cases b <;> simp[Qu,e1,e2]
theorem Gv{op:CmpOp}{r:R2}(ho:bD X (WB op) r)(ha:PE X a ta)(hb:PE X b tb)(hm:Qu op b=false):PE X (.Compare a [op] [b] pos) (lP r ta tb):=by
 intro pins s σ H Q I h;exact wpAny_Compare1 (tZ ha hb I h λv u s2 x y H2 I2 rx ry q=>ho pins s2 σ H2 x y v u Q I2 rx ry q) hm
def Gw(t:TE):TT:=λσ H Q=>t σ H λx H'=>∃ k,x = .bl k/\Q k H'
theorem zw(ho:bD X (WB op) r)(ha:PE X a ta)(hb:PE X b tb)(hm:Qu op b=false):PT X (.Compare a [op] [b] pos) (Gw (lP r ta tb)):=by
 intro pins s σ H Q I h;refine wpAny_isTrue_Compare1 (aM (ha pins s σ H _ I h) λv s1 ⟨x,H1,I1,r1,q1⟩=>aM (hb pins s1 σ H1 _ I1 q1) λu s2 ⟨y,H2,I2,r2,q2⟩ =>
  aM (ho pins s2 σ H2 x y v u _ I2 r1 r2 q2) λc s3 ⟨z,H3,I3,r3,k,e,q3⟩=>?_) hm
 subst e
 cases r3;exact Qb ⟨H3,I3,q3⟩
theorem mT:(Wb:Nat) < 2 ^ 63:=by rw[QR]; decide
theorem Gx:bD X (Qe .Add) (λx y H Q=>∃ i j,x = .str i/\y = .str j/\i.length + j.length<=Wb/\Q (.str (i ++ j)) H):=by
 intro pins s σ H x y v u Q I rx ry h;obtain⟨i,j,rfl,rfl,hz,q⟩:=h;obtain⟨t,rfl⟩:=rx;obtain⟨t',rfl⟩:=ry;exact add_str (λt' tk=>⟨.str (i ++ j),H,I.tok _,⟨_,rfl⟩,q⟩) hz
theorem i6(r:Vals [x] us):∃ u,us=[u]/\RelV x u:=by
 cases r with
 | cons r1 r2=>cases r2; exact⟨_,rfl,r1⟩
theorem t5(r:Vals [x,y] us):∃ u w',us=[u,w']/\RelV x u/\RelV y w':=by
 cases r with
 | cons r1 r2 =>
  cases r2 with
  | cons r3 r4=>cases r4; exact⟨_,_,rfl,r1,r3⟩
theorem Gy (hc:X.calm=true):eS X (.builtin "max") (λxs H Q=>∃ i j,xs=[.int i,.int j]/\Q (.int (if j > i then j else i)) H):=by
 intro pins s σ H xs us Q I r h;obtain⟨i,j,rfl,q⟩:=h;obtain⟨u,w',rfl,⟨t,rfl⟩,⟨t',rfl⟩⟩:=t5 r;refine max_two_ints (I.ok.hd hc) λh' tk k=>⟨_,H,I.kept k,?_,q⟩
 by_cases hj:j > i
 ·rw[if_pos hj,if_pos hj]; exact⟨_,rfl⟩
 ·rw[if_neg hj,if_neg hj]; exact⟨_,rfl⟩
theorem Gz:eS X (.type "int") (λxs H Q=>(∃ i,xs=[.int i]/\Q (.int i) H)\/∃ k,xs=[.bl k]/\Q (.int (if k then 1 else 0)) H):=by
 intro pins s σ H xs us Q I r h;rcases h with ⟨i,rfl,q⟩ | ⟨k,rfl,q⟩
 ·obtain⟨u,rfl,t,rfl⟩:=i6 r;exact call_int_int ⟨.int i,H,I,⟨_,rfl⟩,q⟩
 ·obtain⟨u,rfl,r1⟩:=i6 r
  cases r1;exact call_int_bool ⟨.int (if k then 1 else 0),H,I.tok _,⟨_,rfl⟩,q⟩
end
structure t6(h:Heap)(x dx C:Addr)(mA:Str->Option Value):Prop where
 obj:h.get? x=some (PySem.W.instObj C dx)
 ns:h.Ns1 dx mA
 ne:dx≠x
theorem GA{h:Heap}{dx:Addr}{mA:Str->Option Value}(n:h.Ns1 dx mA):∃ od,h.get? dx=some od/\∀ name,PySem.W.lookIn name od=some (mA name):=by
 obtain⟨o,es,ep,ho,hd,hk,_,hm⟩:=n;refine⟨o,ho,λname=>?_⟩;have e:=hm name;unfold nsFind findBy at e;rw[<- Array.find?_toList] at e;unfold PySem.W.lookIn;rw[hd];dsimp only;split
 ·rename_i y q;rw[q] at e;exact congrArg some e
 ·rename_i q;rw[q] at e;have a:es.toList.any (·.refKey)=false:=by
   rw[List.any_eq_false];intro y hy;obtain⟨z,t,hkey⟩:=hk y (Array.mem_toList_iff.mp hy);simp[DictEntry.refKey,hkey]
  have a':¬ es.toList.any (·.refKey)=true:=by rw[a]; exact WC
  rw[if_neg a'];exact congrArg some e
theorem t6.look(I:t6 h x dx C mA):∃ od,PySem.W.InstAt h x (PySem.W.instObj C dx) C (some od)/\∀ name,PySem.W.lookIn name od=some (mA name) :=
 let ⟨od,ho,hl⟩:=GA I.ns
 ⟨od,⟨I.obj,rfl,rfl,ho⟩,hl⟩
section
variable {prog:Wg} {w:Wh} {A:Wl} {E:Value->W1->Prop} {s:W1} {K:W2} {x dx C f:Addr} {mA:Str->Option Value} {name:Str} {v:Value}
end
theorem cX.some_of(r:cX (some v) o):∃ u,o=some u/\RelV v u:=by
 cases o with
 | none=>exact(show False from r).elim
 | some u=>exact⟨u,rfl,r⟩
theorem cX.none_of(r:cX none o):o=none:=by
 cases o with
 | none=>rfl
 | some u=>exact(show False from r).elim
section
variable {P:Wg} {w:Wh} {H H':Hp} {h h':Heap} {a C dx:Addr} {fs E_:List (Str×V)}
theorem GB(ah:bW P w H h)(e:H a=some (.ins C dx fs)):∃ mA,t6 h a dx C mA/\(∀ f,cX (fs.lookup f) (mA f))/\PySem.Within mA (fs.map (·.1))/\fs.length<=1000/\H dx=some (.own a):=by
 obtain⟨d,z,ne,ob,mA,n,r,q⟩:=(show bz P w H h a (.ins C dx fs) from ah a _ e)
 exact⟨mA,⟨ob,n,ne⟩,r,q,z,d⟩
end
structure t7(K:W2)(C:Addr):Prop where
 pg:PySem.W.plainGet K C Str.empty=true
 hd:PySem.W.hasDictIn K C=true
 po:PySem.W.plainOver K C=true
 sa:Je K (.ref C) "__setattr__" = some (some (.builtin "object.__setattr__"))
theorem t7.get{K:W2}{C:Addr}(c:t7 K C)(f:Str):PySem.W.plainGet K C f=true:=c.pg
structure Su(K:W2)(C:Addr)(f:Str)(v:V)(u:Value):Prop where
 at_:Je K (.ref C) f=some (some u)
 rel:RelV v u
 get:PySem.W.specialIn K u "__get__" = some none
 cp:PySem.W.copiedNames.contains f=false
structure Meth(K:W2)(C:Addr)(m:Str)(f:Addr):Prop where
 at_:Je K (.ref C) m=some (some (.ref f))
 fn:PySem.W.isFn K (.ref f)=true
 kp:Qa K (.ref f)=true
section
variable {X:Cx} {pins:List (Addr×Obj)} {σ:St} {H:Hp} {s:W1} {a C dx:Addr} {fs:List (Str×V)} {f:Str} {v:V} {A:Wl} {E:Value->W1->Prop}
end
section
variable {X:Cx} {o e value:Expr} {f:Str} {pos pos' GD:Pos} {ta tv:TE}
end
section
variable {X:Cx} {pins:List (Addr×Obj)} {σ:St} {H:Hp} {s:W1} {A:Wl} {E:Value->W1->Prop} {Q:Value->W1->Prop} {c:Value} {b:Bool}
inductive gZ (K:W2) (H:Hp):V->Value->Prop where
 | aw:gZ K H .aw (.type "NoneType")
 | bl (x:Bool):gZ K H (.bl x) (.type "bool")
 | int (i:Int):gZ K H (.int i) (.type "int")
 | str (x:Str):gZ K H (.str x) (.type "str")
 | flt (x:UInt64):gZ K H (.flt x) (.type "float")
 | lst {a:Addr} {xs:List V} (e:H a=some (.lst xs)):gZ K H (.ref a) (.type "list")
 | frz {a:Addr} {o:Obj} {xs:List V} (e:H a=some (.frz o (.lst xs))):gZ K H (.ref a) (.type "list")
 | tup {a:Addr} {xs:List V} (e:H a=some (.tup xs)):gZ K H (.ref a) (.type "tuple")
 | dK {a:Addr} {aa:List (Key×V)} (e:H a=some (.dK aa)):gZ K H (.ref a) (.type "dict")
 | dT {a:Addr} {aa:List (List Key×V)} (e:H a=some (.dT aa)):gZ K H (.ref a) (.type "dict")
 | ins {a C dx:Addr} {fs:List (Str×V)} (e:H a=some (.ins C dx fs)) (cl:t7 K C) (ha:Je K (.ref C) "__class__" = some (some (.builtin "object.__class__")))
   (hn:PySem.W.specialIn K (.builtin "object.__class__") "__get__" = some (some (.builtin "getset_descriptor.__get__"))) (zy:PySem.W.takesIn K (.builtin "object.__class__")=some true)
   (hm:PySem.W.mroIn K C (.type "object")=some true):gZ K H (.ref a) (.ref C)
theorem kI(I:Inv X pins σ H s)(rx:RelV x u)(ty:gZ X.K H x t)(e:Qw X.K t c=some b)(h:∀ tk,Q (.bool b) { s with toks:=tk }) :
  W4 (model X.prog X.w) A (call (.builtin "isinstance") [u,c]) Q E s:=by
 cases ty with
 | aw=>cases (show u=Value.none from rx); exact WW PySem.W.kitx_none I.cy True.intro e (λz=>nomatch z) h
 | bl y=>cases (show u=Value.bool y from rx); exact WW PySem.W.kitx_bool I.cy True.intro e (λz=>nomatch z) h
 | int i=>obtain⟨t,q⟩:=(show ∃ t,u=Value.int i t from rx); cases q; exact WW PySem.W.kitx_int I.cy True.intro e (λz=>nomatch z) h
 | str y=>obtain⟨t,q⟩:=(show ∃ t,u=Value.str y t from rx); cases q; exact WW PySem.W.kitx_str I.cy True.intro e (λz=>nomatch z) h
 | flt y=>obtain⟨t,q⟩:=(show ∃ t,u=Value.float y t from rx); cases q; exact WW PySem.W.kitx_float I.cy True.intro e (λz=>nomatch z) h
 | @lst a xs ea =>
  cases (show u=Value.ref a from rx);obtain⟨_,_,n,_,h1⟩:=(show bz X.prog X.w H s.heap a (.lst xs) from I.ah a _ ea)
  exact WW PySem.W.kitx_list I.cy ⟨_,h1,rfl⟩ e (λz=>nomatch z) h
 | @frz a ob xs ea =>
  cases (show u=Value.ref a from rx);obtain⟨_,_,_,n,_,h1⟩:=(show bz X.prog X.w H s.heap a (.frz ob (.lst xs)) from I.ah a _ ea)
  exact WW PySem.W.kitx_list I.cy ⟨_,h1,rfl⟩ e (λz=>nomatch z) h
 | @tup a xs ea =>
  cases (show u=Value.ref a from rx);obtain⟨_,_,_,p⟩:=(show bz X.prog X.w H s.heap a (.tup xs) from I.ah a _ ea)
  obtain⟨o,h1,h2,_⟩:=p.tup;exact WW PySem.W.kitx_tuple I.cy ⟨o,h1,h2⟩ e (λz=>nomatch z) h
 | @dK a aa ea =>
  cases (show u=Value.ref a from rx);obtain⟨_,_,vs,_,p⟩:=(show bz X.prog X.w H s.heap a (.dK aa) from I.ah a _ ea)
  obtain⟨o,es,ep,h1,h2,_⟩:=p;exact WW PySem.W.kitx_dict I.cy ⟨o,h1,h2.1⟩ e (λz=>nomatch z) h
 | @dT a aa ea =>
  cases (show u=Value.ref a from rx);obtain⟨_,_,xs,_,o,es,ep,h1,h2,_⟩:=(show bz X.prog X.w H s.heap a (.dT aa) from I.ah a _ ea)
  exact WW PySem.W.kitx_dict I.cy ⟨o,h1,h2.1⟩ e (λz=>nomatch z) h
 | @ins a C dx fs ea cl ha hn zy hm =>
  cases (show u=Value.ref a from rx);obtain⟨mA,O,_⟩:=GB I.ah ea;obtain⟨od,J,_⟩:=O.look;exact WW (PySem.W.kitx_own (cl.get _) cl.hd ha hn zy hm) I.cy J e (λz=>nomatch z) h
end
structure bX(k:Nat)(A:Wl):Prop where
 hd:A.handled=none
 dp:A.depth + 3 * k + 5 < recursionLimit
 un:A.units + 16 * k + 200 < Ww
theorem bX.mono(r:bX k A)(h:j<=k):bX j A:=⟨r.hd,by have:=r.dp; omega,by have:=r.un; omega⟩
theorem bX.deeper(r:bX (k + 1) A)(env:Env):bX k (A.deeper env) :=
 ⟨r.hd,by have:=r.dp; show A.depth + 1 + 3 * k + 5 < _; omega,by have:=r.un; show A.units + 3 + 16 * k + 200 < _; omega⟩
theorem GF {A:Wl} {C:Addr} {us:List Value} {kw:List (Str×Value)}:(A.under (.builtin "type.__call__" ⟨.ref C :: us,kw⟩)).depth=A.depth + 1:=by
 first | rfl | simp[Around.under,Code.weight,Code.isCreation,Code.isGuard,Code.isCaller,Code.frames,Code.isFrame,guardIds]
theorem GG {A:Wl} {C:Addr} {us:List Value} {kw:List (Str×Value)}:(A.under (.builtin "type.__call__" ⟨.ref C :: us,kw⟩)).units=A.units + 1:=by
 first | rfl | simp[Around.under,Code.cUnits,Code.frames,Code.isFrame]
theorem bX.make (r:bX (k + 1) A) (C:Addr) (us:List Value) (kw:List (Str×Value)):bX k (A.under (.builtin "type.__call__" ⟨.ref C :: us,kw⟩)) :=
 ⟨r.hd,by have:=r.dp; rw[GF]; omega,by have:=r.un; rw[GG]; omega⟩
theorem bX.depth(r:bX k A):A.depth < recursionLimit:=by have:=r.dp; omega
def zA:TA:=λ_ H Q=>Q [] H
def zB(ta:TE)(tr:TA):TA:=λσ H Q=>ta σ H λx H1=>tr σ H1 λxs H2=>Q (x :: xs) H2
section
variable {X:Cx} {e:Expr} {es:List Expr} {te:TE} {t:TA} {pos:Pos}
theorem fP:PA X [] zA:=λ_ _ _ _ H Q I h=>Calls.spliced_nil ⟨[],H,I,.nil,h⟩
theorem dR(ha:PE X e te)(hr:PA X es t)(hs:W7 (e :: es) X.env=(false,eval e X.env) :: W7 es X.env:=by rfl):PA X (e :: es) (zB te t):=by
 intro pos pins s σ H Q I h;rw[hs];show W4 _ _ (spliced ((false,eval e X.env) :: WN pos (W7 es X.env))) _ _ s;refine Calls.spliced_cons (aM (ha pins s σ H _ I h) λu s1 ⟨x,H1,I1,r1,q1⟩=>?_);exact aM (hr pos pins s1 σ H1 _ I1 q1) λus s2 ⟨xs,H2,I2,r2,q2⟩=>⟨x :: xs,H2,I2,.cons r1 r2,q2⟩
def GH(t:TA):TE:=λσ H Q=>t σ H λxs H1=>xs.length<=Wb/\∀ p,H1 p=none->Q (.ref p) (upd H1 p (.tup xs))
def GI(t:TA):TE:=λσ H Q=>t σ H λxs H1=>xs.length<=Wb/\∀ p,H1 p=none->Q (.ref p) (upd H1 p (.lst xs))
theorem GJ{x1}(h:PA X es t):PE X (.Tuple es x1 pos) (GH t):=by
 intro pins s σ H Q I hq;refine wpAny_Tuple_spliced (aM (h pos pins s σ H _ I hq) λus s1 ⟨xs,H1,I1,r,z,q⟩=>⟨by rw[<- r.length]; exact z,?_⟩);have hf:H1 s1.heap.objs.size=none:=I1.ah.fresh (Wf _);refine⟨.ref s1.heap.objs.size,upd H1 s1.heap.objs.size (.tup xs),I1.laid (t':=s1.toks) (λb u e=>W6 _ e) (Wf _) ?_,rfl,q _ hf⟩;exact⟨z,us,r,⟨_,Wn _ rfl⟩⟩
theorem GL(h:PA X es t):PE X (.List es pos) (GI t):=by
 intro pins s σ H Q I hq;refine wpAny_List_spliced (aM (h pos pins s σ H _ I hq) λus s1 ⟨xs,H1,I1,r,z,q⟩=>⟨by rw[<- r.length]; exact z,?_⟩);have hf:H1 s1.heap.objs.size=none:=I1.ah.fresh (Wf _);refine⟨.ref s1.heap.objs.size,upd H1 s1.heap.objs.size (.lst xs),I1.laid (t':=s1.toks) (λb u e=>W6 _ e) (Wf _) ?_,rfl,q _ hf⟩;exact⟨z,us,0,r,Wn _ rfl⟩
end
abbrev Sp:=List V->Hp->VK->XK->Prop
abbrev g5:=List Env->Hp->W1->XK->Value->W1->Prop
structure i7(P:Wg)(w:Wh)(K:W2)(mg:Str->Option Value)(base:Heap)(A:Wl)(outer:List Env)(s:W1)(H:Hp):Prop where
 frames:A.frames=some outer
 mod:Mod K mg base
 bs:∀ b o,base.get? b=some o->s.heap.get? b=some o/\H b=none
 gz:base.objs.size<=s.heap.objs.size
 fE:s.heap.FunFrames base outer
 ir:∀ b ∈ dQ outer,H b=none
 ah:bW P w H s.heap
 bare:AllBare s.gens
def CE(outer:List Env)(P:Wg)(w:Wh)(H:Hp)(s:W1)(Q:VK)(u:Value)(s':W1):Prop :=
 ∃ v H',s'.os=s.os/\AllBare s'.gens/\Un (dQ outer) [] H H' s.heap s'.heap/\bW P w H' s'.heap/\RelV v u/\Q v H'
def CR(CX:g5)(outer:List Env)(P:Wg)(w:Wh)(H:Hp)(s:W1)(Q:VK)(E:XK)(r:Result)(s':W1):Prop :=
 match r with
 | .ok (.ret u)=>CE outer P w H s Q u s'
 | .ok _=>False
 | .error e=>CX outer H s E e s'
structure eC(P:Wg)(w:Wh)(K:W2)(mg:Str->Option Value)(base:Heap)(CX:g5)(k:Nat)(f:Addr)(fd:WD)(ps:List Str)(sp:Sp):Prop where
 len:∀ vs H Q E,sp vs H Q E->vs.length=ps.length
 run:∀ (A:Wl) (outer:List Env) (s:W1) (H:Hp) (args:Args) (us:List Value) (vs:List V) (Q:VK) (E:XK),bX k A->i7 P w K mg base A outer s H->BindsTo s fd args (ps.zip us)->Vals vs us->sp vs H Q E ->
  Qq (model P w) A (.call (.ref f) args) (CR CX outer P w H s Q E) s
theorem i7.make{P:Wg}{w:Wh}{K:W2}{mg:Str->Option Value}{base:Heap}{A:Wl}{outer:List Env}{s:W1}{H:Hp}(e:i7 P w K mg base A outer s H)(C:Addr)(us:List Value)(kw:List (Str×Value)) :
  i7 P w K mg base (A.under (.builtin "type.__call__" ⟨.ref C :: us,kw⟩)) outer s H:=⟨by first | exact e.frames | (simpa[Around.under,Code.envs,Code.isFrame,pushEnvs] using e.frames),e.mod,e.bs,e.gz,e.fE,e.ir,e.ah,e.bare⟩
section
variable {X:Cx} {pins:List (Addr×Obj)} {σ:St} {H:Hp} {s s':W1}
theorem Inv.qK(I:Inv X pins σ H s):i7 X.prog X.w X.K X.mg X.base X.A X.stack s H :=
 ⟨I.ok.frames,I.ok.mod,I.bs,Q2 I.ok.gz I.sz,I.stack,I.qA,I.ah,I.bare⟩
theorem Inv.after(I:Inv X pins σ H s)(h:CE X.stack X.prog X.w H s Q u s'):EP X pins σ Q u s':=by
 obtain⟨v,H',os,bare,un,ah,r,q⟩:=h;obtain⟨hh,g,d,t,os'⟩:=s';obtain rfl:os'=s.os:=os;exact⟨v,H',I.call (h':=hh) (g':=g) (d':=d) (t':=t) (ch:=[]) un ah bare (λb z=>absurd z (by simp)),r,q⟩
end
def t8(sp:Sp)(kJ:List V)(E:XK)(t:TA):TE:=λσ H Q=>t σ H λvs H1=>sp (vs ++ kJ) H1 Q E
def Binds(K:W2)(fd:WD)(ps:List Str)(ds:List Value):Prop :=
 ∀ (s:W1) (us:List Value),K.In s.heap->(us ++ ds).length=ps.length->BindsTo s fd ⟨us,[]⟩ (ps.zip (us ++ ds))
theorem Binds.all{K:W2}{fd:WD}{ps:List Str}(h:∀ us:List Value,us.length=ps.length->bindArgs fd ⟨us,[]⟩=pure (ps.zip us)):Binds K fd ps []:=λs us _ hl=>by
 rw[WX] at hl ⊢;exact .of_eq (h us hl)
def t9(CX:g5)(X:Cx)(E:XK):Prop:=∀ (pins:List (Addr×Obj)) (σ:St) (H:Hp) (s:W1) (e:Value) (s':W1),Inv X pins σ H s->CX X.stack H s E e s'->X.xe e s'
section
variable {X:Cx} {CX:g5} {k:Nat} {f C:Addr} {fd:WD} {ps:List Str} {sp:Sp} {kJ:List V} {ds:List Value} {E:XK} {x m:Str} {p pos apos:Pos} {e o:Expr} {es:List Expr} {ta:TE} {t:TA}
theorem GN(F:eC X.prog X.w X.K X.mg X.base CX k f fd ps sp)(hr:bX k X.A)(hb:Binds X.K fd ps ds)(hd:Vals kJ ds)(hx:t9 CX X E)
  (I:Inv X pins σ H s) (r:Vals vs us) (h:sp (vs ++ kJ) H Q E):W4 (model X.prog X.w) X.A (call (.ref f) us) (EP X pins σ Q) X.xe s:=by
 have r2:Vals (vs ++ kJ) (us ++ ds):=r.append hd;have hl:(us ++ ds).length=ps.length:=by rw[<- r2.length]; exact F.len _ _ _ _ h
 refine wpAny_call (Js (F.run X.A X.stack s H ⟨us,[]⟩ (us ++ ds) (vs ++ kJ) Q E hr I.qK (hb s us I.cy hl) r2 h) λr s' hq=>?_)
 cases r with
 | error e=>exact hx pins σ H s e s' I hq
 | ok fl =>
  cases fl with
  | ret u=>exact I.after hq
  | next=>exact False.elim hq
  | brk=>exact False.elim hq
  | cont=>exact False.elim hq
theorem GO(F:eC X.prog X.w X.K X.mg X.base CX k f fd ps sp)(hr:bX k X.A)(hg:Gl X x)(hm:X.mg x=some (.ref f))(hk:Qa X.K (.ref f)=true)(hb:Binds X.K fd ps ds)(hd:Vals kJ ds)(hx:t9 CX X E)
  (ha:PA X (e :: es) t) (cY:(x == ("__debug__" : Str))=false:=by decide) (he:W7 (e :: es) X.env=(false,eval e X.env) :: W7 es X.env:=by rfl) (bM:(WN pos (W7 es X.env)).any (·.1)=false:=by rfl) :
  PE X (.Call (.Name x p) (e :: es) [] pos) (t8 sp kJ E t):=by
 intro pins s σ H Q I h;refine QG (lO I hg hm ?_ cY);refine PySem.W.callWith_K (h₀:=X.base) I.ok.mod.lJ hk (aM (ha pos pins s σ H _ I h) λus s1 ⟨vs,H1,I1,r,q⟩=>⟨I1.cy,?_⟩) he bM;exact GN F hr hb hd hx I1 r q
structure Mk(K:W2)(C f:Addr):Prop where
 makes:PySem.W.makesIn K C=true
 init:Je K (.ref C) "__init__" = some (some (.ref f))
 fn:PySem.W.isFn K (.ref f)=true
 kp:Qa K (.ref C)=true
end
def PK(X:Cx)(zC:List Keyword)(t:TA):Prop :=
 ∀ (pos:Pos) (pins:List (Addr×Obj)) (s:W1) (σ:St) (H:Hp) (Q:List V->Hp->Prop),Inv X pins σ H s->t σ H Q->W4 (model X.prog X.w) X.A (evalAll ((Jb pos (QA zC X.env)).map (·.2))) (AP X pins σ Q) X.xe s
section
variable {X:Cx} {CX:g5} {k:Nat} {f C:Addr} {fd:WD} {ps ks:List Str} {sp:Sp} {E:XK} {x m:Str} {p pos apos Sv:Pos} {e o:Expr} {es:List Expr} {zC:List Keyword} {te ta:TE} {t tk:TA} {nm:Option Str}
structure Sw(K:W2)(fd:WD)(ps ks:List Str)(g:List Value->List Value->List Value)(gV:List V->List V->List V):Prop where
 to:∀ (s:W1) (us ws:List Value),K.In s.heap->(g us ws).length=ps.length->BindsTo s fd ⟨us,ks.zip ws⟩ (ps.zip (g us ws))
 rel:∀ {vs:List V} {us:List Value} {zs:List V} {ws:List Value},Vals vs us->Vals zs ws->Vals (gV vs zs) (g us ws)
variable {g:List Value->List Value->List Value} {gV:List V->List V->List V}
end
structure cu(N P:List Str)(sc:Scope):Prop where
 kind:sc.kind = .function
 co:sc.isCoroutine=false
 gen:sc.isGenerator=false
 nd:N.Nodup
 pre:N.take P.length=P
 par:∀ x ∈ P,sc.names.lookup x=some .local\/sc.names.lookup x=some .cell
 t_:∀ y ∈ sc.names,y.2≠.free
theorem scc{N P:List Str}{sc:Scope}(kind:sc.kind = .function:=by rfl)(co:sc.isCoroutine=false:=by rfl)(gen:sc.isGenerator=false:=by rfl)(nd:N.Nodup:=by decide +kernel)(pre:N.take P.length=P:=by rfl)(par:∀ x ∈ P,sc.names.lookup x=some .local\/sc.names.lookup x=some .cell:=by decide +kernel)(t_:∀ y ∈ sc.names,y.2≠.free:=by decide +kernel):cu N P sc:=⟨kind,co,gen,nd,pre,par,t_⟩
theorem zD{kindOf:Str->Option NameKind}{x:Str}:∀ {binds:List (Str×Value)} {m:Str->Option Value},(∀ v,(x,v) ∉ binds)->bindL kindOf binds m x=m x
 | [],_,_=>rfl
 | (n,v) :: r,m,h=>by
  unfold bindL;rw[zD λw hw=>h w (Wd _ hw)];split
  ·have:x≠n:=by rintro rfl; exact h v Wj
   simp[this]
  ·rfl
theorem zE{kindOf:Str->Option NameKind}{x:Str}:∀ {binds:List (Str×Value)} {m:Str->Option Value},(∀ v,(x,v) ∉ binds)->bindC kindOf binds m x=m x
 | [],_,_=>rfl
 | (n,v) :: r,m,h=>by
  unfold bindC;rw[zE λw hw=>h w (Wd _ hw)];split
  ·rfl
  ·have:x≠n:=by rintro rfl; exact h v Wj
   simp[this]
theorem zF{kindOf:Str->Option NameKind}{x:Str}{v:Value}:∀ {P:List Str} {vs:List Value} {i:Nat} {m:Str->Option Value},P.Nodup->P[i]? = some x->vs[i]? = some v->kindOf x=some .local ->
  bindL kindOf (P.zip vs) m x=some v
 | [],_,_,_,_,h,_,_=>by simp at h
 | _ :: _,[],_,_,_,_,h,_=>by simp at h
 | p :: P,w :: vs,0,m,nd,h1,h2,hk=>by
  simp at h1 h2; subst h1; subst h2
  show bindL kindOf ((p,w) :: P.zip vs) m p=_;unfold bindL;rw[zD λv hv=>(Q4.mp nd).1 (JP hv).1,if_pos hk];simp
 | p :: P,w :: vs,i + 1,m,nd,h1,h2,hk=>by
  show bindL kindOf ((p,w) :: P.zip vs) m x=_;unfold bindL;exact zF (i:=i) (Q4.mp nd).2 (by simpa using h1) (by simpa using h2) hk
theorem zG{kindOf:Str->Option NameKind}{x:Str}{v:Value}:∀ {P:List Str} {vs:List Value} {i:Nat} {m:Str->Option Value},P.Nodup->P[i]? = some x->vs[i]? = some v->kindOf x≠some .local ->
  bindC kindOf (P.zip vs) m x=some v
 | [],_,_,_,_,h,_,_=>by simp at h
 | _ :: _,[],_,_,_,_,h,_=>by simp at h
 | p :: P,w :: vs,0,m,nd,h1,h2,hk=>by
  simp at h1 h2; subst h1; subst h2
  show bindC kindOf ((p,w) :: P.zip vs) m p=_;unfold bindC;rw[zE λv hv=>(Q4.mp nd).1 (JP hv).1,if_neg hk];simp
 | p :: P,w :: vs,i + 1,m,nd,h1,h2,hk=>by
  show bindC kindOf ((p,w) :: P.zip vs) m x=_;unfold bindC;exact zG (i:=i) (Q4.mp nd).2 (by simpa using h1) (by simpa using h2) hk
def start(N:List Str)(vs:List V):St:=vs.map some ++ Wc (N.length - vs.length) none
def fj(CX:g5)(P:Wg)(w:Wh)(K:W2)(mg:Str->Option Value)(base:Heap)(N:List Str)(qual:Str)(scope:Scope)(f:Addr)(cd:Value)(A:Wl)(outer:List Env)(s:W1)(H:Hp)(E:XK):Cx where
 prog:=P
 w:=w
 K:=K
 mg:=mg
 base:=base
 A:=A.deeper (QU qual scope s.heap.objs.size f cd)
 N:=N
 s₀:=s
 H₀:=H
 env:=QU qual scope s.heap.objs.size f cd
 outer:=outer
 stack:=QU qual scope s.heap.objs.size f cd :: outer
 ex:=[]
 calm:=true
 fn:=λ_=>true
 pn:=[]
 xe:=λe s'=>W4 (model P w) (A.deeper (QU qual scope s.heap.objs.size f cd)) (leaving (QU qual scope s.heap.objs.size f cd) e) (λ_ lQ=>CX outer H s E e lQ) (λe' lQ=>CX outer H s E e' lQ) s'
theorem zH{sc:Scope}{n:Nat}{x:Str}(h:sc.names.lookup x=some .cell):∃ c,(Qn n sc.names []).lookup x=some c:=by
 have q:=Jc sc.names n [] (.inl h);exact QB.mp q
theorem zI{CX:g5}{P:Wg}{w:Wh}{K:W2}{mg:Str->Option Value}{base:Heap}{N ps:List Str}{qual:Str}{scope:Scope}{f:Addr}{cd:Value}{A:Wl}{outer:List Env}{s s1:W1}{H:Hp}{E:XK}{us:List Value}{vs:List V}
  (S:cu N ps scope) (hd:A.handled=none) (e0:i7 P w K mg base A outer s H) (hl:vs.length=ps.length) (r:Vals vs us)
  (x:InCallC s s.heap.objs.size (bindL (QU qual scope s.heap.objs.size f cd).kindOf (ps.zip us) λ_=>none) (Qn (s.heap.objs.size + 1) scope.names []) (bindC (QU qual scope s.heap.objs.size f cd).kindOf (ps.zip us) λ_=>none) s1) :
  Inv (fj CX P w K mg base N qual scope f cd A outer s H E) [] (start N vs) H s1:=by
 have bM:ps.length<=N.length:=by have:=congrArg List.length S.pre; rw[JM] at this; omega
 obtain⟨h1,tk,rfl,hk⟩:=x.done;have ot:∀ b:Addr,b ∉ (fj CX P w K mg base N qual scope f cd A outer s H E).ex:=λb z=>absurd (show b ∈ ([]:List Addr) from z) (by simp)
 refine⟨⟨e0.mod,S.kind,rfl,rfl,Wf _,λy z c h1 h2=>?_,λy hy=>?_,λy c _ h=>?_,λ_=>hd,Around.frames_deeper e0.frames,.inr ⟨rfl,rfl⟩,λb z=>absurd z (ot b),e0.bs,e0.gz,λb _ _=>ot b,λb z=>absurd z (ot b),e0.fE,e0.ir⟩,
  rfl,e0.bare,Un.kept hk,⟨_,x.toInCall.ns,λi y v h1 h2 h3=>?_⟩,λy c h=>⟨_,x.cell y c h⟩,e0.ah.fresh (Wf _),λy c h=>?_,λp hp=>absurd (show p ∈ ([]:List (Addr×Obj)) from hp) (by simp),e0.ah.kept hk,?_⟩
 ·exact name_of_addr x.apart (Wt h1) (Wt h2)
 ·have hy:scope.names.lookup y=some .cell\/scope.names.lookup y=some .free:=hy;rcases hy with hy | hy
  ·exact zH hy
  ·exact absurd rfl (S.t_ _ (Wt hy))
 ·exact JO (x.above y c (Wt h))
 ·have hi:i < vs.length:=by
   unfold start at h2;by_cases hi:i < vs.length
   ·exact hi
   ·rw[List.getElem?_append_right (by simpa using hi)] at h2;rw[List.getElem?_replicate] at h2;split at h2 <;> cases h2
  have ha:vs[i]? = some v:=by
   unfold start at h2;rw[List.getElem?_append_left (by simpa using hi),Wy] at h2
   cases e:vs[i]? with
   | none=>rw[e] at h2; cases h2
   | some a=>rw[e] at h2; cases h2; rfl
  obtain⟨u,hu,rv⟩:=r.get ha;have hp:ps[i]? = some y:=by
   rw[<- S.pre,List.getElem?_take_of_lt (by omega)]; exact h1
  have zJ:ps.Nodup:=by rw[<- S.pre]; exact S.nd.sublist (List.take_sublist _ _)
  refine⟨u,rv,?_⟩;rcases S.par y (Wx hp) with k | k
  ·exact .inl ⟨k,zF zJ hp hu k⟩
  ·obtain⟨c,e⟩:=zH (n:=s.heap.objs.size + 1) k;refine .inr ⟨.inl k,c,e,?_⟩;have q:=x.cell y c e;rw[zG zJ hp hu (by show scope.names.lookup y≠_; rw[k]; decide)] at q;exact q
 ·exact e0.ah.fresh (JO (x.above y c (Wt h)))
 ·unfold start;show _=N.length;rw[Qi,Wz,List.length_replicate];omega
theorem zK{CX:g5}{P:Wg}{w:Wh}{K:W2}{mg:Str->Option Value}{base:Heap}{k:Nat}{f:Addr}{name qual:Str}{params:Arguments}{body:List Stmt}{scope:Scope}{dV kV doc pm aO ct oc:Value}{an od:Option Addr}
  {i_:Array (Option Value)} {N ps:List Str} {sp:Sp} (lk:K.lookup f=some ⟨oc,od,.func (Qs name qual params body scope dV kV doc pm an aO ct),i_⟩) (dj:PySem.W.codeIn K aO qual=true) (S:cu N ps scope)
  (len:∀ vs H Q E,sp vs H Q E->vs.length=ps.length)
  (eE:∀ (A:Wl) (outer:List Env) (s:W1) (H:Hp) (vs:List V) (Q:VK) (E:XK),bX k (A.deeper (QU qual scope s.heap.objs.size f aO))->sp vs H Q E ->
   ∃ t,di (fj CX P w K mg base N qual scope f aO A outer s H E) body t/\t { nx:=λ_ H'=>Q .aw H',rt:=Q } (start N vs) H) :
  eC P w K mg base CX (k + 1) f (Qs name qual params body scope dV kV doc pm an aO ct) ps sp:=by
 refine⟨len,λA outer s H args us vs Q E hr e0 hb r iB=>?_⟩;have hl:=len _ _ _ _ iB;have KX:K.In s.heap:=e0.mod.lJ.keeps λb o e=>(e0.bs b o e).1
 have lim:s.heap.NoLimit:=e0.mod.nolimit.keeps λb o e=>(e0.bs b o e).1
 have ua:∀ y ∈ ps.zip us,scope.names.lookup y.1=some .local\/(scope.names.lookup y.1=some .cell/\((Qn (s.heap.objs.size + 1) scope.names []).lookup y.1).isSome=true):=λ⟨n,v⟩ hy=>by
  rcases S.par n (JP hy).1 with q | q
  ·exact .inl q
  ·exact .inr ⟨q,Jc _ _ _ (.inl q)⟩
 refine codeAny_call_function hr.depth (KX _ _ lk) rfl S.co S.gen rfl (PySem.W.codeRec_of KX dj) (hb _ _ _ _ ?_);refine wpAny_newFunctionEnv_cells S.kind ua λenv he s1 x=>?_
 subst he;refine⟨lim.keeps x.toInCall.keep,codeAny_func ?_⟩;obtain⟨t,ht,hq⟩:=eE A outer s H vs Q E (hr.deeper _) iB;have I:Inv (fj CX P w K mg base N qual scope f aO A outer s H E) [] (start N vs) H s1:=zI S hr.hd e0 hl r x;refine WQ (ht [] s1 (start N vs) H _ I hq) (λfl s' hs=>?_) λe s' hs=>hs
 have fin:∀ {σ':St} {H':Hp} {v:V} {u:Value},Inv (fj CX P w K mg base N qual scope f aO A outer s H E) [] σ' H' s'->RelV v u->Q v H'->CE outer P w H s Q u s' :=
  λ{σ' H' v u} J rv q=>⟨v,H',J.os,J.bare,J.base,J.ah,rv,q⟩
 cases fl with
 | ret u =>
  obtain⟨v,σ',H',J,rv,q⟩:=hs;exact fin J rv q
 | next =>
  obtain⟨σ',H',J,q⟩:=hs;exact fin (v:=V.aw) (u:=Value.none) J rfl q
 | brk =>
  obtain⟨_,_,_,q⟩:=hs;exact False.elim q
 | cont =>
  obtain⟨_,_,_,q⟩:=hs;exact False.elim q
section
variable {X:Cx} {x:Str} {p pos:Pos} {e:Expr} {es:List Expr} {t:TA} {id T:String} {r:List V->Hp->VK->Prop}
def zL(r:List V->Hp->VK->Prop)(t:TA):TE:=λσ H Q=>t σ H λvs H1=>r vs H1 Q
theorem ou (hc:eS X (.builtin id) r) (hg:Gl X x) (hm:X.mg x=none) (hv:Qg x=some (.builtin id)) (ha:PA X (e :: es) t) (hn:x≠"__name__":=by decide) (cY:(x == ("__debug__" : Str))=false:=by decide)
  (he:W7 (e :: es) X.env=(false,eval e X.env) :: W7 es X.env:=by rfl) (bM:(WN pos (W7 es X.env)).any (·.1)=false:=by rfl):PE X (.Call (.Name x p) (e :: es) [] pos) (zL r t):=by
 intro pins s σ H Q I h;refine QG (mS I hg hm hv ?_ hn cY);exact PyProof.Rows.callWith_builtin1 (aM (ha pos pins s σ H _ I h) λus s1 ⟨vs,H1,I1,r1,q1⟩=>hc pins s1 σ H1 vs us Q I1 r1 q1) he bM
theorem GQ (hc:eS X (.type T) r) (hg:Gl X x) (hm:X.mg x=none) (hv:Qg x=some (.type T)) (ha:PA X (e :: es) t) (hn:x≠"__name__":=by decide) (cY:(x == ("__debug__" : Str))=false:=by decide)
  (he:W7 (e :: es) X.env=(false,eval e X.env) :: W7 es X.env:=by rfl) (bM:(WN pos (W7 es X.env)).any (·.1)=false:=by rfl):PE X (.Call (.Name x p) (e :: es) [] pos) (zL r t):=by
 intro pins s σ H Q I h;refine QG (mS I hg hm hv ?_ hn cY);exact QF (aM (ha pos pins s σ H _ I h) λus s1 ⟨vs,H1,I1,r1,q1⟩=>hc pins s1 σ H1 vs us Q I1 r1 q1) he bM
end
end L2
namespace HT
open PySem PyProof.Rows
section
open PySem.SeqAt
open PySem.AutoSeq1 (wpAny_loadPart')
open PySem.MeetsSeq PySem.MeetsSeq2 PySem.MeetsSeq3
end
section
variable {prog:Wg} {w:Wh} {A:Wl} {E:Value->W1->Prop} {s:W1}
theorem GR(ht:IsTup s.heap t vs.toArray)(hb:IsTup s.heap b ws.toArray)(hv:vs≠[])
  (h1:ws=[]->Q (.ref t) s) (h2:ws≠[]->Q (.ref s.heap.objs.size) { s with heap:=s.heap.push { cls:=.type "tuple",data:=.seq (vs ++ ws).toArray } })
  (hsz:vs.length + ws.length<=Wb):W4 (model prog w) A (Qe .Add (.ref t) (.ref b)) Q E s:=by
 obtain⟨⟨cls,dd,data,sl⟩,ho,hc,n,hd⟩:=id ht;obtain⟨⟨cls2,lR,data2,kK⟩,ho2,hc2,n2,hd2⟩:=id hb;simp only at hc hd hc2 hd2;subst hc hd hc2 hd2;have e:vs.toArray ++ ws.toArray=(vs ++ ws).toArray:=by simp
 by_cases hw:ws=[]
 ·exact concat_meets ⟨_,ho,rfl⟩ ⟨_,ho2,rfl⟩ noFill_tuple_add seq_tuple_add PySem.F.slot_tuple_add PySem.F.entry_tuple_add (PySem.F.args_tuple_add_2 _ _)
   (tuple_addW1 t b vs.toArray ws.toArray n n2 dd lR sl kK (by simpa using hv) (by simp[hw])) ⟨ho,ho2,h1 hw⟩
 ·refine concat_meets ⟨_,ho,rfl⟩ ⟨_,ho2,rfl⟩ noFill_tuple_add seq_tuple_add PySem.F.slot_tuple_add PySem.F.entry_tuple_add (PySem.F.args_tuple_add_2 _ _)
   (tuple_addW2 t b vs.toArray ws.toArray n n2 dd lR sl kK (by simpa using hv) (by simpa using hw) (by rw[Wp,Wp]; exact hsz)) ⟨ho,ho2,?_⟩
  rw[e];exact h2 hw
def aT(n d:Nat):Option Int->Nat
 | none=>d
 | some v=>if v < 0 then(v + (n:Int)).toNat else min v.toNat n
theorem ub(n d:Nat)(hd:d<=n)(o:Option Int):aT n d o<=n:=by
 cases o with
 | none=>exact hd
 | some v =>
  show(if v < 0 then(v + (n:Int)).toNat else min v.toNat n)<=n;by_cases hv:v < 0
  ·rw[if_pos hv]; omega
  ·rw[if_neg hv]; exact Nat.min_le_right _ _
theorem zM(v:Int)(n d:Nat):(if v < 0 then max (v + (n:Int)) 0 else min v (n:Int))=((aT n d (some v):Nat):Int):=by
 show(if v < 0 then max (v + (n:Int)) 0 else min v (n:Int))=(((if v < 0 then(v + (n:Int)).toNat else min v.toNat n):Nat):Int);by_cases hv:v < 0
 ·simp only[if_pos hv]; omega
 ·simp only[if_neg hv]; omega
theorem GU(lo hi:Option Int)(n:Nat):Builtin.Slice.sliceAdjust lo hi 1 (n:Int)=(((aT n 0 lo:Nat):Int),((aT n n hi:Nat):Int)):=by
 have h1:¬ ((1:Int) < 0):=by omega
 unfold Builtin.Slice.sliceAdjust;simp only[h1,if_false];refine Prod.ext ?_ ?_
 ·cases lo with
  | none=>rfl
  | some v=>exact zM v n 0
 ·cases hi with
  | none=>rfl
  | some v=>exact zM v n n
theorem GV(i j:Nat):QN (i:Int) (j:Int) 1=j - i:=by
 unfold QN;have h1:(1:Int) > 0:=by omega
 simp only[h1,if_true,Int.ediv_one];split <;> omega
theorem zN(p:IsPart v o)(h:Q o s):W4 (model prog w) A (Builtin.Slice.slicePartIndex v) Q E s:=by
 cases p with
 | none=>exact slicePart_none h
 | int i t=>exact slicePart_int h
theorem zO{sl:Addr}{vl vu:Value}{lo hi:Option Int}{n:Nat}{Q:Int×Int×Nat->W1->Prop}(hs:s.heap.IsSliceOf sl vl vu .none)(pl:IsPart vl lo)(pu:IsPart vu hi)
  (h:Q (((aT n 0 lo:Nat):Int),1,aT n n hi - aT n 0 lo) s):W4 (model prog w) A (Builtin.Slice.sliceApplied (.ref sl) (pure (n:Int))) Q E s:=by
 obtain⟨os,hos,hcs,hds⟩:=id hs;unfold Builtin.Slice.sliceApplied Builtin.Slice.sliceFields;refine W0 (W0 (WV hos hds (x:=vl) rfl (W0 (WV hos hds (x:=vu) rfl (W0 (WV hos hds (x:=.none) rfl (W3 ?_)))))));refine W0 (slicePart_none ?_);show W4 _ _ (if ((1:Int) == 0)=true then _ else _) _ _ s;rw[if_neg (by decide)];refine W0 (zN pl (W0 (zN pu (W0 (W3 ?_)))));show W4 _ _ (match Builtin.Slice.sliceAdjust lo hi 1 (n:Int) with | (lo,hi)=>pure (lo,(1:Int),QN lo hi 1)) _ _ s;rw[GU lo hi n];show W4 _ _ (pure (((aT n 0 lo:Nat):Int),(1:Int),QN ((aT n 0 lo:Nat):Int) ((aT n n hi:Nat):Int) 1)) _ _ s;rw[GV];exact W3 h
theorem GW(xs:Array Value)(i k:Nat):((Q1 k).filterMap λ(m:Nat)=>xs[((i:Int) + (m:Int) * 1).toNat]?).toArray=((xs.toList.drop i).take k).toArray:=by
 have e:(λ(m:Nat)=>xs[((i:Int) + (m:Int) * 1).toNat]?)=λm=>xs[i + m]?:=by
  funext m
  have:((i:Int) + (m:Int) * 1).toNat=i + m:=by omega
  rw[this]
 rw[e];have:=pick_run xs i k;rw[List.filterMap_map] at this;have e2:((λx=>xs[x]?) ∘ λx=>i + x)=λm=>xs[i + m]?:=rfl
 rw[e2] at this;rw[this]
theorem GX{t sl:Addr}{items:Array Value}{vl vu:Value}{lo hi:Option Int}{Q:Value->W1->Prop}(ht:IsTup s.heap t items)(hs:s.heap.IsSliceOf sl vl vu .none)(pl:IsPart vl lo)(pu:IsPart vu hi)
  (hw:¬ (aT items.size 0 lo=0/\aT items.size items.size hi=items.size))
  (h:Q (.ref s.heap.objs.size) { s with heap:=s.heap.push { cls:=.type "tuple",data:=.seq ((items.toList.drop (aT items.size 0 lo)).take (aT items.size items.size hi - aT items.size 0 lo)).toArray } })
  (hsz:items.size<=Wb):W4 (model prog w) A (JB (.ref t) (.ref sl)) Q E s:=by
 have qL:sizeOk (.seq ((items.toList.drop (aT items.size 0 lo)).take (aT items.size items.size hi - aT items.size 0 lo)).toArray):=by
  show((items.toList.drop (aT items.size 0 lo)).take (aT items.size items.size hi - aT items.size 0 lo)).toArray.size<=Wb;rw[Wp,JM,List.length_drop,Qd];omega
 have hj:aT items.size items.size hi<=items.size:=ub _ _ (Wf _) hi;obtain⟨os,hos,hcs,hds⟩:=id hs;have uc:s.TypeIs (.ref sl) "slice":=⟨os,hos,hcs⟩
 unfold JB;try with_reducible refine WK ?_
 first | refine W0 (W3 ?_) | skip
 refine W0 (JG ht.typeIs (by decide) ?_);refine W0 (WI (name:=Str.ofString "__getitem__") ht.typeIs Qz
  (WE Qz ht.typeIs entry_tuple_getitem ?_ (args_tuple_getitem _ _)))
 show W4 _ _ (Builtin.Tuple.tupleItemsOf (.ref t) >>= _) _ _ s;refine W0 (tupleItemsOf_ ht ?_);refine W0 (Jf uc ?_);rw[if_pos (by decide)];refine W0 (zO hs pl pu ?_);have eT:¬ ((((aT items.size 0 lo:Nat):Int) == 0 && (1:Int) == 1 && (aT items.size items.size hi - aT items.size 0 lo) == items.size)=true):=by
  intro q;rw[Wm,Wm] at q;have q1:((aT items.size 0 lo:Nat):Int)=0:=eq_of_beq q.1.1;have q2:aT items.size items.size hi - aT items.size 0 lo=items.size:=eq_of_beq q.2;exact hw ⟨by omega,by omega⟩
 show W4 _ _ (if (((aT items.size 0 lo:Nat):Int) == 0 && (1:Int) == 1 && (aT items.size items.size hi - aT items.size 0 lo) == items.size)=true then _ else _) _ _ s;rw[if_neg eT,GW];first
  | exact W0 (m:=QV _) (WG (W3 ⟨_,rfl,W3 h⟩) qL)
  | exact W0 (m:=QV _) (WG (W0 (W3 (W3 ⟨_,rfl,W3 h⟩))) qL)
  | exact W0 (W0 (m:=QV _) (WG (W3 (W3 ⟨_,rfl,W3 h⟩)) qL))
  | exact W0 (W0 (m:=QV _) (WG (W3 ⟨_,rfl,W3 h⟩) qL))
end
end HT
namespace L2
open PySem PySem.Spec PyProof.Rows
abbrev TO:=St->Hp->(Option Int->Hp->Prop)->Prop
def PO(X:Cx)(e:Option Expr)(t:TO):Prop :=
 ∀ (pins:List (Addr×Obj)) (s:W1) (σ:St) (H:Hp) (Q:Option Int->Hp->Prop),Inv X pins σ H s->t σ H Q ->
  W4 (model X.prog X.w) X.A (evalPart e X.env) (λu s'=>∃ o H',Inv X pins σ H' s'/\IsPart u o/\Q o H') X.xe s
def GY(t:TE):TO:=λσ H Q=>t σ H λx H1=>∃ i,x = .int i/\Q (some i) H1
section
variable {X:Cx} {e:Expr} {te:TE} {lo hi:Option Expr} {tl th:TO} {pos p2:Pos}
theorem GZ(h:PE X e te):PO X (some e) (GY te):=by
 intro pins s σ H Q I hw;rw[evalPart_some];refine aM (h pins s σ H _ I hw) λu s1 ⟨x,H1,I1,r1,q1⟩=>?_
 obtain⟨i,rfl,q⟩:=q1;obtain⟨t,rfl⟩:=r1;exact⟨some i,H1,I1,.int i t,q⟩
def ja(X:Cx)(r:V->Option Int->Option Int->Hp->VK->Prop):Prop :=
 ∀ (pins:List (Addr×Obj)) (s:W1) (σ:St) (H:Hp) (x:V) (v vl vu:Value) (lo hi:Option Int) (sl:Addr) (Q:VK),Inv X pins σ H s->RelV x v->s.heap.IsSliceOf sl vl vu .none->IsPart vl lo->IsPart vu hi->r x lo hi H Q ->
  ∃ T id,typeLookup (.type T) "__getitem__" = pure (some (.builtin id))/\s.TypeIs v T/\W4 (model X.prog X.w) X.A (JB v (.ref sl)) (EP X pins σ Q) X.xe s
theorem ja.or(h:ja X r)(h':ja X r'):ja X (λx lo hi H Q=>r x lo hi H Q\/r' x lo hi H Q):=by
 intro pins s σ H x v vl vu lo hi sl Q I rx hs pl pu q;rcases q with q | q
 ·exact h pins s σ H x v vl vu lo hi sl Q I rx hs pl pu q
 ·exact h' pins s σ H x v vl vu lo hi sl Q I rx hs pl pu q
def G2(r:V->Option Int->Option Int->Hp->VK->Prop)(te:TE)(tl th:TO):TE:=λσ H Q=>te σ H λx H1=>tl σ H1 λl H2=>th σ H2 λu H3=>r x l u H3 Q
theorem G3(hr:ja X r)(he:PE X e te)(hl:PO X lo tl)(hu:PO X hi th):PE X (.Subscript e (.Slice lo hi none p2) pos) (G2 r te tl th):=by
 intro pins s σ H Q I h;refine Subscript_ (aM (he pins s σ H _ I h) λv s1 ⟨x,H1,I1,r1,q1⟩=>?_);refine wpAny_Slice (aM (hl pins s1 σ H1 _ I1 q1) λvl s2 ⟨l,H2,I2,pl,q2⟩=>aM (hu pins s2 σ H2 _ I2 q2) λvu s3 ⟨u,H3,I3,pu,q3⟩=>?_);rw[evalPart_none];refine W3 ?_;have I4:Inv X pins σ H3 { s3 with heap:=s3.heap.push { cls:=.type "slice",data:=.fields #[vl,vu,.none] } }:=I3.kept (t':=s3.toks) λb ob q=>W6 _ q
 obtain⟨T,id,hT,ht,hg⟩:=hr pins { s3 with heap:=s3.heap.push { cls:=.type "slice",data:=.fields #[vl,vu,.none] } } σ H3 x v vl vu l u s3.heap.objs.size Q I4 r1 (Heap.IsSliceOf.new ..) pl pu q3;show W4 (model X.prog X.w) X.A (subscriptTail e (.Slice lo hi none p2) v (.ref s3.heap.objs.size)) (EP X pins σ Q) X.xe { s3 with heap:=s3.heap.push { cls:=.type "slice",data:=.fields #[vl,vu,.none] } };exact tail_any (ops:=[.ref s3.heap.objs.size,v]) ht hT hg (by with_unfolding_all rfl)
def kL(xs:List V)(lo hi:Option Int):List V:=(xs.drop (HT.aT xs.length 0 lo)).take (HT.aT xs.length xs.length hi - HT.aT xs.length 0 lo)
theorem zP(xs:List V)(lo hi:Option Int):(kL xs lo hi).length<=xs.length:=by
 unfold kL;rw[JM,List.length_drop];omega
def G4(K:W2):V->Option Int->Option Int->Hp->VK->Prop:=λx lo hi H Q=>∃ a xs,x = .ref a/\cz K H a xs /\
 ¬ (HT.aT xs.length 0 lo=0/\HT.aT xs.length xs.length hi=xs.length)/\∀ p,H p=none->Q (.ref p) (upd H p (.tup (kL xs lo hi)))
theorem G5:ja X (G4 X.K):=by
 intro pins s σ H x v vl vu lo hi sl Q I rx hs pl pu h;obtain⟨a,xs,rfl,hx,hw,q⟩:=h
 cases rx;obtain⟨af,r,ht,hz⟩:=I.tuple hx;have hlen:af.toArray.size=xs.length:=by rw[Wp]; exact r.length.symm
 refine⟨"tuple",_,PyProof.Rows.slot_tuple_getitem.lookup,ht.typeIs,?_⟩;refine HT.GX ht hs pl pu (by rw[hlen]; exact hw) ?_ (by rw[hlen]; exact hz);rw[hlen];refine⟨.ref s.heap.objs.size,_,I.laid (t':=s.toks) (o:=.tup (kL xs lo hi)) (λb ob q=>W6 _ q) (Wf _) ?_,rfl,q _ (I.ah.fresh (Wf _))⟩;exact⟨Q2 (zP xs lo hi) hz,_,(r.drop (HT.aT xs.length 0 lo)).take (HT.aT xs.length xs.length hi - HT.aT xs.length 0 lo),gx.new _ _⟩
def zQ(K:W2):R2:=λx y H Q=>∃ a b xs ys,x = .ref a/\y = .ref b/\cz K H a xs/\cz K H b ys/\xs≠[]/\xs.length + ys.length<=Wb /\
 (ys=[]->Q (.ref a) H)/\(ys≠[]->∀ p,H p=none->Q (.ref p) (upd H p (.tup (xs ++ ys))))
theorem Vals.qM(r:Vals xs us):us=[] ↔ xs=[]:=by
 cases r with
 | nil=>simp
 | cons _ _=>simp
theorem G6:bD X (Qe .Add) (zQ X.K):=by
 intro pins s σ H x y v u Q I rx ry h;obtain⟨a,b,xs,ys,rfl,rfl,ha,hb,hx,hz,q1,q2⟩:=h
 cases rx
 cases ry;obtain⟨af,r1,p1,_⟩:=I.tuple ha;obtain⟨its2,r2,p2,_⟩:=I.tuple hb;refine HT.GR p1 p2 (λz=>hx (r1.qM.mp z)) (λz=>⟨.ref a,H,I,rfl,q1 (r2.qM.mp z)⟩) (λz=>?_) (by rw[<- r1.length,<- r2.length]; exact hz);refine⟨.ref s.heap.objs.size,_,I.laid (t':=s.toks) (o:=.tup (xs ++ ys)) (λb ob q=>W6 _ q) (Wf _) ?_,rfl,q2 (λw=>z (r2.qM.mpr w)) _ (I.ah.fresh (Wf _))⟩;exact⟨by rw[Qi]; exact hz,_,r1.append r2,gx.new _ _⟩
end
def eF(n:Nat)(i:Int):Option Nat:=if 0<=i then(if i < n then some i.toNat else none) else if -(n:Int)<=i then some (i + n).toNat else none
def cH{α:Type}(xs:List α)(i:Int):Option α:=(eF xs.length i).bind λj=>xs[j]?
theorem zR(h:eF n i=some j):seqIndex? i n=some j/\j < n/\-(n:Int)<=i/\i < n:=by
 unfold eF at h;by_cases h0:0<=i
 ·rw[if_pos h0] at h;by_cases h1:i < n
  ·rw[if_pos h1] at h;have e:i.toNat=j:=Ws h;exact⟨by rw[seqIndex_of h0 h1,e],by omega,by omega,h1⟩
  ·rw[if_neg h1] at h; cases h
 ·rw[if_neg h0] at h;by_cases h1 : -(n:Int)<=i
  ·rw[if_pos h1] at h;have e:(i + n).toNat=j:=Ws h;exact⟨by rw[seqIndex_neg (by omega) h1,e],by omega,h1,by omega⟩
  ·rw[if_neg h1] at h; cases h
theorem ud(h:cH xs i=some v):∃ j,seqIndex? i xs.length=some j/\xs[j]? = some v/\j < xs.length/\-(xs.length:Int)<=i/\i < xs.length:=by
 unfold cH at h
 cases e:eF xs.length i with
 | none=>rw[e] at h; cases h
 | some j =>
  rw[e] at h;obtain⟨h1,h2,h3,h4⟩:=zR e;exact⟨j,h1,h,h2,h3,h4⟩
def ue(b:Expr):Prop:=∀ o i,subscripted b false o i=operate [o,i] (JB o i)
def gF(X:Cx)(r:R2):Prop :=
 ∀ (value slice:Expr) (pins:List (Addr×Obj)) (s:W1) (σ:St) (H:Hp) (x y:V) (v u:Value) (Q:VK),Inv X pins σ H s->RelV x v->RelV y u->r x y H Q ->
  subscripted slice false v u=operate [v,u] (JB v u)->W4 (model X.prog X.w) X.A (subscriptTail value slice v u) (EP X pins σ Q) X.xe s
def qN(X:Cx)(id:String)(r:V->List V->Hp->VK->Prop):Prop :=
 ∀ (pins:List (Addr×Obj)) (s:W1) (σ:St) (H:Hp) (x:V) (xs:List V) (v:Value) (us:List Value) (Q:VK),Inv X pins σ H s->RelV x v->Vals xs us->r x xs H Q ->
  W4 (model X.prog X.w) X.A (call (.builtin id) (v :: us)) (EP X pins σ Q) X.xe s
section
variable {X:Cx} {a b:Expr} {ta tb:TE} {pos:Pos}
theorem gF.or(h:gF X r)(h':gF X r'):gF X (λx y H Q=>r x y H Q\/r' x y H Q):=by
 intro value slice pins s σ H x y v u Q I rx ry q hs;rcases q with q | q
 ·exact h value slice pins s σ H x y v u Q I rx ry q hs
 ·exact h' value slice pins s σ H x y v u Q I rx ry q hs
theorem zS(hr:gF X r)(ha:PE X a ta)(hb:PE X b tb)(hs:ue b):PE X (.Subscript a b pos) (lP r ta tb):=by
 intro pins s σ H Q I h;exact Subscript_ (tZ ha hb I h λv u s2 x y H2 I2 rx ry q=>hr a b pins s2 σ H2 x y v u Q I2 rx ry q (hs _ _))
def zT(K:W2):R2:=λx y H Q=>∃ p xs i v,x = .ref p/\y = .int i/\ck K H p xs/\cH xs i=some v/\Q v H
def zU(K:W2):R2:=λx y H Q=>∃ p xs i v,x = .ref p/\y = .int i/\cz K H p xs/\cH xs i=some v/\Q v H
def zV:R2:=λx y H Q=>∃ z i c,x = .str z/\y = .int i/\z.length<=Wb/\cH z.cps.toList i=some c/\Q (.str ⟨#[c]⟩) H
theorem G7:gF X (zT X.K):=by
 intro value slice pins s σ H x y v u Q I rx ry h hs;obtain⟨p,xs,i,z,rfl,rfl,hq,he,q⟩:=h
 cases rx;obtain⟨t,rfl⟩:=ry;obtain⟨af,r,pl,hz⟩:=I.list hq;obtain⟨j,h1,h2,h3,h4,h5⟩:=ud he;obtain⟨w,ew,aC⟩:=r.get h2;have hl:=r.length;have hn:=mT;have fin:EP X pins σ Q w s:=⟨z,H,I,aC,q⟩
 by_cases h0:0<=i
 ·have hj:i.toNat=j:=by
   rw[seqIndex_of h0 h5] at h1;exact Ws h1
  exact item_listR pl.isList h0 (by omega) (by rw[hj]; simpa using ew) fin hs
 ·have hj:(i + (af.toArray.size:Int)).toNat=j:=by
   rw[seqIndex_neg (by omega) h4] at h1;rw[Wp,<- hl];exact Ws h1
  exact subscriptTail_builtinR (x:=w) pl.isList.typeIs slot_list_getitem.lookup
   (wpAny_getItem_list_neg (Q:=λr s'=>r=w/\EP X pins σ Q r s') pl.isList (by omega) (by rw[Wp] <;> omega) (by omega) (by rw[hj]; simpa using ew) ⟨rfl,fin⟩) hs
theorem G8:gF X (zU X.K):=by
 intro value slice pins s σ H x y v u Q I rx ry h hs;obtain⟨p,xs,i,z,rfl,rfl,hq,he,q⟩:=h
 cases rx;obtain⟨t,rfl⟩:=ry;obtain⟨af,r,pl,hz⟩:=I.tuple hq;obtain⟨j,h1,h2,h3,h4,h5⟩:=ud he;obtain⟨w,ew,aC⟩:=r.get h2;have hl:=r.length;have hn:=mT;have fin:EP X pins σ Q w s:=⟨z,H,I,aC,q⟩
 exact subscriptTail_builtinR (x:=w) pl.typeIs slot_tuple_getitem.lookup
  (getItem_tuple (j:=j) (Q:=λr s'=>r=w/\EP X pins σ Q r s') pl (by omega) (by omega) (by rw[Wp,<- hl]; exact h1) (by simpa using ew) ⟨rfl,fin⟩) hs
theorem G9:gF X zV:=by
 intro value slice pins s σ H x y v u Q I rx ry h hs;obtain⟨z,i,c,rfl,rfl,hz,he,q⟩:=h;obtain⟨t,rfl⟩:=rx;obtain⟨t',rfl⟩:=ry;obtain⟨j,h1,h2,h3,h4,h5⟩:=ud he;have hl:z.cps.toList.length=z.length:=by simp[Str.length]
 rw[hl] at h1 h4 h5;have hn:=mT;exact tail_any (typeIs_str s z t) slot_str_getitem.lookup (getItem_str (c:=c) (by
  have e1:decide (i < -(2 ^ 63:Int))=false:=decide_eq_false (by omega);have e2:decide (i ≥ 2 ^ 63)=false:=decide_eq_false (by omega);rw[e1,e2,Bool.or_false]) (by rw[h1]; simpa using h2) ⟨.str ⟨#[c]⟩,H,I.tok _,⟨_,rfl⟩,q⟩) hs
def qO(K:W2):R2:=λx y H Q=>zT K x y H Q\/zU K x y H Q\/zV x y H Q
theorem b_:gF X (qO X.K):=G7.or (G8.or G9)
theorem G_ (af:List Value) (n j:Nat) (u:Value):Obj.mapSeq (·.setIfInBounds j u) { cls:=.type "list",data:=.seq af.toArray n } = { cls:=.type "list",data:=.seq (af.set j u).toArray n }:=by
 simp[Obj.mapSeq]
theorem Inv.lst(I:Inv X pins σ H s)(h:H p=some (.lst xs)) :
  ∃ (af:List Value) (n:Nat),Vals xs af/\s.heap.get? p=some { cls:=.type "list",data:=.seq af.toArray n }/\xs.length<=Wb:=by
 obtain⟨z,af,n,r,e⟩:=I.ah p _ h;exact⟨af,n,r,e,z⟩
theorem Inv.Ha{pins:List (Addr×Obj)}{σ:St}{H:Hp}{s:W1}{p:Addr}{xs ys:List V}{af its':List Value}{n n':Nat}{f:Obj->Obj}(I:Inv X pins σ H s)(h:H p=some (.lst xs))
  (ho:s.heap.get? p=some { cls:=.type "list",data:=.seq af.toArray n }) (hf:f { cls:=.type "list",data:=.seq af.toArray n } = { cls:=.type "list",data:=.seq its'.toArray n' }) (r:Vals ys its') (hz:ys.length<=Wb) (t:Nat) :
  Inv X pins σ (upd H p (.lst ys)) { s with heap:=s.heap.update p f,toks:=t }:=by
 have e:(s.heap.update p f).get? p=some { cls:=.type "list",data:=.seq its'.toArray n' }:=by
  rw[WH f ho (by rw[hf] <;> rfl),hf]
 refine I.write (x:=p) (e:=p) (by rw[h]; trivial) (.inl rfl) (λb u hb q=>(WM _ _ (Ne.symm hb)).trans q) ⟨_,e⟩ ?_;exact⟨hz,its',n',r,e⟩
def Hb:V->V->V->Hp->(Hp->Prop)->Prop:=λo i v H Q=>∃ p xs k j,o = .ref p/\i = .int k/\H p=some (.lst xs)/\eF xs.length k=some j/\Q (upd H p (.lst (xs.set j v)))
theorem Hc:ze X Hb:=by
 intro pins s σ H o i v ov iv u Q I ro ri rv h;obtain⟨p,xs,k,j,rfl,rfl,hp,hj,q⟩:=h
 cases ro;obtain⟨t,rfl⟩:=ri;obtain⟨af,n,r,ho,hz⟩:=I.lst hp;obtain⟨h1,h2,h3,h4⟩:=zR hj;have hl:=r.length;have hn:=mT;have I':Inv X pins σ (upd H p (.lst (xs.set j v))) { s with heap:=s.heap.update p (Obj.mapSeq (·.setIfInBounds j u)) } :=
  I.Ha hp ho (G_ af n j u) (r.set rv j) (by rw[Qo]; exact hz) s.toks
 by_cases h0:0<=k
 ·have hk:k.toNat=j:=by
   rw[seqIndex_of h0 h4] at h1;exact Ws h1
  exact PySem.W.ki_setAt ho h0 (by omega) (by rw[Wp,<- hl]; exact h4) (by rw[hk]; exact⟨_,I',q⟩)
 ·have hk:(k + (af.toArray.size:Int)).toNat=j:=by
   rw[seqIndex_neg (by omega) h3] at h1;rw[Wp,<- hl];exact Ws h1
  exact PySem.W.ki_setBack ho (by omega) (by rw[Wp,<- hl]; exact h3) (by omega) (by rw[hk]; exact⟨_,I',q⟩)
theorem Hd(lo hi:Option Int)(n:Nat):(Jl lo hi none n).1=((HT.aT n 0 lo:Nat):Int)/\(Jl lo hi none n).2.1=((HT.aT n n hi:Nat):Int)/\(Jl lo hi none n).2.2=1:=by
 refine⟨?_,?_,rfl⟩
 ·cases lo with
  | none=>simp[Jl,HT.aT]
  | some i =>
   simp only[Jl,HT.aT,Option.getD_none,show(1:Int) > 0 by decide,if_true];by_cases h:i < 0
   ·simp only[h,if_true] <;> omega
   ·simp only[h,if_false] <;> omega
 ·cases hi with
  | none=>simp[Jl,HT.aT]
  | some i =>
   simp only[Jl,HT.aT,Option.getD_none,show(1:Int) > 0 by decide,if_true];by_cases h:i < 0
   ·simp only[h,if_true] <;> omega
   ·simp only[h,if_false] <;> omega
theorem He(af:List Value)(lo hi:Option Int):slicePick af.toArray lo hi none=((af.drop (HT.aT af.length 0 lo)).take (HT.aT af.length af.length hi - HT.aT af.length 0 lo)).toArray:=by
 obtain⟨h1,h2,h3⟩:=Hd lo hi af.toArray.size;unfold slicePick;rw[h1,h2,h3];simp only[sliceRange_one,pick_run,Wp] <;> rfl
def zW(K:W2):V->Option Int->Option Int->Hp->VK->Prop:=λx lo hi H Q=>∃ a xs,x = .ref a/\ck K H a xs/\∀ p,H p=none->Q (.ref p) (upd H p (.lst (kL xs lo hi)))
theorem Hf:ja X (zW X.K):=by
 intro pins s σ H x v vl vu lo hi sl Q I rx hs pl pu h;obtain⟨a,xs,rfl,hx,q⟩:=h
 cases rx;obtain⟨af,r,ht,hz⟩:=I.list hx;have hlen:=r.length;refine⟨"list",_,slot_list_getitem.lookup,ht.isList.typeIs,?_⟩;refine wpAny_getItem_list_slice ht.isList hs pl pu .none (by simp) ?_ (by rw[Wp] <;> omega);rw[He,<- hlen];refine⟨.ref s.heap.objs.size,_,I.laid (t':=s.toks) (o:=.lst (kL xs lo hi)) (λb ob q=>W6 _ q) (Wf _) ?_,rfl,q _ (I.ah.fresh (Wf _))⟩;exact⟨Q2 (zP xs lo hi) hz,_,0,(r.drop (HT.aT xs.length 0 lo)).take (HT.aT xs.length xs.length hi - HT.aT xs.length 0 lo),Wn _ rfl⟩
def jH:V->Bool
 | .aw=>true
 | .bl _=>true
 | .int _=>true
 | .str _=>true
 | _=>false
def kM:V->V->Bool
 | .aw,.aw=>true
 | .bl a,.bl b=>a == b
 | .bl a,.int b=>(if a then 1 else 0) == b
 | .int a,.bl b=>a == (if b then 1 else 0)
 | .int a,.int b=>a == b
 | .str a,.str b=>a == b
 | _,_=>false
theorem Hg(ry:RelV y u)(rx:RelV x v)(fy:jH y=true)(fx:jH x=true):SeqAt.EqAt A s u v (kM y x):=by
 cases y with
 | aw =>
  cases ry
  cases x with
  | aw=>cases rx; exact SeqAt.EqAt.same _
  | bl b=>cases rx; exact SeqAt.EqAt.none_bool b
  | int b=>obtain⟨t,rfl⟩:=rx; exact SeqAt.EqAt.none_int b t
  | str b=>obtain⟨t,rfl⟩:=rx; exact SeqAt.EqAt.none_str b t
  | _=>exact absurd (show false=true from fx) WC
 | bl a =>
  cases ry
  cases x with
  | aw=>cases rx; exact SeqAt.EqAt.bool_none a
  | bl b=>cases rx; exact SeqAt.EqAt.bool_bool a b
  | int b=>obtain⟨t,rfl⟩:=rx; exact SeqAt.EqAt.bool_int a b t
  | str b=>obtain⟨t,rfl⟩:=rx; exact SeqAt.EqAt.bool_str a b t
  | _=>exact absurd (show false=true from fx) WC
 | int a =>
  obtain⟨t',rfl⟩:=ry
  cases x with
  | aw=>cases rx; exact SeqAt.EqAt.int_none a t'
  | bl b=>cases rx; exact SeqAt.EqAt.int_bool a t' b
  | int b=>obtain⟨t,rfl⟩:=rx; exact SeqAt.EqAt.int_int a t' b t
  | str b=>obtain⟨t,rfl⟩:=rx; exact SeqAt.EqAt.int_str a t' b t
  | _=>exact absurd (show false=true from fx) WC
 | str a =>
  obtain⟨t',rfl⟩:=ry
  cases x with
  | aw=>cases rx; exact SeqAt.EqAt.str_none a t'
  | bl b=>cases rx; exact SeqAt.EqAt.str_bool a t' b
  | int b=>obtain⟨t,rfl⟩:=rx; exact SeqAt.EqAt.str_int a t' b t
  | str b=>obtain⟨t,rfl⟩:=rx; exact SeqAt.EqAt.str_str a t' b t
  | _=>exact absurd (show false=true from fx) WC
 | _=>exact absurd (show false=true from fy) WC
def jI(x:V)(u:Value):Bool:=match u with
 | .none=>kM .aw x
 | .bool b=>kM (.bl b) x
 | .int i _=>kM (.int i) x
 | .str z _=>kM (.str z) x
 | _=>false
theorem zX(r:RelV y u)(f:jH y=true):jI x u=kM y x:=by
 cases y with
 | aw=>cases r; rfl
 | bl b=>cases r; rfl
 | int i=>obtain⟨t,rfl⟩:=r; rfl
 | str z=>obtain⟨t,rfl⟩:=r; rfl
 | _=>exact absurd (show false=true from f) WC
theorem uf:∀ {xs:List V} {us:List Value},Vals xs us->xs.all jH=true->us.any (jI x)=xs.any λy=>kM y x
 | _,_,.nil,_=>rfl
 | y :: xs,u :: us,.cons r t,f=>by
  rw[List.all_cons,Wm] at f;rw[Q8,Q8,zX r f.1,uf t f.2]
theorem ug(rx:RelV x v)(fx:jH x=true):∀ {xs:List V} {us:List Value},Vals xs us->xs.all jH=true->∀ u ∈ us,SeqAt.EqAt A s u v (jI x u)
 | _,_,.nil,_=>λu hu=>by cases hu
 | y :: xs,u :: us,.cons r t,f=>λu' hu=>by
  rw[List.all_cons,Wm] at f;rcases Wo.mp hu with rfl | hu
  ·rw[zX r f.1]; exact Hg r rx f.1 fx
  ·exact ug rx fx t f.2 u' hu
def qP(x:V)(xs:List V):Bool:=xs.any λy=>kM y x
def zY(K:W2)(neg:Bool):R2:=λx y H Q=>∃ p xs,y = .ref p/\(ck K H p xs\/cz K H p xs)/\jH x=true/\xs.all jH=true/\Q (.bl (if neg then !qP x xs else qP x xs)) H
theorem Hh:bD X (WB .NotIn) (zY X.K true):=by
 intro pins s σ H x y v u Q I rx ry h;obtain⟨p,xs,rfl,hq,fx,fs,q⟩:=h
 cases ry;rcases hq with hq | hq
 ·obtain⟨af,r,pl,hz⟩:=I.list hq;refine SeqAt.notIn_listAt (jI x) pl.isList (λw hw=>ug rx fx r fs w (by simpa using hw)) ⟨.bl _,H,I,rfl,?_⟩;rw[show af.toArray.any (jI x)=af.any (jI x) by simp,uf r fs];exact q
 ·obtain⟨af,r,pl,hz⟩:=I.tuple hq;refine SeqAt.notIn_tupleAt (jI x) pl (λw hw=>ug rx fx r fs w (by simpa using hw)) ⟨.bl _,H,I,rfl,?_⟩;rw[show af.toArray.any (jI x)=af.any (jI x) by simp,uf r fs];exact q
theorem Hi:eS X (.builtin "len") (λxs H Q=>∃ p ys,xs=[.ref p]/\(ck X.K H p ys\/cz X.K H p ys)/\Q (.int ys.length) H):=by
 intro pins s σ H xs us Q I r h;obtain⟨p,ys,rfl,hq,q⟩:=h;obtain⟨u,rfl,rx⟩:=i6 r
 cases rx;have hn:=mT;rcases hq with hq | hq
 ·obtain⟨af,r',pl,hz⟩:=I.list hq;have hlen:=r'.length;exact Calls.call_len_list pl.isList (by simp only[Wp] <;> omega) ⟨.int ys.length,H,I.tok _,⟨s.toks + 1,by rw[Wp,hlen]⟩,q⟩
 ·obtain⟨af,r',pl,hz⟩:=I.tuple hq;have hlen:=r'.length;exact len_tuple pl (by simp only[Wp] <;> omega) ⟨.int ys.length,H,I.tok _,⟨s.toks + 1,by rw[Wp,hlen]⟩,q⟩
theorem Hj:eS X (.builtin "len") (λxs H Q=>∃ z,xs=[.str z]/\z.length<=Wb/\Q (.int z.length) H):=by
 intro pins s σ H xs us Q I r h;obtain⟨z,rfl,hz,q⟩:=h;obtain⟨u,rfl,t,rfl⟩:=i6 r;have hn:=mT;exact len_str (by omega) ⟨.int z.length,H,I.tok _,⟨_,rfl⟩,q⟩
theorem eS.or(h:eS X f r)(h':eS X f r'):eS X f (λxs H Q=>r xs H Q\/r' xs H Q):=by
 intro pins s σ H xs us Q I rs q;rcases q with q | q
 ·exact h pins s σ H xs us Q I rs q
 ·exact h' pins s σ H xs us Q I rs q
theorem Hk:eS X (.type "tuple") (λxs H Q=>∃ p ys,xs=[.ref p]/\((ck X.K H p ys/\∀ l,H l=none->Q (.ref l) (upd H l (.tup ys)))\/(cz X.K H p ys/\Q (.ref p) H))):=by
 intro pins s σ H xs us Q I r h;obtain⟨p,ys,rfl,h⟩:=h;obtain⟨u,rfl,rx⟩:=i6 r
 cases rx;rcases h with ⟨hq,q⟩ | ⟨hq,q⟩
 ·obtain⟨af,r',pl,hz⟩:=I.list hq;have hlen:=r'.length;refine call_tuple_list pl.isList (λh' kp=>?_) (by simp only[Wp] <;> omega);have I1:Inv X pins σ H { s with heap:=h' }:=I.kept (t':=s.toks) kp;have I2:Inv X pins σ (upd H h'.objs.size (.tup ys)) { s with heap:=h'.push { cls:=.type "tuple",data:=.seq af.toArray } } :=
   I1.laid (t':=s.toks) (λb o e=>W6 _ e) (Wf _) (show bz X.prog X.w _ _ _ (.tup ys) from⟨hz,af,r',gx.new _ _⟩)
  exact⟨.ref h'.objs.size,_,I2,rfl,q _ (I1.ah.fresh (Wf _))⟩
 ·obtain⟨af,r',pl,hz⟩:=I.tuple hq;exact call_tuple_same pl ⟨.ref p,H,I,rfl,q⟩
def qQ(K:W2)(T:String)(x:V)(H:Hp):Prop:=match x with
 | .str _=>T = "str"
 | .int _=>T = "int"
 | .ref p=>(T = "list"/\∃ xs,ck K H p xs)\/(T = "tuple"/\∃ o,K.lookup p=some o/\o.cls = .type "tuple"/\o.dict=none) \/
   (T = "dict"/\((∃ aa,H p=some (.dK aa))\/∃ aa,H p=some (.dT aa)))\/(T = "set"/\∃ S n,H p=some (.set S n))
 | _=>False
theorem Hl(I:Inv X pins σ H s)(r:RelV x v)(ty:qQ X.K T x H) :
  s.TypeIs v T/\∀ a,v = .ref a->∃ ob,s.heap.get? a=some ob/\ob.dict=none:=by
 cases x with
 | str z =>
  obtain⟨t,rfl⟩:=r
  cases (show T = "str" from ty);exact⟨typeIs_str s z t,λ_ e=>nomatch e⟩
 | int i =>
  obtain⟨t,rfl⟩:=r
  cases (show T = "int" from ty);exact⟨JC s i t,λ_ e=>nomatch e⟩
 | ref p =>
  cases r;rcases ty with ⟨rfl,xs,hq⟩ | ⟨rfl,o,hk,hc,hd⟩ | ⟨rfl,hk⟩ | ⟨rfl,S,n,hk⟩
  ·obtain⟨af,_,pl,_⟩:=I.list hq;refine⟨pl.isList.typeIs,λa e=>?_⟩
   cases e;obtain⟨o,n,e,c,hd,_⟩:=pl;exact⟨o,e,hd⟩
  ·refine⟨⟨o,I.cy p o hk,hc⟩,λa e=>?_⟩
   cases e;exact⟨o,I.cy _ o hk,hd⟩
  ·have z:∃ o,s.heap.get? p=some o/\o.ExactDict:=by
    rcases hk with ⟨aa,hk⟩ | ⟨aa,hk⟩
    ·obtain⟨_,_,_,_,o,_,_,e,ex,_⟩:=I.ah p _ hk;exact⟨o,e,ex⟩
    ·obtain⟨_,_,_,_,o,_,_,e,ex,_⟩:=I.ah p _ hk;exact⟨o,e,ex⟩
   obtain⟨o,e,ex⟩:=z;refine⟨⟨o,e,ex.1⟩,λa e2=>?_⟩
   cases e2;exact⟨o,e,ex.2.1⟩
  ·obtain⟨o,_,_,_,e,ex,_⟩:=I.ah p _ hk;refine⟨⟨o,e,ex.1⟩,λa e2=>?_⟩
   cases e2;exact⟨o,e,ex.2.1⟩
 | _=>exact False.elim ty
def zZ(K:W2)(T:String)(r:V->List V->Hp->VK->Prop)(to:TE)(t:TA):TE:=λσ H Q=>to σ H λx H1=>qQ K T x H1/\t σ H1 λxs H2=>r x xs H2 Q
variable {o e:Expr} {es:List Expr} {to:TE} {t:TA} {name:Str} {apos aJ:Pos} {T id:String} {r:V->List V->Hp->VK->Prop}
theorem qR (pa:PlainAttrs T) (slot:Slot T name id) (Hm:typeOf (.builtin id)=pure (.type "method_descriptor")) (hm:qN X id r) (ho:PE X o to) (ha:PA X (e :: es) t)
  (jJ:Q9 o name X.env (eval o X.env)=eval o X.env:=by rfl)
  (jK:((WN aJ (W7 (e :: es) X.env)).all (λx=>!x.1) && (Jb aJ (QA [] X.env)).all (λx=>x.1.isSome)
   && decide ((e :: es).length + ([]:List Keyword).length + (if ([]:List Keyword).isEmpty then 0 else 1) < 30))=true:=by rfl)
  (fH:(apos.endLine == aJ.line)=true:=by rfl) (hs:W7 (e :: es) X.env=(false,eval e X.env) :: W7 es X.env:=by rfl) (Hn:(WN aJ (W7 es X.env)).any (·.1)=false:=by rfl) :
  PE X (.Call (.Attribute o name apos) (e :: es) [] aJ) (zZ X.K T r to t):=by
 intro pins s σ H Q I h;refine wpAny_Call_method_late jJ jK fH rfl (aM (ho pins s σ H _ I h) λv s1 ⟨x,H1,I1,r1,ty,q1⟩=>?_);obtain⟨h1,h2⟩:=Hl I1 r1 ty;refine⟨T,id,pa,slot,Hm,h1,h2,?_⟩;have hA:=ha aJ pins s1 σ H1 _ I1 q1;rw[hs] at hA ⊢;refine Calls.callWith_builtin (by show(false || (WN aJ (W7 es X.env)).any (·.1))=false; rw[Hn] <;> rfl) (Calls.evalArgs_plain ?_);exact aM hA λus s2 ⟨vs,H2,I2,r2,q2⟩=>hm pins s2 σ H2 x vs v us Q I2 r1 r2 q2
end
def Ho(X:Cx)(id:String)(r:V->List V->Hp->VK->Prop):Prop :=
 ∀ (pins:List (Addr×Obj)) (s:W1) (σ:St) (H:Hp) (x:V) (xs:List V) (v:Value) (us:List Value) (Q:VK),Inv X pins σ H s->RelV x v->Vals xs us->r x xs H Q ->
  W4 (model X.prog X.w) X.A (call (.builtin id) (v :: us)) (EP X pins σ Q) X.xe s
theorem Vals.one:∀ {x:V} {us:List Value},Vals [x] us->∃ u,us=[u]/\RelV x u
 | _,_,.cons r .nil=>⟨_,rfl,r⟩
theorem Vals.two:∀ {x y:V} {us:List Value},Vals [x,y] us->∃ u v,us=[u,v]/\RelV x u/\RelV y v
 | _,_,_,.cons r (.cons q .nil)=>⟨_,_,rfl,r,q⟩
theorem Vals.rep(h:Vals xs us):∀ k:Nat,Vals (Wc k xs).flatten (Wc k us).flatten
 | 0=>.nil
 | k + 1=>by
  rw[WZ,WZ,QL,QL];exact Vals.append h (Vals.rep h k)
theorem z4(af:List Value):∀ (k:Nat) (acc:List Value),
  List.foldl (λx1 x2=>x1 ++ x2) acc.toArray (Wc k af.toArray)=(acc ++ (Wc k af).flatten).toArray
 | 0,acc=>by simp
 | k + 1,acc=>by
  have e:acc.toArray ++ af.toArray=(acc ++ af).toArray:=by simp
  have e2:(acc ++ af) ++ (Wc k af).flatten=acc ++ (Wc (k + 1) af).flatten:=by
   rw[WZ,QL,List.append_assoc]
  rw[<- e2,<- z4 af k (acc ++ af),<- e,WZ,QZ]
section
variable {X:Cx} {pins:List (Addr×Obj)} {σ:St} {H:Hp} {s:W1} {l b:Addr} {xs ys zs:List V}
theorem Inv.Hq{af its':List Value}{n:Nat}{f:Array Value->Array Value}{t':Nat}(I:Inv X pins σ H s)(hH:H l=some (.lst xs))
  (e:s.heap.get? l=some { cls:=.type "list",data:=.seq af.toArray n }) (hf:f af.toArray=its'.toArray) (hv:Vals ys its') (hz:ys.length<=Wb) :
  Inv X pins σ (upd H l (.lst ys)) { s with heap:=s.heap.update l (Obj.mapSeq f),toks:=t' }:=by
 have q:=PySem.IsL.update e f;rw[hf] at q;refine I.write (x:=l) (e:=l) (by rw[hH]; exact trivial) (.inl rfl) (λb' u hb hu=>(WM s.heap (Obj.mapSeq f) (Ne.symm hb)).trans hu) ⟨_,q⟩ ?_;exact⟨hz,its',_,hv,q⟩
theorem Inv.Hr(I:Inv X pins σ H s)(hv:Vals ys af)(hz:ys.length<=Wb) :
  Inv X pins σ (upd H s.heap.objs.size (.lst ys)) { s with heap:=s.heap.push { cls:=.type "list",data:=.seq af.toArray },toks:=t' } :=
 I.laid (λ_ _ q=>W6 _ q) (Wf _) ⟨hz,af,0,hv,Wn _ rfl⟩
theorem Inv.fresh(I:Inv X pins σ H s):H s.heap.objs.size=none:=I.ah.fresh (Wf _)
theorem Inv.Ht (I:Inv X pins σ H s) (hH:H l=some (.lst xs)):xs.length<=Wb/\∃ (af:List Value) (n:Nat),Vals xs af/\xs.length=af.length/\s.heap.get? l=some { cls:=.type "list",data:=.seq af.toArray n }:=by
 obtain⟨z,af,n,r,e⟩:=I.ah l _ hH;exact⟨z,af,n,r,r.length,e⟩
end
section
variable {X:Cx}
def z5:V->List V->Hp->VK->Prop:=λx vs H Q=>∃ l xs y,x = .ref l/\vs=[y]/\H l=some (.lst xs)/\xs.length < Wb/\Q .aw (upd H l (.lst (xs ++ [y])))
theorem z6:Ho X "list.append" z5:=by
 intro pins s σ H x vs v us Q I rx rv h;obtain⟨l,xs,y,rfl,rfl,hH,hz,q⟩:=h
 cases rx;obtain⟨u,rfl,ru⟩:=rv.one;obtain⟨z,af,n,r,hl,e⟩:=I.Ht hH;refine JD F.slot_list_append ⟨_,e,rfl⟩ F.entry_list_append (F.args_list_append_2 _ _) (PySem.list_append l af.toArray n u (by rw[Wp]; omega)) ⟨e,?_⟩;refine⟨.aw,_,I.Hq (its':=af ++ [u]) hH e (by simp) (r.append (.cons ru .nil)) ?_,rfl,q⟩;rw[Qi,List.length_singleton];omega
theorem uh(xs:List α)(k:Nat):(Wc k xs).flatten.length=k * xs.length:=by
 induction k with
 | zero=>simp
 | succ k ih=>rw[WZ,QL,Qi,ih,Nat.succ_mul,Nat.add_comm]
end
section
variable {prog:Wg} {w:Wh} {A:Wl} {E:Value->W1->Prop} {s:W1}
set_option maxRecDepth 100000 in
end
section
variable {X:Cx}
end
section
variable {κ:Type} [DecidableEq κ]
def fI(aa:List (κ×V))(k:κ):Option V:=(aa.find? λkv=>decide (kv.1=k)).map (·.2)
def putK(aa:List (κ×V))(k:κ)(v:V):List (κ×V) :=
 if (aa.any λkv=>decide (kv.1=k))=true then aa.map (λkv=>if kv.1=k then(kv.1,v) else kv) else aa ++ [(k,v)]
theorem ui{p:κ×V}{r:List (κ×V)}{k:κ}(e:p.1=k):fI (p :: r) k=some p.2:=by simp[fI,WT,e]
theorem uj{p:κ×V}{r:List (κ×V)}{k:κ}(e:¬ p.1=k):fI (p :: r) k=fI r k:=by simp[fI,WT,e]
theorem z7(aa:List (κ×V))(k:κ)(v:V):(putK aa k v).length<=aa.length + 1:=by
 unfold putK;split
 ·rw[Wz]; omega
 ·rw[Qi,Q7,Jp]; omega
theorem cX.qS(r:cX o u):o.isSome=u.isSome:=by
 cases o with
 | none=>cases u with
  | none=>rfl
  | some _=>exact(show False from r).elim
 | some _=>cases u with
  | none=>exact(show False from r).elim
  | some _=>rfl
theorem cX.getD(r:cX o u)(rd:RelV d d'):RelV (o.getD d) (u.getD d'):=by
 cases o with
 | none=>cases u with
  | none=>exact rd
  | some _=>exact(show False from r).elim
 | some _=>cases u with
  | none=>exact(show False from r).elim
  | some _=>exact r
theorem KV.val{aa:List (κ×V)}{vs:List (κ×Value)}(r:KV aa vs)(k:κ):cX (fI aa k) (valueAt vs k):=by
 unfold KV at r;induction r with
 | nil=>exact True.intro
 | @cons p q ps qs h t ih =>
  obtain⟨h1,h2⟩:=h;by_cases e:p.1=k
  ·have e':q.1=k:=h1.symm.trans e;have b:valueAt (q :: qs) k=some q.2:=by simp[valueAt,WT,e']
   rw[ui e,b]; exact h2
  ·have e':¬ q.1=k:=λz=>e (h1.trans z)
   have b:valueAt (q :: qs) k=valueAt qs k:=by simp[valueAt,WT,e']
   rw[uj e,b]; exact ih
theorem KV.any(r:KV aa vs)(k:κ):(aa.any λkv=>decide (kv.1=k))=vs.any λkv=>decide (kv.1=k):=by
 unfold KV at r;induction r with
 | nil=>rfl
 | cons h t ih=>rw[Q8,Q8,ih,h.1]
theorem KV.Hu(r:KV aa vs)(k:κ)(ry:RelV y u) :
  KV (aa.map λkv=>if kv.1=k then(kv.1,y) else kv) (vs.map λkv=>if kv.1=k then(kv.1,u) else kv):=by
 unfold KV at r ⊢;induction r with
 | nil=>exact .nil
 | @cons p q ps qs h t ih =>
  rw[Wk,Wk];refine .cons ?_ ih;obtain⟨h1,h2⟩:=h;by_cases e:p.1=k
  ·rw[if_pos e,if_pos (h1.symm.trans e)]; exact⟨h1,ry⟩
  ·rw[if_neg e,if_neg (λz=>e (h1.trans z))]; exact⟨h1,h2⟩
theorem KV.put(r:KV aa vs)(k:κ)(ry:RelV y u):KV (putK aa k y) (stored vs k u):=by
 unfold putK stored;rw[r.any k];by_cases e:(vs.any λkv=>decide (kv.1=k))=true
 ·rw[if_pos e,if_pos e]; exact r.Hu k ry
 ·rw[if_neg e,if_neg e]; exact Paired.snoc r ⟨rfl,ry⟩
theorem KV.length(r:KV aa vs):aa.length=vs.length:=Paired.length r
end
theorem kO(r:RelV (kV k) u):(dB P w).is k u=true:=by
 cases k with
 | inl i=>obtain⟨t,e⟩:=(show ∃ t,u=Value.int i t from r); subst e; exact E5 P w i t
 | inr x=>obtain⟨t,e⟩:=(show ∃ t,u=Value.str x t from r); subst e; exact E6 P w x t
theorem z8:∀ {ks:List Key} {us:List Value},Vals (ks.map kV) us->ItemsAre (dB P w) ks us
 | [],_,r=>by rw[List.map_nil] at r; cases r; exact .nil
 | k :: ks,_,r=>by
  rw[Wk] at r
  cases r with
  | cons h t=>exact .cons (kO h) (z8 t)
abbrev KT(H:Hp):List (List Key×V)->List (List Key×Addr×Value)->Prop:=Paired λp q=>p.1=q.1/\H q.2.1=some (.tup (p.1.map kV))/\RelV p.2 q.2.2
theorem KT.val{H:Hp}{aa:List (List Key×V)}{xs:List (List Key×Addr×Value)}(r:KT H aa xs)(k:List Key):cX (fI aa k) ((atKey xs k).map (·.2)):=by
 induction r with
 | nil=>exact True.intro
 | @cons p q ps qs h t ih =>
  obtain⟨h1,_,h2⟩:=h;by_cases e:p.1=k
  ·have e':q.1=k:=h1.symm.trans e;have b:atKey (q :: qs) k=some q.2:=by simp[atKey,WT,e']
   rw[ui e,b]; exact h2
  ·have e':¬ q.1=k:=λz=>e (h1.trans z)
   have b:atKey (q :: qs) k=atKey qs k:=by simp[atKey,WT,e']
   rw[uj e,b]; exact ih
section
variable {P:Wg} {w:Wh} {H:Hp} {h:Heap} {a:Addr}
theorem z9(ok:bW P w H h)(e:Rd H a u):bz P w H h a u:=e.ok ok
theorem kP(ok:bW P w H h)(e:Rd H a (.dK aa)):aa.length<=Wb/\(a == Qf)=false/\∃ vs,KV aa vs/\h.DictOf (dB P w) a vs :=
 show bz P w H h a (.dK aa) from z9 ok e
theorem z_(ok:bW P w H h)(e:H a=some (.dK aa)):aa.length<=Wb/\(a == Qf)=false/\∃ vs,KV aa vs/\h.DictOf (dB P w) a vs:=kP ok (.inl e)
theorem mU(ok:bW P w H h)(e:H a=some (.tup (ks.map kV))):(tupleKind (dB P w)).is h ks a:=by
 obtain⟨_,af,r,p⟩:=(show bz P w H h a (.tup (ks.map kV)) from ok a _ e)
 obtain⟨o,h1,h2,n,h3⟩:=p.tup;exact⟨o,af.toArray,n,h1,h2,h3,by simpa using z8 r⟩
theorem mV(ok:bW P w H h)(e:Rd H a (.dT aa)):aa.length<=Wb/\(a == Qf)=false /\
  ∃ xs,KT H aa xs/\h.DictOfH (tupleKind (dB P w)) a xs:=by
 obtain⟨z,y,xs,r,o,es,ep,h1,h2,h3,h4,h5⟩:=(show bz P w H h a (.dT aa) from z9 ok e)
 refine⟨z,y,xs,r,o,es,ep,h1,h2,h3,h4,λx hx=>?_,h5⟩;have all:∀ {l:List (List Key×V)} {m:List (List Key×Addr×Value)},KT H l m->∀ x ∈ m,(tupleKind (dB P w)).is h x.1 x.2.1:=by
  intro l m q;induction q with
  | nil=>intro x hx; exact nomatch hx
  | @cons p q ps qs hq t ih =>
   intro x hx;rcases Wo.mp hx with e | hx
   ·subst e;exact mU ok (by rw[<- hq.1]; exact hq.2.1)
   ·exact ih x hx
 exact all r x hx
end
def g6(H:Hp)(a:Addr)(y:V)(r:Option V):Prop :=
 (∃ aa k,Rd H a (.dK aa)/\y=kV k/\r=fI aa k)\/∃ aa k b,Rd H a (.dT aa)/\y = .ref b/\H b=some (.tup (k.map kV))/\r=fI aa k
theorem g6.k{H:Hp}{a:Addr}{aa:List (Key×V)}{k:Key}(e:H a=some (.dK aa)):g6 H a (kV k) (fI aa k):=.inl ⟨aa,k,.inl e,rfl,rfl⟩
section
variable {X:Cx} {pins:List (Addr×Obj)} {σ:St} {H:Hp} {s:W1} {a:Addr} {y v:V} {u r:Value} {o:Option V} {A:Wl} {E:Value->W1->Prop}
theorem Inv.big(I:Inv X pins σ H s):Qf < s.heap.objs.size:=by
 have h:Wr < s.heap.objs.size:=(I.mod.glob.keeps I.bk).lt;exact Nat.lt_trans (by decide) h
theorem Hv(hu:A.units + 1 < Ww)(I:Inv X pins σ H s)(g:g6 H a y (some v))(ry:RelV y u)(h:∀ w' s',Inv X pins σ H s'->RelV v w'->Q w' s') :
  W4 (model X.prog X.w) A (JB (.ref a) u) Q E s:=by
 rcases g with ⟨aa,k,e,ey,l⟩ | ⟨aa,k,b,e,ey,eb,l⟩
 ·subst ey;obtain⟨z,hd,vs,rel,dd⟩:=kP I.ah e;obtain⟨w',hw,aC⟩:=cX.some_of (v:=v) (o:=valueAt vs k) (by rw[l]; exact rel.val k);exact wpAny_getItem_of (kO ry) dd.mapOf hw (h w' _ (I.tok _) aC)
 ·subst ey
  cases (show u=Value.ref b from ry);obtain⟨z,hd,xs,rel,dd⟩:=mV I.ah e;obtain⟨w',hw,aC⟩:=cX.some_of (v:=v) (o:=(atKey xs k).map (·.2)) (by rw[l]; exact rel.val k);obtain⟨p,hp,hp2⟩:=Option.map_eq_some_iff.mp hw;refine wpAny_getItem_heap (J0 hu) (mU I.ah eb) dd hp ?_;rw[hp2];exact h w' _ (I.tok _) aC
theorem Hw(hu:A.units + 1 < Ww)(I:Inv X pins σ H s)(g:g6 H a y o)(ry:RelV y u)(h:∀ s',Inv X pins σ H s'->Q (.bool o.isSome) s') :
  W4 (model X.prog X.w) A (WB .In u (.ref a)) Q E s:=by
 rcases g with ⟨aa,k,e,ey,l⟩ | ⟨aa,k,b,e,ey,eb,l⟩
 ·subst ey;obtain⟨z,hd,vs,rel,dd⟩:=kP I.ah e;refine wpAny_in_of (kO ry) hd dd.mapOf ?_;rw[<- (rel.val k).qS,<- l];exact h _ (I.tok _)
 ·subst ey
  cases (show u=Value.ref b from ry);obtain⟨z,hd,xs,rel,dd⟩:=mV I.ah e;refine wpAny_in_heap (J0 hu) (mU I.ah eb) hd dd ?_;have q:=(rel.val k).qS;rw[Option.isSome_map] at q;rw[<- q,<- l];exact h _ (I.tok _)
theorem Hx(hu:A.units + 1 < Ww)(I:Inv X pins σ H s)(g:g6 H a y o)(ry:RelV y u)(h:∀ s',Inv X pins σ H s'->Q (.bool (!o.isSome)) s') :
  W4 (model X.prog X.w) A (WB .NotIn u (.ref a)) Q E s:=by
 rcases g with ⟨aa,k,e,ey,l⟩ | ⟨aa,k,b,e,ey,eb,l⟩
 ·subst ey;obtain⟨z,hd,vs,rel,dd⟩:=kP I.ah e;refine wpAny_notIn_of (kO ry) hd dd.mapOf ?_;rw[<- (rel.val k).qS,<- l];exact h _ (I.tok _)
 ·subst ey
  cases (show u=Value.ref b from ry);obtain⟨z,hd,xs,rel,dd⟩:=mV I.ah e;refine wpAny_notIn_heap (J0 hu) (mU I.ah eb) hd dd ?_;have q:=(rel.val k).qS;rw[Option.isSome_map] at q;rw[<- q,<- l];exact h _ (I.tok _)
theorem Aa(I:Inv X pins σ H s)(mu:n9 (H a))(hs:Qh a s.heap h')(he:∃ q,h'.get? a=some q)(new:bz X.prog X.w (upd H a ob) h' a ob) :
  Inv X pins σ (upd H a ob) { s with heap:=h',toks:=t' } :=
 I.write (x:=a) (e:=a) mu (.inl rfl) (λb q hb z=>(hs.2 b hb).trans z) he new
theorem Hy(z:aa.length<=Wb)(hd:(a == Qf)=false)(rel:KV aa vs)(dd:h'.DictOf (dB P w) a vs) :
  bz P w H' h' a (.dK aa):=⟨z,hd,vs,rel,dd⟩
end
section
variable {X:Cx} {pins:List (Addr×Obj)} {σ:St} {H:Hp} {s:W1} {a:Addr} {aa:List (Key×V)} {k:Key} {u:Value} {A:Wl} {E:Value->W1->Prop}
theorem Hz (I:Inv X pins σ H s) (e:Rd H a (.dK aa)) (h:∀ t s',Inv X pins σ H s'->Q (.int aa.length t) s'):W4 (model X.prog X.w) A (call (.builtin "len") [.ref a]) Q E s:=by
 obtain⟨z,hd,vs,rel,dd⟩:=kP I.ah e;refine call_len_dict hd dd (by rw[<- rel.length]; rw[QR] at z; omega) ?_;rw[<- rel.length];exact h _ _ (I.tok _)
end
section
variable {X:Cx} {o i e value:Expr} {pos pos' GD:Pos} {td ty tv:TE}
end
theorem HA (h:Heap) (hb:Qf < h.objs.size):bz P w H (h.push { cls:=.type "dict",data:=.dict #[] }) h.objs.size (.dK []) :=
 ⟨Ql _,beq_eq_false_iff_ne.mpr (Ne.symm (Wv hb)),[],.nil,Heap.DictOf.new h⟩
section
variable {X:Cx} {pos:Pos}
end
structure M1(X:Cx)(o:Expr)(m:Str)(apos:Pos)(e:Expr)(aJ:Pos):Prop where
 base:Q9 o m X.env (eval o X.env)=eval o X.env
 qT:((WN aJ (W7 [e] X.env)).all (λx=>!x.1) && (Jb aJ (QA [] X.env)).all (λx=>x.1.isSome)
  && decide (([e]:List Expr).length + ([]:List Keyword).length + (if ([]:List Keyword).isEmpty then 0 else 1) < 30))=true
 line:(apos.endLine == aJ.line)=true
 trees:WN aJ (W7 [e] X.env)=[(false,eval e X.env)]
structure M2(X:Cx)(o:Expr)(m:Str)(apos:Pos)(e f:Expr)(aJ:Pos):Prop where
 base:Q9 o m X.env (eval o X.env)=eval o X.env
 qT:((WN aJ (W7 [e,f] X.env)).all (λx=>!x.1) && (Jb aJ (QA [] X.env)).all (λx=>x.1.isSome)
  && decide (([e,f]:List Expr).length + ([]:List Keyword).length + (if ([]:List Keyword).isEmpty then 0 else 1) < 30))=true
 line:(apos.endLine == aJ.line)=true
 trees:WN aJ (W7 [e,f] X.env)=[(false,eval e X.env),(false,eval f X.env)]
def uk(H:Hp)(a:Addr):Prop:=(∃ aa,Rd H a (.dK aa))\/∃ aa,Rd H a (.dT aa)
theorem Ab(I:Inv X pins σ H s)(d:uk H a) :
  s.TypeIs (.ref a) "dict"/\(∀ b,Value.ref a = .ref b->∃ ob,s.heap.get? b=some ob/\ob.dict=none)/\(a == Qf)=false:=by
 rcases d with ⟨aa,e⟩ | ⟨aa,e⟩
 ·obtain⟨_,hd,vs,_,dd⟩:=kP I.ah e;refine⟨dd.typeIs,λb q=>?_,hd⟩
  cases q;obtain⟨ob,_,_,h1,h2,_⟩:=dd;exact⟨ob,h1,h2.2.1⟩
 ·obtain⟨_,hd,xs,_,dd⟩:=mV I.ah e;refine⟨dd.typeIs,λb q=>?_,hd⟩
  cases q;obtain⟨ob,_,_,h1,h2,_⟩:=dd;exact⟨ob,h1,h2.2.1⟩
section
variable {X:Cx} {pins:List (Addr×Obj)} {σ:St} {H:Hp} {s:W1} {a:Addr} {y d:V} {u r:Value} {o:Option V} {A:Wl} {E:Value->W1->Prop}
theorem HB(hu:A.units + 1 < Ww)(I:Inv X pins σ H s)(g:g6 H a y o)(ry:RelV y u)(h:∀ w' s',Inv X pins σ H s'->RelV (o.getD .aw) w'->Q w' s') :
  W4 (model X.prog X.w) A (call (.builtin "dict.get") [.ref a,u]) Q E s:=by
 rcases g with ⟨aa,k,e,ey,l⟩ | ⟨aa,k,b,e,ey,eb,l⟩
 ·subst ey;obtain⟨z,hd,vs,rel,dd⟩:=kP I.ah e;refine call_meetsIn Q3 dd.typeIs QE (PySem.F.args_dict_get_2 _ _) (meets_dict_get (dB X.prog X.w) a (kO ry) hd) ⟨_,dd.mapOf,h _ _ (I.tok _) ?_⟩;rw[l];exact(rel.val k).getD rfl
 ·subst ey
  cases (show u=Value.ref b from ry);obtain⟨z,hd,xs,rel,dd⟩:=mV I.ah e;refine call_meetsIn Q3 dd.typeIs QE (PySem.F.args_dict_get_2 _ _) (meetsH_dict_get (tupleKind (dB X.prog X.w)) a b hd) ⟨J0 hu,k,xs,mU I.ah eb,dd,h _ _ (I.tok _) ?_⟩;rw[l];exact(rel.val k).getD rfl
theorem HC(hu:A.units + 1 < Ww)(I:Inv X pins σ H s)(g:g6 H a y o)(ry:RelV y u)(rd:RelV d r)(h:∀ w' s',Inv X pins σ H s'->RelV (o.getD d) w'->Q w' s') :
  W4 (model X.prog X.w) A (call (.builtin "dict.get") [.ref a,u,r]) Q E s:=by
 rcases g with ⟨aa,k,e,ey,l⟩ | ⟨aa,k,b,e,ey,eb,l⟩
 ·subst ey;obtain⟨z,hd,vs,rel,dd⟩:=kP I.ah e;refine call_meetsIn Q3 dd.typeIs QE (PySem.F.args_dict_get_3 _ _ _) (meets_dict_get_default (dB X.prog X.w) a (kO ry) hd r) ⟨_,dd.mapOf,h _ _ (I.tok _) ?_⟩;rw[l];exact(rel.val k).getD rd
 ·subst ey
  cases (show u=Value.ref b from ry);obtain⟨z,hd,xs,rel,dd⟩:=mV I.ah e;refine call_meetsIn Q3 dd.typeIs QE (PySem.F.args_dict_get_3 _ _ _) (meetsH_dict_get_default (tupleKind (dB X.prog X.w)) a b hd r) ⟨J0 hu,k,xs,mU I.ah eb,dd,h _ _ (I.tok _) ?_⟩;rw[l];exact(rel.val k).getD rd
end
def HD(td ty:TE):TE:=λσ H Q=>td σ H λx H1=>∃ a,x = .ref a/\uk H1 a/\ty σ H1 λy H2=>∃ o,g6 H2 a y o/\Q (o.getD .aw) H2
def HE(td ty tx:TE):TE:=λσ H Q=>td σ H λx H1=>∃ a,x = .ref a/\uk H1 a/\ty σ H1 λy H2=>tx σ H2 λz H3=>∃ o,g6 H3 a y o/\Q (o.getD z) H3
section
variable {X:Cx} {o e f:Expr} {apos aJ:Pos} {td ty tx:TE}
theorem HF (hu:X.A.units + 1 < Ww) (ho:PE X o td) (he:PE X e ty) (m:M1 X o "get" apos e aJ):PE X (.Call (.Attribute o "get" apos) [e] [] aJ) (HD td ty):=by
 intro pins s σ H Q I h;refine JH m.base m.qT m.line PySem.F.plainAttrs_dict Q3 PySem.F.type_dict_get (aM (ho pins s σ H _ I h) λu s1 ⟨x,H1,I1,rx,a,ex,d,q1⟩=>?_);subst ex;obtain rfl:u=Value.ref a:=rx;obtain⟨t1,t2,_⟩:=Ab I1 d;refine⟨t1,t2,?_⟩;rw[m.trees];refine Calls.callWith_builtin rfl (Calls.evalArgs_plain (Calls.spliced_cons (aM (he pins s1 σ H1 _ I1 q1) λiv s2 ⟨y,H2,I2,ry,ov,g,q2⟩=>Calls.spliced_nil ?_)));exact HB hu I2 g ry λw' s3 I3 aC=>⟨_,H2,I3,aC,q2⟩
theorem HG (hu:X.A.units + 1 < Ww) (ho:PE X o td) (he:PE X e ty) (hf:PE X f tx) (m:M2 X o "get" apos e f aJ):PE X (.Call (.Attribute o "get" apos) [e,f] [] aJ) (HE td ty tx):=by
 intro pins s σ H Q I h;refine JH m.base m.qT m.line PySem.F.plainAttrs_dict Q3 PySem.F.type_dict_get (aM (ho pins s σ H _ I h) λu s1 ⟨x,H1,I1,rx,a,ex,d,q1⟩=>?_);subst ex;obtain rfl:u=Value.ref a:=rx;obtain⟨t1,t2,_⟩:=Ab I1 d;refine⟨t1,t2,?_⟩;rw[m.trees];refine Calls.callWith_builtin rfl (Calls.evalArgs_plain (Calls.spliced_cons (aM (he pins s1 σ H1 _ I1 q1) λiv s2 ⟨y,H2,I2,ry,q2⟩ =>
  Calls.spliced_cons (aM (hf pins s2 σ H2 _ I2 q2) λfv s3 ⟨z,H3,I3,rz,ov,g,q3⟩=>Calls.spliced_nil ?_))))
 exact HC hu I3 g ry rz λw' s4 I4 aC=>⟨_,H3,I4,aC,q3⟩
end
section
variable {X:Cx} {pins:List (Addr×Obj)} {σ:St} {H:Hp} {s:W1} {a:Addr} {aa:List (Key×V)} {A:Wl} {E:Value->W1->Prop}
end
section
variable {X:Cx} {pins:List (Addr×Obj)} {σ:St} {H:Hp} {s:W1} {a:Addr} {y:V} {u:Value} {A:Wl} {E:Value->W1->Prop}
end
end L2
namespace Att
open PySem PySem.W PySem.Calls PyProof.Rows
theorem HI:∀ (ns:List Int) (vs:List Value),WellAll P h vs (ns.map WData.int)->IntsAre vs ns:=by
 intro ns;induction ns with
 | nil =>
  intro vs w;rw[List.map_nil] at w
  cases w;exact .nil
 | cons n ns ih =>
  intro vs w;rw[Wk] at w
  cases w with
  | cons a b =>
   cases a;exact .cons _ _ (ih _ b)
theorem HJ{l:OpenLaw}{n:Nat}(hn:l.most=some n){P:Params}{h:Heap}{args:List WData}{vals:List Value}
  (qU:l.row.toRowW.claim.pre args=true) (um:WellAll P h vals args) :
  ∃ a vs ns,vals=[Value.ref a]/\args=[WData.list (ns.map WData.int)]/\h.get? a=some { cls:=.type "list",data:=.seq vs.toArray }/\IntsAre vs ns/\ns.length<=n:=by
 have HL:WShape.hasAll [] args [.list .int]=true:=(pre_splitW qU).1;have hc:l.pre.holds [] { args:=args } = true:=(pre_splitW qU).2;obtain⟨d,r,rfl,h1,h2⟩:=hasAllW_cons HL;obtain rfl:=hasAllW_nil h2;obtain⟨xs,rfl,h3⟩:=hasW_list h1;obtain⟨ns,rfl⟩:=items_int h3;have hlen:ns.length<=n:=by
  unfold OpenLaw.pre at hc;have h4:(WTm.not (.lt (.lit (.int (n:Int))) (.len (.arg 0)))).holds [] { args:=[.list (ns.map .int)] } = true:=by
   have h4:=(holds_andW hc).1;rw[hn] at h4;exact h4
  have h5:=condW_of h4 (w_not (w_lt w_lit (w_len_list (w_arg rfl))));rw[Wz] at h5;refine Nat.le_of_not_lt λq=>?_
  have q':(n:Int) < ((ns.length:Nat):Int):=by omega
  first
   | (rw[decide_eq_true q'] at h5; exact absurd h5 (by decide))
   | (simp at h5; omega)
 cases um with
 | cons w1 w2 =>
  cases w2
  cases w1 with
  | list ho hall=>exact⟨_,_,ns,rfl,rfl,ho,HI ns _ hall,hlen⟩
theorem HM(l:OpenLaw)(args:List WData):l.row.toRowW.claim.post args (.bool true) args=true :=
 postW_of (r:=l.row.toRowW) (X:=(true == true))
  (show WShape.has [] (.bool true) .bool=true by first | rfl | decide | simp[WShape.has,WShape.arms,WShape.armsAll])
  (show(WTm.eq .res (.lit (.bool true))).value [] { args:=args,res:=some (.bool true),after:=args } = some (.bool (true == true)) from w_eq_bool (w_res rfl) w_lit) rfl
theorem HP{l:OpenLaw}{n:Nat}{q:Wg}{loose:List Str}{XP:(Str->Option Value)->Heap->Prop}{YP:Wh->Heap->Prop}{d:DefRec}
  (hn:l.most=some n) (ow:d.params.defaults=[])
  (call:∀ (w:Wh) (s₀ s₁:W1) (mg mb:Str->Option Value) (fa:Addr) (o:Obj) (pm cd doc:Value) (a:Addr) (vs:List Value) (ns:List Int),
   Ground q loose [] XP w s₀ mg mb s₁.heap->YP w s₁.heap ->
   s₁.heap.get? fa=some o->o.data = .func (docDef d.name d.params d.body d.scope pm cd doc)->s₁.heap.CodeRec cd d.name->mg d.name=some (.ref fa) ->
   s₁.heap.get? a=some { cls:=.type "list",data:=.seq vs.toArray }->IntsAre vs ns->ns.length<=n->s₁.gens = #[] ->
   Qq (model l.prog w) callerA (.call (.ref fa) ⟨[.ref a],[]⟩) (λr s'=>r = .ok (.ret (.bool true))/\OldK s₁.heap s'.heap/\s'.os=s₁.os/\AllBare s'.gens) s₁) :
  WalkO q loose XP YP l.row.toRowW d [] (λf vs=>PySem.call f vs):=by
 intro w s₀ s₁ mg mb G Y fa o pm cd doc dV kV ho hd dj hD oy hg args vals as qU hlay hrd um hlo;obtain rfl:dV = .none:=Dflts.none hD ow;obtain rfl:kV = .none:=Dflts.noKw hD;obtain⟨a,vs,ns,rfl,rfl,uo,hints,hlen⟩:=HJ hn qU um;refine enter_call (Js (call w s₀ s₁ mg mb fa o pm cd doc a vs ns G Y ho (fd_plain hd) dj oy uo hints hlen hg) λr s' hq=>?_);obtain⟨rfl,h2,h3,h4⟩:=hq;exact⟨.inl ⟨.bool true,.bool true,[],rfl,λ_=>rfl,.bool true,HM l _,λ_=>⟨List.Pairwise.nil,λ_ hm=>(nomatch hm)⟩⟩,h2,h3,h4⟩
section
variable {prog:Wg} {w:Wh} {A:Wl} {E:Value->W1->Prop} {s:W1} {K:Frag}
end
end Att
namespace L2
open PySem PySem.Spec PyProof.Rows
theorem qV:∀ {vs:List Value} {ns:List Int},IntsAre vs ns->Vals (ns.map V.int) vs
 | _,_,.nil=>.nil
 | _,_,.cons n t h=>.cons ⟨t,rfl⟩ (qV h)
def uq(H:Hp):Prop:=∀ b,H b=none\/∃ o xs,H b=some (.frz o (.lst xs))
theorem HQ{P:Wg}{w:Wh}{K:W2}{mg mb:Str->Option Value}{CX:g5}{k:Nat}{fa a:Addr}{fd:WD}{x:Str}{sp:Sp}{s₁:W1}{vs:List Value}{ns:List Int}
  (KX:K.In s₁.heap) (Ac:s₁.heap.Ns Wr mg) (hb:s₁.heap.Ns builtinsNs mb) (HR:∀ x:Str,x≠"__name__"->mb x=Qg x) (HS:s₁.heap.NoLimit) (hg:s₁.gens = #[])
  (ha:s₁.heap.get? a=some { cls:=.type "list",data:=.seq vs.toArray }) (hi:IntsAre vs ns) (hl:ns.length<=Wb) (hr:bX k callerA)
  (F:∀ base:Heap,K.In base->base.Ns Wr mg->eC P w K mg base CX k fa fd [x] sp) (HU:∀ (s:W1) (u:Value),BindsTo s fd ⟨[u],[]⟩ [(x,u)])
  (iB:∀ H:Hp,uq H->ck K H a (ns.map V.int)->sp [.ref a] H (λv _=>v = .bl true) λ_ _ _=>False)
  (ur:∀ H e s',CX [] H s₁ (λ_ _ _=>False) e s'->False) :
  Qq (model P w) callerA (.call (.ref fa) ⟨[.ref a],[]⟩) (λr s'=>r = .ok (.ret (.bool true))/\OldK s₁.heap s'.heap/\s'.os=s₁.os/\AllBare s'.gens) s₁:=by
 have rv:=qV hi;have HW:=hi.length;-- from an abstract heap in which nothing but the script may be tracked
 have core:∀ H:Hp,uq H->ck K H a (ns.map V.int)->bW P w H s₁.heap->(∀ b,H b≠none->b=a)->(H a≠none->K.lookup a=none) ->
   Qq (model P w) callerA (.call (.ref fa) ⟨[.ref a],[]⟩) (λr s'=>r = .ok (.ret (.bool true))/\OldK s₁.heap s'.heap/\s'.os=s₁.os/\AllBare s'.gens) s₁:=by
  intro H hO hS ah hA hK;have Ad:∀ {b:Addr} {o:Obj},s₁.heap.get? b=some o->H b=none->(jE s₁.heap H).get? b=some o:=λe n=>Fd e n
  have ot:∀ {b:Addr} {o:Obj} {es:Array DictEntry} {ep:Nat},s₁.heap.get? b=some o->o.data = .dict es ep->H b=none:=λ{b o es ep} e d=>by
   cases q:H b with
   | none=>rfl
   | some u =>
    have e':b=a:=hA b (by rw[q]; simp);subst e';rw[ha] at e; cases e
    have d':Data.seq vs.toArray _=Data.dict es ep:=d
    cases d'
  have qW:∀ {b:Addr} {m:Str->Option Value},s₁.heap.Ns b m->(jE s₁.heap H).Ns b m:=λ{b m} ⟨o,es,ep,e,d,r⟩=>⟨o,es,ep,Ad e (ot e d),d,r⟩
  have Ae:K.In (jE s₁.heap H):=λb o e=>Ad (KX b o e) (by
   cases q:H b with
   | none=>rfl
   | some u =>
    have e':b=a:=hA b (by rw[q]; simp);subst e';rw[hK (by rw[q]; simp)] at e; cases e)
  have hM:Mod K mg (jE s₁.heap H):=⟨Ae,qW Ac,⟨mb,qW hb,HR⟩,let ⟨mc,h1,h2⟩:=HS; ⟨mc,qW h1,h2⟩⟩
  have e0:i7 P w K mg (jE s₁.heap H) callerA [] s₁ H:=⟨rfl,hM,λb o e=>Fe e,Nat.le_of_eq (Fb _ _),trivial,λb hb=>absurd (show b ∈ ([]:List Addr) from hb) (by simp),ah,.of_eq hg⟩
  refine Js ((F _ Ae (qW Ac)).run callerA [] s₁ H ⟨[.ref a],[]⟩ [.ref a] [.ref a] _ _ hr e0 (HU s₁ (.ref a)) (.cons rfl .nil) (iB H hO hS)) λr s' h=>?_
  cases r with
  | error e=>exact(ur H e s' h).elim
  | ok fl =>
   cases fl with
   | next=>exact False.elim h
   | brk=>exact False.elim h
   | cont=>exact False.elim h
   | ret u =>
    obtain⟨v,H',os,bare,un,hok',r',q⟩:=h;have q':v = .bl true:=q;subst q';obtain rfl:u=Value.bool true:=r';refine⟨rfl,OldK.of_keep λb o e=>?_,os,bare⟩
    cases q:H b with
    | none=>exact un.keep b o e q (by intro z; exact absurd (show b ∈ ([]:List Addr) from z) (by simp)) (by simp)
    | some u =>
     rcases hO b with z | ⟨ob,xs,z⟩
     ·rw[q] at z; cases z
     ·have z2:=un.gy b ob _ z;obtain⟨e1,_⟩:=ah b _ z;obtain⟨e2,_⟩:=hok' b _ z2;rw[e] at e1; cases e1
      exact e2
 cases hk:K.lookup a with
 | some o =>
  -- the script is one of the module's own objects
  have e:=KX a o hk;rw[ha] at e
  cases e;refine core (λ_=>none) (λ_=>.inl rfl) (.inr ⟨_,vs.toArray,_,hk,rfl,rfl,rfl,by rw[Wp,HW]; exact hl,by simpa using rv⟩) (λb u z=>by have z':(none:Option HO)=some u:=z; cases z') (λb z=>absurd rfl z) λz=>absurd rfl z
 | none =>
  refine core (λb=>if b=a then some (.frz { cls:=.type "list",data:=.seq vs.toArray } (.lst (ns.map V.int))) else none) (λb=>?_) (.inl (.inr ⟨{ cls:=.type "list",data:=.seq vs.toArray },if_pos rfl⟩)) (λb u z=>?_) (λb z=>?_) λ_=>hk
  ·by_cases hb:b=a
   ·exact .inr ⟨_,_,if_pos hb⟩
   ·exact .inl (if_neg hb)
  ·by_cases hb:b=a
   ·have z':=(if_pos hb).symm.trans z
    cases z';subst hb;exact⟨ha,by rw[Wz]; exact hl,vs,_,rv,ha⟩
   ·have z':=(if_neg hb).symm.trans z
    cases z'
  ·by_cases hb:b=a
   ·exact hb
   ·exact absurd (if_neg hb) z
abbrev Sx{K:W2}{h:Heap}(_:K.In h):W2:=K
theorem HX{l:PySem.W.OpenLaw}{n k:Nat}{q:Wg}{loose:List Str}{XP:(Str->Option Value)->Heap->Prop}{YP:Wh->Heap->Prop}{d:DefRec}{K:Params->W2}{CX:Wh->g5}{sp:Wh->Sp}{x:Str}
  (hn:l.most=some n) (HY:n<=Wb) (ow:d.params.defaults=[]) (hr:bX k callerA)
  (hY:∀ (w:Wh) (h:Heap),YP w h->(K w.params).In h)
  (F:∀ (w:Wh) (mg:Str->Option Value) (fa:Addr) (h:Heap),(K w.params).In h->h.Ns Wr mg->mg d.name=some (.ref fa) ->
   ∃ fd:WD,(∀ (s:W1) (u:Value),BindsTo s fd ⟨[u],[]⟩ [(x,u)]) /\
    ∀ base:Heap,(K w.params).In base->base.Ns Wr mg->eC l.prog w (K w.params) mg base (CX w) k fa fd [x] (sp w))
  (iB:∀ (w:Wh) (H:Hp) (a:Addr) (ns:List Int),ns.length<=n->uq H->ck (K w.params) H a (ns.map V.int)->sp w [.ref a] H (λv _=>v = .bl true) λ_ _ _=>False)
  (ur:∀ (w:Wh) (H:Hp) (s:W1) (e:Value) (s':W1),CX w [] H s (λ_ _ _=>False) e s'->False) :
  PySem.W.WalkO q loose XP YP l.row.toRowW d [] (λf vs=>PySem.call f vs):=by
 refine Att.HP hn ow λw s₀ s₁ mg mb fa o pm cd doc a vs ns G Y ho hd dj oy uo hints hlen hg=>?_
 have KX:=hY w _ Y;obtain⟨fd,hb,hF⟩:=F w mg fa _ KX G.T.g oy;exact HQ KX G.T.g G.T.b G.T.builtins G.T.nolimit hg uo hints (Q2 hlen HY) hr hF hb (λH hO hS=>iB w H a ns hlen hO hS) λH e s'=>ur w H s₁ e s'
def jL(s:Stmt):Arguments:=match s with
 | .FunctionDef _ a _ _ _ _ _ _ _ _=>a
 | _=>{ posonlyargs:=[],args:=[],vararg:=none,kwonlyargs:=[],kw_defaults:=[],kwarg:=none,defaults:=[] }
def fm(s:Stmt):List Stmt:=match s with
 | .FunctionDef _ _ b _ _ _ _ _ _ _=>b
 | _=>[]
def bf(s:Stmt):Scope:=match s with
 | .FunctionDef _ _ _ _ _ _ sc _ _ _=>sc
 | _=>{ kind:=.function,names:=[],isGenerator:=false,isCoroutine:=false }
abbrev dm:g5:=λ_ _ _ _ _ _=>False
abbrev E0:XK:=λ_ _ _=>False
theorem HZ:t9 dm X E0:=λ_ _ _ _ _ _ _ h=>h.elim
structure bV(K:W2)(x qual:Str)(st:Stmt)(f:Addr)(fd:WD):Prop where
 ex:∃ (oc:Value) (od:Option Addr) (kV doc pm:Value) (an:Option Addr) (aO ct:Value) (i_:Array (Option Value)),
  fd=Qs x qual (jL st) (fm st) (bf st) .none kV doc pm an aO ct/\K.lookup f=some ⟨oc,od,.func fd,i_⟩/\PySem.W.codeIn K aO qual=true
 kp:Qa K (.ref f)=true
section
variable {P:Wg} {w:Wh} {K:W2} {mg:Str->Option Value} {base:Heap}
theorem bV.ok{x qual:Str}{st:Stmt}{f:Addr}{fd:WD}{N ps:List Str}{k:Nat}{sp:Sp}(F:bV K x qual st f fd)(S:cu N ps (bf st))(len:∀ vs H Q E,sp vs H Q E->vs.length=ps.length)
  (eE:∀ (aO:Value) (A:Wl) (outer:List Env) (s:W1) (H:Hp) (vs:List V) (Q:VK) (E:XK),bX k (A.deeper (QU qual (bf st) s.heap.objs.size f aO))->sp vs H Q E ->
   ∃ t,di (fj dm P w K mg base N qual (bf st) f aO A outer s H E).i5 (fm st) t/\t { nx:=λ_ H'=>Q .aw H',rt:=Q } (start N vs) H):eC P w K mg base dm (k + 1) f fd ps sp:=by
 obtain⟨oc,od,kV,doc,pm,an,aO,ct,i_,rfl,lk,dj⟩:=F.ex;refine zK lk dj S len λA outer s H vs Q E hr iB=>?_
 obtain⟨t,h,q⟩:=eE aO A outer s H vs Q E hr iB;exact⟨t,h.i5,q⟩
theorem bV.binds{x qual:Str}{st:Stmt}{f:Addr}{fd:WD}{ps:List Str}(F:bV K x qual st f fd)
  (h:∀ (kV doc pm:Value) (an:Option Addr) (aO ct:Value) (us:List Value),us.length=ps.length->bindArgs (Qs x qual (jL st) (fm st) (bf st) .none kV doc pm an aO ct) ⟨us,[]⟩=pure (ps.zip us)):Binds K fd ps []:=by
 obtain⟨oc,od,kV,doc,pm,an,aO,ct,i_,rfl,lk,dj⟩:=F.ex;exact .all (h kV doc pm an aO ct)
theorem uu{x qual:Str}{st:Stmt}{f:Addr}{oc:Value}{od an:Option Addr}{i_:Array (Option Value)}{kV doc pm aO ct:Value}(l:K.lookup f=some ⟨oc,od,.func (Qs x qual (jL st) (fm st) (bf st) .none kV doc pm an aO ct),i_⟩)
  (c:PySem.W.codeIn K aO qual=true) (k:Qa K (.ref f)=true):bV K x qual st f (Qs x qual (jL st) (fm st) (bf st) .none kV doc pm an aO ct):=⟨⟨oc,od,kV,doc,pm,an,aO,ct,i_,rfl,l,c⟩,k⟩
end
theorem H_(h:n<=1000):n < Wb:=Nat.lt_of_le_of_lt h (by decide)
section
variable {X:Cx}
theorem pv (i:Nat) (hN:X.N[i]? = some x:=by rfl) (hv:qy X.env.scope x:=by first | exact Or.inl rfl | exact Or.inr (Or.inl rfl) | exact Or.inr (Or.inr rfl)) (hd:(x == ("__debug__" : Str))=false:=by decide)
  (dj:(x == ("__classdict__" : Str))=false:=by decide):PE X (.Name x pos) (da i):=Fj hN hv hd dj
theorem Ia:eS X (.builtin "len") (λxs H Q=>∃ a aa,xs=[V.ref a]/\H a=some (.dK aa)/\Q (.int aa.length) H):=by
 intro pins s σ H xs us Q I r h;obtain⟨a,aa,rfl,ha,q⟩:=h;obtain⟨u,rfl,ru⟩:=i6 r
 cases ru;exact Hz I (.inl ha) λt s' I'=>⟨.int aa.length,H,I',⟨t,rfl⟩,q⟩
end
section
variable {κ:Type} [DecidableEq κ]
end
def fo(cells:List (Str×Addr)):List (Str×NameKind)->List (Str×Addr)->List (Str×Addr)
 | [],acc=>acc
 | (n,k) :: r,acc=>fo cells r (if k == .free then(match cells.lookup n with | some a=>(n,a) :: acc | none=>acc) else acc)
theorem uv(f:Str×NameKind->List (Str×Addr)->Sem (ForInStep (List (Str×Addr))))
  (hf:∀ name kind cs,f (name,kind) cs=if kind == .free then(do let a <- cellOf env name; pure (.yield ((name,a) :: cs))) else pure (.yield cs)) :
  ∀ (names:List (Str×NameKind)) (acc:List (Str×Addr)),(∀ x ∈ names,x.2=NameKind.free->∃ c,env.cells.lookup x.1=some c)->(forIn names acc f:Sem (List (Str×Addr)))=pure (fo env.cells names acc)
 | [],acc,_=>by rw[List.forIn_nil]; rfl
 | (n,k) :: r,acc,h=>by
  rw[List.forIn_cons,hf];unfold fo;by_cases hk:(k == NameKind.free)=true
  ·obtain⟨c,hc⟩:=h (n,k) Wj (by simpa using hk);have iy:env.cells.lookup n=some c:=hc;have e:cellOf env n=pure c:=by unfold cellOf; rw[iy]
   rw[if_pos hk,if_pos hk,e,iy];exact uv f hf r _ λx hx=>h x (Wd _ hx)
  ·rw[if_neg hk,if_neg hk];exact uv f hf r _ λx hx=>h x (Wd _ hx)
theorem Ib(h:∀ x ∈ scope.names,x.2=NameKind.free->∃ c,env.cells.lookup x.1=some c):closureFor scope env=pure (fo env.cells scope.names []):=by
 unfold closureFor;dsimp only;rw[uv (env:=env) _ (λname kind cs=>by cases hkc:kind == NameKind.free <;> simp[hkc]) scope.names [] h];rfl
theorem Af:∀ (names:List (Str×NameKind)) (acc:List (Str×Addr)),(n,c) ∈ fo cells names acc->(n,c) ∈ acc\/((n,NameKind.free) ∈ names/\cells.lookup n=some c)
 | [],acc,h=>.inl h
 | (y,k) :: r,acc,h=>by
  unfold fo at h;rcases Af r _ h with q | ⟨q,e⟩
  ·by_cases hk:(k == NameKind.free)=true
   ·rw[if_pos hk] at q;have lS:k=NameKind.free:=by simpa using hk
    cases e:cells.lookup y with
    | none=>rw[e] at q; exact .inl q
    | some a =>
     rw[e] at q;rcases Wo.mp q with z | z
     ·cases z;exact .inr ⟨by rw[lS]; exact Wj,e⟩
     ·exact .inl z
   ·rw[if_neg hk] at q; exact .inl q
  ·exact .inr ⟨Wd _ q,e⟩
theorem Ag:∀ (names:List (Str×NameKind)) (acc:List (Str×Addr)),(acc.lookup n).isSome=true\/((n,NameKind.free) ∈ names/\(cells.lookup n).isSome=true)->((fo cells names acc).lookup n).isSome=true
 | [],acc,h=>h.elim id λz=>absurd z.1 (by simp)
 | (y,k) :: r,acc,h=>by
  unfold fo;apply Ag r;by_cases hk:(k == NameKind.free)=true
  ·rw[if_pos hk]
   cases e:cells.lookup y with
   | none =>
    rcases h with h | ⟨h1,h2⟩
    ·exact .inl h
    ·rcases Wo.mp h1 with z | z
     ·cases z;rw[e] at h2; cases h2
     ·exact .inr ⟨z,h2⟩
   | some a =>
    by_cases hn:(n == y)=true
    ·refine .inl ?_;show(List.lookup n ((y,a) :: acc)).isSome=true;rw[WY,hn];rfl
    ·rcases h with h | ⟨h1,h2⟩
     ·refine .inl ?_;show(List.lookup n ((y,a) :: acc)).isSome=true;have kF:(n == y)=false:=by simpa using hn
      rw[WY,kF];exact h
     ·rcases Wo.mp h1 with z | z
      ·cases z;exact absurd (by simp) hn
      ·exact .inr ⟨z,h2⟩
  ·rw[if_neg hk];rcases h with h | ⟨h1,h2⟩
   ·exact .inl h
   ·rcases Wo.mp h1 with z | z
    ·cases z;exact absurd rfl hk
    ·exact .inr ⟨z,h2⟩
theorem uw:∀ (names:List (Str×NameKind)) (h:Heap) (acc:List (Str×Addr)),(n,c) ∈ Qn h.objs.size names acc ->
  (n,c) ∈ acc\/((n,NameKind.cell) ∈ names/\h.objs.size<=c/\(Jt h names).IsCell c none)
 | [],_,_,h=>.inl h
 | (y,k) :: r,h,acc,hm=>by
  unfold Qn at hm;unfold Jt;by_cases hk:(k == NameKind.cell)=true
  ·rw[if_pos hk] at hm;rw[if_pos hk];have lS:k=NameKind.cell:=by simpa using hk
   have sz:(h.push { cls:=.type "cell",data:=.cell none }).objs.size=h.objs.size + 1:=QS ..;rw[<- sz] at hm;rcases uw r _ _ hm with q | ⟨q1,q2,q3⟩
   ·rcases Wo.mp q with z | z
    ·cases z;refine .inr ⟨by rw[lS]; exact Wj,Wf _,?_⟩;exact Heap.IsCell.keeps ⟨_,Wn _ rfl,rfl⟩ (pushCells_keeps r _)
    ·exact .inl z
   ·exact .inr ⟨Wd _ q1,by rw[sz] at q2; omega,q3⟩
  ·rw[if_neg hk] at hm;rw[if_neg hk];rcases uw r _ _ hm with q | ⟨q1,q2,q3⟩
   ·exact .inl q
   ·exact .inr ⟨Wd _ q1,q2,q3⟩
theorem ux:∀ (names:List (Str×NameKind)) (k:Nat) (acc:List (Str×Addr)),(∀ n n' c,(n,c) ∈ acc->(n',c) ∈ acc->n=n')->(∀ n c,(n,c) ∈ acc->c < k) ->
  ∀ n n' c,(n,c) ∈ Qn k names acc->(n',c) ∈ Qn k names acc->n=n'
 | [],_,_,h,_=>h
 | (y,kd) :: r,k,acc,h,hb=>by
  unfold Qn;by_cases hk:(kd == NameKind.cell)=true
  ·rw[if_pos hk];refine ux r (k + 1) _ (λn n' c h1 h2=>?_) λn c hm=>?_
   ·rcases Wo.mp h1 with e | h1 <;> rcases Wo.mp h2 with e' | h2
    ·cases e; cases e'; rfl
    ·cases e; exact absurd (hb _ _ h2) (Qk _)
    ·cases e'; exact absurd (hb _ _ h1) (Qk _)
    ·exact h n n' c h1 h2
   ·rcases Wo.mp hm with e | hm
    ·cases e; exact Nat.lt_succ_self _
    ·exact JI (hb _ _ hm)
  ·rw[if_neg hk];exact ux r k acc h hb
theorem lT{env:Env}{x:Str}:∀ {names:List (Str×NameKind)} {k:NameKind},
  (names.map λ(y:Str×NameKind)=>if (y.2 == NameKind.free && env.scope.kind == .function && env.kindOf y.1 == some .cell) then(y.1,NameKind.cell) else(y.1,y.2)).lookup x=some k ->
  names.lookup x=some k\/(k=NameKind.cell/\names.lookup x=some .free)
 | [],_,h=>by simp at h
 | (n,kd) :: r,k,h=>by
  rw[Wk] at h;have ih:=@lT env x r k
  cases hx:x == n with
  | true =>
   by_cases hc:(kd == NameKind.free && env.scope.kind == .function && env.kindOf n == some .cell)=true
   ·rw[if_pos hc,WY,hx] at h
    cases h;simp only[Wm] at hc;have:kd=NameKind.free:=by simpa using hc.1.1
    exact .inr ⟨rfl,by rw[WY,hx,this]⟩
   ·rw[if_neg hc,WY,hx] at h
    cases h;exact .inl (by rw[WY,hx])
  | false =>
   have h':(r.map λ(y:Str×NameKind)=>if (y.2 == NameKind.free && env.scope.kind == .function && env.kindOf y.1 == some .cell) then(y.1,NameKind.cell) else(y.1,y.2)).lookup x=some k:=by
    by_cases hc:(kd == NameKind.free && env.scope.kind == .function && env.kindOf n == some .cell)=true
    ·rw[if_pos hc,WY,hx] at h; exact h
    ·rw[if_neg hc,WY,hx] at h; exact h
   rw[WY,hx];exact ih h'
def gG(X:Cx)(scope:Scope)(s₀:W1)(H₀:Hp)(ex:List Addr):Cx :=
 { X with
  env:={ scope:=relabel scope X.env,locals:=s₀.heap.objs.size,globals:=X.env.globals,cells:=Qn (s₀.heap.objs.size + 1) scope.names (fo X.env.cells scope.names []),qual:=X.env.qual,func:=none,code:=X.env.code,frame:=X.env.frame,builtins:=X.env.builtins }
  s₀:=s₀
  H₀:=H₀
  outer:=X.stack
  ex:=ex
  fn:=λx=>scope.names.lookup x == some .cell
  pn:=[]
  xe:=λ_ _=>False }
structure oz(X:Cx)(scope:Scope)(cs:List Nat):Prop where
 kind:scope.kind = .function
 names:∀ x ∈ scope.names,x.2 = .local->scope.names.lookup x.1=some .local
 free:∀ x ∈ scope.names,x.2 = .free->X.env.kindOf x.1=some .cell\/X.env.kindOf x.1=some .free
 nd:(scope.names.map (·.1)).Nodup
 own:∀ (i:Nat) x,X.N[i]? = some x->scope.names.lookup x=some .local\/scope.names.lookup x=some .cell->i ∈ cs
def bu(cs:List Nat)(σ:St):St:=cs.foldl (λσ i=>σ.set i none) σ
theorem qX(cs:List Nat):∀ σ:St,(bu cs σ).length=σ.length:=by
 induction cs with
 | nil=>intro σ; rfl
 | cons i r ih =>
  intro σ;show(bu r (σ.set i none)).length=_;rw[ih]; simp
theorem kQ:∀ (cs:List Nat) (σ:St) (i:Nat) (v:V),(bu cs σ)[i]? = some (some v)->σ[i]? = some (some v)/\i ∉ cs:=by
 intro cs;induction cs with
 | nil=>intro σ i v h; exact⟨h,by simp⟩
 | cons j r ih =>
  intro σ i v h;have h':(bu r (σ.set j none))[i]? = some (some v):=h;obtain⟨h1,h2⟩:=ih _ i v h';by_cases e:j=i
  ·subst e;rw[WL] at h1;simp at h1
  ·rw[W5 e] at h1;exact⟨h1,by simp only[Wo,not_or]; exact⟨Ne.symm e,h2⟩⟩
theorem uy:∀ {l:List (Str×α)},(l.map (·.1)).Nodup->(x,k) ∈ l->(x,k') ∈ l->k=k'
 | (y,j) :: r,nd,h1,h2=>by
  rw[Wk,Q4] at nd;rcases Wo.mp h1 with e | g1 <;> rcases Wo.mp h2 with e' | g2
  ·cases e; cases e'; rfl
  ·cases e; exact absurd (Q0 (f:=(·.1)) g2) nd.1
  ·cases e'; exact absurd (Q0 (f:=(·.1)) g1) nd.1
  ·exact uy nd.2 g1 g2
section
variable {X:Cx} {pins:List (Addr×Obj)} {σ:St} {H:Hp} {s:W1} {scope:Scope} {cs:List Nat} {fp:List Addr}
theorem Ic(I:Inv X pins σ H s)(S:oz X scope cs)(hf:∀ b ∈ fp,fF X pins H b)(aY:∀ b ∈ fp,b < s.heap.objs.size) :
  Inv (gG X scope s H fp) [] (bu cs σ) H { s with heap:=Jt (s.heap.push { cls:=.type "dict",data:=.dict #[] }) scope.names }:=by
 have sz:(s.heap.push { cls:=.type "dict",data:=.dict #[] }).objs.size=s.heap.objs.size + 1:=QS ..;have kp:∀ b o,s.heap.get? b=some o->(Jt (s.heap.push { cls:=.type "dict",data:=.dict #[] }) scope.names).get? b=some o:=λb o e=>pushCells_keeps _ _ b o (W6 _ e)
 have qY:∀ n c,(n,c) ∈ fo X.env.cells scope.names []->(n,NameKind.free) ∈ scope.names/\X.env.cells.lookup n=some c:=λn c h=>(Af _ _ h).elim (λz=>absurd z (by simp)) id
 have Ie:∀ n c,(n,c) ∈ fo X.env.cells scope.names []->c < s.heap.objs.size:=λn c h=>by
  obtain⟨v,q⟩:=I.cell n c (qY n c h).2;exact q.lt
 have jb:∀ n c,(n,c) ∈ Qn (s.heap.objs.size + 1) scope.names (fo X.env.cells scope.names []) ->
   ((n,NameKind.free) ∈ scope.names/\X.env.cells.lookup n=some c)\/((n,NameKind.cell) ∈ scope.names/\s.heap.objs.size + 1<=c/\(Jt (s.heap.push { cls:=.type "dict",data:=.dict #[] }) scope.names).IsCell c none):=λn c h=>by
  rw[<- sz] at h;rcases uw _ _ _ h with q | q
  ·exact .inl (qY n c q)
  ·rw[sz] at q; exact .inr q
 have Ig:=ux scope.names (s.heap.objs.size + 1) (fo X.env.cells scope.names []) (λn n' c h1 h2=>I.ok.inj n n' c (qY n c h1).2 (qY n' c h2).2) (λn c h=>JI (Ie n c h));have uz:∀ x ∈ scope.names,x.2 = .free->∃ c,X.env.cells.lookup x.1=some c:=λx hx hk=>I.ok.has x.1 (S.free x hx hk)
 have Ih:∀ b ∈ fp,b ∉ dQ X.stack:=λb hb z=>by
  obtain⟨_,f1,f2,_⟩:=hf b hb;rcases Wo.mp (I.qz b z) with e | e
  ·exact f1 e
  ·exact f2 e
 have Ii:∀ x,(gG X scope s H fp).env.kindOf x=some .cell\/(gG X scope s H fp).env.kindOf x=some .free->scope.names.lookup x=some .cell\/scope.names.lookup x=some .free:=λx h=>by
  rcases h with h | h
  ·have h':(relabel scope X.env).names.lookup x=some .cell:=h;rcases lT (env:=X.env) (names:=scope.names) h' with q | ⟨_,q⟩
   ·exact .inl q
   ·exact .inr q
  ·have h':(relabel scope X.env).names.lookup x=some .free:=h;rcases lT (env:=X.env) (names:=scope.names) h' with q | ⟨q,_⟩
   ·exact .inr q
   ·cases q
 have Ah:∀ x,scope.names.lookup x=some .cell\/scope.names.lookup x=some .free->∃ c,(Qn (s.heap.objs.size + 1) scope.names (fo X.env.cells scope.names [])).lookup x=some c:=λx h=>by
  refine QB.mp (Jc scope.names _ _ ?_);rcases h with h | h
  ·exact .inl h
  ·refine .inr (Ag _ _ (.inr ⟨Wt h,?_⟩));obtain⟨c,hc⟩:=uz _ (Wt h) rfl;exact Option.isSome_iff_exists.mpr ⟨c,hc⟩
 have Ij:(Jt (s.heap.push { cls:=.type "dict",data:=.dict #[] }) scope.names).Ns s.heap.objs.size λ_=>none:=(Heap.Ns.new s.heap (.type "dict")).keeps (pushCells_keeps _ _)
 refine⟨⟨I.ok.mod,S.kind,I.ok.glob,I.ok.blt,Wf _,λy z c h1 h2=>Ig y z c (Wt h1) (Wt h2),λx hx=>Ah x (Ii x hx),λx c iw h=>?_,I.ok.hd,I.ok.frames,.inl rfl,
  λb hb=>⟨Wv (aY b hb),λx c h e=>?_⟩,I.bs,Q2 I.ok.gz I.sz,λb o e hb=>?_,Ih,I.stack,I.qA⟩,
  rfl,I.bare,Un.kept kp,⟨λ_=>none,Ij,λi x v h1 h2 h3=>?_⟩,λx c h=>?_,I.ah.fresh (Wf _),λx c h=>?_,λp hp=>absurd (show p ∈ ([]:List (Addr×Obj)) from hp) (by simp),I.ah.kept kp,(qX cs σ).trans I.len⟩
 ·rcases jb x c (Wt h) with q | q
  ·have Ik:scope.names.lookup x=some .cell:=by
    have:(scope.names.lookup x == some .cell)=true:=iw;exact eq_of_beq this
   have:=uy S.nd q.1 (Wt Ik)
   cases this
  ·exact Nat.le_of_succ_le q.2.1
 ·subst e;rcases jb x c (Wt h) with q | q
  ·exact(hf c hb).2.2.2.2.1 x c q.2 rfl
  ·exact absurd (Wu (aY c hb) (Nat.le_of_succ_le q.2.1)) (Qk _)
 ·obtain⟨_,_,_,f3,_⟩:=hf b hb;rcases f3 with z | z
  ·exact I.ok.kA b o e z
  ·exact absurd (Wu (Wi (I.ok.bs b o e).1) z) (Qk _)
 ·obtain⟨h2',hni⟩:=kQ cs σ i v h2;have Ai:¬ (scope.names.lookup x=some .local\/scope.names.lookup x=some .cell):=λz=>hni (S.own i x h1 z)
  have lN:scope.names.lookup x=some .free:=by
   rcases h3 with h3 | h3 | h3
   ·rcases lT (env:=X.env) (names:=scope.names) h3 with q | ⟨q,_⟩
    ·exact absurd (.inl q) Ai
    ·cases q
   ·rcases lT (env:=X.env) (names:=scope.names) h3 with q | ⟨_,q⟩
    ·exact absurd (.inr q) Ai
    ·exact q
   ·rcases lT (env:=X.env) (names:=scope.names) h3 with q | ⟨q,_⟩
    ·exact q
    ·cases q
  have hk:=S.free _ (Wt lN) rfl;obtain⟨m,hn,hl⟩:=I.loc;have Il:qy X.env.scope x:=by
   rcases hk with hk | hk
   ·exact .inr (.inl hk)
   ·exact .inr (.inr hk)
  obtain⟨u,r,l⟩:=hl i x v h1 h2' Il;refine⟨u,r,?_⟩;rcases l with ⟨k,_⟩ | ⟨_,c,hc,hcell⟩
  ·have k':X.env.kindOf x=some .local:=k;rcases hk with hk | hk
   ·rw[show X.env.kindOf x=some .cell from hk] at k'; cases k'
   ·rw[show X.env.kindOf x=some .free from hk] at k'; cases k'
  ·obtain⟨c',iy⟩:=Ah x (.inr lN);have e:c'=c:=by
    rcases jb x c' (Wt iy) with q | q
    ·have q2:=q.2;rw[hc] at q2; exact(Ws q2).symm
    ·have:=uy S.nd q.1 (Wt lN)
     cases this
   subst e;refine .inr ⟨?_,c',iy,hcell.keeps kp⟩;rcases h3 with h3 | h3 | h3
   ·rcases lT (env:=X.env) (names:=scope.names) h3 with q | ⟨q,_⟩
    ·rw[lN] at q; cases q
    ·cases q
   ·exact .inl h3
   ·exact .inr h3
 ·rcases jb x c (Wt h) with q | q
  ·obtain⟨v,z⟩:=I.cell x c q.2;exact⟨v,z.keeps kp⟩
  ·exact⟨none,q.2.2⟩
 ·rcases jb x c (Wt h) with q | q
  ·exact I.dH x c q.2
  ·exact I.ah.fresh (Nat.le_of_succ_le q.2.1)
end
abbrev jM:Value->W1->Prop:=λ_ _=>False
def Aj(ifs:List Expr)(env:Env):Sem Bool:=forIn ifs true λc r=>if r=true then do let ok <- isTrue c env (eval c env); pure (ForInStep.yield ok) else pure (ForInStep.yield r)
theorem Im(I:Nat->W1->Prop)
  (turn:∀ n s,I n s->W4 (model prog w) A (Qv it) (λr s₁=>match r with
   | none=>R (.ok .next) s₁
   | some v=>W4 (model prog w) A (letOwnedTupleGo target it v) (λ_ Al=>W4 (model prog w) A (assign target env v) (λ_ s₂ =>
     W4 (model prog w) A (Aj ifs env) (λok s₃ =>
      if ok=true then W4 (model prog w) A (eval elt env) (λx s₄ =>
       W4 (model prog w) A (call (.builtin "list.append") [acc,x]) (λ_ s₅=>∃ m,m < n/\I m s₅) jM s₄) jM s₃
      else ∃ m,m < n/\I m s₃) jM s₂) jM Al) jM s₁) jM s)
  (n:Nat) (h:I n s) :
  Qq (model prog w) A (.compLoop (.ListComp elt [⟨target,iter,ifs,0⟩] scope pos) 0 it acc env) R s:=by
 refine codeAny_loop rfl I (λn s hI=>?_) n h;show W4 _ A ((compTurn (.ListComp elt [⟨target,iter,ifs,0⟩] scope pos) 0 it acc env).onRaise (λx=>do Ju x env; theTreesLotGoes x)) _ _ s;refine wpAny_noted ?_;rw[compTurn_list];refine W0 (wpAny_standAt (W0 (WQ (turn n s hI) (λr s₁ h₁=>?_) λ_ _ h'=>h'.elim)))
 cases r with
 | none=>exact W3 h₁
 | some v =>
  refine W0 (WQ h₁ (λ_ Al Io=>?_) λ_ _ h'=>h'.elim);refine W0 (WQ Io (λ_ s₂ h₂=>W0 (WQ h₂ (λok s₃ h₃=>?_) λ_ _ h'=>h'.elim)) λ_ _ h'=>h'.elim)
  cases ok with
  | false=>exact W3 ⟨rfl,h₃⟩
  | true =>
   exact W0 (W0 (WQ h₃ (λx s₄ h₄=>W0 (WQ h₄ (λ_ s₅ h₅=>W3 (W3 ⟨rfl,h₅⟩)) λ_ _ h'=>h'.elim)) λ_ _ h'=>h'.elim))
theorem Ip
  (h:Q { scope,locals:=s.heap.objs.size,globals,cells:=Qn (s.heap.objs.size + 1) scope.names cl,qual,func:=none,code:=env.code,frame:=env.frame,builtins:=env.builtins }
   { s with heap:=Jt (s.heap.push { cls:=.type "dict",data:=.dict #[] }) scope.names }):W4 M A (newFunctionEnv scope globals cl [] qual none .none (some env)) Q E s:=by
 simp only[newFunctionEnv,Option.isSome_some,if_true];refine W0 (wpAny_alloc ?_);refine W0 (wpAny_layCells _ (λname kind cells=>by cases hkc:kind == NameKind.cell <;> simp[hkc]) _ _ _ _ ?_);rw[show({ s with heap:=s.heap.push { cls:=.type "dict",data:=.dict #[] } }:W1).heap.objs.size=s.heap.objs.size + 1 from QS ..];exact W0 (W3 (W3 h))
def oA(X:Cx)(ifs:List Expr)(t:TT):Prop :=
 ∀ (pins:List (Addr×Obj)) (s:W1) (σ:St) (H:Hp) (Q:Bool->Hp->Prop),Inv X pins σ H s->t σ H Q->W4 (model X.prog X.w) X.A (Aj ifs X.env) (TP X pins σ Q) X.xe s
def Iq:TT:=λ_ H Q=>Q true H
theorem Ir:oA X [] Iq:=λpins s σ H Q I h=>wpAny_tests_nil ⟨H,I,h⟩
theorem Iu(h:PT X c t):oA X [c] t:=λpins s σ H Q I q=>wpAny_tests_one (h pins s σ H Q I q)
def Le(σ σ':St):Prop:=σ'.length=σ.length/\∀ (i:Nat) (v:V),σ[i]? = some (some v)->σ'[i]? = some (some v)
def Am(cs:List Nat)(g:TG)(tt:TT)(te:TE)(σ:St)(Q:VK)(J:It)(H1:Hp):Prop :=
 ∀ l,H1 l=none->∃ W:Nat->Nat->Hp->Prop,(∃ m,W 0 m (upd H1 l (.lst [])))/\∀ i m H2,W i m H2 ->
  (J.stop i H2/\Q (.ref l) H2) \/
  (J.go i H2/\∀ x H3,J.oi i H2 x H3->g x (bu cs σ) H3 λσ4 H4=>Le (bu cs σ) σ4/\tt σ4 H4 λb H5 =>
   if b=true then te σ4 H5 λv H6=>∃ ys m',H6 l=some (.lst ys)/\ys.length < Wb/\m' < m/\W (i + 1) m' (upd H6 l (.lst (ys ++ [v]))) else ∃ m',m' < m/\W (i + 1) m' H5)
def An(cs:List Nat)(wi:TI)(g:TG)(tt:TT)(te:TE):TE:=λσ H Q=>wi σ H λJ H1=>Am cs g tt te σ Q J H1
section
variable {X:Cx} {pins:List (Addr×Obj)} {σ:St} {H:Hp} {s:W1} {scope:Scope} {cs:List Nat} {elt tg iter:Expr} {ifs:List Expr} {pos:Pos} {g:TG} {tt:TT} {te:TE}
theorem Iv{it:Addr}{fp:List Addr}{tn:Nat->Heap->Prop}{J:It}{Q:VK}{E:Value->W1->Prop}{RR:Value->Addr->Result->W1->Prop}(hc:X.calm=true)(I:Inv X pins σ H s)(S:oz X scope cs)
  (T:Turn X.prog X.w X.K tg J fp it tn) (st:tn 0 s.heap) (hf:∀ b ∈ fp,fF X pins H b)
  (hg:∀ s₀ H₀ ex,PG (gG X scope s₀ H₀ ex) tg g) (ht:∀ s₀ H₀ ex,oA (gG X scope s₀ H₀ ex) ifs tt) (he:∀ s₀ H₀ ex,PE (gG X scope s₀ H₀ ex) elt te) (q:Am cs g tt te σ Q J H)
  (Iy:∀ l C s' H',Inv X pins σ H' s'->fF X pins H' C->(∃ m,s'.heap.Ns C m)->Q (.ref l) H'->RR (.ref l) C (.ok .next) s') :
  W4 (model X.prog X.w) X.A (newList []) (λacc s₃=>W4 (model X.prog X.w) X.A (newFunctionEnv scope X.env.globals (fo X.env.cells scope.names []) [] X.env.qual none .none (some X.env)) (λAo s₄ =>
   Qq (model X.prog X.w) X.A (.compStart (.ListComp elt [⟨tg,iter,ifs,0⟩] scope pos) 0 (.ref it) acc { Ao with scope:=relabel scope X.env }) (RR acc Ao.locals) s₄) E s₃) E s:=by
 refine WG ?_;have dS:H s.heap.objs.size=none:=I.ah.fresh (Wf _);obtain⟨W,⟨m0,w0⟩,turn⟩:=q s.heap.objs.size dS;generalize hl:s.heap.objs.size=l at *;have I3:Inv X pins σ (upd H l (.lst [])) { s with heap:=s.heap.push { cls:=.type "list",dict:=none,data:=.seq ([]:List Value).toArray } } :=
  I.laid (t':=s.toks) (λb u e=>W6 _ e) (Nat.le_of_eq hl) ⟨Ql _,[],0,.nil,by rw[<- hl]; exact Wn _ rfl⟩
 have Iz:∀ b o,s.heap.get? b=some o->(s.heap.push { cls:=.type "list",dict:=none,data:=.seq ([]:List Value).toArray }).get? b=some o:=λb o e=>W6 _ e
 have iC:∀ b ∈ fp,b≠l:=λb hb e=>by
  obtain⟨o,ho,_⟩:=T.obj 0 _ st b hb;exact absurd (Wi ho) (by rw[e,hl]; exact Qk _)
 have uA:∀ b ∈ fp,fF X pins (upd H l (.lst [])) b:=λb hb=>⟨by rw[aV (iC b hb)]; exact(hf b hb).1,(hf b hb).2⟩
 have kH:tn 0 (s.heap.push { cls:=.type "list",dict:=none,data:=.seq ([]:List Value).toArray }):=T.keep 0 _ _ st λb _ o e=>Iz b o e
 generalize hs3:({ s with heap:=s.heap.push { cls:=.type "list",dict:=none,data:=.seq ([]:List Value).toArray } }:W1)=s3 at I3;have Ap:tn 0 s3.heap:=by rw[<- hs3]; exact kH
 have IA:∀ b ∈ fp,b < s3.heap.objs.size:=λb hb=>by
  obtain⟨o,ho,_⟩:=T.obj 0 _ Ap b hb;exact Wi ho
 refine Ip ?_;have I4:=Ic I3 S uA IA;generalize hX:gG X scope s3 (upd H l (.lst [])) fp=X' at I4;generalize hs4:({ s3 with heap:=Jt (s3.heap.push { cls:=.type "dict",data:=.dict #[] }) scope.names }:W1)=s4 at I4 ⊢;have mW:=hg s3 (upd H l (.lst [])) fp;have Aq:=ht s3 (upd H l (.lst [])) fp;have Ar:=he s3 (upd H l (.lst [])) fp;rw[hX] at mW Aq Ar;have As:tn 0 s4.heap:=T.keep 0 _ _ Ap λb _ o e=>by rw[<- hs4]; exact pushCells_keeps _ _ b o (W6 _ e)
 have hP:X'.prog=X.prog:=by rw[<- hX]; rfl
 have hw:X'.w=X.w:=by rw[<- hX]; rfl
 have hA:X'.A=X.A:=by rw[<- hX]; rfl
 have hK:X'.K=X.K:=by rw[<- hX]; rfl
 have iy:X'.calm=true:=by rw[<- hX]; exact hc
 have kR:X'.xe=jM:=by rw[<- hX]; rfl
 have Au:X'.env.locals=s3.heap.objs.size:=by rw[<- hX]; rfl
 have IB:({ scope:=relabel scope X.env,locals:=s3.heap.objs.size,globals:=X.env.globals,cells:=Qn (s3.heap.objs.size + 1) scope.names (fo X.env.cells scope.names []),qual:=X.env.qual,func:=none,code:=X.env.code,frame:=X.env.frame,builtins:=X.env.builtins }:Env)=X'.env:=by rw[<- hX]; rfl
 have uB:∀ {H':Hp},(∀ b ∈ fp,H' b=none)->∀ b ∈ fp,fF X' [] H' b:=λ{H'} hn b hb=>by
  have ex:X'.ex=fp:=by rw[<- hX]; rfl
  have pn:X'.pn=[]:=by rw[<- hX]; rfl
  refine⟨hn b hb,(I4.ok.lL b (by rw[ex]; exact hb)).1,I4.ok.kC b (by rw[ex]; exact hb),.inl (by rw[ex]; exact hb),(I4.ok.lL b (by rw[ex]; exact hb)).2,λp hp=>?_⟩;rw[pn] at hp;simp at hp
 show Qq (model X.prog X.w) X.A (.compStart (.ListComp elt [⟨tg,iter,ifs,0⟩] scope pos) 0 (.ref it) (.ref l) ({ scope:=relabel scope X.env,locals:=s3.heap.objs.size,globals:=X.env.globals,cells:=Qn (s3.heap.objs.size + 1) scope.names (fo X.env.cells scope.names []),qual:=X.env.qual,func:=none,code:=X.env.code,frame:=X.env.frame,builtins:=X.env.builtins }:Env)) (RR (.ref l) s3.heap.objs.size) s4;rw[IB];have loop:Qq (model X.prog X.w) X.A (.compLoop (.ListComp elt [⟨tg,iter,ifs,0⟩] scope pos) 0 (.ref it) (.ref l) X'.env) (RR (.ref l) s3.heap.objs.size) s4:=by
  refine Im (λn s'=>∃ i H',Inv X' [] (bu cs σ) H' s'/\tn i s'.heap/\(∀ b ∈ fp,H' b=none)/\W i n H') ?_ m0 ⟨0,_,I4,As,λb hb=>(uA b hb).1,w0⟩;rintro n s5 ⟨i,H5,I5,st5,fr5,w5⟩;rcases turn i n H5 w5 with ⟨stop,qn⟩ | ⟨go,step⟩
  ·have:=T.done X' hP hw hK iy i [] s5 (bu cs σ) H5 jM I5 (uB fr5) st5 stop;rw[hA] at this;refine aM this λr s6 ⟨hr,I6⟩=>?_
   subst hr;have b6:=I6.base;have e1:X'.fs=dQ X.stack:=by rw[<- hX]; rfl
   have e2:X'.ex=fp:=by rw[<- hX]; rfl
   have e3:X'.H₀=upd H l (.lst []):=by rw[<- hX]; rfl
   have e4:X'.s₀=s3:=by rw[<- hX]; rfl
   rw[e1,e2,e3,e4] at b6;have o6:s6.os=s3.os:=by rw[<- e4]; exact I6.os
   have IC:bW X.prog X.w H5 s6.heap:=by rw[<- hP,<- hw]; exact I6.ah
   have J6:Inv X pins σ H5 s6:=I3.yZ o6 b6 IC I6.bare λb hb=>by
    obtain⟨_,f1,_,f3,f4,f5⟩:=uA b hb;exact⟨f3,f1,f4,f5⟩
   obtain⟨m6,n6,_⟩:=I6.loc;rw[Au] at n6;refine Iy l s3.heap.objs.size s6 H5 J6 (I3.iA (Wf _) ?_) ⟨m6,n6⟩ qn;rw[<- Au];exact I6.free
  ·have:=T.item X' hP hw hK iy i [] s5 (bu cs σ) H5 jM I5 (uB fr5) st5 go;rw[hA] at this;refine aM this λr s6 ⟨u,hr,h6⟩=>?_
   subst hr;refine aM h6 λ_ s7 ⟨x,H7,I7,r7,y7,st7,fr7⟩=>?_
   have ID:=I7.pinned (uB fr7) (T.obj _ _ st7);have a8:=mW _ s7 (bu cs σ) H7 x u _ ID r7 (step x H7 y7);rw[hP,hw,hA,kR] at a8;refine aM a8 λ_ s8 ⟨σ8,H8,I8,le8,q8⟩=>?_
   have a9:=Aq _ s8 σ8 H8 _ I8 q8;rw[hP,hw,hA,kR] at a9;refine aM a9 λok s9 ⟨H9,I9,q9⟩=>?_
   have back:∀ {H':Hp} {s':W1},Inv X' ([] ++ oj fp s7.heap) σ8 H' s'->Inv X' [] (bu cs σ) H' s'/\tn (i + 1) s'.heap/\∀ b ∈ fp,H' b=none:=λ{H' s'} J=>by
    refine⟨J.qI.weak (le8.1.symm) le8.2,T.keep _ _ _ st7 λb hb o e=>(J.pin (b,o) (WP _ (WP _ (qH hb e)))).1,λb hb=>?_⟩;obtain⟨o,e,d⟩:=T.obj _ _ st7 b hb;exact(J.pin (b,o) (WP _ (WP _ (qH hb e)))).2.1
   cases ok with
   | false =>
    rw[if_neg WC] at q9 ⊢;obtain⟨m',hm,w9⟩:=q9;obtain⟨b1,b2,b3⟩:=back I9;exact⟨m',hm,i + 1,H9,b1,b2,b3,w9⟩
   | true =>
    rw[if_pos rfl] at q9 ⊢;have qZ:=Ar _ s9 σ8 H9 _ I9 q9;rw[hP,hw,hA,kR] at qZ;refine aM qZ λx10 s10 ⟨v,H10,I10,r10,ys,m',hy,hz,hm,w10⟩=>?_
    have q0:=z6 (X:=X') _ s10 σ8 H10 (.ref l) [v] (.ref l) [x10] (λ_ H'=>W (i + 1) m' H') I10 rfl (.cons r10 .nil) ⟨l,ys,v,rfl,rfl,hy,hz,w10⟩;rw[hP,hw,hA,kR] at q0;refine aM q0 λ_ Aw ⟨_,H11,I11,_,w11⟩=>?_
    obtain⟨b1,b2,b3⟩:=back I11;exact⟨m',hm,i + 1,H11,b1,b2,b3,w11⟩
 exact codeAny_compStart_list loop (T.self X.A 0 s4 _ _ As loop)
theorem IE(hc:X.calm=true)(S:oz X scope cs)(hi:PI X tg iter wi)(hg:∀ s₀ H₀ ex,PG (gG X scope s₀ H₀ ex) tg g)(ht:∀ s₀ H₀ ex,oA (gG X scope s₀ H₀ ex) ifs tt)(he:∀ s₀ H₀ ex,PE (gG X scope s₀ H₀ ex) elt te)
  (hs:∀ x,JF iter X.env x=pure x:=by intro _; rfl):PE X (.ListComp elt [⟨tg,iter,ifs,0⟩] scope pos) (An cs wi g tt te):=by
 intro pins s σ H Q I h;have uz:∀ x ∈ scope.names,x.2 = .free->∃ c,X.env.cells.lookup x.1=some c:=λx hx hk=>I.ok.has x.1 (S.free x hx hk)
 rw[eval_ListComp];refine wpAny_comprehension_free (use:=none) rfl hs (Ib uz) S.kind S.names (aM (hi pins s σ H _ I h) λxv s1 h1=>aM h1 λtU s2 h2=>?_);obtain⟨it,fp,tn,J,H2,e,I2,T,st2,f2,q2⟩:=h2;subst e;refine Iv (RR:=λacc C=>compPost (model X.prog X.w) X.A X.xe none (EP X pins σ Q) acc C) hc I2 S T st2 f2 hg ht he q2 ?_;intro l C s' H' I' fC ⟨m,n⟩ q;exact⟨m,n,λh' jc=>⟨.ref l,H',I'.turned (t':=s'.toks) (λb o hb e=>(jc.2 b hb).trans e) fC.1 fC.2.1 fC.2.2.2.1 fC.2.2.2.2.1 fC.2.2.2.2.2,rfl,q⟩⟩
end
end L2
set_option maxHeartbeats 4000000
namespace DV
open PySem PySem.Spec PyProof.Rows L2
abbrev Tx:=List Nat
def toS(x:Tx):Str:=⟨x.toArray⟩
theorem q_(x:Tx):(toS x).cps.toList=x:=by simp[toS]
theorem jd(x:Tx):(toS x).length=x.length:=by simp[toS,Str.length]
theorem uC(h:toS x=toS y):x=y:=by
 have:=congrArg (λz:Str=>z.cps.toList) h;simpa[toS] using this
theorem Ax(z:Str):z=toS z.cps.toList:=by simp[toS]
abbrev bI:=Sum Int Tx
def dq:bI->Key
 | .inl i=>.inl i
 | .inr x=>.inr (toS x)
inductive D where
 | aw | bl (b:Bool) | int (i:Int) | str (x:Tx) | tup (xs:List D) | lst (xs:List D) | ba (aa:List (bI×D)) | exc (n:Nat) (fl:D) | xd (fs:List (Tx×D)) | fn (a:Nat) | dic (aa:List (D×D))
mutual
def cm:Nat->D->Option NK
 | _,.int i=>some (.i i)
 | _,.bl b=>some (.i (if b then 1 else 0))
 | _,.str x=>some (.s (toS x))
 | n + 1,.tup xs=>(gi n xs).map .t
 | _,_=>none
def gi:Nat->List D->Option (List NK)
 | _,[]=>some []
 | n,x :: xs=>(cm n x).bind λk=>(gi n xs).map λks=>k :: ks
end
def excAt(C:Addr)(v:V)(a:Addr):Heap->Prop:=λh=>∃ o,h.get? a=some o/\o.cls = .ref C/\(∀ x,v = .ref x->o.dict=some x)/\∃ vs,o.data = .fields vs
def jN(fs:List (Str×V))(x:Addr):Heap->Prop:=λh=>∃ mA,h.Ns1 x mA/\∀ f,cX (fs.lookup f) (mA f)
inductive S where
 | pure (d:D)
 | own (d:D)
def S.d:S->D
 | .pure d=>d
 | .own d=>d
abbrev Dl:=List (Option S)
abbrev St:=L2.St
inductive Rep (H:Hp) (O:Addr->Prop):V->D->Prop
 | aw:Rep H O .aw .aw
 | bl (b:Bool):Rep H O (.bl b) (.bl b)
 | int (i:Int):Rep H O (.int i) (.int i)
 | str (x:Tx):Rep H O (.str (toS x)) (.str x)
 | tup {a:Addr} {vs:List V} {ds:List D}:¬ O a->H a=some (.tup vs)->vs.length=ds.length->(∀ (i:Nat) v d,vs[i]? = some v->ds[i]? = some d->Rep H O v d)->Rep H O (.ref a) (.tup ds)
 | lst {a:Addr} {vs:List V} {ds:List D}:¬ O a->Rd H a (.lst vs)->vs.length=ds.length->(∀ (i:Nat) v d,vs[i]? = some v->ds[i]? = some d->Rep H O v d)->Rep H O (.ref a) (.lst ds)
 | ba {a:Addr} {ws:List (Key×V)} {ds:List (bI×D)}:¬ O a->H a=some (.dK ws)->ws.map (·.1)=ds.map (λp=>dq p.1)->(∀ (i:Nat) p q,ws[i]? = some p->ds[i]? = some q->Rep H O p.2 q.2)->Rep H O (.ref a) (.ba ds)
 | exc {a:Addr} {n:Nat} {v:V} {fl:D}:¬ O a->H a=some (.ext (excAt n v a))->Rep H O v fl->Rep H O (.ref a) (.exc n fl)
 | xd {x:Addr} {fs:List (Str×V)} {ds:List (Tx×D)}:¬ O x->H x=some (.ext (jN fs x))->fs.map (·.1)=ds.map (λp=>toS p.1)->(∀ (i:Nat) p q,fs[i]? = some p->ds[i]? = some q->Rep H O p.2 q.2)->Rep H O (.ref x) (.xd ds)
 | fn (a:Addr):Rep H O (.ref a) (.fn a)
 | dic {a:Addr} {ep:Nat} {ws:List (NK×V×V)} {ds:List (D×D)}:¬ O a->H a=some (.dN ep ws)->ws.length=ds.length->(∀ (i:Nat) p q,ws[i]? = some p->ds[i]? = some q->Rep H O p.2.1 q.1)->(∀ (i:Nat) p q,ws[i]? = some p->ds[i]? = some q->Rep H O p.2.2 q.2)->(∀ (i:Nat) p q,ws[i]? = some p->ds[i]? = some q->cm 6 q.1=some p.1)->Rep H O (.ref a) (.dic ds)
abbrev aA(H:Hp)(O:Addr->Prop)(vs:List V)(ds:List D):Prop:=vs.length=ds.length/\∀ (i:Nat) v d,vs[i]? = some v->ds[i]? = some d->Rep H O v d
structure DN(H:Hp)(O:Addr->Prop)(ws:List (NK×V×V))(ds:List (D×D)):Prop where
 len:ws.length=ds.length
 key:∀ (i:Nat) p q,ws[i]? = some p->ds[i]? = some q->Rep H O p.2.1 q.1
 val:∀ (i:Nat) p q,ws[i]? = some p->ds[i]? = some q->Rep H O p.2.2 q.2
 lU:∀ (i:Nat) p q,ws[i]? = some p->ds[i]? = some q->cm 6 q.1=some p.1
def fJ(H:Hp)(O:Addr->Prop)(a:Addr):D->Prop
 | .lst ds=>∃ vs,H a=some (.lst vs)/\aA H O vs ds
 | .ba ds=>∃ ws:List (Key×V),H a=some (.dK ws)/\ws.map (·.1)=ds.map (λp=>dq p.1)/\∀ (i:Nat) p q,ws[i]? = some p->ds[i]? = some q->Rep H O p.2 q.2
 | .dic ds=>∃ (ep:Nat) (ws:List (NK×V×V)),H a=some (.dN ep ws)/\DN H O ws ds
 | _=>False
section
variable {H H':Hp} {O O':Addr->Prop} {v:V} {d:D} {vs:List V} {ds:List D} {a:Addr}
theorem Rd.keep(h:Rd H a u)(k:∀ o,H a=some o->H' a=some o):Rd H' a u:=by
 rcases h with h | ⟨o,h⟩
 ·exact .inl (k _ h)
 ·exact .inr ⟨o,k _ h⟩
theorem Rd.some(h:Rd H a u):∃ o,H a=some o:=by
 rcases h with h | ⟨o,h⟩
 ·exact⟨_,h⟩
 ·exact⟨_,h⟩
theorem Rep.keep(h:Rep H O v d)(k:∀ a o,H a=some o->¬ O a->H' a=some o):Rep H' O v d:=by
 induction h with
 | aw=>exact .aw
 | bl b=>exact .bl b
 | int i=>exact .int i
 | str x=>exact .str x
 | tup h1 h2 h3 _ ih=>exact .tup h1 (k _ _ h2 h1) h3 ih
 | lst h1 h2 h3 _ ih=>exact .lst h1 (Rd.keep h2 λo e=>k _ o e h1) h3 ih
 | ba h1 h2 h3 _ ih=>exact .ba h1 (k _ _ h2 h1) h3 ih
 | exc h1 h2 _ ih=>exact .exc h1 (k _ _ h2 h1) ih
 | xd h1 h2 h3 _ ih=>exact .xd h1 (k _ _ h2 h1) h3 ih
 | fn a=>exact .fn a
 | dic h1 h2 h3 _ _ h6 ih oB=>exact .dic h1 (k _ _ h2 h1) h3 ih oB h6
theorem Rep.aW(h:Rep H O v d)(k:∀ a,O' a->O a\/H a=none):Rep H O' v d:=by
 have no:∀ {a:Addr} {u:HO},¬ O a->Rd H a u->¬ O' a:=λ{a u} h1 h2 z=>by
  rcases k a z with q | q
  ·exact h1 q
  ·obtain⟨o,e⟩:=Rd.some h2;rw[q] at e; cases e
 induction h with
 | aw=>exact .aw
 | bl b=>exact .bl b
 | int i=>exact .int i
 | str x=>exact .str x
 | tup h1 h2 h3 _ ih=>exact .tup (no h1 (.inl h2)) h2 h3 ih
 | lst h1 h2 h3 _ ih=>exact .lst (no h1 h2) h2 h3 ih
 | ba h1 h2 h3 _ ih=>exact .ba (no h1 (.inl h2)) h2 h3 ih
 | exc h1 h2 _ ih=>exact .exc (no h1 (.inl h2)) h2 ih
 | xd h1 h2 h3 _ ih=>exact .xd (no h1 (.inl h2)) h2 h3 ih
 | fn a=>exact .fn a
 | dic h1 h2 h3 _ _ h6 ih oB=>exact .dic (no h1 (.inl h2)) h2 h3 ih oB h6
theorem DN.keep{ws:List (NK×V×V)}{ds:List (D×D)}(h:DN H O ws ds)(k:∀ a o,H a=some o->¬ O a->H' a=some o):DN H' O ws ds:=⟨h.len,λi p q e1 e2=>(h.key i p q e1 e2).keep k,λi p q e1 e2=>(h.val i p q e1 e2).keep k,h.lU⟩
theorem DN.aW{ws:List (NK×V×V)}{ds:List (D×D)}(h:DN H O ws ds)(k:∀ a,O' a->O a\/H a=none):DN H O' ws ds:=⟨h.len,λi p q e1 e2=>(h.key i p q e1 e2).aW k,λi p q e1 e2=>(h.val i p q e1 e2).aW k,h.lU⟩
theorem aA.keep(h:aA H O vs ds)(k:∀ a o,H a=some o->¬ O a->H' a=some o):aA H' O vs ds:=⟨h.1,λi v d e1 e2=>(h.2 i v d e1 e2).keep k⟩
theorem aA.aW(h:aA H O vs ds)(k:∀ a,O' a->O a\/H a=none):aA H O' vs ds:=⟨h.1,λi v d e1 e2=>(h.2 i v d e1 e2).aW k⟩
theorem aA.nil:aA H O [] []:=⟨rfl,λi v d e _=>by simp at e⟩
theorem aA.cons(h:Rep H O v d)(r:aA H O vs ds):aA H O (v :: vs) (d :: ds):=by
 refine⟨by simp[r.1],λi v' d' e1 e2=>?_⟩
 cases i with
 | zero=>simp at e1 e2; subst e1; subst e2; exact h
 | succ i=>exact r.2 i v' d' (by simpa using e1) (by simpa using e2)
theorem aA.head(r:aA H O (v :: vs) (d :: ds)):Rep H O v d:=r.2 0 v d rfl rfl
theorem aA.tail(r:aA H O (v :: vs) (d :: ds)):aA H O vs ds:=⟨by simpa using r.1,λi v' d' e1 e2=>r.2 (i + 1) v' d' (by simpa using e1) (by simpa using e2)⟩
theorem aA.append(h:aA H O vs ds)(h':aA H O kS dC):aA H O (vs ++ kS) (ds ++ dC):=by
 induction vs generalizing ds with
 | nil =>
  cases ds with
  | nil=>exact h'
  | cons d r=>have:=h.1; simp at this
 | cons v r ih =>
  cases ds with
  | nil=>have:=h.1; simp at this
  | cons d q=>exact .cons h.head (ih h.tail)
theorem aA.get{i:Nat}(h:aA H O vs ds)(e:ds[i]? = some d):∃ v,vs[i]? = some v/\Rep H O v d:=by
 have hi:i < ds.length:=(We.mp e).1;have hv:i < vs.length:=by rw[h.1]; exact hi
 exact⟨vs[i],by simp[hv],h.2 i _ d (by simp[hv]) e⟩
theorem aA.take(n:Nat)(h:aA H O vs ds):aA H O (vs.take n) (ds.take n):=by
 refine⟨by simp[h.1],λi v d e1 e2=>?_⟩;by_cases hi:i < n
 ·rw[List.getElem?_take_of_lt hi] at e1 e2;exact h.2 i v d e1 e2
 ·rw[List.getElem?_take_eq_none (by omega)] at e1; cases e1
theorem aA.drop(n:Nat)(h:aA H O vs ds):aA H O (vs.drop n) (ds.drop n):=by
 refine⟨by simp[h.1],λi v d e1 e2=>?_⟩;rw[List.getElem?_drop] at e1 e2;exact h.2 (n + i) v d e1 e2
theorem aA.set(h:aA H O vs ds)(r:Rep H O v d)(j:Nat):aA H O (vs.set j v) (ds.set j d):=by
 refine⟨by simp[h.1],λi v' d' e1 e2=>?_⟩;by_cases hi:j=i
 ·subst hi;rw[WL] at e1 e2;simp at e1 e2;obtain⟨_,rfl⟩:=e1;obtain⟨_,rfl⟩:=e2;exact r
 ·rw[W5 hi] at e1 e2;exact h.2 i v' d' e1 e2
theorem fJ.keep(h:fJ H O a d)(hk:∀ b o,H b=some o->¬ O b->H' b=some o)(ha:∀ o,H a=some o->H' a=some o):fJ H' O a d:=by
 cases d <;> first
  | exact h.elim
  | (obtain⟨vs,e,r⟩:=h; exact⟨vs,ha _ e,aA.keep r hk⟩)
  | (obtain⟨ws,e,r,q⟩:=h; exact⟨ws,ha _ e,r,λi p p' e1 e2=>(q i p p' e1 e2).keep hk⟩)
  | (obtain⟨ep,ws,e,r⟩:=h; exact⟨ep,ws,ha _ e,r.keep hk⟩)
theorem fJ.aW(h:fJ H O a d)(k:∀ a,O' a->O a\/H a=none):fJ H O' a d:=by
 cases d <;> first
  | exact h.elim
  | (obtain⟨vs,e,r⟩:=h; exact⟨vs,e,aA.aW r k⟩)
  | (obtain⟨ws,e,r,q⟩:=h; exact⟨ws,e,r,λi p p' e1 e2=>(q i p p' e1 e2).aW k⟩)
  | (obtain⟨ep,ws,e,r⟩:=h; exact⟨ep,ws,e,r.aW k⟩)
theorem fJ.some(h:fJ H O a d):∃ o,H a=some o:=by
 cases d <;> first
  | exact h.elim
  | (obtain⟨vs,e,r⟩:=h; exact⟨_,e⟩)
  | (obtain⟨ep,vs,e,r⟩:=h; exact⟨_,e⟩)
theorem fJ.rep(h:fJ H O a d)(ho:¬ O a):Rep H O (.ref a) d:=by
 cases d with
 | lst ds=>obtain⟨vs,e,r⟩:=h; exact .lst ho (.inl e) r.1 r.2
 | ba ds=>obtain⟨ws,e,r,q⟩:=h; exact .ba ho e r q
 | dic ds=>obtain⟨ep,ws,e,r⟩:=h; exact .dic ho e r.len r.key r.val r.lU
 | _=>exact h.elim
end
structure Xc where
 cls:Tx
 iE:D
structure Fc where
 H₀:Hp
 B:Addr->Prop
 pin:List (Nat×Addr)
 xc:Xc->Dl->Prop:=λ_ _=>False
def Fc.plus(c:Fc)(p:Addr):Fc:={ c with B:=λa=>c.B a\/a=p }
def Fc.I(c:Fc)(a:Addr):Prop:=∃ i,(i,a) ∈ c.pin
def Own(σ:St)(δ:Dl)(a:Addr):Prop:=∃ (i:Nat) (d:D),δ[i]? = some (some (.own d))/\σ[i]? = some (some (.ref a))
def Av(c:Fc)(σ:St)(δ:Dl)(a:Addr):Prop:=c.B a\/Own σ δ a
structure Ok(c:Fc)(σ:St)(δ:Dl)(H:Hp):Prop where
 keep:∀ a o,c.H₀ a=some o->¬ c.I a->H a=some o
 bd:∀ a,c.B a->∃ o,H a=some o
 cQ:∀ a,c.I a->∃ o,H a=some o
 len:δ.length=σ.length
 slot:∀ (i:Nat) d,δ[i]? = some (some (.pure d))->∃ v,σ[i]? = some (some v)/\Rep H (Av c σ δ) v d
 own:∀ (i:Nat) d,δ[i]? = some (some (.own d))->∃ a,σ[i]? = some (some (.ref a))/\fJ H (Av c σ δ) a d/\(c.I a\/c.H₀ a=none)/\¬ c.B a
 inj:∀ (i j:Nat) a d d',δ[i]? = some (some (.own d))->δ[j]? = some (some (.own d'))->σ[i]? = some (some (.ref a))->σ[j]? = some (some (.ref a))->i=j
 pinned:∀ p ∈ c.pin,σ[p.1]? = some (some (.ref p.2))
structure aE(c:Fc)(σ:St)(δ:Dl)(H:Hp)(σ':St)(δ':Dl)(H':Hp):Prop where
 ok:Ok c σ' δ' H'
 keep:∀ a o,H a=some o->¬ Own σ δ a->H' a=some o
 own:∀ a,Own σ' δ' a->Own σ δ a\/H a=none
 there:∀ a o,H a=some o->∃ o',H' a=some o'
section
variable {c:Fc} {σ σ' σ'':St} {δ δ' δ'':Dl} {H H' Ay:Hp} {v:V} {d:D} {a p:Addr}
theorem Ok.IF(k:Ok c σ δ H)(h:c.B a):∃ o,H a=some o:=k.bd a h
theorem Ok.oC(k:Ok c σ δ H)(h:Own σ δ a):∃ o,H a=some o:=by
 obtain⟨i,d,e1,e2⟩:=h;obtain⟨b,e3,q,_⟩:=k.own i d e1;rw[e2] at e3; cases e3
 exact q.some
theorem Ok.Az(k:Ok c σ δ H)(h:Av c σ δ a):∃ o,H a=some o:=h.elim k.IF k.oC
theorem Ok.g7(k:Ok c σ δ H)(h:H a=none):¬ Av c σ δ a:=λz=>by
 obtain⟨o,e⟩:=k.Az z;rw[h] at e; cases e
theorem aE.refl(k:Ok c σ δ H):aE c σ δ H σ δ H:=⟨k,λ_ _ e _=>e,λ_ h=>.inl h,λ_ o e=>⟨o,e⟩⟩
theorem aE.trans(x:aE c σ δ H σ' δ' H')(y:aE c σ' δ' H' σ'' δ'' Ay):aE c σ δ H σ'' δ'' Ay:=by
 refine⟨y.ok,λa o e n=>?_,λa h=>?_,λa o e=>?_⟩
 ·refine y.keep a o (x.keep a o e n) λz=>?_
  rcases x.own a z with q | q
  ·exact n q
  ·rw[q] at e; cases e
 ·rcases y.own a h with q | q
  ·exact x.own a q
  ·right
   cases e:H a with
   | none=>rfl
   | some o =>
    obtain⟨o',e'⟩:=x.there a o e;rw[q] at e'; cases e'
 ·obtain⟨o',e'⟩:=x.there a o e;exact y.there a o' e'
theorem aE.av(x:aE c σ δ H σ' δ' H'):∀ a,Av c σ' δ' a->Av c σ δ a\/H a=none:=λa h=>by
 rcases h with h | h
 ·exact .inl (.inl h)
 ·rcases x.own a h with q | q
  ·exact .inl (.inr q)
  ·exact .inr q
theorem Rep.du(h:Rep H (Av c σ δ) v d)(x:aE c σ δ H σ' δ' H'):Rep H' (Av c σ' δ') v d:=by
 have h1:Rep H (λa=>Av c σ δ a\/Av c σ' δ' a) v d:=Rep.aW h λa z=>z.elim .inl (x.av a)
 exact(h1.keep λa o e n=>x.keep a o e λz=>n (.inl (.inr z))).aW λa z=>.inl (.inr z)
theorem aA.du(h:aA H (Av c σ δ) vs ds)(x:aE c σ δ H σ' δ' H'):aA H' (Av c σ' δ') vs ds:=⟨h.1,λi v d e1 e2=>Rep.du (h.2 i v d e1 e2) x⟩
def aZ(c:Fc)(σ:St)(δ:Dl)(Hs H:Hp)(v:V):S->Prop
 | .pure d=>Rep H (Av c σ δ) v d
 | .own d=>∃ a,v = .ref a/\fJ H (Av (c.plus a) σ δ) a d/\¬ c.B a/\c.H₀ a=none/\Ok (c.plus a) σ δ H/\Hs a=none
theorem rf(k:Ok (c.plus a) σ δ H):¬ Own σ δ a:=λ⟨i,d,e1,e2⟩=>by
 obtain⟨b,e3,_,_,n⟩:=k.own i d e1;rw[e2] at e3; cases e3
 exact n (.inr rfl)
theorem aZ.rep(h:aZ c σ δ Hs H v r):Rep H (Av c σ δ) v r.d:=by
 cases r with
 | pure d=>exact h
 | own d =>
  obtain⟨a,rfl,o,n,f,k,_⟩:=h;refine(o.aW λb z=>.inl ?_).rep λz=>z.elim n (rf k)
  exact z.elim (λz=>.inl (.inl z)) .inr
theorem aZ.back(h:aZ c σ δ Hs H v r)(x:aE c σ₀ δ₀ H' σ' δ' Hs):aZ c σ δ H' H v r:=by
 cases r with
 | pure d=>exact h
 | own d =>
  obtain⟨a,e,o,n,f,k,hs⟩:=h;refine⟨a,e,o,n,f,k,?_⟩
  cases q:H' a with
  | none=>rfl
  | some o =>
   obtain⟨o',e'⟩:=x.there a o q;rw[hs] at e'; cases e'
theorem aZ.IG(h:aZ c σ δ Hs H v r):aZ c σ δ c.H₀ H v r:=by
 cases r with
 | pure d=>exact h
 | own d =>
  obtain⟨a,e,o,n,f,k,hs⟩:=h;exact⟨a,e,o,n,f,k,f⟩
theorem Ok.alloc(k:Ok c σ δ H)(hp:H p=none)(o:HO):Ok c σ δ (upd H p o):=by
 have up:∀ a w,H a=some w->upd H p o a=some w:=λa w e=>by
  rw[aV (fD e hp)]; exact e
 refine⟨λa w e n=>up a w (k.keep a w e n),λa z=>(k.bd a z).elim λw e=>⟨w,up a w e⟩,λa z=>(k.cQ a z).elim λw e=>⟨w,up a w e⟩,k.len,λi d e=>?_,λi d e=>?_,k.inj,k.pinned⟩
 ·obtain⟨v,e1,r⟩:=k.slot i d e;exact⟨v,e1,r.keep λa w q _=>up a w q⟩
 ·obtain⟨a,e1,r,q⟩:=k.own i d e;exact⟨a,e1,r.keep (λb w q _=>up b w q) λw q=>up a w q,q⟩
theorem aE.alloc(k:Ok c σ δ H)(hp:H p=none)(o:HO):aE c σ δ H σ δ (upd H p o):=by
 have up:∀ a w,H a=some w->upd H p o a=some w:=λa w e=>by
  rw[aV (fD e hp)]; exact e
 exact⟨k.alloc hp o,λa w e _=>up a w e,λa h=>.inl h,λa w e=>⟨w,up a w e⟩⟩
theorem Ok.jO(k:Ok c σ δ H)(hp:H p=none):c.H₀ p=none:=by
 cases e:c.H₀ p with
 | none=>rfl
 | some o =>
  by_cases q:c.I p
  ·obtain⟨w,e'⟩:=k.cQ p q;rw[hp] at e'; cases e'
  ·have:=k.keep p o e q;rw[hp] at this; cases this
theorem Ok.plus(k:Ok c σ δ H)(hp:H p=none)(o:HO):Ok (c.plus p) σ δ (upd H p o):=by
 have k':=k.alloc hp o;have sub:∀ b,Av (c.plus p) σ δ b->Av c σ δ b\/b=p:=λb z=>by
  rcases z with (z | z) | z
  ·exact .inl (.inl z)
  ·exact .inr z
  ·exact .inl (.inr z)
 have rg:∀ b,Av (c.plus p) σ δ b->Av c σ δ b\/H b=none:=λb z=>(sub b z).elim .inl λe=>.inr (by rw[e]; exact hp)
 have up:∀ a w,H a=some w->upd H p o a=some w:=λa w e=>by
  rw[aV (fD e hp)]; exact e
 refine⟨k'.keep,λa z=>?_,k'.cQ,k.len,λi d e=>?_,λi d e=>?_,k.inj,k.pinned⟩
 ·rcases z with z | z
  ·exact k'.bd a z
  ·exact⟨o,by rw[z]; exact cq⟩
 ·obtain⟨v,e1,r⟩:=k.slot i d e;exact⟨v,e1,(r.aW rg).keep λa w q _=>up a w q⟩
 ·obtain⟨a,e1,r,q,nb⟩:=k.own i d e;refine⟨a,e1,(r.aW rg).keep (λb w q _=>up b w q) (λw q=>up a w q),q,λz=>?_⟩;rcases z with z | z
  ·exact nb z
  ·obtain⟨w,ew⟩:=r.some;rw[z,hp] at ew; cases ew
theorem aZ.rh(k:Ok c σ δ H)(r:aA H (Av c σ δ) vs ds)(hp:H p=none):aZ c σ δ H (upd H p (.lst vs)) (.ref p) (.own (.lst ds)):=by
 have up:∀ a w,H a=some w->upd H p (.lst vs) a=some w:=λa w e=>by
  rw[aV (fD e hp)]; exact e
 refine⟨p,rfl,⟨vs,cq,?_⟩,λz=>k.g7 hp (.inl z),k.jO hp,k.plus hp _,hp⟩;have r1:aA H (Av (c.plus p) σ δ) vs ds:=aA.aW r λb z=>by
  rcases z with (z | z) | z
  ·exact .inl (.inl z)
  ·exact .inr (by rw[z]; exact hp)
  ·exact .inl (.inr z)
 exact aA.keep r1 λb w e _=>up b w e
theorem aZ.mX(k:Ok c σ δ H)(r:aA H (Av c σ δ) vs ds)(hp:H p=none):aZ c σ δ H (upd H p (.tup vs)) (.ref p) (.pure (.tup ds)):=by
 have up:∀ a w,H a=some w->upd H p (.tup vs) a=some w:=λa w e=>by
  rw[aV (fD e hp)]; exact e
 have r1:=aA.keep r (H':=upd H p (.tup vs)) λb w e _=>up b w e
 exact .tup (k.g7 hp) cq r1.1 r1.2
end
inductive Rs (α:Type) where
 | ok (a:α) (δ:Dl)
 | exc (x:Xc) (δ:Dl)
 | stuck
def Rs.bind{α β:Type}(r:Rs α)(f:α->Dl->Rs β):Rs β:=match r with
 | .ok a δ=>f a δ
 | .exc x δ=>.exc x δ
 | .stuck=>.stuck
abbrev DE:=Dl->Rs S
def XC(c:Fc)(x:Xc)(δ:Dl):Prop:=c.xc x δ
def post{α:Type}(c:Fc)(r:Rs α)(k:α->Dl->Prop):Prop:=match r with
 | .ok a δ=>k a δ
 | .exc x δ=>XC c x δ
 | .stuck=>False
theorem bh:post c (r.bind f) k ↔ post c r λa δ=>post c (f a δ) k:=by
 cases r <;> exact Iff.rfl
theorem aX(h:post c r k)(m:∀ a δ,k a δ->k' a δ):post c r k':=by
 cases r with
 | ok a δ=>exact m a δ h
 | exc x δ=>exact h
 | stuck=>exact h
def tD(c:Fc)(f:DE):TE:=λσ H Q=>∃ δ,Ok c σ δ H/\post c (f δ) λr δ'=>∀ v H',aE c σ δ H σ δ' H'->aZ c σ δ' H H' v r->Q v H'
abbrev SE(X:Cx)(c:Fc)(e:Expr)(f:DE):Prop:=PE X e (tD c f)
def cg(c:Fc)(σ:St)(δ:Dl)(H:Hp)(v:V)(d:D):Prop:=Rep H (Av c σ δ) v d\/∃ a,v = .ref a/\fJ H (Av c σ δ) a d
abbrev BE:=Dl->Rs D
def tB(c:Fc)(f:BE):TE:=λσ H Q=>∃ δ,Ok c σ δ H/\post c (f δ) λd δ'=>∀ v H',aE c σ δ H σ δ' H'->cg c σ δ' H' v d->Q v H'
abbrev SB(X:Cx)(c:Fc)(e:Expr)(f:BE):Prop:=PE X e (tB c f)
theorem PE.weak(h:PE X e t)(w:∀ σ H Q,t' σ H Q->t σ H Q):PE X e t':=λpins s σ H Q I q=>h pins s σ H Q I (w σ H Q q)
def aj(f:DE):BE:=λδ=>(f δ).bind λr δ'=>.ok r.d δ'
theorem aZ.b(h:aZ c σ δ Hs H v r):cg c σ δ H v r.d:=.inl h.rep
theorem aK{X:Cx}{c:Fc}{e:Expr}{f:DE}(h:SE X c e f):SB X c e (aj f):=PE.weak h λσ H Q ⟨δ,k,p⟩=>⟨δ,k,by
 unfold aj at p;rw[bh] at p;exact aX p λr δ' q v H' a s=>q v H' a s.b⟩
def aq(i:Nat):BE:=λδ=>match δ[i]? with
 | some (some r)=>.ok r.d δ
 | _=>.stuck
def ae(i:Nat):DE:=λδ=>match δ[i]? with
 | some (some (.pure d))=>.ok (.pure d) δ
 | some (some (.own d))=>.ok (.pure d) (δ.set i (some (.pure d)))
 | _=>.stuck
def eD(d:D):DE:=λδ=>.ok (.pure d) δ
section
variable {X:Cx} {c:Fc}
theorem bF{i:Nat}{e:Expr}(h:PE X e (da i)):SB X c e (aq i):=PE.weak h λσ H Q ⟨δ,k,p⟩=>by
 unfold aq at p
 cases e:δ[i]? with
 | none=>rw[e] at p; exact p.elim
 | some o =>
  cases o with
  | none=>rw[e] at p; exact p.elim
  | some r =>
   rw[e] at p
   cases r with
   | pure d =>
    obtain⟨v,e1,r⟩:=k.slot i d e;exact⟨v,e1,p v H (.refl k) (.inl r)⟩
   | own d =>
    obtain⟨a,e1,r,_⟩:=k.own i d e;exact⟨.ref a,e1,p _ H (.refl k) (.inr ⟨a,rfl,r⟩)⟩
theorem Own.sub(h:Own σ (δ.set i (some (.pure d))) a):Own σ δ a:=by
 obtain⟨j,d',e1,e2⟩:=h;by_cases hj:i=j
 ·subst hj;rw[WL] at e1;simp at e1
 ·rw[W5 hj] at e1;exact⟨j,d',e1,e2⟩
theorem Ok.give(k:Ok c σ δ H)(e:δ[i]? = some (some (.own d))) :
  ∃ a,σ[i]? = some (some (.ref a))/\aE c σ δ H σ (δ.set i (some (.pure d))) H/\Rep H (Av c σ (δ.set i (some (.pure d)))) (.ref a) d:=by
 obtain⟨a,e1,r,q,nb⟩:=k.own i d e;have hi:i < δ.length:=(We.mp e).1;have sub:∀ b,Av c σ (δ.set i (some (.pure d))) b->Av c σ δ b:=λb z=>z.elim .inl λz=>.inr z.sub
 have na:¬ Av c σ (δ.set i (some (.pure d))) a:=by
  rintro (z | ⟨j,d',f1,f2⟩)
  ·exact nb z
  ·by_cases hj:i=j
   ·subst hj;rw[WL] at f1;simp at f1
   ·rw[W5 hj] at f1;exact hj (k.inj i j a d d' e f1 e1 f2)
 have rep:Rep H (Av c σ (δ.set i (some (.pure d)))) (.ref a) d:=(r.aW λb z=>.inl (sub b z)).rep na;refine⟨a,e1,⟨⟨k.keep,k.bd,k.cQ,by rw[Qo]; exact k.len,λj d' f=>?_,λj d' f=>?_,λj l b d1 d2 f1 f2=>?_,k.pinned⟩,λ_ _ w _=>w,λb z=>.inl z.sub,λ_ o w=>⟨o,w⟩⟩,rep⟩
 ·by_cases hj:i=j
  ·subst hj;rw[Wq hi] at f
   cases f;exact⟨.ref a,e1,rep⟩
  ·rw[W5 hj] at f;obtain⟨v,g1,g2⟩:=k.slot j d' f;exact⟨v,g1,g2.aW λb z=>.inl (sub b z)⟩
 ·by_cases hj:i=j
  ·subst hj;rw[Wq hi] at f
   cases f
  ·rw[W5 hj] at f;obtain⟨b,g1,g2,g3⟩:=k.own j d' f;exact⟨b,g1,g2.aW λb z=>.inl (sub b z),g3⟩
 ·have h1:δ[j]? = some (some (.own d1)):=by
   by_cases hj:i=j
   ·subst hj; rw[Wq hi] at f1; cases f1
   ·rw[W5 hj] at f1; exact f1
  have h2:δ[l]? = some (some (.own d2)):=by
   by_cases hj:i=l
   ·subst hj; rw[Wq hi] at f2; cases f2
   ·rw[W5 hj] at f2; exact f2
  exact k.inj j l b d1 d2 h1 h2
theorem aF{i:Nat}{e:Expr}(h:PE X e (da i)):SE X c e (ae i):=PE.weak h λσ H Q ⟨δ,k,p⟩=>by
 unfold ae at p
 cases e:δ[i]? with
 | none=>rw[e] at p; exact p.elim
 | some o =>
  cases o with
  | none=>rw[e] at p; exact p.elim
  | some r =>
   rw[e] at p
   cases r with
   | pure d =>
    obtain⟨v,e1,r⟩:=k.slot i d e;exact⟨v,e1,p v H (.refl k) r⟩
   | own d =>
    obtain⟨a,e1,x,r⟩:=k.give e;exact⟨.ref a,e1,p _ H x r⟩
theorem aL{i j pos}:SE X c (.Constant (.int i) j pos) (eD (.int i)):=PE.weak zev λσ H Q ⟨δ,k,p⟩=>p _ H (.refl k) (.int i)
theorem kT{b j pos}:SE X c (.Constant (.bool b) j pos) (eD (.bl b)):=PE.weak tO λσ H Q ⟨δ,k,p⟩=>p _ H (.refl k) (.bl b)
theorem mY{j pos}:SE X c (.Constant .none j pos) (eD .aw):=PE.weak Fm λσ H Q ⟨δ,k,p⟩=>p _ H (.refl k) .aw
theorem fQ{x j pos}(y:Tx)(h:x=toS y:=by decide +kernel):SE X c (.Constant (.str x) j pos) (eD (.str y)):=by
 subst h;exact PE.weak y4 λσ H Q ⟨δ,k,p⟩=>p _ H (.refl k) (.str y)
end
open PySem PySem.Spec PyProof.Rows L2 PySem.SeqAt
mutual
def au:D->D->Bool
 | .aw,.aw=>true
 | .bl a,.bl b=>a == b
 | .int a,.int b=>a == b
 | .bl a,.int b=>(if a then 1 else 0) == b
 | .int a,.bl b=>a == (if b then 1 else 0)
 | .str a,.str b=>a == b
 | .tup xs,.tup ys=>dU xs ys
 | .lst xs,.lst ys=>dU xs ys
 | _,_=>false
def dU:List D->List D->Bool
 | [],[]=>true
 | x :: xs,y :: ys=>au x y && dU xs ys
 | _,_=>false
end
mutual
def flat:Nat->D->Bool
 | _,.aw=>true
 | _,.bl _=>true
 | _,.int _=>true
 | _,.str _=>true
 | 0,.tup _=>false
 | n + 1,.tup xs=>jP n xs
 | 0,.lst _=>false
 | n + 1,.lst xs=>jP n xs
 | _,.ba _=>false
 | _,.exc _ _=>false
 | _,.xd _=>false
 | _,.fn _=>false
 | _,.dic _=>false
def jP:Nat->List D->Bool
 | _,[]=>true
 | n,x :: xs=>flat n x && jP n xs
end
example:au (.tup [.int 1,.str [2]]) (.tup [.int 1,.str [2]])=true:=by decide +kernel
theorem lV:∀ {xs:List D} {x:D},jP n xs=true->x ∈ xs->flat n x=true
 | [],_,_,h=>by simp at h
 | y :: ys,x,h,hm=>by
  simp only[jP,Wm] at h;rcases Wo.mp hm with e | hm
  ·rw[e]; exact h.1
  ·exact lV h.2 hm
theorem rj:∀ {xs ys:List D} {f:Nat->Bool},xs.length=ys.length->(∀ (j:Nat) x y,xs[j]? = some x->ys[j]? = some y->f j=au x y)->(Q1 xs.length).all f=dU xs ys
 | [],[],f,_,_=>rfl
 | [],y :: ys,f,h,_=>by simp at h
 | x :: xs,[],f,h,_=>by simp at h
 | x :: xs,y :: ys,f,h,hf=>by
  simp only[dU];rw[Q7,List.range_succ_eq_map,List.all_cons,hf 0 x y rfl rfl,List.all_map];rw[<- rj (f:=λj=>f (j + 1)) (by simpa using h) (λj a b e1 e2=>hf (j + 1) a b (by simpa using e1) (by simpa using e2))];rfl
theorem rm:∀ {xs ys:List D},xs.length≠ys.length->dU xs ys=false
 | [],[],h=>absurd rfl h
 | [],y :: ys,_=>rfl
 | x :: xs,[],_=>rfl
 | x :: xs,y :: ys,h=>by
  simp only[dU];rw[rm (xs:=xs) (ys:=ys) (by intro e; exact h (by simp[e]))];simp
mutual
theorem uD:∀ {n:Nat} {d:D},flat n d=true->au d d=true
 | _,.aw,_=>rfl
 | _,.bl b,_=>by simp[au]
 | _,.int i,_=>by simp[au]
 | _,.str x,_=>by simp[au]
 | 0,.tup xs,h=>by simp[flat] at h
 | n + 1,.tup xs,h=>by simp only[au]; exact uE (n:=n) (by simpa[flat] using h)
 | 0,.lst xs,h=>by simp[flat] at h
 | n + 1,.lst xs,h=>by simp only[au]; exact uE (n:=n) (by simpa[flat] using h)
 | _,.ba xs,h=>by simp[flat] at h
 | _,.exc n _,h=>by simp[flat] at h
 | _,.xd n,h=>by simp[flat] at h
theorem uE:∀ {n:Nat} {ds:List D},jP n ds=true->dU ds ds=true
 | _,[],_=>rfl
 | n,x :: xs,h=>by
  simp only[jP,Wm] at h;simp only[dU];rw[uD h.1,uE h.2];rfl
end
abbrev cR:Addr->Prop:=λ_=>False
theorem Rep.un(h:Rep H O v d):Rep H cR v d:=Rep.aW h λ_ z=>z.elim
theorem cg.un(h:cg c σ δ H v d):Rep H cR v d:=by
 rcases h with h | ⟨a,rfl,o⟩
 ·exact Rep.un h
 ·exact(o.aW (O':=cR) λ_ z=>z.elim).rep λz=>z
section
variable {X:Cx} {pins:List (Addr×Obj)} {σ:St} {H:Hp} {s:W1}
theorem Inv.gj(I:Inv X pins σ H s)(h:Rd H a (.lst vs)):∃ af:List Value,Vals vs af/\s.heap.IsList a af.toArray:=by
 obtain⟨af,r,p,_⟩:=I.list (.inl h);exact⟨af,r,p.isList⟩
theorem Inv.gm(I:Inv X pins σ H s)(h:H a=some (.tup vs)):∃ af:List Value,Vals vs af/\s.heap.IsTuple a af.toArray:=by
 obtain⟨af,r,p,_⟩:=I.tuple (.of h);exact⟨af,r,p⟩
theorem oE(x y:Tx):((toS x:Str) == toS y)=(x == y):=by
 rw[JQ];simp only[beq_iff_eq];exact⟨uC,λe=>by rw[e]⟩
theorem IH(A:Wl):A.in1.units=A.units + 1:=rfl
theorem Rd.inj(h:Rd H a u)(k:Rd H a w)(hu:∀ o z,u≠.frz o z)(hw:∀ o z,w≠.frz o z):u=w:=by
 rcases h with h | ⟨o,h⟩ <;> rcases k with k | ⟨o',k⟩
 ·rw[h] at k; exact Ws k
 ·rw[h] at k; exact absurd (Ws k) (hu _ _)
 ·rw[h] at k; exact absurd (Ws k).symm (hw _ _)
 ·rw[h] at k;have:=Ws k;injection this
theorem aA.inj{vs:List V}:∀ {ds es:List D},vs.length=ds.length->vs.length=es.length->(∀ (i:Nat) v d e,vs[i]? = some v->ds[i]? = some d->es[i]? = some e->d=e)->ds=es:=by
 intro ds es h1 h2 h;apply List.ext_getElem?;intro i;by_cases hi:i < vs.length
 ·have a1:i < ds.length:=by omega
  have a2:i < es.length:=by omega
  rw[W8 a1,W8 a2];rw[h i vs[i] ds[i] es[i] (by simp[hi]) (by simp[a1]) (by simp[a2])]
 ·rw[WU (by omega),WU (by omega)]
theorem Rep.inj{O:Addr->Prop}{v:V}{d:D}(h:Rep H O v d):∀ {n:Nat} {e:D},flat n d=true->flat n e=true->Rep H O v e->d=e:=by
 induction h with
 | aw=>intro n e _ _ k; cases k; rfl
 | bl b=>intro n e _ _ k; cases k; rfl
 | int i=>intro n e _ _ k; cases k; rfl
 | str x =>
  intro n e _ _ k;generalize hz:V.str (toS x)=z at k
  cases k with
  | str y=>injection hz with hz; rw[uC hz]
  | _=>cases hz
 | @tup a vs ds h1 h2 h3 h4 ih =>
  intro n e fd fe k
  cases n with
  | zero=>simp[flat] at fd
  | succ n =>
   simp only[flat] at fd
   cases k with
   | @tup _ ws es k1 k2 k3 k4 =>
    simp only[flat] at fe;have e1:=Rd.inj (.inl h2) (.inl k2) (λ_ _ z=>by cases z) (λ_ _ z=>by cases z);injection e1 with e1
    subst e1;rw[aA.inj h3 k3 λi v d e q1 q2 q3=>ih i v d q1 q2 (lV fd (Wx q2)) (lV fe (Wx q3)) (k4 i v e q1 q3)]
   | lst k1 k2=>exact absurd (Rd.inj (.inl h2) k2 (λ_ _ z=>by cases z) (λ_ _ z=>by cases z)) (λz=>by cases z)
   | ba k1 k2=>exact absurd (Rd.inj (.inl h2) (.inl k2) (λ_ _ z=>by cases z) (λ_ _ z=>by cases z)) (λz=>by cases z)
   | exc k1 k2=>simp[flat] at fe
   | xd k1 k2=>simp[flat] at fe
   | fn _=>simp[flat] at fe
   | dic _=>simp[flat] at fe
 | @lst a vs ds h1 h2 h3 h4 ih =>
  intro n e fd fe k
  cases n with
  | zero=>simp[flat] at fd
  | succ n =>
   simp only[flat] at fd
   cases k with
   | @lst _ ws es k1 k2 k3 k4 =>
    simp only[flat] at fe;have e1:=Rd.inj h2 k2 (λ_ _ z=>by cases z) (λ_ _ z=>by cases z);injection e1 with e1
    subst e1;rw[aA.inj h3 k3 λi v d e q1 q2 q3=>ih i v d q1 q2 (lV fd (Wx q2)) (lV fe (Wx q3)) (k4 i v e q1 q3)]
   | tup k1 k2=>exact absurd (Rd.inj h2 (.inl k2) (λ_ _ z=>by cases z) (λ_ _ z=>by cases z)) (λz=>by cases z)
   | ba k1 k2=>exact absurd (Rd.inj h2 (.inl k2) (λ_ _ z=>by cases z) (λ_ _ z=>by cases z)) (λz=>by cases z)
   | exc k1 k2=>simp[flat] at fe
   | xd k1 k2=>simp[flat] at fe
   | fn _=>simp[flat] at fe
   | dic _=>simp[flat] at fe
 | ba h1 h2 h3 h4 ih =>
  intro n e fd _ _
  cases n <;> simp[flat] at fd
 | exc h1 h2 =>
  intro n e fd _ _
  cases n <;> simp[flat] at fd
 | xd h1 h2 =>
  intro n e fd _ _
  cases n <;> simp[flat] at fd
 | fn _ =>
  intro n e fd _ _
  cases n <;> simp[flat] at fd
 | dic h1 h2 =>
  intro n e fd _ _
  cases n <;> simp[flat] at fd
def uF(H:Hp)(s:W1)(n:Nat):Prop:=∀ (A:Wl) (x y:V) (u w:Value) (d e:D),A.units + n + 1 < Ww->flat n d=true->flat n e=true->Rep H cR x d->Rep H cR y e->RelV x u->RelV y w->EqAt A s u w (au d e)
def lW(H:Hp)(s:W1)(A:Wl)(n:Nat):Prop:=match n with
 | 0=>True
 | m + 1=>A.units + m + 2 < Ww/\uF H s m
def rn(ds es:List D)(j:Nat):Bool:=match ds[j]?,es[j]? with
 | some p,some q=>au p q
 | _,_=>false
theorem rq(j:Nat)(p q:D)(e1:ds[j]? = some p)(e2:es[j]? = some q):rn ds es j=au p q:=by unfold rn; rw[e1,e2]
theorem rA{n:Nat}{A:Wl}{vs ws:List V}{ds es:List D}{af gn:List Value}(hu:A.units + n + 2 < Ww)(ih:uF H s n)(r1:Vals vs af)(r2:Vals ws gn)(l1:vs.length=ds.length)(l2:ws.length=es.length)
  (g1:∀ (i:Nat) v d,vs[i]? = some v->ds[i]? = some d->Rep H cR v d) (g2:∀ (i:Nat) v d,ws[i]? = some v->es[i]? = some d->Rep H cR v d) (f1:jP n ds=true) (f2:jP n es=true) :
  ∀ j (h1:j < af.toArray.size) (h2:j < gn.toArray.size),EqAt A.in1 s af.toArray[j] gn.toArray[j] (rn ds es j):=by
 intro j h1 h2;have e1:=r1.length;have e2:=r2.length;simp at h1 h2;have hd:j < ds.length:=by omega
 have he:j < es.length:=by omega
 have hv:j < vs.length:=by omega
 have hw:j < ws.length:=by omega
 obtain⟨u',hu',ru'⟩:=r1.get (i:=j) (x:=vs[j]) (by simp[hv]);obtain⟨w',hw',rw''⟩:=r2.get (i:=j) (x:=ws[j]) (by simp[hw]);have eu:af.toArray[j]=u':=by simpa[h1] using hu'
 have ew:gn.toArray[j]=w':=by simpa[h2] using hw'
 rw[eu,ew,rq j ds[j] es[j] (by simp[hd]) (by simp[he])];exact ih A.in1 vs[j] ws[j] u' w' ds[j] es[j] (by rw[IH]; omega) (lV f1 (QW hd)) (lV f2 (QW he)) (g1 j _ _ (by simp[hv]) (by simp[hd])) (g2 j _ _ (by simp[hw]) (by simp[he])) ru' rw''
theorem AB(h1:n=ds.length)(h2:m=es.length):((Q1 (min n m)).all (rn ds es) && n == m)=dU ds es:=by
 subst h1 h2;by_cases hl:ds.length=es.length
 ·rw[<- hl,Nat.min_self,rj hl rq];simp
 ·rw[rm hl];simp[hl]
theorem II(I:Inv X pins σ H s)(n:Nat)(A:Wl)(bw:A.units < Ww)(t1:s.heap.IsTuple a af.toArray)(t2:s.heap.IsTuple b gn.toArray)(r1:Vals vs af)(r2:Vals ws gn)(l1:vs.length=ds.length)(l2:ws.length=es.length)
  (g1:∀ (i:Nat) v d,vs[i]? = some v->ds[i]? = some d->Rep H cR v d) (g2:∀ (i:Nat) v d,ws[i]? = some v->es[i]? = some d->Rep H cR v d) (f1:flat n (.tup ds)=true) (f2:flat n (.tup es)=true) (ih:lW H s A n) :
  RcAt A s (.ref a) (.ref b) (dU ds es):=by
 cases n with
 | zero=>simp[flat] at f1
 | succ n =>
  simp only[flat] at f1 f2;obtain⟨hu,ih⟩:=ih;have q:=RcAt.tuples (A:=A) (s:=s) t1 t2 bw (rA hu ih r1 r2 l1 l2 g1 g2 f1 f2);rw[AB (by have:=r1.length; simp; omega) (by have:=r2.length; simp; omega)] at q;exact q
theorem IJ(I:Inv X pins σ H s)(n:Nat)(A:Wl)(bw:A.units < Ww)(t1:s.heap.IsTuple a af.toArray)(t2:s.heap.IsTuple b gn.toArray)(r1:Vals vs af)(r2:Vals ws gn)(l1:vs.length=ds.length)(l2:ws.length=es.length)
  (g1:∀ (i:Nat) v d,vs[i]? = some v->ds[i]? = some d->Rep H cR v d) (g2:∀ (i:Nat) v d,ws[i]? = some v->es[i]? = some d->Rep H cR v d) (f1:flat n (.tup ds)=true) (f2:flat n (.tup es)=true) (ih:lW H s A n) :
  RcNeAt A s (.ref a) (.ref b) (!dU ds es):=by
 cases n with
 | zero=>simp[flat] at f1
 | succ n =>
  simp only[flat] at f1 f2;obtain⟨hu,ih⟩:=ih;have q:=RcNeAt.tuples (A:=A) (s:=s) t1 t2 bw (rA hu ih r1 r2 l1 l2 g1 g2 f1 f2);rw[AB (by have:=r1.length; simp; omega) (by have:=r2.length; simp; omega)] at q;exact q
theorem IK(I:Inv X pins σ H s)(n:Nat)(A:Wl)(bw:A.units < Ww)(t1:s.heap.IsList a af.toArray)(t2:s.heap.IsList b gn.toArray)(r1:Vals vs af)(r2:Vals ws gn)(l1:vs.length=ds.length)(l2:ws.length=es.length)
  (g1:∀ (i:Nat) v d,vs[i]? = some v->ds[i]? = some d->Rep H cR v d) (g2:∀ (i:Nat) v d,ws[i]? = some v->es[i]? = some d->Rep H cR v d) (f1:flat n (.lst ds)=true) (f2:flat n (.lst es)=true) (ih:lW H s A n) :
  RcAt A s (.ref a) (.ref b) (dU ds es):=by
 cases n with
 | zero=>simp[flat] at f1
 | succ n =>
  simp only[flat] at f1 f2;obtain⟨hu,ih⟩:=ih;have z1:af.toArray.size=ds.length:=by have:=r1.length; simp; omega
  have z2:gn.toArray.size=es.length:=by have:=r2.length; simp; omega
  by_cases hl:ds.length=es.length
  ·have q:=RcAt.lists (A:=A) (s:=s) t1 t2 (by rw[z1,z2]; exact hl) bw (rA hu ih r1 r2 l1 l2 g1 g2 f1 f2);rw[z1,rj hl rq] at q;exact q
  ·rw[rm hl];exact RcAt.lists_lengths (A:=A) (s:=s) t1 t2 (by rw[z1,z2]; simpa using hl) bw
theorem IL(I:Inv X pins σ H s)(n:Nat)(A:Wl)(bw:A.units < Ww)(t1:s.heap.IsList a af.toArray)(t2:s.heap.IsList b gn.toArray)(r1:Vals vs af)(r2:Vals ws gn)(l1:vs.length=ds.length)(l2:ws.length=es.length)
  (g1:∀ (i:Nat) v d,vs[i]? = some v->ds[i]? = some d->Rep H cR v d) (g2:∀ (i:Nat) v d,ws[i]? = some v->es[i]? = some d->Rep H cR v d) (f1:flat n (.lst ds)=true) (f2:flat n (.lst es)=true) (ih:lW H s A n) :
  RcNeAt A s (.ref a) (.ref b) (!dU ds es):=by
 cases n with
 | zero=>simp[flat] at f1
 | succ n =>
  simp only[flat] at f1 f2;obtain⟨hu,ih⟩:=ih;have z1:af.toArray.size=ds.length:=by have:=r1.length; simp; omega
  have z2:gn.toArray.size=es.length:=by have:=r2.length; simp; omega
  by_cases hl:ds.length=es.length
  ·have q:=RcNeAt.lists (A:=A) (s:=s) t1 t2 (by rw[z1,z2]; exact hl) bw (rA hu ih r1 r2 l1 l2 g1 g2 f1 f2);rw[z1,rj hl rq] at q;exact q
  ·rw[rm hl];exact RcNeAt.lists_lengths (A:=A) (s:=s) t1 t2 (by rw[z1,z2]; simpa using hl) bw
theorem uG(I:Inv X pins σ H s)(n:Nat)(A:Wl)(x y:V)(u w:Value)(d e:D)(bw:A.units < Ww)(fd:flat n d=true)(fe:flat n e=true)(ih:lW H s A n)(rx:Rep H cR x d)(ry:Rep H cR y e)(ru:RelV x u)(aC:RelV y w):RcAt A s u w (au d e):=by
 cases rx with
 | aw =>
  cases ru
  cases ry with
  | aw =>
   cases aC;simp only[au]; exact RcAt.none_none
  | bl q =>
   cases aC;simp only[au]; exact RcAt.none_bool _
  | int q =>
   obtain⟨t2,rfl⟩:=aC;simp only[au]; exact RcAt.none_int _ _
  | str q =>
   obtain⟨t2,rfl⟩:=aC;simp only[au]; exact RcAt.none_str _ _
  | tup k1 k2 k3 k4 =>
   cases aC; obtain⟨its2,r2,t2⟩:=Inv.gm I k2
   simp only[au]; exact RcAt.none_tuple t2 bw
  | lst k1 k2 k3 k4 =>
   cases aC; obtain⟨its2,r2,t2⟩:=Inv.gj I k2
   simp only[au]; exact RcAt.none_list t2 bw
  | ba k1 k2 k3 k4=>(cases n <;> simp[flat] at fe)
  | exc k1 k2=>(cases n <;> simp[flat] at fe)
  | xd k1 k2=>(cases n <;> simp[flat] at fe)
  | fn _=>(cases n <;> simp[flat] at fe)
  | dic _=>(cases n <;> simp[flat] at fe)
 | bl p =>
  cases ru
  cases ry with
  | aw =>
   cases aC;simp only[au]; exact RcAt.bool_none _
  | bl q =>
   cases aC;simp only[au]; exact RcAt.bool_bool _ _
  | int q =>
   obtain⟨t2,rfl⟩:=aC;simp only[au]; exact RcAt.bool_int _ _ _
  | str q =>
   obtain⟨t2,rfl⟩:=aC;simp only[au]; exact RcAt.bool_str _ _ _
  | tup k1 k2 k3 k4 =>
   cases aC; obtain⟨its2,r2,t2⟩:=Inv.gm I k2
   simp only[au]; exact RcAt.bool_tuple _ t2 bw
  | lst k1 k2 k3 k4 =>
   cases aC; obtain⟨its2,r2,t2⟩:=Inv.gj I k2
   simp only[au]; exact RcAt.bool_list _ t2 bw
  | ba k1 k2 k3 k4=>(cases n <;> simp[flat] at fe)
  | exc k1 k2=>(cases n <;> simp[flat] at fe)
  | xd k1 k2=>(cases n <;> simp[flat] at fe)
  | fn _=>(cases n <;> simp[flat] at fe)
  | dic _=>(cases n <;> simp[flat] at fe)
 | int p =>
  obtain⟨t1,rfl⟩:=ru
  cases ry with
  | aw =>
   cases aC;simp only[au]; exact RcAt.int_none _ _
  | bl q =>
   cases aC;simp only[au]; exact RcAt.int_bool _ _ _
  | int q =>
   obtain⟨t2,rfl⟩:=aC;simp only[au]; exact RcAt.int_int _ _ _ _
  | str q =>
   obtain⟨t2,rfl⟩:=aC;simp only[au]; exact RcAt.int_str _ _ _ _
  | tup k1 k2 k3 k4 =>
   cases aC; obtain⟨its2,r2,t2⟩:=Inv.gm I k2
   simp only[au]; exact RcAt.int_tuple _ _ t2 bw
  | lst k1 k2 k3 k4 =>
   cases aC; obtain⟨its2,r2,t2⟩:=Inv.gj I k2
   simp only[au]; exact RcAt.int_list _ _ t2 bw
  | ba k1 k2 k3 k4=>(cases n <;> simp[flat] at fe)
  | exc k1 k2=>(cases n <;> simp[flat] at fe)
  | xd k1 k2=>(cases n <;> simp[flat] at fe)
  | fn _=>(cases n <;> simp[flat] at fe)
  | dic _=>(cases n <;> simp[flat] at fe)
 | str p =>
  obtain⟨t1,rfl⟩:=ru
  cases ry with
  | aw =>
   cases aC;simp only[au]; exact RcAt.str_none _ _
  | bl q =>
   cases aC;simp only[au]; exact RcAt.str_bool _ _ _
  | int q =>
   obtain⟨t2,rfl⟩:=aC;simp only[au]; exact RcAt.str_int _ _ _ _
  | str q =>
   obtain⟨t2,rfl⟩:=aC;simp only[au]; rw[<- oE]; exact RcAt.str_str _ _ _ _
  | tup k1 k2 k3 k4 =>
   cases aC; obtain⟨its2,r2,t2⟩:=Inv.gm I k2
   simp only[au]; exact RcAt.str_tuple _ _ t2 bw
  | lst k1 k2 k3 k4 =>
   cases aC; obtain⟨its2,r2,t2⟩:=Inv.gj I k2
   simp only[au]; exact RcAt.str_list _ _ t2 bw
  | ba k1 k2 k3 k4=>(cases n <;> simp[flat] at fe)
  | exc k1 k2=>(cases n <;> simp[flat] at fe)
  | xd k1 k2=>(cases n <;> simp[flat] at fe)
  | fn _=>(cases n <;> simp[flat] at fe)
  | dic _=>(cases n <;> simp[flat] at fe)
 | tup h1 h2 h3 h4 =>
  cases ru; obtain⟨its1,r1,t1⟩:=Inv.gm I h2
  cases ry with
  | aw =>
   cases aC;simp only[au]; exact RcAt.tuple_none t1 bw
  | bl q =>
   cases aC;simp only[au]; exact RcAt.tuple_bool _ t1 bw
  | int q =>
   obtain⟨t2,rfl⟩:=aC;simp only[au]; exact RcAt.tuple_int _ _ t1 bw
  | str q =>
   obtain⟨t2,rfl⟩:=aC;simp only[au]; exact RcAt.tuple_str _ _ t1 bw
  | tup k1 k2 k3 k4 =>
   cases aC; obtain⟨its2,r2,t2⟩:=Inv.gm I k2
   simp only[au]; exact II I n A bw t1 t2 r1 r2 h3 k3 h4 k4 fd fe ih
  | lst k1 k2 k3 k4 =>
   cases aC; obtain⟨its2,r2,t2⟩:=Inv.gj I k2
   simp only[au]; exact RcAt.tuple_list t1 t2 bw
  | ba k1 k2 k3 k4=>(cases n <;> simp[flat] at fe)
  | exc k1 k2=>(cases n <;> simp[flat] at fe)
  | xd k1 k2=>(cases n <;> simp[flat] at fe)
  | fn _=>(cases n <;> simp[flat] at fe)
  | dic _=>(cases n <;> simp[flat] at fe)
 | lst h1 h2 h3 h4 =>
  cases ru; obtain⟨its1,r1,t1⟩:=Inv.gj I h2
  cases ry with
  | aw =>
   cases aC;simp only[au]; exact RcAt.list_none t1 bw
  | bl q =>
   cases aC;simp only[au]; exact RcAt.list_bool _ t1 bw
  | int q =>
   obtain⟨t2,rfl⟩:=aC;simp only[au]; exact RcAt.list_int _ _ t1 bw
  | str q =>
   obtain⟨t2,rfl⟩:=aC;simp only[au]; exact RcAt.list_str _ _ t1 bw
  | tup k1 k2 k3 k4 =>
   cases aC; obtain⟨its2,r2,t2⟩:=Inv.gm I k2
   simp only[au]; exact RcAt.list_tuple t1 t2 bw
  | lst k1 k2 k3 k4 =>
   cases aC; obtain⟨its2,r2,t2⟩:=Inv.gj I k2
   simp only[au]; exact IK I n A bw t1 t2 r1 r2 h3 k3 h4 k4 fd fe ih
  | ba k1 k2 k3 k4=>(cases n <;> simp[flat] at fe)
  | exc k1 k2=>(cases n <;> simp[flat] at fe)
  | xd k1 k2=>(cases n <;> simp[flat] at fe)
  | fn _=>(cases n <;> simp[flat] at fe)
  | dic _=>(cases n <;> simp[flat] at fe)
 | ba h1 h2 h3 h4=>(cases n <;> simp[flat] at fd)
 | exc h1 h2=>(cases n <;> simp[flat] at fd)
 | xd h1 h2=>(cases n <;> simp[flat] at fd)
 | fn _=>(cases n <;> simp[flat] at fd)
 | dic _=>(cases n <;> simp[flat] at fd)
theorem IM(I:Inv X pins σ H s)(n:Nat)(A:Wl)(x y:V)(u w:Value)(d e:D)(bw:A.units < Ww)(fd:flat n d=true)(fe:flat n e=true)(ih:lW H s A n)(rx:Rep H cR x d)(ry:Rep H cR y e)(ru:RelV x u)(aC:RelV y w):RcNeAt A s u w (!au d e):=by
 cases rx with
 | aw =>
  cases ru
  cases ry with
  | aw =>
   cases aC;simp only[au]; exact RcNeAt.none_none
  | bl q =>
   cases aC;simp only[au]; exact RcNeAt.none_bool _
  | int q =>
   obtain⟨t2,rfl⟩:=aC;simp only[au]; exact RcNeAt.none_int _ _
  | str q =>
   obtain⟨t2,rfl⟩:=aC;simp only[au]; exact RcNeAt.none_str _ _
  | tup k1 k2 k3 k4 =>
   cases aC; obtain⟨its2,r2,t2⟩:=Inv.gm I k2
   simp only[au]; exact RcNeAt.none_tuple t2 bw
  | lst k1 k2 k3 k4 =>
   cases aC; obtain⟨its2,r2,t2⟩:=Inv.gj I k2
   simp only[au]; exact RcNeAt.none_list t2 bw
  | ba k1 k2 k3 k4=>(cases n <;> simp[flat] at fe)
  | exc k1 k2=>(cases n <;> simp[flat] at fe)
  | xd k1 k2=>(cases n <;> simp[flat] at fe)
  | fn _=>(cases n <;> simp[flat] at fe)
  | dic _=>(cases n <;> simp[flat] at fe)
 | bl p =>
  cases ru
  cases ry with
  | aw =>
   cases aC;simp only[au]; exact RcNeAt.bool_none _
  | bl q =>
   cases aC;simp only[au]; exact RcNeAt.bool_bool _ _
  | int q =>
   obtain⟨t2,rfl⟩:=aC;simp only[au]; exact RcNeAt.bool_int _ _ _
  | str q =>
   obtain⟨t2,rfl⟩:=aC;simp only[au]; exact RcNeAt.bool_str _ _ _
  | tup k1 k2 k3 k4 =>
   cases aC; obtain⟨its2,r2,t2⟩:=Inv.gm I k2
   simp only[au]; exact RcNeAt.bool_tuple _ t2 bw
  | lst k1 k2 k3 k4 =>
   cases aC; obtain⟨its2,r2,t2⟩:=Inv.gj I k2
   simp only[au]; exact RcNeAt.bool_list _ t2 bw
  | ba k1 k2 k3 k4=>(cases n <;> simp[flat] at fe)
  | exc k1 k2=>(cases n <;> simp[flat] at fe)
  | xd k1 k2=>(cases n <;> simp[flat] at fe)
  | fn _=>(cases n <;> simp[flat] at fe)
  | dic _=>(cases n <;> simp[flat] at fe)
 | int p =>
  obtain⟨t1,rfl⟩:=ru
  cases ry with
  | aw =>
   cases aC;simp only[au]; exact RcNeAt.int_none _ _
  | bl q =>
   cases aC;simp only[au]; exact RcNeAt.int_bool _ _ _
  | int q =>
   obtain⟨t2,rfl⟩:=aC;simp only[au]; exact RcNeAt.int_int _ _ _ _
  | str q =>
   obtain⟨t2,rfl⟩:=aC;simp only[au]; exact RcNeAt.int_str _ _ _ _
  | tup k1 k2 k3 k4 =>
   cases aC; obtain⟨its2,r2,t2⟩:=Inv.gm I k2
   simp only[au]; exact RcNeAt.int_tuple _ _ t2 bw
  | lst k1 k2 k3 k4 =>
   cases aC; obtain⟨its2,r2,t2⟩:=Inv.gj I k2
   simp only[au]; exact RcNeAt.int_list _ _ t2 bw
  | ba k1 k2 k3 k4=>(cases n <;> simp[flat] at fe)
  | exc k1 k2=>(cases n <;> simp[flat] at fe)
  | xd k1 k2=>(cases n <;> simp[flat] at fe)
  | fn _=>(cases n <;> simp[flat] at fe)
  | dic _=>(cases n <;> simp[flat] at fe)
 | str p =>
  obtain⟨t1,rfl⟩:=ru
  cases ry with
  | aw =>
   cases aC;simp only[au]; exact RcNeAt.str_none _ _
  | bl q =>
   cases aC;simp only[au]; exact RcNeAt.str_bool _ _ _
  | int q =>
   obtain⟨t2,rfl⟩:=aC;simp only[au]; exact RcNeAt.str_int _ _ _ _
  | str q =>
   obtain⟨t2,rfl⟩:=aC;simp only[au]; rw[<- oE]; exact RcNeAt.str_str _ _ _ _
  | tup k1 k2 k3 k4 =>
   cases aC; obtain⟨its2,r2,t2⟩:=Inv.gm I k2
   simp only[au]; exact RcNeAt.str_tuple _ _ t2 bw
  | lst k1 k2 k3 k4 =>
   cases aC; obtain⟨its2,r2,t2⟩:=Inv.gj I k2
   simp only[au]; exact RcNeAt.str_list _ _ t2 bw
  | ba k1 k2 k3 k4=>(cases n <;> simp[flat] at fe)
  | exc k1 k2=>(cases n <;> simp[flat] at fe)
  | xd k1 k2=>(cases n <;> simp[flat] at fe)
  | fn _=>(cases n <;> simp[flat] at fe)
  | dic _=>(cases n <;> simp[flat] at fe)
 | tup h1 h2 h3 h4 =>
  cases ru; obtain⟨its1,r1,t1⟩:=Inv.gm I h2
  cases ry with
  | aw =>
   cases aC;simp only[au]; exact RcNeAt.tuple_none t1 bw
  | bl q =>
   cases aC;simp only[au]; exact RcNeAt.tuple_bool _ t1 bw
  | int q =>
   obtain⟨t2,rfl⟩:=aC;simp only[au]; exact RcNeAt.tuple_int _ _ t1 bw
  | str q =>
   obtain⟨t2,rfl⟩:=aC;simp only[au]; exact RcNeAt.tuple_str _ _ t1 bw
  | tup k1 k2 k3 k4 =>
   cases aC; obtain⟨its2,r2,t2⟩:=Inv.gm I k2
   simp only[au]; exact IJ I n A bw t1 t2 r1 r2 h3 k3 h4 k4 fd fe ih
  | lst k1 k2 k3 k4 =>
   cases aC; obtain⟨its2,r2,t2⟩:=Inv.gj I k2
   simp only[au]; exact RcNeAt.tuple_list t1 t2 bw
  | ba k1 k2 k3 k4=>(cases n <;> simp[flat] at fe)
  | exc k1 k2=>(cases n <;> simp[flat] at fe)
  | xd k1 k2=>(cases n <;> simp[flat] at fe)
  | fn _=>(cases n <;> simp[flat] at fe)
  | dic _=>(cases n <;> simp[flat] at fe)
 | lst h1 h2 h3 h4 =>
  cases ru; obtain⟨its1,r1,t1⟩:=Inv.gj I h2
  cases ry with
  | aw =>
   cases aC;simp only[au]; exact RcNeAt.list_none t1 bw
  | bl q =>
   cases aC;simp only[au]; exact RcNeAt.list_bool _ t1 bw
  | int q =>
   obtain⟨t2,rfl⟩:=aC;simp only[au]; exact RcNeAt.list_int _ _ t1 bw
  | str q =>
   obtain⟨t2,rfl⟩:=aC;simp only[au]; exact RcNeAt.list_str _ _ t1 bw
  | tup k1 k2 k3 k4 =>
   cases aC; obtain⟨its2,r2,t2⟩:=Inv.gm I k2
   simp only[au]; exact RcNeAt.list_tuple t1 t2 bw
  | lst k1 k2 k3 k4 =>
   cases aC; obtain⟨its2,r2,t2⟩:=Inv.gj I k2
   simp only[au]; exact IL I n A bw t1 t2 r1 r2 h3 k3 h4 k4 fd fe ih
  | ba k1 k2 k3 k4=>(cases n <;> simp[flat] at fe)
  | exc k1 k2=>(cases n <;> simp[flat] at fe)
  | xd k1 k2=>(cases n <;> simp[flat] at fe)
  | fn _=>(cases n <;> simp[flat] at fe)
  | dic _=>(cases n <;> simp[flat] at fe)
 | ba h1 h2 h3 h4=>(cases n <;> simp[flat] at fd)
 | exc h1 h2=>(cases n <;> simp[flat] at fd)
 | xd h1 h2=>(cases n <;> simp[flat] at fd)
 | fn _=>(cases n <;> simp[flat] at fd)
 | dic _=>(cases n <;> simp[flat] at fd)
theorem AE(h:RcAt A s u w k)(hs:u=w->k=true)(hf:∀ b t,u≠Value.float b t):EqAt A s u w k:=λprog w' E Q hq=>by
 unfold eqBool;refine WK ?_;refine wpAny_ite_split (λmZ=>?_) (λ_=>?_)
 ·have e:=eq_of_beq mZ;rw[hs e] at hq;exact W0 (J4 (W3 hq))
 ·cases u with
  | float b t=>exact absurd rfl (hf b t)
  | _=>exact W0 (h prog w' E _ (Qb hq))
theorem AF(r:Rep H cR x d)(ru:RelV x u)(b:UInt64)(t:Tok):u≠Value.float b t:=by
 intro e;subst e
 cases r <;> first | (cases ru; done) | (obtain⟨t',e⟩:=ru; cases e)
theorem IP(I:Inv X pins σ H s)(n:Nat):uF H s n:=by
 induction n with
 | zero =>
  intro A x y u w d e hu fd fe rx ry ru aC;refine AE (uG I 0 A x y u w d e (by omega) fd fe trivial rx ry ru aC) (λh=>?_) (AF rx ru);subst h;have:=ru.inj aC;subst this;rw[Rep.inj rx fd fe ry];exact uD fe
 | succ n ih =>
  intro A x y u w d e hu fd fe rx ry ru aC;refine AE (uG I (n + 1) A x y u w d e (by omega) fd fe ⟨by omega,ih⟩ rx ry ru aC) (λh=>?_) (AF rx ru);subst h;have:=ru.inj aC;subst this;rw[Rep.inj rx fd fe ry];exact uD fe
theorem AG(I:Inv X pins σ H s):∀ n:Nat,A.units + n + 1 < Ww->lW H s A n
 | 0,_=>trivial
 | n + 1,h=>⟨by omega,IP I n⟩
def AH:R2:=λx y H Q=>∃ d e,Rep H cR x d/\Rep H cR y e/\flat 50 d=true/\flat 50 e=true/\Q (.bl (au d e)) H
def AI:R2:=λx y H Q=>∃ d e,Rep H cR x d/\Rep H cR y e/\flat 50 d=true/\flat 50 e=true/\Q (.bl (!au d e)) H
theorem kU(hu:X.A.units + 64 < Ww):bD X (WB .Eq) AH:=by
 intro pins s σ H x y v u Q I rx ry h;obtain⟨d,e,r1,r2,f1,f2,q⟩:=h;exact uG I 50 X.A x y v u d e (by omega) f1 f2 (AG I 50 (by omega)) r1 r2 rx ry X.prog X.w X.xe _ ⟨.bl _,H,I,rfl,q⟩
theorem lX(hu:X.A.units + 64 < Ww):bD X (WB .NotEq) AI:=by
 intro pins s σ H x y v u Q I rx ry h;obtain⟨d,e,r1,r2,f1,f2,q⟩:=h;exact IM I 50 X.A x y v u d e (by omega) f1 f2 (AG I 50 (by omega)) r1 r2 rx ry X.prog X.w X.xe _ ⟨.bl _,H,I,rfl,q⟩
end
def cJ{α:Type}(xs:List α)(lo hi:Option Int):List α:=(xs.drop (HT.aT xs.length 0 lo)).take (HT.aT xs.length xs.length hi - HT.aT xs.length 0 lo)
theorem AJ(xs:List V)(lo hi:Option Int):cJ xs lo hi=kL xs lo hi:=rfl
theorem IQ(xs:List α)(lo hi:Option Int):(cJ xs lo hi).length<=xs.length:=by
 unfold cJ;rw[JM,List.length_drop];omega
theorem aA.cut(lo hi:Option Int)(h:aA H O vs ds):aA H O (cJ vs lo hi) (cJ ds lo hi):=by
 unfold cJ;rw[h.1];exact aA.take _ (aA.drop _ h)
theorem IS{α:Type}{xs:List α}{lo hi:Option Int}(h:HT.aT xs.length 0 lo=0/\HT.aT xs.length xs.length hi=xs.length):cJ xs lo hi=xs:=by
 unfold cJ;rw[h.1,h.2];simp
section
variable {prog:Wg} {w:Wh} {A:Wl} {E:Value->W1->Prop} {s:W1}
theorem IU{t sl:Addr}{items:Array Value}{vl vu:Value}{lo hi:Option Int}{Q:Value->W1->Prop}(ht:IsTup s.heap t items)(hs:s.heap.IsSliceOf sl vl vu .none)(pl:IsPart vl lo)(pu:IsPart vu hi)
  (hw:HT.aT items.size 0 lo=0/\HT.aT items.size items.size hi=items.size) (h:Q (.ref t) s):W4 (model prog w) A (JB (.ref t) (.ref sl)) Q E s:=by
 obtain⟨os,hos,hcs,hds⟩:=id hs;have uc:s.TypeIs (.ref sl) "slice":=⟨os,hos,hcs⟩
 unfold JB;try with_reducible refine WK ?_
 first | refine W0 (W3 ?_) | skip
 refine W0 (JG ht.typeIs (by decide) ?_);refine W0 (WI (name:=Str.ofString "__getitem__") ht.typeIs Qz
  (WE Qz ht.typeIs entry_tuple_getitem ?_ (args_tuple_getitem _ _)))
 show W4 _ _ (Builtin.Tuple.tupleItemsOf (.ref t) >>= _) _ _ s;refine W0 (tupleItemsOf_ ht ?_);refine W0 (Jf uc ?_);rw[if_pos (by decide)];refine W0 (HT.zO hs pl pu ?_);show W4 _ _ (if (((HT.aT items.size 0 lo:Nat):Int) == 0 && (1:Int) == 1 && (HT.aT items.size items.size hi - HT.aT items.size 0 lo) == items.size)=true then _ else _) _ _ s;rw[hw.1,hw.2];rw[if_pos (by simp)];refine W0 (m:=Builtin.Tuple.tupleIsExact (.ref t)) ?_;unfold Builtin.Tuple.tupleIsExact;refine W0 (Jf ht.typeIs (W3 ?_));rw[if_pos (by decide)];exact W0 (J4 (W0 (W3 (W3 ⟨_,rfl,W3 h⟩))))
end
section
variable {X:Cx}
def AK(K:W2):V->Option Int->Option Int->Hp->VK->Prop:=λx lo hi H Q=>∃ a xs,x = .ref a/\cz K H a xs /\
 ((HT.aT xs.length 0 lo=0/\HT.aT xs.length xs.length hi=xs.length)->Q (.ref a) H)/\(¬ (HT.aT xs.length 0 lo=0/\HT.aT xs.length xs.length hi=xs.length)->∀ p,H p=none->Q (.ref p) (upd H p (.tup (kL xs lo hi))))
theorem IV:ja X (AK X.K):=by
 intro pins s σ H x v vl vu lo hi sl Q I rx hs pl pu h;obtain⟨a,xs,rfl,hx,q1,q2⟩:=h;by_cases hw:HT.aT xs.length 0 lo=0/\HT.aT xs.length xs.length hi=xs.length
 ·cases rx;obtain⟨af,r,ht,hz⟩:=I.tuple hx;have hlen:af.toArray.size=xs.length:=by rw[Wp]; exact r.length.symm
  refine⟨"tuple",_,PyProof.Rows.slot_tuple_getitem.lookup,ht.typeIs,?_⟩;exact IU ht hs pl pu (by rw[hlen]; exact hw) ⟨.ref a,H,I,rfl,q1 hw⟩
 ·exact G5 pins s σ H (.ref a) v vl vu lo hi sl Q I rx hs pl pu ⟨a,xs,rfl,hx,hw,q2 hw⟩
theorem IW(a b:Nat):sliceRange (a:Int) (b:Int) 1=(Q1 (b - a)).map (λk=>a + k):=by
 have h0:((1:Int) > 0)=True:=by simp
 unfold sliceRange;simp only[h0,if_true];by_cases aY:(a:Int) < (b:Int)
 ·rw[if_pos aY];have e3:(((b:Int) - (a:Int) + 1 - 1) / 1).toNat=b - a:=by
   rw[Int.ediv_one]; omega
  rw[e3];refine QX λk _=>?_
  omega
 ·rw[if_neg aY];have:b - a=0:=by omega
  rw[this];rfl
theorem AL(lo hi:Option Int)(n:Nat):Qp lo hi 1 n=(Q1 (HT.aT n n hi - HT.aT n 0 lo)).map (λk=>HT.aT n 0 lo + k):=by
 have c:∀ (i:Int) (d:Nat),max 0 (min (if i < 0 then i + (n:Int) else i) (n:Int))=((HT.aT n d (some i):Nat):Int):=by
  intro i d;show max 0 (min (if i < 0 then i + (n:Int) else i) (n:Int))=(((if i < 0 then(i + (n:Int)).toNat else min i.toNat n):Nat):Int);by_cases hi:i < 0
  ·simp only[if_pos hi]; omega
  ·simp only[if_neg hi]; omega
 have h0:((1:Int) > 0)=True:=by simp
 rw[<- IW];unfold Qp;simp only[h0,if_true]
 cases lo with
 | none =>
  cases hi with
  | none=>rfl
  | some j=>show sliceRange 0 (max 0 (min (if j < 0 then j + (n:Int) else j) (n:Int))) 1=_; rw[c j n]; rfl
 | some i =>
  cases hi with
  | none=>show sliceRange (max 0 (min (if i < 0 then i + (n:Int) else i) (n:Int))) (n:Int) 1=_; rw[c i 0]; rfl
  | some j=>show sliceRange (max 0 (min (if i < 0 then i + (n:Int) else i) (n:Int))) (max 0 (min (if j < 0 then j + (n:Int) else j) (n:Int))) 1=_; rw[c i 0,c j n]
theorem IX(x:Tx)(lo hi:Option Int):(⟨((Qp lo hi 1 (toS x).length).filterMap ((toS x).cps[·]?)).toArray⟩:Str)=toS (cJ x lo hi):=by
 unfold toS;congr 1
 rw[AL];have:=pick_run (x.toArray) (HT.aT x.length 0 lo) (HT.aT x.length x.length hi - HT.aT x.length 0 lo);have hl:({ cps:=x.toArray }:Str).length=x.length:=by simp[Str.length]
 rw[hl];rw[this];rfl
def AM:V->Option Int->Option Int->Hp->VK->Prop:=λx lo hi H Q=>∃ z:Tx,x = .str (toS z)/\z.length<=Wb/\Q (.str (toS (cJ z lo hi))) H
theorem AN(p:IsPart v o):∃ q:Option (Int×Tok),v=partValue q/\q.map (·.1)=o:=by
 cases p with
 | none=>exact⟨none,rfl,rfl⟩
 | int i t=>exact⟨some (i,t),rfl,rfl⟩
theorem IY:ja X AM:=by
 intro pins s σ H x v vl vu lo hi sl Q I rx hs pl pu h;obtain⟨z,rfl,hz,q⟩:=h;obtain⟨t,rfl⟩:=rx;obtain⟨l,rfl,el⟩:=AN pl;obtain⟨u,rfl,eu⟩:=AN pu;obtain⟨o,ho,hc,hd⟩:=hs;refine⟨"str",_,F.slot_str_getitem.lookup,typeIs_str s _ t,?_⟩;refine wpAny_getItem_str_slice (l:=l) (u:=u) (st:=none) ⟨o,ho,hc,hd⟩ rfl ?_;unfold sliceMade;have e:(slicePicked (toS z) l u none)=Qp lo hi 1 (toS z).length:=by
  unfold slicePicked;rw[el,eu];rfl
 rw[e];by_cases hw:(((none:Option (Int×Tok)).map (·.1)).getD 1 == 1 && (Qp lo hi 1 (toS z).length).length == (toS z).length)=true
 ·rw[if_pos hw];refine⟨.str (toS (cJ z lo hi)),H,I,⟨t,?_⟩,q⟩;congr 1
  rw[Wm] at hw;have uH:=eq_of_beq hw.2;rw[AL,Wz,List.length_range,jd] at uH;have h1:=HT.ub z.length 0 (Ql _) lo;have h2:=HT.ub z.length z.length (Wf _) hi;unfold cJ;congr 1
  by_cases h0:z.length=0
  ·have:z=[]:=List.eq_nil_of_length_eq_zero h0;subst this;simp
  ·have a1:HT.aT z.length 0 lo=0:=by omega
   rw[a1] at uH ⊢;rw[uH];simp
 ·rw[if_neg hw];show Made.post (.str _) _ _;rw[IX];exact⟨by rw[jd]; exact Q2 (IQ z lo hi) hz,.str (toS (cJ z lo hi)),H,I.tok _,⟨_,rfl⟩,q⟩
theorem IZ:bD X (Qe .Add) (λx y H Q=>∃ a b ys,x = .ref a/\y = .ref b/\cz X.K H a []/\cz X.K H b ys/\Q (.ref b) H):=by
 intro pins s σ H x y v u Q I rx ry h;obtain⟨a,b,ys,rfl,rfl,ha,hb,q⟩:=h
 cases rx
 cases ry;obtain⟨af,r1,p1,_⟩:=I.tuple ha;obtain⟨its2,r2,p2,_⟩:=I.tuple hb
 cases r1;obtain⟨⟨cls,dd,data,sl⟩,ho,hc,n,hd⟩:=id p1;obtain⟨⟨cls2,lR,data2,kK⟩,ho2,hc2,n2,hd2⟩:=id p2;simp only at hc hd hc2 hd2;subst hc hd hc2 hd2;exact concat_meets ⟨_,ho,rfl⟩ ⟨_,ho2,rfl⟩ noFill_tuple_add seq_tuple_add PySem.F.slot_tuple_add PySem.F.entry_tuple_add (PySem.F.args_tuple_add_2 _ _)
   (tuple_addW0 a b #[] its2.toArray n n2 dd lR sl kK rfl) ⟨ho,ho2,.ref b,H,I,rfl,q⟩
def AO(K:W2):R2:=λx y H Q=>∃ l b xs zs,x = .ref l/\y = .ref b/\ck K H l xs/\ck K H b zs/\xs.length + zs.length<=Wb/\∀ p,H p=none->Q (.ref p) (upd H p (.lst (xs ++ zs)))
theorem I0:bD X (Qe .Add) (AO X.K):=by
 intro pins s σ H x y v u Q I rx ry h;obtain⟨l,b,xs,zs,rfl,rfl,hH,hB,hz,q⟩:=h
 cases rx
 cases ry;obtain⟨af,r,⟨⟨cls,dd,data,sl⟩,n,e,hc,je,hd⟩,z⟩:=I.list hH;obtain⟨its2,r2,⟨⟨cls2,lR,data2,kK⟩,n2,e2,hc2,hdd2,hd2⟩,z2⟩:=I.list hB;simp only at hc hd je hc2 hd2 hdd2;subst hc hd je hc2 hd2 hdd2;have hl:=r.length;have m_:=r2.length;refine concat_meets ⟨_,e,rfl⟩ ⟨_,e2,rfl⟩ noFill_list_add seq_list_add PySem.F.slot_list_add PySem.F.entry_list_add (PySem.F.args_list_add_2 _ _)
   (list_addW l b af.toArray its2.toArray n n2 none none sl kK (by rw[Wp,Wp]; omega)) ⟨e,e2,?_⟩
 have ea:af.toArray ++ its2.toArray=(af ++ its2).toArray:=by simp
 rw[ea];exact⟨.ref _,_,I.Hr (t':=s.toks) (r.append r2) (by rw[Qi]; omega),rfl,q _ I.fresh⟩
theorem rC:∀ {ys:List Str} {us:List Value},Vals (ys.map V.str) us->StrsAre us ys
 | [],us,r=>by cases r; exact .nil
 | y :: ys,us,r=>by
  cases r with
  | cons r1 r2 =>
   obtain⟨t,rfl⟩:=r1;exact .cons y t (rC r2)
theorem rE:∀ {ys:List Str} {us:List Value},StrsAre us ys->Vals (ys.map V.str) us
 | _,_,.nil=>.nil
 | _,_,.cons y t h=>.cons ⟨t,rfl⟩ (rE h)
def rF(K:W2):V->List V->Hp->VK->Prop:=λx vs H Q=>∃ (z:Str) (a:Addr) (ys:List Str),x = .str z/\vs=[.ref a]/\(ck K H a (ys.map V.str)\/cz K H a (ys.map V.str)) /\
 (ys.map (·.length)).sum + ys.length * z.length<=16777216/\Q (.str (Txt.join z ys)) H
theorem I_:qN X "str.join" (rF X.K):=by
 intro pins s σ H x vs v us Q I rx rv h;obtain⟨z,a,ys,rfl,rfl,hq,hz,q⟩:=h;obtain⟨t,rfl⟩:=rx;obtain⟨u,rfl,ru⟩:=rv.one
 cases ru;rcases hq with hq | hq
 ·obtain⟨af,r,p,_⟩:=I.list hq;exact join_list p.isList (by simpa using rC r) hz λt' k=>⟨.str _,H,I.tok _,⟨t',rfl⟩,q⟩
 ·obtain⟨af,r,p,_⟩:=I.tuple hq;exact join_tuple p (by simpa using rC r) hz λt' k=>⟨.str _,H,I.tok _,⟨t',rfl⟩,q⟩
def jQ(x:Tx):List Tx->List Tx
 | []=>[x]
 | y :: r=>if y < x then y :: jQ x r else x :: y :: r
def gH:List Tx->List Tx
 | []=>[]
 | x :: r=>jQ x (gH r)
theorem uI(x:Tx):∀ l:List Tx,(jQ x l).Perm (x :: l)
 | []=>.refl _
 | y :: r=>by
  unfold jQ;split
  ·exact((uI x r).cons y).trans (.swap x y r)
  ·exact .refl _
theorem uJ:∀ l:List Tx,(gH l).Perm l
 | []=>.refl _
 | x :: r=>(uI x _).trans ((uJ r).cons x)
abbrev g8(a b:Tx):Prop:=¬ b < a
theorem AQ(h1:g8 a b)(h2:g8 b c):g8 a c:=List.not_lt.mpr (List.le_trans (List.not_lt.mp h1) (List.not_lt.mp h2))
theorem JS(h1:g8 a b)(h2:g8 b a):a=b:=List.le_antisymm (List.not_lt.mp h1) (List.not_lt.mp h2)
theorem AR(x:Tx):∀ l:List Tx,l.Pairwise g8->(jQ x l).Pairwise g8
 | [],_=>by simp[jQ]
 | y :: r,h=>by
  unfold jQ;obtain⟨h1,h2⟩:=List.pairwise_cons.mp h;split
  ·rename_i aY;refine Jv.mpr ⟨λz hz=>?_,AR x r h2⟩;rcases Wo.mp ((uI x r).mem_iff.mp hz) with e | hz
   ·subst e;intro q;exact absurd (List.lt_trans aY q) (List.lt_irrefl _)
   ·exact h1 z hz
  ·rename_i hge;refine Jv.mpr ⟨λz hz=>?_,h⟩;rcases Wo.mp hz with e | hz
   ·subst e; exact hge
   ·exact AQ hge (h1 z hz)
theorem AS:∀ l:List Tx,(gH l).Pairwise g8
 | []=>.nil
 | x :: r=>AR x _ (AS r)
theorem JT(hp:l'.Perm l)(hs:l'.Pairwise g8):l'=gH l :=
 List.Perm.eq_of_pairwise (λ_ _ _ _ h1 h2=>JS h1 h2) hs (AS l) (hp.trans (uJ l).symm)
theorem AU:∀ (x:Str) (r:List Str),risingS x r=true->((x :: r).map λz:Str=>z.cps.toList).Pairwise g8
 | x,[],_=>by simp
 | x,y :: r,h=>by
  have h':(!ltCps y.cps.toList x.cps.toList && risingS y r)=true:=h;rw[Wm] at h';have ih:=AU y r h'.2;have AV:g8 x.cps.toList y.cps.toList:=by
   have:=h'.1;rw[ltCps_eq] at this;simpa using this
  rw[Wk];refine Jv.mpr ⟨λz hz=>?_,ih⟩;rw[Wk] at hz ih;rcases Wo.mp hz with e | hz
  ·subst e; exact AV
  ·exact AQ AV ((List.pairwise_cons.mp ih).1 z hz)
theorem JU:eS X (.builtin "sorted") (λxs H Q=>∃ (a:Addr) (ts:List Tx),xs=[.ref a]/\ck X.K H a (ts.map λz=>V.str (toS z))/\ts.length < 64/\∀ p,H p=none->Q (.ref p) (upd H p (.lst ((gH ts).map λz=>V.str (toS z))))):=by
 intro pins s σ H xs us Q I r h;obtain⟨a,ts,rfl,hq,hz,q⟩:=h;obtain⟨u,rfl,ru⟩:=i6 r
 cases ru;obtain⟨af,r',p,_⟩:=I.list hq;have r2:Vals ((ts.map toS).map V.str) af:=by rw[WF]; exact r'
 have hlen:=r'.length;rw[Wz] at hlen;refine sorted_strs p.isList (rC r2) (by omega) λout ss hS hp hs=>?_
 have e:ss=(gH ts).map toS:=by
  have JV:(ss.map λz:Str=>z.cps.toList).Pairwise g8:=by
   cases ss with
   | nil=>simp
   | cons x r=>exact AU x r hs
  have JW:(ss.map λz:Str=>z.cps.toList).Perm ts:=by
   have:=hp.map λz:Str=>z.cps.toList
   rw[WF] at this;have e2:ts.map ((λz:Str=>z.cps.toList) ∘ toS)=ts:=by
    rw[show((λz:Str=>z.cps.toList) ∘ toS)=id from funext λz=>q_ z,List.map_id]
   rw[e2] at this;exact this
  rw[<- JT JW JV,WF];have:(toS ∘ λz:Str=>z.cps.toList)=id:=funext λz=>(Ax z).symm
  rw[this,List.map_id]
 obtain⟨ep,he⟩:=sortedAll_at s.heap af out;have hv:Vals ((gH ts).map λz=>V.str (toS z)) out.toList:=by
  have:=rE hS;rw[e,WF] at this;exact this
 have m_:((gH ts).map λz=>V.str (toS z)).length<=Wb:=by
  rw[Wz,(uJ ts).length_eq];exact Q2 (JO hz) (by rw[QR]; decide)
 refine⟨.ref (s.heap.objs.size + 1),_,I.laid (a:=s.heap.objs.size + 1) (o:=.lst ((gH ts).map λz=>V.str (toS z))) (t':=s.toks) (λb u e=>sortedAll_old e) (Jm _) ?_,rfl,q _ (I.ah.fresh (Jm _))⟩;exact⟨m_,out.toList,ep,hv,by simpa[seqObj] using he⟩
end
def p2(p:D->D->Option S)(x y:D)(δ:Dl):Rs S:=match p x y with
 | some s=>.ok s δ
 | none=>.stuck
def bb(p:D->D->Option S)(fa:DE)(fb:BE):DE:=λδ=>(fa δ).bind λx δ1=>(fb δ1).bind λy δ2=>p2 p x.d y δ2
def bq(p:D->D->Option S)(i:Nat)(fb:BE):DE:=λδ=>(fb δ).bind λy δ1=>(aq i δ1).bind λx δ2=>p2 p x y δ2
def cF(r:R2)(p:D->D->Option S):Prop:=∀ (c:Fc) (σ:St) (δ:Dl) (H:Hp) (x y:V) (d e:D) (s:S) (Q:VK),Ok c σ δ H->cg c σ δ H x d->cg c σ δ H y e->p d e=some s ->
 (∀ v H',aE c σ δ H σ δ H'->aZ c σ δ H H' v s->Q v H')->r x y H Q
section
variable {X:Cx} {c:Fc} {a b:Expr} {fa:DE} {fb:BE} {r:R2} {p:D->D->Option S} {pos:Pos}
theorem AW(hp:cF r p)(k:Ok c σ δ H)(rx:cg c σ δ H x d)(ry:cg c σ δ H y e)
  (h:post c (p2 p d e δ) λs δ'=>∀ v H',aE c σ δ H σ δ' H'->aZ c σ δ' H H' v s->Q v H'):r x y H Q:=by
 unfold p2 at h
 cases e1:p d e with
 | none=>rw[e1] at h; exact h.elim
 | some s=>rw[e1] at h; exact hp c σ δ H x y d e s Q k rx ry e1 h
theorem uK(hp:cF r p)(h:tD c (bb p fa fb) σ H Q):lP r (tD c fa) (tB c fb) σ H Q:=by
 obtain⟨δ,k,q⟩:=h;refine⟨δ,k,?_⟩;unfold bb at q;rw[bh] at q;refine aX q λx δ1 q1 v H1 a1 r1=>⟨δ1,a1.ok,?_⟩
 rw[bh] at q1;refine aX q1 λy δ2 q2 u H2 a2 r2=>?_
 exact AW hp a2.ok (.inl (Rep.du r1.rep a2)) r2 (aX q2 λs δ3 q3 v' H3 a3 r3=>q3 v' H3 (a1.trans (a2.trans a3)) (aZ.back r3 (a1.trans a2)))
theorem JX(hp:cF r p)(h:tD c (bq p i fb) σ H Q)(hv:∀ δ,Ok c σ δ H->post c (fb δ) (λ_ _=>True)->∃ v,σ[i]? = some (some v)):lP r (da i) (tB c fb) σ H Q:=by
 obtain⟨δ,k,q⟩:=h;unfold bq at q;rw[bh] at q;obtain⟨v,ev⟩:=hv δ k (aX q λ_ _ _=>trivial);refine⟨v,ev,δ,k,aX q λy δ1 q1 u H1 a1 r1=>?_⟩;rw[bh] at q1;unfold aq at q1
 cases e:δ1[i]? with
 | none=>rw[e] at q1; exact q1.elim
 | some o =>
  cases o with
  | none=>rw[e] at q1; exact q1.elim
  | some w =>
   rw[e] at q1;have JY:post c (p2 p w.d y δ1) λs δ'=>∀ v H',aE c σ δ H σ δ' H'->aZ c σ δ' H H' v s->Q v H':=q1
   have rb:cg c σ δ1 H1 v w.d:=by
    cases w with
    | pure d =>
     obtain⟨v',e1,r⟩:=a1.ok.slot i d e;rw[ev] at e1; cases e1
     exact .inl r
    | own d =>
     obtain⟨a,e1,r,_⟩:=a1.ok.own i d e;rw[ev] at e1; cases e1
     exact .inr ⟨a,rfl,r⟩
   exact AW hp a1.ok rb r1 (aX JY λs δ3 q3 v' H3 a3 r3=>q3 v' H3 (a1.trans a3) (aZ.back r3 a1))
theorem nc{i:Nat}{σ:St}{δ:Dl}{H:Hp}(k:Ok c σ δ H){w:S}(e:δ[i]? = some (some w)):∃ v,σ[i]? = some (some v):=by
 cases w with
 | pure d=>obtain⟨v,e1,_⟩:=k.slot i d e; exact⟨v,e1⟩
 | own d=>obtain⟨a,e1,_⟩:=k.own i d e; exact⟨_,e1⟩
end
def ag(p:D->D->Option S)(i:Nat)(fb:BE):DE:=λδ=>match δ[i]? with
 | some (some _)=>bq p i fb δ
 | _=>.stuck
section
variable {X:Cx} {c:Fc} {a b:Expr} {fa:DE} {fb:BE} {r:R2} {p:D->D->Option S} {pos:Pos}
theorem rG(hp:cF r p){i:Nat}{σ:St}{H:Hp}{Q:VK}(h:tD c (ag p i fb) σ H Q):lP r (da i) (tB c fb) σ H Q:=by
 obtain⟨δ,k,q⟩:=h;unfold ag at q
 cases e:δ[i]? with
 | none=>rw[e] at q; exact q.elim
 | some o =>
  cases o with
  | none=>rw[e] at q; exact q.elim
  | some w =>
   rw[e] at q;obtain⟨v,ev⟩:=nc k e;exact JX hp (i:=i) ⟨δ,k,q⟩ λ_ _ _=>⟨v,ev⟩
theorem cZ{op:Operator}(ho:bD X (Qe op) r)(hp:cF r p)(ha:SE X c a fa)(hb:SB X c b fb):SE X c (.BinOp a op b pos) (bb p fa fb):=PE.weak (zm ho ha hb) λ_ _ _ h=>uK hp h
theorem eU{op:Operator}{i:Nat}(ho:bD X (Qe op) r)(hp:cF r p)(ha:PE X a (da i))(hb:SB X c b fb):SE X c (.BinOp a op b pos) (ag p i fb):=PE.weak (zm ho ha hb) λ_ _ _ h=>rG hp h
theorem lY{op:CmpOp}{i:Nat}(ho:bD X (WB op) r)(hp:cF r p)(ha:PE X a (da i))(hb:SB X c b fb)(hm:Qu op b=false):SE X c (.Compare a [op] [b] pos) (ag p i fb):=PE.weak (Gv ho ha hb hm) λ_ _ _ h=>rG hp h
theorem rH(hr:gF X r)(hp:cF r p)(ha:SE X c a fa)(hb:SB X c b fb)(hs:ue b):SE X c (.Subscript a b pos) (bb p fa fb):=PE.weak (zS hr ha hb hs) λ_ _ _ h=>uK hp h
theorem cA{i:Nat}(hr:gF X r)(hp:cF r p)(ha:PE X a (da i))(hb:SB X c b fb)(hs:ue b):SE X c (.Subscript a b pos) (ag p i fb):=PE.weak (zS hr ha hb hs) λ_ _ _ h=>rG hp h
end
abbrev DT:=Dl->Rs Bool
def tT(c:Fc)(f:DT):TT:=λσ H Q=>∃ δ,Ok c σ δ H/\post c (f δ) λb δ'=>∀ H',aE c σ δ H σ δ' H'->Q b H'
abbrev ST(X:Cx)(c:Fc)(e:Expr)(f:DT):Prop:=PT X e (tT c f)
theorem PT.weak(h:PT X e t)(w:∀ σ H Q,t' σ H Q->t σ H Q):PT X e t':=λpins s σ H Q I q=>h pins s σ H Q I (w σ H Q q)
def aS(f:DE):DT:=λδ=>(f δ).bind λr δ'=>match r with
 | .pure (.bl b)=>.ok b δ'
 | _=>.stuck
section
variable {X:Cx} {c:Fc} {a b:Expr} {fa f:DE} {fb:BE} {r:R2} {p:D->D->Option S} {pos:Pos}
theorem uL(h:tT c (aS f) σ H Q):tD c f σ H λx H'=>∃ k,x = .bl k/\Q k H':=by
 obtain⟨δ,k,q⟩:=h;refine⟨δ,k,?_⟩;unfold aS at q;rw[bh] at q;refine aX q λr δ1 q1 v H1 a1 r1=>?_
 cases r with
 | own d=>exact q1.elim
 | pure d =>
  cases d <;> first | exact q1.elim | skip
  rename_i b
  cases r1;exact⟨b,rfl,q1 H1 a1⟩
theorem g9{op:CmpOp}(ho:bD X (WB op) r)(hp:cF r p)(ha:SE X c a fa)(hb:SB X c b fb)(hm:Qu op b=false):ST X c (.Compare a [op] [b] pos) (aS (bb p fa fb)) :=
 PT.weak (zw ho ha hb hm) λσ H Q h=>uK hp (uL h)
theorem nh{op:CmpOp}{i:Nat}(ho:bD X (WB op) r)(hp:cF r p)(ha:PE X a (da i))(hb:SB X c b fb)(hm:Qu op b=false):ST X c (.Compare a [op] [b] pos) (aS (ag p i fb)) :=
 PT.weak (zw ho ha hb hm) λσ H Q h=>rG hp (uL h)
theorem kW{e:Expr}(h:SE X c e f)(he:∀ whole,isTrue e X.env whole=(do let v <- whole; standAt e.pos; holding [v] (truthy v)):=by intro _; rfl):ST X c e (aS f) :=
 PT.weak (Fo h he) λσ H Q h=>uL h
def jR(t u:DT):DT:=λδ=>(t δ).bind λb δ1=>if b then u δ1 else .ok false δ1
def fR(t u:DT):DT:=λδ=>(t δ).bind λb δ1=>if b then .ok true δ1 else u δ1
def jS(t:DT):DT:=λδ=>(t δ).bind λb δ1=>.ok (!b) δ1
abbrev SW(X:Cx)(c:Fc)(e:Expr)(f:DT):Prop:=PW X e (tT c f)
theorem PW.weak(h:PW X e t)(w:∀ σ H Q,t' σ H Q->t σ H Q):PW X e t':=λwh pins s σ H Q I q=>h wh pins s σ H Q I (w σ H Q q)
variable {t u:DT} {rest:List Expr}
theorem uM(ha:ST X c a t):SW X c (.BoolOp .And [a] pos) t:=Ft ha
theorem lZ(ha:ST X c a t):SW X c (.BoolOp .Or [a] pos) t:=Fu ha
theorem uN(ha:ST X c a t)(hb:SW X c (.BoolOp .And (b :: rest) pos) u):SW X c (.BoolOp .And (a :: b :: rest) pos) (jR t u):=PW.weak (Fv ha hb) λσ H Q ⟨δ,k,q⟩=>by
 unfold jR at q;rw[bh] at q;refine⟨δ,k,aX q λx δ1 q1 H1 a1=>?_⟩
 cases x with
 | true=>exact⟨δ1,a1.ok,aX q1 λy δ2 q2 H2 a2=>q2 H2 (a1.trans a2)⟩
 | false=>exact q1 H1 a1
theorem l8(ha:ST X c a t)(hb:SW X c (.BoolOp .Or (b :: rest) pos) u):SW X c (.BoolOp .Or (a :: b :: rest) pos) (fR t u):=PW.weak (pw_or ha hb) λσ H Q ⟨δ,k,q⟩=>by
 unfold fR at q;rw[bh] at q;refine⟨δ,k,aX q λx δ1 q1 H1 a1=>?_⟩
 cases x with
 | false=>exact⟨δ1,a1.ok,aX q1 λy δ2 q2 H2 a2=>q2 H2 (a1.trans a2)⟩
 | true=>exact q1 H1 a1
theorem jf(h:SW X c a t):ST X c a t:=PW.pt h
theorem rJ(ha:ST X c a t):ST X c (.UnaryOp .Not a pos) (jS t):=PT.weak (Fw ha) λσ H Q ⟨δ,k,q⟩=>by
 unfold jS at q;rw[bh] at q;exact⟨δ,k,q⟩
def jT(f g:DE):DE:=λδ=>(f δ).bind λr δ1=>match r with
 | .pure (.bl true)=>g δ1
 | .pure (.bl false)=>.ok (.pure (.bl false)) δ1
 | _=>.stuck
def l9(f g:DE):DE:=λδ=>(f δ).bind λr δ1=>match r with
 | .pure (.bl false)=>g δ1
 | .pure (.bl true)=>.ok (.pure (.bl true)) δ1
 | _=>.stuck
def rK(f:DE):DE:=λδ=>(f δ).bind λr δ1=>match r with
 | .pure (.bl b)=>.ok (.pure (.bl (!b))) δ1
 | _=>.stuck
def JZ(t:DT)(f g:DE):DE:=λδ=>(t δ).bind λb δ1=>if b then f δ1 else g δ1
variable {g:DE}
theorem rL{op}(h:SE X c a f):SE X c (.BoolOp op [a] pos) f:=FA h
theorem uO(ha:SE X c a f)(hb:SE X c (.BoolOp .And (b :: rest) pos) g):SE X c (.BoolOp .And (a :: b :: rest) pos) (jT f g):=PE.weak (FC ha hb) λσ H Q ⟨δ,k,q⟩=>by
 unfold jT at q;rw[bh] at q;refine⟨δ,k,aX q λr δ1 q1 v H1 a1 r1=>?_⟩
 cases r with
 | own d=>exact q1.elim
 | pure d =>
  cases d <;> first | exact q1.elim | skip
  rename_i b
  cases r1;refine⟨b,rfl,?_⟩
  cases b with
  | true=>exact⟨δ1,a1.ok,aX q1 λy δ2 q2 v H2 a2 r2=>q2 v H2 (a1.trans a2) (aZ.back r2 a1)⟩
  | false=>exact q1 _ H1 a1 (.bl false)
theorem AX(ha:SE X c a f)(hb:SE X c (.BoolOp .Or (b :: rest) pos) g):SE X c (.BoolOp .Or (a :: b :: rest) pos) (l9 f g):=PE.weak (FD ha hb) λσ H Q ⟨δ,k,q⟩=>by
 unfold l9 at q;rw[bh] at q;refine⟨δ,k,aX q λr δ1 q1 v H1 a1 r1=>?_⟩
 cases r with
 | own d=>exact q1.elim
 | pure d =>
  cases d <;> first | exact q1.elim | skip
  rename_i b
  cases r1;refine⟨b,rfl,?_⟩
  cases b with
  | false=>exact⟨δ1,a1.ok,aX q1 λy δ2 q2 v H2 a2 r2=>q2 v H2 (a1.trans a2) (aZ.back r2 a1)⟩
  | true=>exact q1 _ H1 a1 (.bl true)
theorem J_(ha:SE X c a f):SE X c (.UnaryOp .Not a pos) (rK f):=PE.weak (FE ha) λσ H Q ⟨δ,k,q⟩=>by
 unfold rK at q;rw[bh] at q;refine⟨δ,k,aX q λr δ1 q1 v H1 a1 r1=>?_⟩
 cases r with
 | own d=>exact q1.elim
 | pure d =>
  cases d <;> first | exact q1.elim | skip
  rename_i b
  cases r1;exact⟨b,rfl,q1 _ H1 a1 (.bl _)⟩
end
section
variable {c:Fc} {σ:St} {δ:Dl} {H:Hp} {x:V}
theorem cg.int(h:cg c σ δ H x (.int i)):x = .int i:=by
 rcases h with h | ⟨_,_,h⟩
 ·cases h; rfl
 ·exact h.elim
theorem cg.bl(h:cg c σ δ H x (.bl b)):x = .bl b:=by
 rcases h with h | ⟨_,_,h⟩
 ·cases h; rfl
 ·exact h.elim
theorem cg.str(h:cg c σ δ H x (.str z)):x = .str (toS z):=by
 rcases h with h | ⟨_,_,h⟩
 ·cases h; rfl
 ·exact h.elim
theorem cg.tup(h:cg c σ δ H x (.tup ds)):∃ a vs,x = .ref a/\H a=some (.tup vs)/\aA H (Av c σ δ) vs ds:=by
 rcases h with h | ⟨_,_,h⟩
 ·cases h with
  | tup h1 h2 h3 h4=>exact⟨_,_,rfl,h2,h3,h4⟩
 ·exact h.elim
theorem cg.lst(h:cg c σ δ H x (.lst ds)):∃ a vs,x = .ref a/\Rd H a (.lst vs)/\aA H (Av c σ δ) vs ds:=by
 rcases h with h | ⟨a,e,h⟩
 ·cases h with
  | lst h1 h2 h3 h4=>exact⟨_,_,rfl,h2,h3,h4⟩
 ·obtain⟨vs,h1,h2⟩:=h;exact⟨a,vs,e,.inl h1,h2⟩
theorem cg.ba(h:cg c σ δ H x (.ba ds)):∃ a ws,x = .ref a/\H a=some (.dK ws)/\ws.map (·.1)=ds.map (λp=>dq p.1)/\∀ (i:Nat) p q,ws[i]? = some p->ds[i]? = some q->Rep H (Av c σ δ) p.2 q.2:=by
 rcases h with h | ⟨a,e,h⟩
 ·cases h with
  | ba h1 h2 h3 h4=>exact⟨_,_,rfl,h2,h3,h4⟩
 ·obtain⟨ws,h1,h2,h3⟩:=h;exact⟨a,ws,e,h1,h2,h3⟩
end
theorem AY(h:z.length<=Wb):(toS z).length<=Wb:=by rw[jd]; exact h
theorem Ka(x y:Tx):toS x ++ toS y=toS (x ++ y):=by
 show Str.append (toS x) (toS y)=_;simp[toS,Str.append]
def bp:D->D->Option S
 | .int i,.int j=>some (.pure (.int (i + j)))
 | .str x,.str y=>if x.length + y.length<=Wb then some (.pure (.str (x ++ y))) else none
 | .tup xs,.tup ys=>if xs.length + ys.length<=Wb then some (.pure (.tup (xs ++ ys))) else none
 | .lst xs,.lst ys=>if xs.length + ys.length<=Wb then some (.own (.lst (xs ++ ys))) else none
 | _,_=>none
def AZ(K:W2):R2:=λx y H Q=>gY (λi j=>V.int (i + j)) x y H Q\/(∃ i j,x = .str i/\y = .str j/\i.length + j.length<=Wb/\Q (.str (i ++ j)) H) \/
 (∃ a b ys,x = .ref a/\y = .ref b/\cz K H a []/\cz K H b ys/\Q (.ref b) H)\/zQ K x y H Q\/AO K x y H Q
theorem eG:bD X (Qe .Add) (AZ X.K):=Gi.or (Gx.or (IZ.or (G6.or I0)))
theorem eJ{K:W2}:cF (AZ K) bp:=by
 intro c σ δ H x y d e s Q k rx ry hp q
 cases d <;> cases e <;> first
  | (simp[bp] at hp; done)
  | skip
 ·rename_i i j;simp only[bp,Wa] at hp;subst hp;exact .inl ⟨i,j,rx.int,ry.int,q _ H (.refl k) (.int _)⟩
 ·rename_i u w;simp only[bp] at hp;split at hp
  ·rename_i hz;simp only[Wa] at hp;subst hp;refine .inr (.inl ⟨toS u,toS w,rx.str,ry.str,by rw[jd,jd]; exact hz,?_⟩);rw[Ka];exact q _ H (.refl k) (.str _)
  ·cases hp
 ·rename_i us ws;simp only[bp] at hp;split at hp
  ·rename_i hz;simp only[Wa] at hp;subst hp;obtain⟨a,vs,ea,ha,ra⟩:=rx.tup;obtain⟨b,zs,eb,hb,rb⟩:=ry.tup
   cases vs with
   | nil =>
    have:us=[]:=by have:=ra.1; simpa using this.symm
    subst this;refine .inr (.inr (.inl ⟨a,b,zs,ea,eb,.of ha,.of hb,?_⟩));rw[eb] at ry;rcases ry with ry | ⟨_,_,ry⟩
    ·exact q _ H (.refl k) ry
    ·exact ry.elim
   | cons v0 vr =>
    refine .inr (.inr (.inr (.inl ⟨a,b,_,zs,ea,eb,.of ha,.of hb,by simp,by rw[ra.1,rb.1]; exact hz,λe0=>?_,λ_ p hp=>?_⟩)))
    ·subst e0;have:ws=[]:=by have:=rb.1; simpa using this.symm
     subst this;rw[ea] at rx;rcases rx with rx | ⟨_,_,rx⟩
     ·rw[WX] at q;exact q _ H (.refl k) rx
     ·exact rx.elim
    ·exact q _ _ (.alloc k hp _) (aZ.mX k (ra.append rb) hp)
  ·cases hp
 ·rename_i us ws;simp only[bp] at hp;split at hp
  ·rename_i hz;simp only[Wa] at hp;subst hp;obtain⟨a,vs,ea,ha,ra⟩:=rx.lst;obtain⟨b,zs,eb,hb,rb⟩:=ry.lst;exact .inr (.inr (.inr (.inr ⟨a,b,vs,zs,ea,eb,.inl ha,.inl hb,by rw[ra.1,rb.1]; exact hz,λp hp=>q _ _ (.alloc k hp _) (aZ.rh k (ra.append rb) hp)⟩)))
  ·cases hp
def eL(C:Int->Int->Bool)(g:Int->Int->D):D->D->Option S
 | .int i,.int j=>if C i j then some (.pure (g i j)) else none
 | _,_=>none
theorem oF(hC:∀ i j,C' i j=true->C i j)(hg:∀ i j H O,Rep H O (g i j) (g' i j)):cF (rI C g) (eL C' g'):=by
 intro c σ δ H x y d e s Q k rx ry hp q
 cases d <;> cases e <;> first
  | (simp[eL] at hp; done)
  | skip
 rename_i i j;simp only[eL] at hp;split at hp
 ·rename_i hc;simp only[Wa] at hp;subst hp;exact⟨i,j,rx.int,ry.int,hC i j hc,q _ H (.refl k) (hg i j H _)⟩
 ·cases hp
theorem Kb(hg:∀ i j H O,Rep H O (g i j) (g' i j)):cF (gY g) (eL (λ_ _=>true) g'):=by
 intro c σ δ H x y d e s Q k rx ry hp q
 cases d <;> cases e <;> first
  | (simp[eL] at hp; done)
  | skip
 rename_i i j;simp only[eL,if_true,Wa] at hp;subst hp;exact⟨i,j,rx.int,ry.int,q _ H (.refl k) (hg i j H _)⟩
def ni:=eL (λ_ _=>true) λi j=>.int (i - j)
theorem A0:cF (gY λi j=>V.int (i - j)) ni:=Kb λ_ _ _ _=>.int _
def jg(i j:Int):Bool:=(decide (-(2 ^ 64) < i) && decide (i < 2 ^ 64)) || (decide (-(2 ^ 64) < j) && decide (j < 2 ^ 64))
def oG:=eL jg λi j=>.int (i * j)
theorem Kc:cF (rI oq λi j=>V.int (i * j)) oG:=oF (λi j h=>by
 unfold jg at h;simp only[Bool.or_eq_true,Wm,decide_eq_true_eq] at h;exact h) λ_ _ _ _=>.int _
def l_(_ j:Int):Bool:=decide (0 < j) && decide (j < 1073741824)
def jU:=eL l_ λi j=>.int (i / j)
theorem uP:cF (rI zq λi j=>V.int (i / j)) jU:=oF (λi j h=>by
 unfold l_ at h;simp only[Wm,decide_eq_true_eq] at h;exact h) λ_ _ _ _=>.int _
def dI:=eL (λ_ j=>decide (0 < j)) λi j=>.int (i % j)
theorem jV:cF (rI (λ_ j=>0 < j) λi j=>V.int (i % j)) dI:=oF (λi j h=>by simpa using h) λ_ _ _ _=>.int _
def oH(i j:Int):Bool:=decide (0<=j) && decide (j<=1000000) && decide (i.natAbs < 2 ^ 64)
def nj:=eL oH λi j=>.int (i ^ j.toNat)
theorem A5:cF (rI zr λi j=>V.int (i ^ j.toNat)) nj:=oF (λi j h=>by
 unfold oH at h;simp only[Wm,decide_eq_true_eq] at h;exact⟨h.1.1,h.1.2,h.2⟩) λ_ _ _ _=>.int _
def cK(d e:D):Option S:=if flat 50 d && flat 50 e then some (.pure (.bl (au d e))) else none
def eM(d e:D):Option S:=if flat 50 d && flat 50 e then some (.pure (.bl (!au d e))) else none
theorem kX:cF AH cK:=by
 intro c σ δ H x y d e s Q k rx ry hp q;unfold cK at hp;split at hp
 ·rename_i hf;rw[Wm] at hf;simp only[Wa] at hp;subst hp;exact⟨d,e,rx.un,ry.un,hf.1,hf.2,q _ H (.refl k) (.bl _)⟩
 ·cases hp
theorem ma:cF AI eM:=by
 intro c σ δ H x y d e s Q k rx ry hp q;unfold eM at hp;split at hp
 ·rename_i hf;rw[Wm] at hf;simp only[Wa] at hp;subst hp;exact⟨d,e,rx.un,ry.un,hf.1,hf.2,q _ H (.refl k) (.bl _)⟩
 ·cases hp
def gI(f:Int->Int->Bool)(g:Tx->Tx->Bool):D->D->Option S
 | .int i,.int j=>some (.pure (.bl (f i j)))
 | .str x,.str y=>some (.pure (.bl (g x y)))
 | _,_=>none
def nq(f:Int->Int->Bool)(g:List Nat->List Nat->Bool):R2:=λx y H Q=>gY (λi j=>V.bl (f i j)) x y H Q\/∃ i j,x = .str i/\y = .str j/\Q (.bl (g i.cps.toList j.cps.toList)) H
theorem md:cF (nq f g) (gI f g):=by
 intro c σ δ H x y d e s Q k rx ry hp q
 cases d <;> cases e <;> first
  | (simp[gI] at hp; done)
  | skip
 ·rename_i i j;simp only[gI,Wa] at hp;subst hp;exact .inl ⟨i,j,rx.int,ry.int,q _ H (.refl k) (.bl _)⟩
 ·rename_i i j;simp only[gI,Wa] at hp;subst hp;refine .inr ⟨toS i,toS j,rx.str,ry.str,?_⟩;rw[q_,q_];exact q _ H (.refl k) (.bl _)
theorem uQ{X:Cx}{op:CmpOp}{g:List Nat->List Nat->Bool}(rule:∀ (i j:Str) (t u:Tok) (Q:Value->W1->Prop) (s:W1),Q (.bool (g i.cps.toList j.cps.toList)) s->W4 (model X.prog X.w) X.A (WB op (.str i t) (.str j u)) Q X.xe s) :
  bD X (WB op) (λx y H Q=>∃ i j,x = .str i/\y = .str j/\Q (.bl (g i.cps.toList j.cps.toList)) H):=by
 intro pins s σ H x y v u Q I rx ry h;obtain⟨i,j,rfl,rfl,q⟩:=h;obtain⟨t,rfl⟩:=rx;obtain⟨t',rfl⟩:=ry;exact rule i j t t' _ s ⟨.bl _,H,I,rfl,q⟩
def jh:=gI (λi j=>decide (i < j)) λx y=>decide (x < y)
theorem uR:bD X (WB .Lt) (nq (λi j=>decide (i < j)) λx y=>decide (x < y)):=Gn.or Gs
theorem uS:cF (nq (λi j=>decide (i < j)) λx y=>decide (x < y)) jh:=md
def ay:D->D->Option S
 | .lst ds,.int i=>(cH ds i).map .pure
 | .tup ds,.int i=>(cH ds i).map .pure
 | .str x,.int i=>if x.length<=Wb then(cH x i).map λn=>.pure (.str [n]) else none
 | _,_=>none
theorem A6(r:aA H O vs ds)(h:cH ds i=some d):∃ v,cH vs i=some v/\Rep H O v d:=by
 unfold cH at h ⊢;rw[r.1]
 cases e:eF ds.length i with
 | none=>rw[e] at h; cases h
 | some j =>
  rw[e] at h;exact r.get h
theorem cb{K:W2}:cF (qO K) ay:=by
 intro c σ δ H x y d e s Q k rx ry hp q
 cases d <;> cases e <;> first
  | (simp[ay] at hp; done)
  | skip
 ·rename_i z i;simp only[ay] at hp;split at hp
  ·rename_i hz
   cases e1:cH z i with
   | none=>rw[e1] at hp; cases hp
   | some n =>
    rw[e1] at hp;simp only[WJ,Wa] at hp;subst hp;refine .inr (.inr ⟨toS z,i,n,rx.str,ry.int,AY hz,by rw[q_]; exact e1,?_⟩);exact q (.str (toS [n])) H (.refl k) (.str [n])
  ·cases hp
 ·rename_i ds i;simp only[ay] at hp
  cases e1:cH ds i with
  | none=>rw[e1] at hp; cases hp
  | some n =>
   rw[e1] at hp;simp only[WJ,Wa] at hp;subst hp;obtain⟨a,vs,ea,ha,ra⟩:=rx.tup;obtain⟨v,e2,r2⟩:=A6 ra e1;exact .inr (.inl ⟨a,vs,i,v,ea,ry.int,.of ha,e2,q v H (.refl k) r2⟩)
 ·rename_i ds i;simp only[ay] at hp
  cases e1:cH ds i with
  | none=>rw[e1] at hp; cases hp
  | some n =>
   rw[e1] at hp;simp only[WJ,Wa] at hp;subst hp;obtain⟨a,vs,ea,ha,ra⟩:=rx.lst;obtain⟨v,e2,r2⟩:=A6 ra e1;exact .inl ⟨a,vs,i,v,ea,ry.int,.inl ha,e2,q v H (.refl k) r2⟩
def kY:=gI (λi j=>decide (i<=j)) λx y=>!decide (y < x)
def rM:=gI (λi j=>decide (j < i)) λx y=>decide (y < x)
def A7:=gI (λi j=>decide (j<=i)) λx y=>!decide (x < y)
theorem rN:bD X (WB .LtE) (nq (λi j=>decide (i<=j)) λx y=>!decide (y < x)):=Gp.or (uQ (g:=λx y=>!decide (y < x)) λ_ _ _ _ _ _ h=>PySem.P.le_str h)
theorem Kd:bD X (WB .Gt) (nq (λi j=>decide (j < i)) λx y=>decide (y < x)):=Gq.or (uQ (g:=λx y=>decide (y < x)) λ_ _ _ _ _ _ h=>PySem.P.gt_str h)
theorem Ke:bD X (WB .GtE) (nq (λi j=>decide (j<=i)) λx y=>!decide (x < y)):=Gr.or (uQ (g:=λx y=>!decide (x < y)) λ_ _ _ _ _ _ h=>PySem.P.ge_str h)
abbrev DA:=Dl->Rs (List D)
def Kf(c:Fc)(f:DA):TA:=λσ H Q=>∃ δ,Ok c σ δ H/\post c (f δ) λds δ'=>∀ vs H',aE c σ δ H σ δ' H'->aA H' (Av c σ δ') vs ds->Q vs H'
structure SA(X:Cx)(c:Fc)(es:List Expr)(f:DA):Prop where
 pa:PA X es (Kf c f)
 len:∀ δ ds δ',f δ = .ok ds δ'->ds.length=es.length
theorem PA.weak(h:PA X es t)(w:∀ σ H Q,t' σ H Q->t σ H Q):PA X es t':=λpos pins s σ H Q I q=>h pos pins s σ H Q I (w σ H Q q)
def cD:DA:=λδ=>.ok [] δ
def aG(f:DE)(g:DA):DA:=λδ=>(f δ).bind λx δ1=>(g δ1).bind λxs δ2=>.ok (x.d :: xs) δ2
section
variable {X:Cx} {c:Fc} {e:Expr} {es:List Expr} {f:DE} {g:DA} {pos:Pos}
theorem eV:SA X c [] cD:=⟨PA.weak fP λσ H Q ⟨δ,k,q⟩=>q [] H (.refl k) .nil,λδ ds δ' h=>by cases h; rfl⟩
theorem A8(ha:SE X c e f)(hr:SA X c es g)(hs:W7 (e :: es) X.env=(false,eval e X.env) :: W7 es X.env:=by rfl):SA X c (e :: es) (aG f g):=by
 refine⟨PA.weak (dR ha hr.pa hs) λσ H Q ⟨δ,k,q⟩=>?_,λδ ds δ' h=>?_⟩
 ·unfold aG at q;rw[bh] at q;refine⟨δ,k,aX q λx δ1 q1 v H1 a1 r1=>⟨δ1,a1.ok,?_⟩⟩;rw[bh] at q1;exact aX q1 λxs δ2 q2 vs H2 a2 r2=>q2 (v :: vs) H2 (a1.trans a2) (.cons (Rep.du r1.rep a2) r2)
 ·unfold aG at h
  cases h1:f δ with
  | ok x δ1 =>
   rw[h1] at h
   cases h2:g δ1 with
   | ok xs δ2 =>
    simp only[Rs.bind,h2] at h
    cases h;simp[hr.len _ _ _ h2]
   | exc x δx=>simp only[Rs.bind,h2] at h; cases h
   | stuck=>simp only[Rs.bind,h2] at h; cases h
  | exc x δx=>rw[h1] at h; cases h
  | stuck=>rw[h1] at h; cases h
def fS(f:DA):DE:=λδ=>(f δ).bind λds δ'=>.ok (.pure (.tup ds)) δ'
def fq(f:DA):DE:=λδ=>(f δ).bind λds δ'=>.ok (.own (.lst ds)) δ'
theorem A9(h:n<=1000):n<=Wb:=JO (H_ h)
theorem A_(h:post c r k):post c r λa δ=>r = .ok a δ/\k a δ:=by
 cases r with
 | ok a δ=>exact⟨rfl,h⟩
 | exc x δx=>exact h
 | stuck=>exact h
theorem kZ{x1}(h:SA X c es g)(hz:es.length<=1000:=by decide):SE X c (.Tuple es x1 pos) (fS g):=PE.weak (GJ h.pa) λσ H Q ⟨δ,k,q⟩=>by
 unfold fS at q;rw[bh] at q;refine⟨δ,k,aX (A_ q) λds δ1 ⟨e1,q1⟩ vs H1 a1 r1=>?_⟩;have hl:=h.len _ _ _ e1;exact⟨by rw[r1.1,hl]; exact A9 hz,λp hp=>q1 _ _ (a1.trans (.alloc a1.ok hp _)) (aZ.back (aZ.mX a1.ok r1 hp) a1)⟩
theorem ji(h:SA X c es g)(hz:es.length<=1000:=by decide):SE X c (.List es pos) (fq g):=PE.weak (GL h.pa) λσ H Q ⟨δ,k,q⟩=>by
 unfold fq at q;rw[bh] at q;refine⟨δ,k,aX (A_ q) λds δ1 ⟨e1,q1⟩ vs H1 a1 r1=>?_⟩;have hl:=h.len _ _ _ e1;exact⟨by rw[r1.1,hl]; exact A9 hz,λp hp=>q1 _ _ (a1.trans (.alloc a1.ok hp _)) (aZ.back (aZ.rh a1.ok r1 hp) a1)⟩
end
def p1(p:D->Option S)(x:D)(δ:Dl):Rs S:=match p x with
 | some s=>.ok s δ
 | none=>.stuck
def bO(p:D->Option S)(fb:BE):DE:=λδ=>(fb δ).bind λx δ1=>p1 p x δ1
def jj(r:V->Hp->VK->Prop)(p:D->Option S):Prop:=∀ (c:Fc) (σ:St) (δ:Dl) (H:Hp) (x:V) (d:D) (s:S) (Q:VK),Ok c σ δ H->cg c σ δ H x d->p d=some s ->
 (∀ v H',aE c σ δ H σ δ H'->aZ c σ δ H H' v s->Q v H')->r x H Q
section
variable {X:Cx} {c:Fc} {e:Expr} {fb:BE} {r:V->Hp->VK->Prop} {p:D->Option S} {x:Str} {id T:String} {pp pos:Pos}
theorem Ba(hp:jj r p)(k:Ok c σ δ H)(rx:cg c σ δ H v d)
  (h:post c (p1 p d δ) λs δ'=>∀ v H',aE c σ δ H σ δ' H'->aZ c σ δ' H H' v s->Q v H'):r v H Q:=by
 unfold p1 at h
 cases e1:p d with
 | none=>rw[e1] at h; exact h.elim
 | some s=>rw[e1] at h; exact hp c σ δ H v d s Q k rx e1 h
theorem nr(hp:jj r p)(h:tD c (bO p fb) σ H Q):zl r (tB c fb) σ H Q:=by
 obtain⟨δ,k,q⟩:=h;unfold bO at q;rw[bh] at q;exact⟨δ,k,aX q λy δ1 q1 v H1 a1 r1=>Ba hp a1.ok r1 (aX q1 λs δ2 q2 w H2 a2 r2=>q2 w H2 (a1.trans a2) (aZ.back r2 a1))⟩
theorem Bb(hc:eS X (.builtin id) rl)(hl:∀ v H Q,r v H Q->rl [v] H Q)(hp:jj r p)(hg:Gl X x)(hm:X.mg x=none)(hv:Qg x=some (.builtin id))(he:SB X c e fb)
  (hn:x≠"__name__":=by decide) (cY:(x == ("__debug__" : Str))=false:=by decide) (hs:W7 [e] X.env=(false,eval e X.env) :: W7 [] X.env:=by rfl) (bM:(WN pos (W7 [] X.env)).any (·.1)=false:=by rfl) :
  SE X c (.Call (.Name x pp) [e] [] pos) (bO p fb):=PE.weak (ou hc hg hm hv (dR he fP hs) hn cY hs bM) λσ H Q h=>by
 obtain⟨δ,k,q⟩:=nr hp h;exact⟨δ,k,aX q λy δ1 q1 v H1 a1 r1=>hl _ _ _ (q1 v H1 a1 r1)⟩
theorem uT(hc:eS X (.type T) rl)(hl:∀ v H Q,r v H Q->rl [v] H Q)(hp:jj r p)(hg:Gl X x)(hm:X.mg x=none)(hv:Qg x=some (.type T))(he:SB X c e fb)
  (hn:x≠"__name__":=by decide) (cY:(x == ("__debug__" : Str))=false:=by decide) (hs:W7 [e] X.env=(false,eval e X.env) :: W7 [] X.env:=by rfl) (bM:(WN pos (W7 [] X.env)).any (·.1)=false:=by rfl) :
  SE X c (.Call (.Name x pp) [e] [] pos) (bO p fb):=PE.weak (GQ hc hg hm hv (dR he fP hs) hn cY hs bM) λσ H Q h=>by
 obtain⟨δ,k,q⟩:=nr hp h;exact⟨δ,k,aX q λy δ1 q1 v H1 a1 r1=>hl _ _ _ (q1 v H1 a1 r1)⟩
def eN:D->Option S
 | .lst ds=>some (.pure (.int ds.length))
 | .tup ds=>some (.pure (.int ds.length))
 | .str z=>if z.length<=Wb then some (.pure (.int z.length)) else none
 | .ba ds=>some (.pure (.int ds.length))
 | _=>none
def Kg(K:W2):V->Hp->VK->Prop:=λv H Q=>((∃ p ys,v = .ref p/\(ck K H p ys\/cz K H p ys)/\Q (.int ys.length) H)\/∃ z,v = .str z/\z.length<=Wb/\Q (.int z.length) H)\/∃ a aa,v=V.ref a/\H a=some (.dK aa)/\Q (.int aa.length) H
theorem Kh{K:W2}:jj (Kg K) eN:=by
 intro c σ δ H x d s Q k rx hp q
 cases d with
 | lst ds =>
  simp only[eN,Wa] at hp;subst hp;obtain⟨a,vs,ea,ha,ra⟩:=rx.lst;exact .inl (.inl ⟨a,vs,ea,.inl (.inl ha),by rw[ra.1]; exact q _ H (.refl k) (.int _)⟩)
 | tup ds =>
  simp only[eN,Wa] at hp;subst hp;obtain⟨a,vs,ea,ha,ra⟩:=rx.tup;exact .inl (.inl ⟨a,vs,ea,.inr (.of ha),by rw[ra.1]; exact q _ H (.refl k) (.int _)⟩)
 | str z =>
  simp only[eN] at hp;split at hp
  ·rename_i hz;simp only[Wa] at hp;subst hp;exact .inl (.inr ⟨toS z,rx.str,AY hz,by rw[jd]; exact q _ H (.refl k) (.int _)⟩)
  ·cases hp
 | ba ds =>
  simp only[eN,Wa] at hp;subst hp;obtain⟨a,ws,ea,ha,h1,h2⟩:=rx.ba;have hl:ws.length=ds.length:=by have:=congrArg List.length h1; simpa using this
  exact .inr ⟨a,ws,ea,ha,by rw[hl]; exact q _ H (.refl k) (.int _)⟩
 | _=>simp[eN] at hp
theorem rO (hg:Gl X "len") (hm:X.mg "len" = none) (he:SB X c e fb) (hs:W7 [e] X.env=(false,eval e X.env) :: W7 [] X.env:=by rfl):SE X c (.Call (.Name "len" pp) [e] [] pos) (bO eN fb) :=
 Bb ((Hi.or Hj).or Ia) (λv H Q h=>by
  rcases h with (⟨p,ys,e,h⟩ | ⟨z,e,h⟩) | ⟨a,aa,e,h⟩
  ·exact .inl (.inl ⟨p,ys,by rw[e],h⟩)
  ·exact .inl (.inr ⟨z,by rw[e],h⟩)
  ·exact .inr ⟨a,aa,by rw[e],h⟩) (Kh (K:=X.K)) hg hm PySem.boot_len he (by decide) (by decide) hs
def iF:D->Option S
 | .lst ds=>some (.pure (.tup ds))
 | .tup ds=>some (.pure (.tup ds))
 | _=>none
def Ki(K:W2):V->Hp->VK->Prop:=λv H Q=>∃ p ys,v = .ref p/\((ck K H p ys/\∀ l,H l=none->Q (.ref l) (upd H l (.tup ys)))\/(cz K H p ys/\Q (.ref p) H))
theorem Kj{K:W2}:jj (Ki K) iF:=by
 intro c σ δ H x d s Q k rx hp q
 cases d with
 | lst ds =>
  simp only[iF,Wa] at hp;subst hp;obtain⟨a,vs,ea,ha,ra⟩:=rx.lst;exact⟨a,vs,ea,.inl ⟨.inl ha,λl hl=>q _ _ (.alloc k hl _) (aZ.mX k ra hl)⟩⟩
 | tup ds =>
  simp only[iF,Wa] at hp;subst hp;obtain⟨a,vs,ea,ha,ra⟩:=rx.tup;refine⟨a,vs,ea,.inr ⟨.of ha,?_⟩⟩;rw[ea] at rx;rcases rx with rx | ⟨_,_,rx⟩
  ·exact q _ H (.refl k) rx
  ·exact rx.elim
 | _=>simp[iF] at hp
theorem Bc (hg:Gl X "tuple") (hm:X.mg "tuple" = none) (he:SB X c e fb) (hs:W7 [e] X.env=(false,eval e X.env) :: W7 [] X.env:=by rfl):SE X c (.Call (.Name "tuple" pp) [e] [] pos) (bO iF fb) :=
 uT Hk (λv H Q ⟨p,ys,e,h⟩=>⟨p,ys,by rw[e],h⟩) (Kj (K:=X.K)) hg hm PyProof.Rows.boot_tuple he (by decide) (by decide) hs
def nt:D->Option S
 | .int i=>some (.pure (.int i))
 | .bl b=>some (.pure (.int (if b then 1 else 0)))
 | _=>none
theorem Kk (hg:Gl X "int") (hm:X.mg "int" = none) (he:SB X c e fb) (hs:W7 [e] X.env=(false,eval e X.env) :: W7 [] X.env:=by rfl):SE X c (.Call (.Name "int" pp) [e] [] pos) (bO nt fb) :=
 uT (r:=λv H Q=>(∃ i,v = .int i/\Q (.int i) H)\/∃ k,v = .bl k/\Q (.int (if k then 1 else 0)) H) Gz (λv H Q h=>by
  rcases h with ⟨i,e,q⟩ | ⟨k,e,q⟩
  ·exact .inl ⟨i,by rw[e],q⟩
  ·exact .inr ⟨k,by rw[e],q⟩) (λc σ δ H x d s Q k rx hp q=>by
  cases d with
  | int i =>
   simp only[nt,Wa] at hp;subst hp;exact .inl ⟨i,rx.int,q _ H (.refl k) (.int _)⟩
  | bl b =>
   simp only[nt,Wa] at hp;subst hp;exact .inr ⟨b,rx.bl,q _ H (.refl k) (.int _)⟩
  | _=>simp[nt] at hp) hg hm PyProof.Rows.boot_int he (by decide) (by decide) hs
def iG:List D->Option (List Bool)
 | []=>some []
 | .bl b :: r=>(iG r).map (b :: ·)
 | _ :: _=>none
def fK:List D->Option (List Tx)
 | []=>some []
 | .str x :: r=>(fK r).map (x :: ·)
 | _ :: _=>none
theorem uU:∀ {ds:List D} {vs:List V} {bs:List Bool},iG ds=some bs->aA H O vs ds->vs=bs.map V.bl
 | [],vs,bs,h,r=>by
  simp only[iG,Wa] at h;subst h;have:=r.1;simpa using this
 | d :: ds,[],bs,h,r=>by have:=r.1; simp at this
 | d :: ds,v :: vs,bs,h,r=>by
  cases d with
  | bl b =>
   simp only[iG] at h
   cases e:iG ds with
   | none=>rw[e] at h; cases h
   | some bs' =>
    rw[e] at h;simp only[WJ,Wa] at h;subst h;have:=r.head
    cases this;rw[uU e r.tail];rfl
  | _=>simp[iG] at h
theorem oI:∀ {ds:List D} {vs:List V} {bs:List Tx},fK ds=some bs->aA H O vs ds->vs=bs.map λz=>V.str (toS z)
 | [],vs,bs,h,r=>by
  simp only[fK,Wa] at h;subst h;have:=r.1;simpa using this
 | d :: ds,[],bs,h,r=>by have:=r.1; simp at this
 | d :: ds,v :: vs,bs,h,r=>by
  cases d with
  | str b =>
   simp only[fK] at h
   cases e:fK ds with
   | none=>rw[e] at h; cases h
   | some bs' =>
    rw[e] at h;simp only[WJ,Wa] at h;subst h;have:=r.head
    cases this;rw[oI e r.tail];rfl
  | _=>simp[fK] at h
theorem Be:∀ ts:List Tx,aA H O (ts.map λz=>V.str (toS z)) (ts.map D.str)
 | []=>.nil
 | t :: ts=>.cons (.str t) (Be ts)
def Sy:D->Option S
 | .lst ds=>(iG ds).map λbs=>.pure (.bl (bs.all (λb=>b)))
 | _=>none
def nu:D->Option S
 | .lst ds=>match fK ds with
  | some ts=>if ts.length < 64 then some (.own (.lst ((gH ts).map D.str))) else none
  | none=>none
 | _=>none
theorem Kl (hg:Gl X "sorted") (hm:X.mg "sorted" = none) (he:SB X c e fb) (hs:W7 [e] X.env=(false,eval e X.env) :: W7 [] X.env:=by rfl):SE X c (.Call (.Name "sorted" pp) [e] [] pos) (bO nu fb) :=
 Bb (r:=λv H Q=>∃ (a:Addr) (ts:List Tx),v = .ref a/\ck X.K H a (ts.map λz=>V.str (toS z))/\ts.length < 64/\∀ p,H p=none->Q (.ref p) (upd H p (.lst ((gH ts).map λz=>V.str (toS z))))) JU (λv H Q ⟨a,bs,e,h⟩=>⟨a,bs,by rw[e],h⟩) (λc σ δ H x d s Q k rx hp q=>by
  cases d with
  | lst ds =>
   simp only[nu] at hp
   cases e:fK ds with
   | none=>rw[e] at hp; cases hp
   | some ts =>
    rw[e] at hp;simp only at hp;split at hp
    ·rename_i hz;simp only[Wa] at hp;subst hp;obtain⟨a,vs,ea,ha,ra⟩:=rx.lst;have:=oI e ra;subst this;exact⟨a,ts,ea,.inl ha,hz,λp hp=>q _ _ (.alloc k hp _) (aZ.rh k (Be _) hp)⟩
    ·cases hp
  | _=>simp[nu] at hp) hg hm PyProof.Rows.boot_sorted he (by decide) (by decide) hs
def uV:D->D->Option S
 | .int i,.int j=>some (.pure (.int (if j > i then j else i)))
 | _,_=>none
def rP(f g:DE):DE:=λδ=>(f δ).bind λx δ1=>(g δ1).bind λy δ2=>p2 uV x.d y.d δ2
theorem Km {a b:Expr} {f g:DE} (hc:X.calm=true) (hg:Gl X "max") (hm:X.mg "max" = none) (ha:SE X c a f) (hb:SE X c b g) (hs:W7 [a,b] X.env=(false,eval a X.env) :: W7 [b] X.env:=by rfl)
  (Kn:W7 [b] X.env=(false,eval b X.env) :: W7 [] X.env:=by rfl) (bM:(WN pos (W7 [b] X.env)).any (·.1)=false:=by rfl):SE X c (.Call (.Name "max" pp) [a,b] [] pos) (rP f g) :=
 PE.weak (ou (Gy hc) hg hm PyProof.Rows.boot_max (dR ha (dR hb fP Kn) hs) (by decide) (by decide) hs bM) λσ H Q ⟨δ,k,q⟩=>by
  unfold rP at q;rw[bh] at q;refine⟨δ,k,aX q λx δ1 q1 v H1 a1 r1=>⟨δ1,a1.ok,?_⟩⟩;rw[bh] at q1;refine aX q1 λy δ2 q2 u H2 a2 r2=>?_
  unfold p2 at q2;have hx:cg c σ δ2 H2 v x.d:=.inl (Rep.du r1.rep a2);have hy:=r2.b;generalize x.d=dx at q2 hx;generalize y.d=dy at q2 hy
  cases dx <;> cases dy <;> first
   | exact q2.elim
   | skip
  rename_i i j;exact⟨i,j,by rw[hx.int,hy.int],q2 _ H2 (a1.trans a2) (.int _)⟩
def cj(T:String):D->Option Bool
 | .aw=>some (T == "NoneType")
 | .bl _=>some (T == "bool" || T == "int")
 | .int _=>some (T == "int")
 | .str _=>some (T == "str")
 | .tup _=>some (T == "tuple")
 | .lst _=>some (T == "list")
 | .ba _=>some (T == "dict")
 | .exc _ _=>none
 | .xd _=>none
 | .fn _=>none
 | .dic _=>none
structure jW(K:W2)(T:String):Prop where
 aw:Qw K (.type "NoneType") (.type T)=some (T == "NoneType")
 bl:Qw K (.type "bool") (.type T)=some (T == "bool" || T == "int")
 int:Qw K (.type "int") (.type T)=some (T == "int")
 str:Qw K (.type "str") (.type T)=some (T == "str")
 tup:Qw K (.type "tuple") (.type T)=some (T == "tuple")
 lst:Qw K (.type "list") (.type T)=some (T == "list")
 ba:Qw K (.type "dict") (.type T)=some (T == "dict")
def jX(T:String)(fb:BE):DE:=λδ=>(fb δ).bind λd δ'=>match cj T d with
 | some b=>.ok (.pure (.bl b)) δ'
 | none=>.stuck
theorem Ko(ty:jW X.K T)(I:Inv X pins σ H s)(ru:RelV v u)(r:Rep H cR v d)(e:cj T d=some b)(q:Q (.bl b) H) :
  W4 (model X.prog X.w) X.A (call (.builtin "isinstance") [u,.type T]) (EP X pins σ Q) X.xe s:=by
 have fin:∀ tk,EP X pins σ Q (.bool b) { s with toks:=tk }:=λtk=>⟨.bl b,H,I.tok tk,rfl,q⟩
 cases r with
 | aw=>exact kI I ru .aw (ty.aw.trans e) fin
 | bl x=>exact kI I ru (.bl x) (ty.bl.trans e) fin
 | int x=>exact kI I ru (.int x) (ty.int.trans e) fin
 | str x=>exact kI I ru (.str _) (ty.str.trans e) fin
 | tup _ h2 _ _=>exact kI I ru (.tup h2) (ty.tup.trans e) fin
 | lst _ h2 _ _ =>
  rcases h2 with h2 | ⟨o,h2⟩
  ·exact kI I ru (.lst h2) (ty.lst.trans e) fin
  ·exact kI I ru (.frz h2) (ty.lst.trans e) fin
 | ba _ h2 _ _=>exact kI I ru (.dK h2) (ty.ba.trans e) fin
 | exc _ _=>cases e
 | xd _ _=>cases e
 | fn _=>cases e
 | dic _=>cases e
theorem Kp (ty:jW X.K T):eS X (.builtin "isinstance") (λxs H Q=>∃ v d b,xs=[v,.ty T]/\Rep H cR v d/\cj T d=some b/\Q (.bl b) H):=by
 intro pins s σ H xs us Q I r h;obtain⟨v,d,b,rfl,rp,e,q⟩:=h;obtain⟨u,w',rfl,r1,r2⟩:=t5 r
 cases r2;exact Ko ty I r1 rp e q
theorem uW {y:Str} {py:Pos} (ty:jW X.K T) (hg:Gl X "isinstance") (hm:X.mg "isinstance" = none) (oJ:Gl X y) (oK:X.mg y=none) (uX:Qg y=some (.type T)) (he:SB X c e fb)
  (uY:y≠"__name__":=by decide) (oM:(y == ("__debug__" : Str))=false:=by decide)
  (hs:W7 [e,.Name y py] X.env=(false,eval e X.env) :: W7 [.Name y py] X.env:=by rfl) (bM:(WN pos (W7 [.Name y py] X.env)).any (·.1)=false:=by rfl) :
  SE X c (.Call (.Name "isinstance" pp) [e,.Name y py] [] pos) (jX T fb) :=
 PE.weak (ou (Kp ty) hg hm PyProof.Rows.boot_isinstance (dR he (dR (y6 (v:=.ty T) oJ oK uX rfl uY oM) fP) hs) (by decide) (by decide) hs bM) λσ H Q ⟨δ,k,q⟩=>by
  unfold jX at q;rw[bh] at q;refine⟨δ,k,aX q λd δ1 q1 v H1 a1 r1=>?_⟩
  cases e1:cj T d with
  | none=>rw[e1] at q1; exact q1.elim
  | some b =>
   rw[e1] at q1;exact⟨v,d,b,rfl,r1.un,e1,q1 _ H1 a1 (.bl _)⟩
end
abbrev k6:=Dl->Rs (Option Int)
def Kq(c:Fc)(f:k6):TO:=λσ H Q=>∃ δ,Ok c σ δ H/\post c (f δ) λo δ'=>∀ H',aE c σ δ H σ δ' H'->Q o H'
abbrev SO(X:Cx)(c:Fc)(e:Option Expr)(f:k6):Prop:=PO X e (Kq c f)
theorem PO.weak(h:PO X e t)(w:∀ σ H Q,t' σ H Q->t σ H Q):PO X e t':=λpins s σ H Q I q=>h pins s σ H Q I (w σ H Q q)
def Kr:k6:=λδ=>.ok none δ
def me(f:DE):k6:=λδ=>(f δ).bind λr δ'=>match r with
 | .pure (.int i)=>.ok (some i) δ'
 | _=>.stuck
section
variable {X:Cx} {c:Fc} {e:Expr} {f:DE} {fb:BE} {fl fh:k6} {lo hi:Option Expr} {pos p2:Pos}
theorem Bf(h:SE X c e f):SO X c (some e) (me f):=PO.weak (GZ h) λσ H Q ⟨δ,k,q⟩=>by
 unfold me at q;rw[bh] at q;refine⟨δ,k,aX q λr δ1 q1 v H1 a1 r1=>?_⟩
 cases r with
 | own d=>exact q1.elim
 | pure d =>
  cases d <;> first | exact q1.elim | skip
  rename_i i
  cases r1;exact⟨i,rfl,q1 H1 a1⟩
def jk(lo hi:Option Int):D->Option S
 | .str x=>if x.length<=Wb then some (.pure (.str (cJ x lo hi))) else none
 | .tup ds=>some (.pure (.tup (cJ ds lo hi)))
 | .lst ds=>some (.own (.lst (cJ ds lo hi)))
 | _=>none
def Bg(K:W2):V->Option Int->Option Int->Hp->VK->Prop:=λx lo hi H Q=>AM x lo hi H Q\/AK K x lo hi H Q\/zW K x lo hi H Q
theorem Ks:ja X (Bg X.K):=IY.or (IV.or Hf)
theorem Kt{K:W2}(lo hi:Option Int):jj (λx H Q=>Bg K x lo hi H Q) (jk lo hi):=by
 intro c σ δ H x d s Q k rx hp q
 cases d with
 | str z =>
  simp only[jk] at hp;split at hp
  ·rename_i hz;simp only[Wa] at hp;subst hp;exact .inl ⟨z,rx.str,hz,q _ H (.refl k) (.str _)⟩
  ·cases hp
 | tup ds =>
  simp only[jk,Wa] at hp;subst hp;obtain⟨a,vs,ea,ha,ra⟩:=rx.tup;refine .inr (.inl ⟨a,vs,ea,.of ha,λhw=>?_,λ_ p hp=>?_⟩)
  ·rw[ra.1] at hw;rw[IS hw] at q;rw[ea] at rx;rcases rx with rx | ⟨_,_,rx⟩
   ·exact q _ H (.refl k) rx
   ·exact rx.elim
  ·rw[<- AJ];exact q _ _ (.alloc k hp _) (aZ.mX k (ra.cut lo hi) hp)
 | lst ds =>
  simp only[jk,Wa] at hp;subst hp;obtain⟨a,vs,ea,ha,ra⟩:=rx.lst;refine .inr (.inr ⟨a,vs,ea,.inl ha,λp hp=>?_⟩);rw[<- AJ];exact q _ _ (.alloc k hp _) (aZ.rh k (ra.cut lo hi) hp)
 | _=>simp[jk] at hp
def Ku(f:DE)(fl fh:k6):DE:=λδ=>(f δ).bind λx δ1=>(fl δ1).bind λl δ2=>(fh δ2).bind λh δ3=>p1 (jk l h) x.d δ3
def oN(i:Nat)(fl fh:k6):DE:=λδ=>match δ[i]? with
 | some (some _)=>(fl δ).bind λl δ2=>(fh δ2).bind λh δ3=>(aq i δ3).bind λx δ4=>p1 (jk l h) x δ4
 | _=>.stuck
theorem ny{i:Nat}{σ:St}{δ:Dl}{H:Hp}{v:V}{w:S}(k:Ok c σ δ H)(e:δ[i]? = some (some w))(ev:σ[i]? = some (some v)):cg c σ δ H v w.d:=by
 cases w with
 | pure d =>
  obtain⟨v',e1,r⟩:=k.slot i d e;rw[ev] at e1; cases e1
  exact .inl r
 | own d =>
  obtain⟨a,e1,r,_⟩:=k.own i d e;rw[ev] at e1; cases e1
  exact .inr ⟨a,rfl,r⟩
theorem Kv(h:post c ((aq i δ).bind g) kk):∃ w,δ[i]? = some (some w)/\post c (g w.d δ) kk:=by
 unfold aq at h
 cases e:δ[i]? with
 | none=>rw[e] at h; exact h.elim
 | some o =>
  cases o with
  | none=>rw[e] at h; exact h.elim
  | some w=>rw[e] at h; exact⟨w,rfl,h⟩
theorem Kw{i:Nat}(he:PE X e (da i))(hl:SO X c lo fl)(hh:SO X c hi fh):SE X c (.Subscript e (.Slice lo hi none p2) pos) (oN i fl fh):=PE.weak (G3 Ks he hl hh) λσ H Q ⟨δ,k,q⟩=>by
 unfold oN at q
 cases e:δ[i]? with
 | none=>rw[e] at q; exact q.elim
 | some o =>
  cases o with
  | none=>rw[e] at q; exact q.elim
  | some w =>
   rw[e] at q;obtain⟨v,ev⟩:=nc k e;have q':post c ((fl δ).bind λl δ2=>(fh δ2).bind λh δ3=>(aq i δ3).bind λx δ4=>p1 (jk l h) x δ4) λr δ'=>∀ v H',aE c σ δ H σ δ' H'->aZ c σ δ' H H' v r->Q v H':=q
   rw[bh] at q';refine⟨v,ev,δ,k,aX q' λl δ2 q2 H2 a2=>⟨δ2,a2.ok,?_⟩⟩;rw[bh] at q2;refine aX q2 λh δ3 q3 H3 a3=>?_
   obtain⟨w3,e3,q4⟩:=Kv q3;exact Ba (Kt l h) a3.ok (ny a3.ok e3 ev) (aX q4 λs δ4 q4 w H4 a4 r4=>q4 w H4 (a2.trans (a3.trans a4)) (aZ.back r4 (a2.trans a3)))
def iH(z:Tx):List Tx->Tx
 | []=>[]
 | [x]=>x
 | x :: y :: r=>x ++ z ++ iH z (y :: r)
theorem Bh(z:Tx):∀ (r:List Tx) (acc:Tx),((r.map toS).foldl (λ(acc:Array Nat) p=>acc ++ (toS z).cps ++ p.cps) acc.toArray)=(match r with | []=>acc | x :: r'=>acc ++ z ++ iH z (x :: r')).toArray
 | [],acc=>rfl
 | x :: r,acc=>by
  rw[Wk,QZ];have e:acc.toArray ++ (toS z).cps ++ (toS x).cps=(acc ++ z ++ x).toArray:=by simp[toS]
  rw[e,Bh z r (acc ++ z ++ x)]
  cases r with
  | nil=>simp[iH]
  | cons y r'=>simp[iH]
theorem Kx(z:Tx)(ts:List Tx):Txt.join (toS z) (ts.map toS)=toS (iH z ts):=by
 show Builtin.Str.glued _ _=_;unfold Builtin.Str.glued
 cases ts with
 | nil=>rfl
 | cons x r =>
  rw[Wk];show(⟨(List.foldl _ (toS x).cps (r.map toS))⟩:Str)=_;have:=Bh z r x;have e:(toS x).cps=x.toArray:=rfl;rw[e,this]
  cases r with
  | nil=>rfl
  | cons y r'=>rfl
def oO(ts:List Tx):Nat:=(ts.map (·.length)).sum
def jY(z:Tx):D->Option S
 | .lst ds=>match fK ds with
  | some ts=>if oO ts + ts.length * z.length<=16777216 then some (.pure (.str (iH z ts))) else none
  | none=>none
 | .tup ds=>match fK ds with
  | some ts=>if oO ts + ts.length * z.length<=16777216 then some (.pure (.str (iH z ts))) else none
  | none=>none
 | _=>none
theorem Ky{K:W2}(z:Tx):jj (λx H Q=>rF K (.str (toS z)) [x] H Q) (jY z):=by
 intro c σ δ H x d s Q k rx hp q;have key:∀ (a:Addr) (vs:List V) (ds:List D),x = .ref a->(ck K H a vs\/cz K H a vs)->aA H (Av c σ δ) vs ds->(match fK ds with | some ts=>if oO ts + ts.length * z.length<=16777216 then some (S.pure (.str (iH z ts))) else none | none=>none)=some s->rF K (.str (toS z)) [x] H Q:=by
  intro a vs ds ea ha ra hp
  cases e:fK ds with
  | none=>rw[e] at hp; cases hp
  | some ts =>
   rw[e] at hp;simp only at hp;split at hp
   ·rename_i hz;simp only[Wa] at hp;subst hp;have:=oI e ra;subst this;refine⟨toS z,a,ts.map toS,rfl,by rw[ea],?_,?_,?_⟩
    ·rw[WF]; exact ha
    ·rw[WF,Wz,jd];have:((λx:Str=>x.length) ∘ toS)=λx:Tx=>x.length:=funext λx=>jd x
     rw[this];exact hz
    ·rw[Kx];exact q _ H (.refl k) (.str _)
   ·cases hp
 cases d with
 | lst ds =>
  obtain⟨a,vs,ea,ha,ra⟩:=rx.lst;exact key a vs ds ea (.inl (.inl ha)) ra hp
 | tup ds =>
  obtain⟨a,vs,ea,ha,ra⟩:=rx.tup;exact key a vs ds ea (.inr (.of ha)) ra hp
 | _=>simp[jY] at hp
theorem Kz{x:Str}{j}{p0 apos aJ:Pos}(z:Tx)(he:SB X c e fb)(hx:x=toS z:=by decide +kernel)
  (jJ:Q9 (.Constant (.str x) j p0) "join" X.env (eval (.Constant (.str x) j p0) X.env)=eval (.Constant (.str x) j p0) X.env:=by rfl)
  (jK:((WN aJ (W7 [e] X.env)).all (λx=>!x.1) && (Jb aJ (QA [] X.env)).all (λx=>x.1.isSome)
   && decide ([e].length + ([]:List Keyword).length + (if ([]:List Keyword).isEmpty then 0 else 1) < 30))=true:=by rfl)
  (fH:(apos.endLine == aJ.line)=true:=by rfl) (hs:W7 [e] X.env=(false,eval e X.env) :: W7 [] X.env:=by rfl) :
  SE X c (.Call (.Attribute (.Constant (.str x) j p0) "join" apos) [e] [] aJ) (bO (jY z) fb):=by
 subst hx;refine PE.weak (qR PySem.F.plainAttrs_str PySem.F.slot_str_join PySem.F.type_str_join I_ y4 (dR he fP hs) jJ jK fH hs rfl) λσ H Q h=>?_
 obtain⟨δ,k,q⟩:=nr (r:=λx H Q=>rF X.K (.str (toS z)) [x] H Q) (Ky z) h;refine⟨?_,δ,k,q⟩;show("str" : String) = "str";rfl
end
inductive Fl where
 | next | ret (r:S) | brk | cont
abbrev DS:=Dl->Rs Fl
def fin(c:Fc)(D:Ends)(σ:St)(δ:Dl)(H:Hp):Fl->Prop
 | .next=>D.nx σ H
 | .ret r=>∀ v,aZ c σ δ c.H₀ H v r->D.rt v H
 | .brk=>D.bk σ H
 | .cont=>D.ct σ H
def dW(c:Fc)(D:Ends)(σ:St)(δ:Dl)(H:Hp)(r:Rs Fl):Prop:=post c r λfl δ'=>∀ σ' H',aE c σ δ H σ' δ' H'->fin c D σ' δ' H' fl
def k7(c:Fc)(f:DS):TS:=λD σ H=>∃ δ,Ok c σ δ H/\dW c D σ δ H (f δ)
abbrev SS(X:Cx)(c:Fc)(st:Stmt)(f:DS):Prop:=PS X st (k7 c f)
abbrev gp(X:Cx)(c:Fc)(st:List Stmt)(f:DS):Prop:=di X st (k7 c f)
theorem PS.weak{X:Cx}{st:Stmt}{t t':TS}(h:PS X st t)(w:∀ D σ H,t' D σ H->t D σ H):PS X st t':=λpins s σ H D I q=>h pins s σ H D I (w D σ H q)
theorem di.weak{X:Cx}{st:List Stmt}{t t':TS}(h:di X st t)(w:∀ D σ H,t' D σ H->t D σ H):di X st t':=λpins s σ H D I q=>h pins s σ H D I (w D σ H q)
def dw:DS:=λδ=>.ok .next δ
def aN(f g:DS):DS:=λδ=>(f δ).bind λfl δ1=>match fl with
 | .next=>g δ1
 | .ret r=>.ok (.ret r) δ1
 | .brk=>.ok .brk δ1
 | .cont=>.ok .cont δ1
def iI(f:DE):DS:=λδ=>(f δ).bind λ_ δ1=>.ok .next δ1
def bY(f:DE):DS:=λδ=>(f δ).bind λr δ1=>.ok (.ret r) δ1
def df(t:DT)(f g:DS):DS:=λδ=>(t δ).bind λb δ1=>if b then f δ1 else g δ1
def Sz(np:List Nat)(i:Nat):DE:=λδ=>match δ[i]? with
 | some (some (.own d))=>if np.contains i then .ok (.pure d) (δ.set i (some (.pure d))) else .ok (.own d) (δ.set i none)
 | some (some (.pure d))=>.ok (.pure d) δ
 | _=>.stuck
section
variable {X:Cx} {c:Fc} {st:Stmt} {Bi:List Stmt} {e a:Expr} {f g:DS} {fe:DE} {t:DT} {pos pos':Pos}
theorem fU:gp X c [] dw:=di.weak FI λD σ H ⟨δ,k,q⟩=>q σ H (.refl k)
theorem bo(h1:SS X c st f)(h2:gp X c Bi g):gp X c (st :: Bi) (aN f g):=di.weak (FJ h1 h2) λD σ H ⟨δ,k,q⟩=>by
 unfold aN dW at q;rw[bh] at q;refine⟨δ,k,aX q λfl δ1 q1 σ1 H1 a1=>?_⟩
 cases fl with
 | next=>exact⟨δ1,a1.ok,aX q1 λSD δ2 q2 σ2 H2 a2=>q2 σ2 H2 (a1.trans a2)⟩
 | ret r=>exact q1 σ1 H1 a1
 | brk=>exact q1 σ1 H1 a1
 | cont=>exact q1 σ1 H1 a1
theorem bE(h1:SS X c st f):gp X c [st] f:=di.weak (y_ h1) λD σ H h=>h
theorem cG(he:SE X c e fe):SS X c (.Return (some e) pos) (bY fe):=PS.weak (zc he) λD σ H ⟨δ,k,q⟩=>by
 unfold bY dW at q;rw[bh] at q;exact⟨δ,k,aX q λr δ1 q1 v H1 a1 r1=>q1 σ H1 a1 v r1.IG⟩
theorem fV{b1 b2:List Stmt}(ht:ST X c e t)(h1:gp X c b1 f)(h2:gp X c b2 g):SS X c (.If e b1 b2 pos) (df t f g):=PS.weak (FN ht h1 h2) λD σ H ⟨δ,k,q⟩=>by
 unfold df dW at q;rw[bh] at q;refine⟨δ,k,aX q λb δ1 q1 H1 a1=>?_⟩
 cases b with
 | true=>exact⟨δ1,a1.ok,aX q1 λfl δ2 q2 σ2 H2 a2=>q2 σ2 H2 (a1.trans a2)⟩
 | false=>exact⟨δ1,a1.ok,aX q1 λfl δ2 q2 σ2 H2 a2=>q2 σ2 H2 (a1.trans a2)⟩
theorem Own.oP(h:Own (σ.set i (some v)) (δ.set i (some r)) b):Own σ δ b\/(v = .ref b/\∃ d,r = .own d):=by
 obtain⟨j,d,e1,e2⟩:=h;by_cases hj:i=j
 ·subst hj;right
  rw[WL] at e1 e2;simp at e1 e2;obtain⟨_,h1⟩:=e1;obtain⟨_,h2⟩:=e2;exact⟨h2,d,h1⟩
 ·rw[W5 hj] at e1 e2;exact .inl ⟨j,d,e1,e2⟩
theorem Ok.set(x:aE c σ₀ δ₀ H₁ σ δ H)(hr:aZ c σ δ H₁ H v r)(hp:∀ p ∈ c.pin,p.1≠i):aE c σ₀ δ₀ H₁ (σ.set i (some v)) (δ.set i (some r)) H:=by
 have k:=x.ok;-- all slots avoid the new address,too
 have all:∃ c':Fc,c'.H₀=c.H₀/\c'.pin=c.pin/\Ok c' σ δ H/\(∀ b,Av c (σ.set i (some v)) (δ.set i (some r)) b->Av c' σ δ b):=by
  cases r with
  | pure d =>
   refine⟨c,rfl,rfl,k,λb z=>?_⟩;rcases z with z | z
   ·exact .inl z
   ·rcases z.oP with z | ⟨_,d',e⟩
    ·exact .inr z
    ·cases e
  | own d =>
   obtain⟨a,ea,o,n,f,k2,_⟩:=hr;refine⟨c.plus a,rfl,rfl,k2,λb z=>?_⟩;rcases z with z | z
   ·exact .inl (.inl z)
   ·rcases z.oP with z | ⟨e,_⟩
    ·exact .inr z
    ·rw[ea] at e; cases e
     exact .inl (.inr rfl)
 obtain⟨c',eH,eP,k2,sub⟩:=all;have eI:∀ a,c'.I a ↔ c.I a:=λa=>by unfold Fc.I; rw[eP]
 have KA:Rep H (Av c (σ.set i (some v)) (δ.set i (some r))) v r.d\/∃ d,r = .own d:=by
  cases r with
  | pure d =>
   left
   refine Rep.aW hr λb z=>?_
   rcases z with z | z
   ·exact .inl (.inl z)
   ·rcases z.oP with z | ⟨_,d',e⟩
    ·exact .inl (.inr z)
    ·cases e
  | own d=>exact .inr ⟨d,rfl⟩
 refine⟨⟨k.keep,k.bd,k.cQ,by rw[Qo,Qo]; exact k.len,λj d e=>?_,λj d e=>?_,λj l a d d' e1 e2 e3 e4=>?_,λp hm=>?_⟩,x.keep,λb z=>?_,x.there⟩
 ·by_cases hj:i=j
  ·subst hj;rw[WL] at e;simp at e;obtain⟨hi,rfl⟩:=e;have mf:i < σ.length:=by rw[<- k.len]; exact hi
   rcases KA with h | ⟨_,h⟩
   ·exact⟨v,by rw[Wq mf],h⟩
   ·cases h
  ·rw[W5 hj] at e;obtain⟨w,e1,q⟩:=k2.slot j d e;exact⟨w,by rw[W5 hj]; exact e1,q.aW λb z=>.inl (sub b z)⟩
 ·by_cases hj:i=j
  ·subst hj;rw[WL] at e;simp at e;obtain⟨hi,rfl⟩:=e;have mf:i < σ.length:=by rw[<- k.len]; exact hi
   obtain⟨a,ea,o,n,f,k3,_⟩:=hr;refine⟨a,by rw[Wq mf,ea],o.aW λb z=>.inl ?_,.inr f,n⟩;rcases z with z | z
   ·exact .inl (.inl z)
   ·rcases z.oP with z | ⟨e,_⟩
    ·exact .inr z
    ·rw[ea] at e; cases e
     exact .inl (.inr rfl)
  ·rw[W5 hj] at e;obtain⟨a,e1,q,q2,q3⟩:=k.own j d e;obtain⟨a',e1',q',_,_⟩:=k2.own j d e;rw[e1] at e1'; cases e1'
   exact⟨a,by rw[W5 hj]; exact e1,q'.aW λb z=>.inl (sub b z),q2,q3⟩
 ·by_cases hj:i=j
  ·subst hj;by_cases hl:i=l
   ·exact hl
   ·rw[W5 hl] at e2 e4;rw[WL] at e1 e3;simp at e1 e3;obtain⟨_,rfl⟩:=e1;obtain⟨_,rfl⟩:=e3;obtain⟨a',ea,o,n,f,k3,_⟩:=hr
    cases ea;exact absurd ⟨l,d',e2,e4⟩ (rf k3)
  ·rw[W5 hj] at e1 e3;by_cases hl:i=l
   ·subst hl;rw[WL] at e2 e4;simp at e2 e4;obtain⟨_,rfl⟩:=e2;obtain⟨_,rfl⟩:=e4;obtain⟨a',ea,o,n,f,k3,_⟩:=hr
    cases ea;exact absurd ⟨j,d,e1,e3⟩ (rf k3)
   ·rw[W5 hl] at e2 e4;exact k.inj j l a d d' e1 e2 e3 e4
 ·rw[W5 (Ne.symm (hp p hm))];exact k.pinned p hm
 ·rcases z.oP with z | ⟨e,d,ed⟩
  ·exact x.own b z
  ·subst ed;obtain⟨a,ea,_,_,_,_,hs⟩:=hr;rw[ea] at e; cases e
   exact .inr hs
abbrev DG:=S->Dl->Option Dl
def uZ(c:Fc)(g:DG):TG:=λv σ H Q=>∃ σ₀ δ₀ H₁ δ r δ',aE c σ₀ δ₀ H₁ σ δ H/\aZ c σ δ H₁ H v r/\g r δ=some δ'/\∀ σ',aE c σ₀ δ₀ H₁ σ' δ' H->Q σ' H
abbrev SG(X:Cx)(c:Fc)(tg:Expr)(g:DG):Prop:=PG X tg (uZ c g)
def ak(np:List Nat)(i:Nat):DG:=λr δ=>if np.contains i then none else some (δ.set i (some r))
def Np(c:Fc)(np:List Nat):Prop:=∀ p ∈ c.pin,np.contains p.1=true
theorem Bj(hp:Np c np)(h:uZ c (ak np i) v σ H Q):tR i v σ H Q:=by
 obtain⟨σ₀,δ₀,H₁,δ,r,δ',x,rr,e,q⟩:=h;unfold ak at e;split at e
 ·cases e
 ·rename_i hn
  cases e;exact q _ (Ok.set x rr λp hm e=>hn (by rw[<- e]; exact hp p hm))
theorem PG.weak{tg:Expr}{t t':TG}(h:PG X tg t)(w:∀ v σ H Q,t' v σ H Q->t v σ H Q):PG X tg t':=λpins s σ H v u Q I r q=>h pins s σ H v u Q I r (w v σ H Q q)
theorem gE.weak{tg:List Expr}{t t':kG}(h:gE X tg t)(w:∀ v σ H Q,t' v σ H Q->t v σ H Q):gE X tg t':=λpins s σ H v u Q I r q=>h pins s σ H v u Q I r (w v σ H Q q)
theorem dE{np:List Nat}{i:Nat}{x:Str}(hp:Np c np)(hN:X.N.Nodup)(hi:X.N[i]? = some x)(hx:Loc X.env.scope x)(hf:X.fn x=true\/X.env.scope.names.lookup x=some .local):SG X c (.Name x pos) (ak np i) :=
 PG.weak (zf hN hi hx hf) λv σ H Q h=>Bj hp h
abbrev g_:=List D->Dl->Option Dl
def KC(c:Fc)(g:g_):kG:=λvs σ H Q=>∃ δ ds δ',Ok c σ δ H/\aA H (Av c σ δ) vs ds/\g ds δ=some δ'/\∀ σ',aE c σ δ H σ' δ' H->Q σ' H
abbrev rQ(X:Cx)(c:Fc)(tg:List Expr)(g:g_):Prop:=gE X tg (KC c g)
def c7:g_:=λds δ=>match ds with
 | []=>some δ
 | _=>none
def bH(g:DG)(gs:g_):g_:=λds δ=>match ds with
 | []=>none
 | d :: r=>(g (.pure d) δ).bind λδ1=>gs r δ1
theorem nA:rQ X c [] c7:=gE.weak zg λvs σ H Q ⟨δ,ds,δ',k,r,e,q⟩=>by
 cases ds with
 | nil =>
  cases e;have:vs=[]:=by have:=r.1; simpa using this
  exact⟨this,q σ (.refl k)⟩
 | cons d r=>cases e
theorem gJ{es:List Expr}{g:DG}{gs:g_}(h1:SG X c e g)(h2:rQ X c es gs)(hs:(Q6 (e :: es) X.env).map (·.2)=assign e X.env :: (Q6 es X.env).map (·.2):=by rfl):rQ X c (e :: es) (bH g gs) :=
 gE.weak (zh h1 h2 hs) λvs σ H Q ⟨δ,ds,δ',k,r,e,q⟩=>by
  cases ds with
  | nil=>cases e
  | cons d ds =>
   cases vs with
   | nil=>have:=r.1; simp at this
   | cons v vs =>
    simp only[bH] at e
    cases e1:g (.pure d) δ with
    | none=>rw[e1] at e; cases e
    | some δ1 =>
     rw[e1] at e;refine⟨v,vs,rfl,σ,δ,H,δ,.pure d,δ1,.refl k,r.head,e1,λσ1 a1=>?_⟩;exact⟨δ1,ds,δ',a1.ok,aA.du r.tail a1,e,λσ2 a2=>q σ2 (a1.trans a2)⟩
def cL(n:Nat)(gs:g_):DG:=λr δ=>match r.d with
 | .tup ds=>if ds.length=n then gs ds δ else none
 | _=>none
theorem nB{es:List Expr}{k:Nat}{gs:g_}{n:Nat}(hc:X.calm=true)(h:rQ X c es gs)(hn:(Q6 es X.env).length=n:=by rfl)(cO:(Q6 es X.env).findIdx? (·.1)=none:=by rfl) :
  SG X c (.Tuple es k pos) (cL n gs):=PG.weak (zi hc h hn cO) λv σ H Q hw=>by
 obtain⟨σ₀,δ₀,H₁,δ,r,δ',x,rr,e,q⟩:=hw;have hb:=rr.b;unfold cL at e;generalize r.d=d at e hb
 cases d <;> first | (cases e; done) | skip
 rename_i ds;simp only at e;split at e
 ·rename_i hl;obtain⟨a,vs,ea,ha,ra⟩:=hb.tup;exact⟨a,vs,ea,.of ha,by rw[ra.1]; exact hl,δ,ds,δ',x.ok,ra,e,λσ' a1=>q σ' (x.trans a1)⟩
 ·cases e
def az(f:DE)(g:DG):DS:=λδ=>(f δ).bind λr δ1=>match g r δ1 with
 | some δ2=>.ok .next δ2
 | none=>.stuck
theorem Bk{g:DG}{D:Ends}{σ:St}{H:Hp}{te:TE}{tg:TG}(he:∀ σ H Q,tD c fe σ H Q->te σ H Q)(hg:∀ v σ H Q,uZ c g v σ H Q->tg v σ H Q)(h:k7 c (az fe g) D σ H):tS te tg D σ H:=by
 obtain⟨δ,k,q⟩:=h;unfold az dW at q;rw[bh] at q;refine he _ _ _ ⟨δ,k,aX q λr δ1 q1 v H1 a1 r1=>hg _ _ _ _ ?_⟩
 cases e:g r δ1 with
 | none=>rw[e] at q1; exact q1.elim
 | some δ2 =>
  rw[e] at q1;exact⟨σ,δ,H,δ1,r,δ2,a1,r1,e,λσ' a2=>q1 σ' H1 a2⟩
theorem u0{tg:Expr}{g:DG}(he:SE X c e fe)(hg:SG X c tg g)(hs:swapsWithSole [tg] e pos.line X.env=pure false:=by rfl)(hw:swappedStores [tg] e X.env=pure none:=by rfl)
  (h1:(Q6 [tg] X.env).map (·.2)=[assign tg X.env]:=by rfl):SS X c (.Assign [tg] e pos) (az fe g):=PS.weak (zj he hg hs hw h1) λD σ H h=>Bk (λ_ _ _ h=>h) (λ_ _ _ _ h=>h) h
theorem bZ{np:List Nat}{i:Nat}{x:Str}(hp:Np c np)(hN:X.N.Nodup)(hi:X.N[i]? = some x)(hx:Loc X.env.scope x)(he:SE X c e fe)(hs:Ji e (some (.Name x pos')) pos.line X.env=pure false)(hf:X.fn x=true\/X.env.scope.names.lookup x=some .local) :
  SS X c (.Assign [.Name x pos'] e pos) (az fe (ak np i)):=PS.weak (FV hN hi hx he hs hf) λD σ H h=>Bk (λ_ _ _ h=>h) (λ_ _ _ _ h=>Bj hp h) h
theorem KD(he:SE X c e fe)(hs:∀ (x:Value),Ji e none pos.line X.env=pure false:=by intro _; rfl)(hd:True:=trivial)(h:PS X (.Expr e pos) (tQ (tD c fe))):SS X c (.Expr e pos) (iI fe):=PS.weak h λD σ H ⟨δ,k,q⟩=>by
 unfold iI dW at q;rw[bh] at q;exact⟨δ,k,aX q λr δ1 q1 v H1 a1 r1=>q1 σ H1 a1⟩
theorem Ok.Bl{σ:St}{δ:Dl}{H:Hp}{i:Nat}{ds dC:List D}{a:Addr}{kS:List V}(k:Ok c σ δ H)(e:δ[i]? = some (some (.own (.lst ds))))(ea:σ[i]? = some (some (.ref a)))(r:aA H (Av c σ δ) kS dC) :
  aE c σ δ H σ (δ.set i (some (.own (.lst dC)))) (upd H a (.lst kS)):=by
 have hi:i < δ.length:=(We.mp e).1;obtain⟨a',eO,oa,ia,nb⟩:=k.own i _ e;rw[ea] at eO; cases eO
 obtain⟨vs,ha,_⟩:=oa;have oQ:Own σ δ a:=⟨i,_,e,ea⟩
 have u4:Av c σ δ a:=.inr oQ;have oR:∀ b,Own σ (δ.set i (some (.own (.lst dC)))) b ↔ Own σ δ b:=λb=>by
  constructor
  ·rintro ⟨j,d,e1,e2⟩;by_cases hj:i=j
   ·subst hj;exact⟨i,_,e,e2⟩
   ·rw[W5 hj] at e1;exact⟨j,d,e1,e2⟩
  ·rintro ⟨j,d,e1,e2⟩;by_cases hj:i=j
   ·subst hj;exact⟨i,_,by rw[Wq hi],e2⟩
   ·exact⟨j,d,by rw[W5 hj]; exact e1,e2⟩
 have mh:∀ b,Av c σ (δ.set i (some (.own (.lst dC)))) b->Av c σ δ b:=λb z=>z.elim .inl λz=>.inr ((oR b).mp z)
 have ne:∀ b,¬ Av c σ δ b->b≠a:=λb n z=>n (by rw[z]; exact u4)
 have kp:∀ b o,H b=some o->¬ Av c σ δ b->upd H a (.lst kS) b=some o:=λb o h n=>by rw[aV (ne b n)]; exact h
 have jl:∀ b o,H b=some o->∃ o',upd H a (.lst kS) b=some o':=λb o h=>by
  by_cases hb:b=a
  ·exact⟨_,by rw[hb]; exact cq⟩
  ·exact⟨o,by rw[aV hb]; exact h⟩
 refine⟨⟨λb o h n=>?_,λb z=>?_,λb z=>?_,by rw[Qo]; exact k.len,λj d h=>?_,λj d h=>?_,λj l b d d' h1 h2 h3 h4=>?_,k.pinned⟩,λb o h n=>?_,λb z=>.inl ((oR b).mp z),jl⟩
 ·have hb:b≠a:=λz=>by
   subst z;rcases ia with z | z
   ·exact n z
   ·rw[z] at h; cases h
  rw[aV hb];exact k.keep b o h n
 ·obtain⟨o,h⟩:=k.bd b z;exact jl b o h
 ·obtain⟨o,h⟩:=k.cQ b z;exact jl b o h
 ·have hj:i≠j:=λz=>by subst z; rw[Wq hi] at h; cases h
  rw[W5 hj] at h;obtain⟨v,h1,h2⟩:=k.slot j d h;exact⟨v,h1,(h2.keep kp).aW λb z=>.inl (mh b z)⟩
 ·by_cases hj:i=j
  ·subst hj;rw[Wq hi] at h
   cases h;exact⟨a,ea,⟨kS,cq,aA.aW (aA.keep r kp) λb z=>.inl (mh b z)⟩,ia,nb⟩
  ·rw[W5 hj] at h;obtain⟨b,h1,h2,h3,h4⟩:=k.own j d h;have hb:b≠a:=λz=>by subst z; exact hj (k.inj i j b _ d e h ea h1)
   exact⟨b,h1,(h2.keep kp λo q=>by rw[aV hb]; exact q).aW λb z=>.inl (mh b z),h3,h4⟩
 ·have f1:∃ d,δ[j]? = some (some (.own d)):=by
   by_cases hj:i=j
   ·subst hj; exact⟨_,e⟩
   ·rw[W5 hj] at h1; exact⟨d,h1⟩
  have f2:∃ d,δ[l]? = some (some (.own d)):=by
   by_cases hj:i=l
   ·subst hj; exact⟨_,e⟩
   ·rw[W5 hj] at h2; exact⟨d',h2⟩
  obtain⟨_,f1⟩:=f1;obtain⟨_,f2⟩:=f2;exact k.inj j l b _ _ f1 f2 h3 h4
 ·have hb:b≠a:=λz=>n (by rw[z]; exact oQ)
  rw[aV hb]; exact h
def iJ(δ:Dl)(i:Nat):Bool:=match δ[i]? with
 | some (some (.own (.lst _)))=>true
 | _=>false
def putL(δ:Dl)(i:Nat)(f:List D->Option (List D)):Rs Fl:=match δ[i]? with
 | some (some (.own (.lst ds)))=>match f ds with
  | some dC=>.ok .next (δ.set i (some (.own (.lst dC))))
  | none=>.stuck
 | _=>.stuck
theorem Bm(h:iJ δ i=true):∃ ds,δ[i]? = some (some (.own (.lst ds))):=by
 unfold iJ at h;split at h
 ·rename_i ds e; exact⟨ds,e⟩
 ·cases h
theorem Bn{δ:Dl}{i:Nat}{g:List D->Option (List D)}{kk:Fl->Dl->Prop}(h:post c (putL δ i g) kk):∃ ds dC,δ[i]? = some (some (.own (.lst ds)))/\g ds=some dC/\kk .next (δ.set i (some (.own (.lst dC)))):=by
 unfold putL at h;split at h
 ·rename_i ds e;split at h
  ·rename_i dC e2;exact⟨ds,dC,e,e2,h⟩
  ·exact h.elim
 ·exact h.elim
def fW(i:Nat)(f:DE):DS:=λδ=>if iJ δ i then(f δ).bind λr δ1=>putL δ1 i λds=>if ds.length < Wb then some (ds ++ [r.d]) else none else .stuck
theorem KG{i:Nat}{o:Expr}{p0 apos aJ:Pos}(ho:PE X o (da i))(he:SE X c e fe)
  (h:PS X (.Expr (.Call (.Attribute o "append" apos) [e] [] aJ) pos) (tQ (zZ X.K "list" z5 (da i) (zB (tD c fe) zA)))):SS X c (.Expr (.Call (.Attribute o "append" apos) [e] [] aJ) pos) (fW i fe) :=
 PS.weak h λD σ H ⟨δ,k,q⟩=>by
  unfold fW dW at q;split at q
  ·rename_i jZ;obtain⟨ds0,e0⟩:=Bm jZ;rw[bh] at q;obtain⟨a,ea,oa,_⟩:=k.own i _ e0;refine⟨.ref a,ea,?_,δ,k,aX q λr δ1 q1 v H1 a1 r1=>?_⟩
   ·obtain⟨vs,ha,_⟩:=oa;exact .inl ⟨rfl,vs,.of ha⟩
   ·obtain⟨ds,dC,e1,e2,q2⟩:=Bn q1;split at e2
    ·rename_i hz
     cases e2;obtain⟨a',eO,oa1,_⟩:=a1.ok.own i _ e1;rw[ea] at eO; cases eO
     obtain⟨vs,ha,ra⟩:=id oa1;refine⟨a,vs,v,rfl,rfl,ha,by rw[ra.1]; exact hz,?_⟩;exact q2 σ _ (a1.trans (Ok.Bl a1.ok e1 ea (ra.append (.cons r1.rep .nil))))
    ·cases e2
  ·exact q.elim
def nC(i:Nat)(fi:DE)(fe:DE):DS:=λδ=>if iJ δ i then(fe δ).bind λr δ1=>(fi δ1).bind λk δ2=>match k with
 | .pure (.int j)=>putL δ2 i λds=>(eF ds.length j).map λn=>ds.set n r.d
 | _=>.stuck else .stuck
theorem Bo{i:Nat}{o ix:Expr}{fi:DE}{sp:Pos}(ho:PE X o (da i))(hi:SE X c ix fi)(he:SE X c e fe)
  (ha:∀ v,assign (.Subscript o ix sp) X.env v=(do
   let ov <- holding [v] (eval o X.env)
   let iv <- holding [v,ov] (eval ix X.env)
   standAt sp
   holding [v,ov,iv] (setItem ov iv v)
   release [v,ov,iv] []):=by intro _; rfl)
  (hs:swapsWithSole [.Subscript o ix sp] e pos.line X.env=pure false:=by rfl) (hw:swappedStores [.Subscript o ix sp] e X.env=pure none:=by rfl)
  (h1:(Q6 [.Subscript o ix sp] X.env).map (·.2)=[assign (.Subscript o ix sp) X.env]:=by rfl):SS X c (.Assign [.Subscript o ix sp] e pos) (nC i fi fe) :=
 PS.weak (zj he (FU ho hi Hc ha) hs hw h1) λD σ H ⟨δ,k,q⟩=>by
  unfold nC dW at q;split at q
  ·rename_i jZ;obtain⟨ds0,e0⟩:=Bm jZ;rw[bh] at q;obtain⟨a,ea,_,_⟩:=k.own i _ e0;refine⟨δ,k,aX q λr δ1 q1 v H1 a1 r1=>⟨.ref a,ea,δ1,a1.ok,?_⟩⟩;rw[bh] at q1;refine aX q1 λkx δ2 q2 u H2 a2 r2=>?_
   cases kx with
   | own d=>exact q2.elim
   | pure d =>
    cases d <;> first | exact q2.elim | skip
    rename_i j
    cases r2;obtain⟨ds,dC,e1,e2,q3⟩:=Bn q2
    cases e3:eF ds.length j with
    | none=>rw[e3] at e2; cases e2
    | some n =>
     rw[e3] at e2
     cases e2;obtain⟨a',eO,oa1,_⟩:=a2.ok.own i _ e1;rw[ea] at eO; cases eO
     obtain⟨vs,ha,ra⟩:=id oa1;refine⟨a,vs,j,n,rfl,rfl,ha,by rw[ra.1]; exact e3,?_⟩;exact q3 σ _ (a1.trans (a2.trans (Ok.Bl a2.ok e1 ea (ra.set (Rep.du r1.rep a2) n))))
  ·exact q.elim
end
abbrev DI:=Dl->Rs (List D)
def mi(c:Fc)(σ:St)(δ:Dl)(H:Hp)(J:It)(ds:List D):Prop:=∀ H2,(∀ a o,H a=some o->¬ Own σ δ a->H2 a=some o)->J.stop ds.length H2 /\
 ∀ (i:Nat) d,ds[i]? = some d->J.go i H2/\∀ x H3,J.oi i H2 x H3->(H3=H2/\Rep H (Av c σ δ) x d) \/
  ∃ p vs es,H2 p=none/\H3=upd H2 p (.tup vs)/\x = .ref p/\d = .tup es/\aA H (Av c σ δ) vs es
def tI(c:Fc)(f:DI):TI:=λσ H R=>∃ δ,Ok c σ δ H/\post c (f δ) λds δ'=>∀ J H',aE c σ δ H σ δ' H'->mi c σ δ' H' J ds->R J H'
abbrev SI(X:Cx)(c:Fc)(tg iter:Expr)(f:DI):Prop:=PI X tg iter (tI c f)
theorem PI.weak(h:PI X tg iter t)(w:∀ σ H R,t' σ H R->t σ H R):PI X tg iter t':=λpins s σ H R I q=>h pins s σ H R I (w σ H R q)
section
variable {X:Cx} {c:Fc} {tg e:Expr} {fe:DE} {pos pp:Pos}
theorem KH(K:W2)(h:H a=some (.tup vs))(n:¬ Own σ δ a)(r:aA H (Av c σ δ) vs ds):mi c σ δ H (qF K a) ds:=by
 intro H2 kp;have h2:=kp a _ h n;refine⟨⟨vs,.of h2,by rw[r.1]; exact Wf _⟩,λi d e=>?_⟩;obtain⟨v,ev,rv⟩:=r.get e;refine⟨⟨vs,v,.of h2,ev⟩,λx H3 ⟨e3,y⟩=>.inl ⟨e3,?_⟩⟩;have:=y vs (.of h2);rw[ev] at this
 cases this;exact rv
def bS(lo:Int)(n:Nat):List D:=(Q1 n).map λk:Nat=>D.int (lo + k)
theorem KI{lo:Int}{n i:Nat}{d:D}(h:(bS lo n)[i]? = some d):i < n/\d = .int (lo + i):=by
 unfold bS at h;rw[Wy] at h;by_cases hi:i < n
 ·rw[List.getElem?_range hi] at h;simp at h;exact⟨hi,h.symm⟩
 ·rw[WU (by simpa using hi)] at h
  cases h
theorem KJ(lo:Int)(n:Nat):mi c σ δ H (qG lo n) (bS lo n):=by
 intro H2 kp;refine⟨by show n<=(bS lo n).length; simp[bS],λi d e=>?_⟩;obtain⟨hi,rfl⟩:=KI e;exact⟨hi,λx H3 ⟨e3,ex⟩=>.inl ⟨e3,by rw[ex]; exact .int _⟩⟩
def nD(j:Int):Bool:=decide (-(2 ^ 62)<=j) && decide (j < 2 ^ 62)
def ft(f:DE):DI:=λδ=>(f δ).bind λr δ1=>match r with
 | .pure (.int j)=>if nD j then .ok (bS 0 j.toNat) δ1 else .stuck
 | _=>.stuck
theorem mj (hg:Gl X "range") (hm:X.mg "range" = none) (he:SE X c e fe) (hs:W7 [e] X.env=[(false,eval e X.env)]:=by rfl):SI X c tg (.Call (.Name "range" pp) [e] [] pos) (ft fe) :=
 PI.weak (Ga hg hm (dR he fP hs) hs) λσ H R ⟨δ,k,q⟩=>by
  unfold ft at q;rw[bh] at q;refine⟨δ,k,aX q λr δ1 q1 v H1 a1 r1=>?_⟩
  cases r with
  | own d=>exact q1.elim
  | pure d =>
   cases d <;> first | exact q1.elim | skip
   rename_i j
   cases r1;simp only at q1;split at q1
   ·rename_i hj;unfold nD at hj;simp only[Wm,decide_eq_true_eq] at hj;exact⟨j,rfl,hj.1,hj.2,q1 _ H1 a1 (KJ 0 j.toNat)⟩
   ·exact q1.elim
def forL(g:DG)(b:DS):List D->DS
 | [],δ=>.ok .next δ
 | d :: r,δ=>match g (.pure d) δ with
  | none=>.stuck
  | some δ1=>(b δ1).bind λfl δ2=>match fl with
   | .next=>forL g b r δ2
   | .cont=>forL g b r δ2
   | .brk=>.ok .next δ2
   | .ret v=>.ok (.ret v) δ2
def dz(it:DI)(g:DG)(b:DS):DS:=λδ=>(it δ).bind λds δ1=>forL g b ds δ1
theorem Bp(io:mi c σ δ H J ds)(a:aE c σ δ H σ2 δ2 H2)(e:ds[i]? = some d)(y:J.oi i H2 x H3):aE c σ2 δ2 H2 σ2 δ2 H3/\Rep H3 (Av c σ2 δ2) x d:=by
 obtain⟨_,t⟩:=io H2 a.keep;rcases (t i d e).2 x H3 y with ⟨e3,r⟩ | ⟨p,vs,es,hp,e3,ex,ed,r⟩
 ·subst e3;exact⟨.refl a.ok,Rep.du r a⟩
 ·subst e3 ex ed;have:=aZ.mX a.ok (aA.du r a) hp;exact⟨.alloc a.ok hp _,this⟩
theorem hJ{iter:Expr}{body:List Stmt}{it:DI}{g:DG}{b:DS}(hp:PassesOwn (model X.prog X.w) X.A X.env X.xe)(hc:X.calm=true)(hi:SI X c tg iter it)(hg:SG X c tg g)(hb:gp X c body b)
  (hs:∀ x,JF iter X.env x=pure x:=by intro _; rfl):SS X c (.For tg iter body [] pos) (dz it g b):=PS.weak (Ge hp hc hi hg hb hs) λD σ H ⟨δ,k,q⟩=>by
 unfold dz dW at q;rw[bh] at q;refine⟨δ,k,aX q λds δ1 q1 J H1 a1 io=>?_⟩;refine⟨λi m σ2 H2=>∃ δ2,m=ds.length - i/\i<=ds.length/\aE c σ δ1 H1 σ2 δ2 H2/\dW c D σ2 δ2 H2 (forL g b (ds.drop i) δ2),⟨ds.length,δ1,by simp,Ql _,.refl a1.ok,?_⟩,?_⟩
 ·rw[List.drop_zero];exact aX q1 λfl δ2 q2 σ2 H2 a2=>q2 σ2 H2 (a1.trans a2)
 ·rintro i m σ2 H2 ⟨δ2,rfl,k8,a2,p2⟩;by_cases aY:i < ds.length
  ·right
   have e:ds[i]? = some ds[i]:=by simp[aY]
   rw[QO aY] at p2;refine⟨((io H2 a2.keep).2 i _ e).1,λσ4 H4=>∃ δ4,aE c σ δ1 H1 σ4 δ4 H4/\dW c D σ4 δ4 H4 (forL g b (ds.drop (i + 1)) δ4),λσ4 H4 ⟨δ4,a4,p4⟩=>⟨ds.length - (i + 1),by omega,δ4,rfl,aY,a4,p4⟩,λx H3 y=>?_⟩;obtain⟨a3,r3⟩:=Bp io a2 e y;simp only[forL,dW] at p2
   cases eg:g (.pure ds[i]) δ2 with
   | none=>rw[eg] at p2; exact p2.elim
   | some δ3 =>
    rw[eg] at p2;refine⟨σ2,δ2,H3,δ2,.pure ds[i],δ3,.refl a3.ok,r3,eg,λσ3 a3'=>?_⟩;have p3:post c ((b δ3).bind λfl δ2=>match fl with
     | .next=>forL g b (ds.drop (i + 1)) δ2
     | .cont=>forL g b (ds.drop (i + 1)) δ2
     | .brk=>.ok .next δ2
     | .ret v=>.ok (.ret v) δ2) λfl δ'=>∀ σ' H',aE c σ2 δ2 H2 σ' δ' H'->fin c D σ' δ' H' fl:=p2
    rw[bh] at p3;have KL:aE c σ2 δ2 H2 σ3 δ3 H3:=a3.trans a3';refine⟨δ3,a3'.ok,aX p3 λfl δ4 p4 σ4 H4 a4=>?_⟩;have k9:=KL.trans a4
    cases fl with
    | next=>exact⟨δ4,a2.trans k9,aX p4 λfl δ5 p5 σ5 H5 a5=>p5 σ5 H5 (k9.trans a5)⟩
    | cont=>exact⟨δ4,a2.trans k9,aX p4 λfl δ5 p5 σ5 H5 a5=>p5 σ5 H5 (k9.trans a5)⟩
    | brk=>exact p4 σ4 H4 k9
    | ret r=>exact p4 σ4 H4 k9
  ·left
   have u5:i=ds.length:=by omega
   subst u5;rw[List.drop_length] at p2;exact⟨(io H2 a2.keep).1,p2 σ2 H2 (.refl a2.ok)⟩
end
def bG(cs:List Nat)(δ:Dl):Dl:=cs.foldl (λδ i=>δ.set i none) δ
def dJ(cs:List Nat)(δ₁ δ:Dl):Dl:=cs.foldl (λδ i=>match δ₁[i]? with | some o=>δ.set i o | none=>δ) δ
def bT(δ:Dl)(i:Nat):Bool:=match δ[i]? with
 | some (some (.own _))=>true
 | _=>false
theorem Bq(cs:List Nat):∀ δ:Dl,(bG cs δ).length=δ.length:=by
 induction cs with
 | nil=>intro δ; rfl
 | cons i r ih =>
  intro δ;show(bG r (δ.set i none)).length=_;rw[ih]; simp
theorem hU:∀ (cs:List Nat) (δ:Dl) (i:Nat) (v:S),(bG cs δ)[i]? = some (some v)->δ[i]? = some (some v)/\i ∉ cs:=by
 intro cs;induction cs with
 | nil=>intro δ i v h; exact⟨h,by simp⟩
 | cons j r ih =>
  intro δ i v h;have h':(bG r (δ.set j none))[i]? = some (some v):=h;obtain⟨h1,h2⟩:=ih _ i v h';by_cases e:j=i
  ·subst e;rw[WL] at h1;simp at h1
  ·rw[W5 e] at h1;exact⟨h1,by simp only[Wo,not_or]; exact⟨Ne.symm e,h2⟩⟩
theorem j0:∀ (cs:List Nat) (σ:St) (i:Nat),i ∉ cs->(bu cs σ)[i]? = σ[i]?:=by
 intro cs;induction cs with
 | nil=>intro σ i _; rfl
 | cons j r ih =>
  intro σ i h;simp only[Wo,not_or] at h;show(bu r (σ.set j none))[i]? = _;rw[ih _ _ h.2,W5 (Ne.symm h.1)]
theorem KN:∀ (cs:List Nat) (δ:Dl) (i:Nat),i ∉ cs->(bG cs δ)[i]? = δ[i]?:=by
 intro cs;induction cs with
 | nil=>intro σ i _; rfl
 | cons j r ih =>
  intro σ i h;simp only[Wo,not_or] at h;show(bG r (σ.set j none))[i]? = _;rw[ih _ _ h.2,W5 (Ne.symm h.1)]
theorem KO(cs:List Nat)(δ₁:Dl):∀ δ:Dl,(dJ cs δ₁ δ).length=δ.length:=by
 induction cs with
 | nil=>intro δ; rfl
 | cons i r ih =>
  intro δ;unfold dJ;rw[QZ];have:=ih (match δ₁[i]? with | some o=>δ.set i o | none=>δ);unfold dJ at this;rw[this]
  cases δ₁[i]? <;> simp
theorem rR:∀ (cs:List Nat) (δ₁ δ:Dl) (i:Nat),i ∉ cs->(dJ cs δ₁ δ)[i]? = δ[i]?:=by
 intro cs δ₁;induction cs with
 | nil=>intro δ i _; rfl
 | cons j r ih =>
  intro δ i h;simp only[Wo,not_or] at h;unfold dJ;rw[QZ];have:=ih (match δ₁[j]? with | some o=>δ.set j o | none=>δ) i h.2;unfold dJ at this;rw[this]
  cases δ₁[j]? with
  | none=>rfl
  | some o=>simp only; rw[W5 (Ne.symm h.1)]
theorem u6:∀ (cs:List Nat) (δ₁ δ:Dl) (i:Nat),δ₁.length=δ.length->i ∈ cs->(dJ cs δ₁ δ)[i]? = δ₁[i]?:=by
 intro cs δ₁;induction cs with
 | nil=>intro δ i _ h; simp at h
 | cons j r ih =>
  intro δ i hl h;unfold dJ;rw[QZ];have m_:δ₁.length=(match δ₁[j]? with | some o=>δ.set j o | none=>δ).length:=by cases δ₁[j]? <;> simp[hl]
  by_cases hr:i ∈ r
  ·have:=ih (match δ₁[j]? with | some o=>δ.set j o | none=>δ) i m_ hr;unfold dJ at this;exact this
  ·have e:i=j:=by
    rcases Wo.mp h with e | e
    ·exact e
    ·exact absurd e hr
   subst e;have:=rR r δ₁ (match δ₁[i]? with | some o=>δ.set i o | none=>δ) i hr;unfold dJ at this;rw[this]
   cases e:δ₁[i]? with
   | none =>
    simp only;have:=List.getElem?_eq_none_iff.mp e;exact WU (by omega)
   | some o =>
    simp only;have:=(We.mp e).1;rw[Wq (by omega)]
section
variable {c:Fc} {σ:St} {δ δ':Dl} {H H':Hp} {l:Addr} {cs:List Nat}
theorem Ok.less(k:Ok (c.plus l) σ δ H):Ok c σ δ H:=by
 have sub:∀ b,Av c σ δ b->Av (c.plus l) σ δ b:=λb z=>z.elim (λz=>.inl (.inl z)) .inr
 refine⟨k.keep,λa z=>k.bd a (.inl z),k.cQ,k.len,λi d e=>?_,λi d e=>?_,k.inj,k.pinned⟩
 ·obtain⟨v,h1,h2⟩:=k.slot i d e;exact⟨v,h1,h2.aW λb z=>.inl (sub b z)⟩
 ·obtain⟨a,h1,h2,h3,h4⟩:=k.own i d e;exact⟨a,h1,h2.aW λb z=>.inl (sub b z),h3,λz=>h4 (.inl z)⟩
theorem Ok.KP(k:Ok c σ δ H)(hb:c.B l)(h0:c.H₀ l=none)(o:HO):Ok c σ δ (upd H l o):=by
 have kp:∀ b w,H b=some w->¬ Av c σ δ b->upd H l o b=some w:=λb w e n=>by
  rw[aV (λz=>n (by rw[z]; exact .inl hb))]; exact e
 have jl:∀ b w,H b=some w->∃ w',upd H l o b=some w':=λb w h=>by
  by_cases hb:b=l
  ·exact⟨_,by rw[hb]; exact cq⟩
  ·exact⟨w,by rw[aV hb]; exact h⟩
 refine⟨λa w e n=>?_,λa z=>?_,λa z=>?_,k.len,λi d e=>?_,λi d e=>?_,k.inj,k.pinned⟩
 ·have:a≠l:=λz=>by rw[z,h0] at e; cases e
  rw[aV this]; exact k.keep a w e n
 ·obtain⟨w,e⟩:=k.bd a z; exact jl a w e
 ·obtain⟨w,e⟩:=k.cQ a z; exact jl a w e
 ·obtain⟨v,h1,h2⟩:=k.slot i d e;exact⟨v,h1,h2.keep kp⟩
 ·obtain⟨a,h1,h2,h3,h4⟩:=k.own i d e;have:a≠l:=λz=>h4 (by rw[z]; exact hb)
  exact⟨a,h1,h2.keep kp λw q=>by rw[aV this]; exact q,h3,h4⟩
theorem Own.bu(h:Own (bu cs σ) (bG cs δ) l):Own σ δ l:=by
 obtain⟨i,d,e1,e2⟩:=h;exact⟨i,d,(hU cs δ i _ e1).1,(kQ cs σ i _ e2).1⟩
theorem Ok.bu(k:Ok c σ δ H)(hp:∀ p ∈ c.pin,p.1 ∉ cs):Ok c (L2.bu cs σ) (bG cs δ) H:=by
 have sub:∀ b,Av c (L2.bu cs σ) (bG cs δ) b->Av c σ δ b:=λb z=>z.elim .inl λz=>.inr z.bu
 refine⟨k.keep,k.bd,k.cQ,by rw[Bq,qX]; exact k.len,λi d e=>?_,λi d e=>?_,λi j a d d' e1 e2 e3 e4=>?_,λp hm=>?_⟩
 ·obtain⟨e',hi⟩:=hU cs δ i _ e;obtain⟨v,h1,h2⟩:=k.slot i d e';exact⟨v,by rw[j0 cs σ i hi]; exact h1,h2.aW λb z=>.inl (sub b z)⟩
 ·obtain⟨e',hi⟩:=hU cs δ i _ e;obtain⟨a,h1,h2,h3⟩:=k.own i d e';exact⟨a,by rw[j0 cs σ i hi]; exact h1,h2.aW λb z=>.inl (sub b z),h3⟩
 ·exact k.inj i j a d d' (hU cs δ i _ e1).1 (hU cs δ j _ e2).1 (kQ cs σ i _ e3).1 (kQ cs σ j _ e4).1
 ·rw[j0 cs σ _ (hp p hm)]; exact k.pinned p hm
theorem aE.back(k:Ok c₀ σ δ H)(KQ:c.pin=c₀.pin)(hB:∀ b,c.B b->c₀.B b\/H b=none)(eT:cs.any (bT δ)=false)(x:aE c (L2.bu cs σ) (bG cs δ) H (L2.bu cs σ) δ' H'):aE c σ δ H σ (dJ cs δ δ') H':=by
 have len:δ.length=δ'.length:=by
  have:=x.ok.len;rw[qX] at this;rw[this]; exact k.len
 have n_:∀ i d,i ∈ cs->δ[i]?≠some (some (.own d)):=λi d hi e=>by
  have:=List.any_eq_false.mp eT i hi;unfold bT at this;rw[e] at this;simp at this
 have ownOut:∀ i d,(dJ cs δ δ')[i]? = some (some (.own d))->i ∉ cs/\δ'[i]? = some (some (.own d)):=λi d e=>by
  by_cases hi:i ∈ cs
  ·rw[u6 cs δ δ' i len hi] at e;exact absurd e (n_ i d hi)
  ·rw[rR cs δ δ' i hi] at e;exact⟨hi,e⟩
 have sub:∀ b,Own σ (dJ cs δ δ') b->Own (L2.bu cs σ) δ' b:=λb ⟨i,d,e1,e2⟩=>by
  obtain⟨hi,e⟩:=ownOut i d e1;exact⟨i,d,e,by rw[j0 cs σ i hi]; exact e2⟩
 have ml:∀ b,Av c σ (dJ cs δ δ') b->Av c (L2.bu cs σ) δ' b:=λb z=>z.elim .inl λz=>.inr (sub b z)
 have ownEq:∀ b,Own σ δ b->Own (L2.bu cs σ) (bG cs δ) b:=λb ⟨i,d,e1,e2⟩=>by
  have hi:i ∉ cs:=λz=>n_ i d z e1
  exact⟨i,d,by rw[KN cs δ i hi]; exact e1,by rw[j0 cs σ i hi]; exact e2⟩
 refine⟨⟨x.ok.keep,x.ok.bd,x.ok.cQ,by rw[KO,<- len]; exact k.len,λi d e=>?_,λi d e=>?_,λi j a d d' e1 e2 e3 e4=>?_,by rw[KQ]; exact k.pinned⟩,λa o e n=>?_,λa z=>?_,x.there⟩
 ·by_cases hi:i ∈ cs
  ·rw[u6 cs δ δ' i len hi] at e;obtain⟨v,h1,h2⟩:=k.slot i d e;have h3:Rep H (Av c (L2.bu cs σ) (bG cs δ)) v d:=h2.aW λb z=>by
    rcases z with z | z
    ·exact(hB b z).elim (λz=>.inl (.inl z)) .inr
    ·exact .inl (.inr z.bu)
   exact⟨v,h1,(Rep.du h3 x).aW λb z=>.inl (ml b z)⟩
  ·rw[rR cs δ δ' i hi] at e;obtain⟨v,h1,h2⟩:=x.ok.slot i d e;exact⟨v,(kQ cs σ i v h1).1,h2.aW λb z=>.inl (ml b z)⟩
 ·obtain⟨hi,e'⟩:=ownOut i d e;obtain⟨a,h1,h2,h3⟩:=x.ok.own i d e';exact⟨a,(kQ cs σ i _ h1).1,h2.aW λb z=>.inl (ml b z),h3⟩
 ·obtain⟨hi,f1⟩:=ownOut i d e1;obtain⟨hj,f2⟩:=ownOut j d' e2;exact x.ok.inj i j a d d' f1 f2 (by rw[j0 cs σ i hi]; exact e3) (by rw[j0 cs σ j hj]; exact e4)
 ·exact x.keep a o e λz=>n z.bu
 ·rcases x.own a (sub a z) with q | q
  ·exact .inl q.bu
  ·exact .inr q
end
def dg(cs:List Nat)(g:DG)(t:DT)(el:DE):List D->Dl->List D->Rs (List D)
 | [],δ,acc=>.ok acc δ
 | d :: r,δ,acc=>match g (.pure d) δ with
  | none=>.stuck
  | some δ1=>(t δ1).bind λb δ2=>if b then(el δ2).bind λx δ3=>if acc.length < Wb then dg cs g t el r (bG cs δ3) (acc ++ [x.d]) else .stuck
   else dg cs g t el r (bG cs δ2) acc
def gq(cs:List Nat)(it:DI)(g:DG)(t:DT)(el:DE):DE:=λδ=>(it δ).bind λds δ1=>if cs.any (bT δ1) then .stuck else
 (dg cs g t el ds (bG cs δ1) []).bind λacc δ2=>.ok (.own (.lst acc)) (dJ cs δ1 δ2)
def gr:DT:=λδ=>.ok true δ
abbrev u7(X:Cx)(c:Fc)(ifs:List Expr)(t:DT):Prop:=oA X ifs (tT c t)
theorem rS{X:Cx}{c:Fc}:u7 X c [] gr:=λpins s σ H Q I ⟨δ,k,q⟩=>Ir pins s σ H Q I (q H (.refl k))
theorem KR{X:Cx}{c:Fc}{e:Expr}{t:DT}(h:ST X c e t):u7 X c [e] t:=Iu h
section
variable {X:Cx} {c:Fc} {cs:List Nat} {tg iter elt:Expr} {ifs:List Expr} {scope:Scope} {pos:Pos} {it:DI} {g:DG} {t:DT} {el:DE}
theorem aE.clear(x:aE c (L2.bu cs σ) δ H σ4 δ4 H4)(le:Le (L2.bu cs σ) σ4)(hp:∀ p ∈ c.pin,p.1 ∉ cs)(hs:∀ (i:Nat) v,σ4[i]? = some (some v)->i ∉ cs->σ[i]? = some (some v)):aE c (L2.bu cs σ) δ H (L2.bu cs σ) (bG cs δ4) H4:=by
 have eq:∀ i,i ∉ cs->∀ v,σ4[i]? = some (some v)->(L2.bu cs σ)[i]? = some (some v):=λi hi v e=>by rw[j0 cs σ i hi]; exact hs i v e hi
 have own:∀ b,Own (L2.bu cs σ) (bG cs δ4) b->Own σ4 δ4 b:=λb ⟨i,d,e1,e2⟩=>by
  exact⟨i,d,(hU cs δ4 i _ e1).1,le.2 i _ e2⟩
 have sub:∀ b,Av c (L2.bu cs σ) (bG cs δ4) b->Av c σ4 δ4 b:=λb z=>z.elim .inl λz=>.inr (own b z)
 have k:=x.ok;refine⟨⟨k.keep,k.bd,k.cQ,by rw[Bq,k.len]; exact le.1,λi d e=>?_,λi d e=>?_,λi j a d d' e1 e2 e3 e4=>?_,λp hm=>?_⟩,x.keep,λa z=>x.own a (own a z),x.there⟩
 ·obtain⟨e',hi⟩:=hU cs δ4 i _ e;obtain⟨v,h1,h2⟩:=k.slot i d e';exact⟨v,eq i hi v h1,h2.aW λb z=>.inl (sub b z)⟩
 ·obtain⟨e',hi⟩:=hU cs δ4 i _ e;obtain⟨a,h1,h2,h3⟩:=k.own i d e';exact⟨a,eq i hi _ h1,h2.aW λb z=>.inl (sub b z),h3⟩
 ·exact k.inj i j a d d' (hU cs δ4 i _ e1).1 (hU cs δ4 j _ e2).1 (le.2 i _ e3) (le.2 j _ e4)
 ·exact eq p.1 (hp p hm) _ (k.pinned p hm)
def Out(cs:List Nat)(σ σ':St):Prop:=σ'.length=σ.length/\∀ i,i ∉ cs->σ'[i]? = σ[i]?
theorem Out.trans(a:Out cs σ σ')(b:Out cs σ' σ''):Out cs σ σ'':=⟨b.1.trans a.1,λi h=>(b.2 i h).trans (a.2 i h)⟩
def u9(cs:List Nat)(c:Fc)(g:DG):TG:=λv σ H Q=>∃ σ₀ δ₀ H₁ δ r δ',aE c σ₀ δ₀ H₁ σ δ H/\aZ c σ δ H₁ H v r/\g r δ=some δ'/\∀ σ',aE c σ₀ δ₀ H₁ σ' δ' H->Out cs σ σ'->Q σ' H
abbrev rT(X:Cx)(c:Fc)(cs:List Nat)(tg:Expr)(g:DG):Prop:=PG X tg (u9 cs c g)
theorem mn{np:List Nat}{i:Nat}{x:Str}(hp:Np c np)(hN:X.N.Nodup)(hi:X.N[i]? = some x)(hx:Loc X.env.scope x)(hf:X.fn x=true\/X.env.scope.names.lookup x=some .local)(hc:i ∈ cs):rT X c cs (.Name x pos) (ak np i) :=
 PG.weak (zf hN hi hx hf) λv σ H Q ⟨σ₀,δ₀,H₁,δ,r,δ',x,rr,e,q⟩=>by
  unfold ak at e;split at e
  ·cases e
  ·rename_i hn
   cases e;refine q _ (Ok.set x rr λp hm e=>hn (by rw[<- e]; exact hp p hm)) ⟨by simp,λj hj=>?_⟩;rw[W5 (λz=>hj (by rw[<- z]; exact hc))]
def KS(cs:List Nat)(c:Fc)(g:g_):kG:=λvs σ H Q=>∃ δ ds δ',Ok c σ δ H/\aA H (Av c σ δ) vs ds/\g ds δ=some δ'/\∀ σ',aE c σ δ H σ' δ' H->Out cs σ σ'->Q σ' H
abbrev rV(X:Cx)(c:Fc)(cs:List Nat)(tg:List Expr)(g:g_):Prop:=gE X tg (KS cs c g)
theorem Br:rV X c cs [] c7:=gE.weak zg λvs σ H Q ⟨δ,ds,δ',k,r,e,q⟩=>by
 cases ds with
 | nil =>
  cases e;have:vs=[]:=by have:=r.1; simpa using this
  exact⟨this,q σ (.refl k) ⟨rfl,λ_ _=>rfl⟩⟩
 | cons d r=>cases e
theorem rW{e:Expr}{es:List Expr}{g:DG}{gs:g_}(h1:rT X c cs e g)(h2:rV X c cs es gs)(hs:(Q6 (e :: es) X.env).map (·.2)=assign e X.env :: (Q6 es X.env).map (·.2):=by rfl):rV X c cs (e :: es) (bH g gs) :=
 gE.weak (zh h1 h2 hs) λvs σ H Q ⟨δ,ds,δ',k,r,e,q⟩=>by
  cases ds with
  | nil=>cases e
  | cons d ds =>
   cases vs with
   | nil=>have:=r.1; simp at this
   | cons v vs =>
    simp only[bH] at e
    cases e1:g (.pure d) δ with
    | none=>rw[e1] at e; cases e
    | some δ1 =>
     rw[e1] at e;refine⟨v,vs,rfl,σ,δ,H,δ,.pure d,δ1,.refl k,r.head,e1,λσ1 a1 o1=>?_⟩;exact⟨δ1,ds,δ',a1.ok,aA.du r.tail a1,e,λσ2 a2 o2=>q σ2 (a1.trans a2) (o1.trans o2)⟩
theorem Bs{es:List Expr}{k:Nat}{gs:g_}{n:Nat}(hc:X.calm=true)(h:rV X c cs es gs)(hn:(Q6 es X.env).length=n:=by rfl)(cO:(Q6 es X.env).findIdx? (·.1)=none:=by rfl) :
  rT X c cs (.Tuple es k pos) (cL n gs):=PG.weak (zi hc h hn cO) λv σ H Q hw=>by
 obtain⟨σ₀,δ₀,H₁,δ,r,δ',x,rr,e,q⟩:=hw;have hb:=rr.b;unfold cL at e;generalize r.d=d at e hb
 cases d <;> first | (cases e; done) | skip
 rename_i ds;simp only at e;split at e
 ·rename_i hl;obtain⟨a,vs,ea,ha,ra⟩:=hb.tup;exact⟨a,vs,ea,.of ha,by rw[ra.1]; exact hl,δ,ds,δ',x.ok,ra,e,λσ' a1 o1=>q σ' (x.trans a1) o1⟩
 ·cases e
theorem aE.less(x:aE (c.plus l) σ δ H σ' δ' H'):aE c σ δ H σ' δ' H':=⟨x.ok.less,x.keep,x.own,x.there⟩
theorem KU(KW:∀ σ H R,tI c it σ H R->wi σ H R)(hg:∀ l v σ H Q,u9 cs (c.plus l) g v σ H Q->gt v σ H Q)(ht:∀ l σ H Q,tT (c.plus l) t σ H Q->tt σ H Q)(he:∀ l σ H Q,tD (c.plus l) el σ H Q->te σ H Q)
  (hp:∀ p ∈ c.pin,p.1 ∉ cs) (h:tD c (gq cs it g t el) σ H Q):An cs wi gt tt te σ H Q:=by
 obtain⟨δ,k,q⟩:=h;unfold gq at q;rw[bh] at q;refine KW _ _ _ ⟨δ,k,aX q λds δ1 q1 J H1 a1 io=>?_⟩;intro l hl;split at q1
 ·exact q1.elim
 ·rename_i eT;have Bt:cs.any (bT δ1)=false:=by simpa using eT
  rw[bh] at q1;have k1:=a1.ok;have kp:=k1.plus hl (.lst []);have k0:Ok (c.plus l) (L2.bu cs σ) (bG cs δ1) (upd H1 l (.lst [])):=kp.bu hp;have up:∀ a w,H1 a=some w->upd H1 l (.lst []) a=some w:=λa w e=>by
   rw[aV (fD e hl)]; exact e
  have h0:c.H₀ l=none:=k1.jO hl;-- the walked things,as the block sees them
  have u_:mi (c.plus l) (L2.bu cs σ) (bG cs δ1) H1 J ds:=by
   intro H2 va;obtain⟨s1,s2⟩:=io H2 λa o e n=>va a o e λz=>n z.bu
   have cv:∀ {x:V} {d:D},Rep H1 (Av c σ δ1) x d->Rep H1 (Av (c.plus l) (L2.bu cs σ) (bG cs δ1)) x d:=λ{x d} r =>
    r.aW λb z=>by
     rcases z with (z | z) | z
     ·exact .inl (.inl z)
     ·exact .inr (by rw[z]; exact hl)
     ·exact .inl (.inr z.bu)
   refine⟨s1,λi d e=>⟨(s2 i d e).1,λx H3 y=>?_⟩⟩;rcases (s2 i d e).2 x H3 y with ⟨e3,r⟩ | ⟨p,vs,es,hp,e3,ex,ed,r⟩
   ·exact .inl ⟨e3,cv r⟩
   ·exact .inr ⟨p,vs,es,hp,e3,ex,ed,r.1,λi v d e1 e2=>cv (r.2 i v d e1 e2)⟩
  let Fin:List D->Dl->Prop:=λacc δ'=>∀ H' vs,aE (c.plus l) (L2.bu cs σ) (bG cs δ1) H1 (L2.bu cs σ) δ' H'->H' l=some (.lst vs)->aA H' (Av (c.plus l) (L2.bu cs σ) δ') vs acc->Q (.ref l) H'
  have q2:post c (dg cs g t el ds (bG cs δ1) []) Fin:=aX q1 λacc δ2 q2 H' vs x hv r=>by
   have b1:aE (c.plus l) σ δ1 H1 σ (dJ cs δ1 δ2) H':=aE.back k1 rfl (λb z=>z.elim .inl λz=>.inr (by rw[z]; exact hl)) Bt x;have b2:aE c σ δ1 H1 σ (dJ cs δ1 δ2) H':=b1.less;have len:δ1.length=δ2.length:=by
    have:=x.ok.len;rw[qX] at this;rw[this]; exact k1.len
   have KY:H l=none:=by
    cases e:H l with
    | none=>rfl
    | some o =>
     obtain⟨o',e'⟩:=a1.there l o e;rw[hl] at e'; cases e'
   refine q2 _ H' (a1.trans b2) ⟨l,rfl,⟨vs,hv,aA.aW r λb z=>.inl ?_⟩,λz=>k1.g7 hl (.inl z),h0,b1.ok,KY⟩;rcases z with z | ⟨i,d,e1,e2⟩
   ·exact .inl z
   ·have hi:i ∉ cs:=λhi=>by
     rw[u6 cs δ1 δ2 i len hi] at e1;have:=List.any_eq_false.mp Bt i hi;unfold bT at this;rw[e1] at this;simp at this
    rw[rR cs δ1 δ2 i hi] at e1;exact .inr ⟨i,d,e1,by rw[j0 cs σ i hi]; exact e2⟩
  refine⟨λi m H2=>∃ δ2 acc vs,m=ds.length - i/\i<=ds.length/\aE (c.plus l) (L2.bu cs σ) (bG cs δ1) H1 (L2.bu cs σ) δ2 H2/\H2 l=some (.lst vs)/\aA H2 (Av (c.plus l) (L2.bu cs σ) δ2) vs acc /\
   post c (dg cs g t el (ds.drop i) δ2 acc) Fin,⟨ds.length,bG cs δ1,[],[],by simp,Ql _,⟨k0,λa w e _=>up a w e,λa z=>.inl z,λa w e=>⟨w,up a w e⟩⟩,cq,.nil,by rw[List.drop_zero]; exact q2⟩,?_⟩
  rintro i m H2 ⟨δ2,acc,vs,rfl,k8,a2,hv,rv,p2⟩;by_cases aY:i < ds.length
  ·right
   have e:ds[i]? = some ds[i]:=by simp[aY]
   rw[QO aY] at p2;refine⟨((u_ H2 a2.keep).2 i _ e).1,λx H3 y=>hg l _ _ _ _ ?_⟩;obtain⟨a3,r3⟩:=Bp u_ a2 e y;simp only[dg] at p2
   cases eg:g (.pure ds[i]) δ2 with
   | none=>rw[eg] at p2; exact p2.elim
   | some δ3 =>
    rw[eg] at p2;have p3:post c ((t δ3).bind λb δ2=>if b then(el δ2).bind λx δ3=>if acc.length < Wb then dg cs g t el (ds.drop (i + 1)) (bG cs δ3) (acc ++ [x.d]) else .stuck
     else dg cs g t el (ds.drop (i + 1)) (bG cs δ2) acc) Fin:=p2
    refine⟨L2.bu cs σ,δ2,H3,δ2,.pure ds[i],δ3,.refl a3.ok,r3,eg,λσ4 a4 o4=>?_⟩;have le:Le (L2.bu cs σ) σ4:=⟨o4.1,λj v ej=>by
     rw[o4.2 j (kQ cs σ j v ej).2]; exact ej⟩
    have hs:∀ (j:Nat) v,σ4[j]? = some (some v)->j ∉ cs->σ[j]? = some (some v):=λj v ej hj=>by
     rw[o4.2 j hj] at ej;exact(kQ cs σ j v ej).1
    refine⟨le,ht l _ _ _ ⟨δ3,a4.ok,?_⟩⟩;rw[bh] at p3;have Bu:∀ p ∈ (c.plus l).pin,p.1 ∉ cs:=hp;have k9:=a2.trans (a3.trans a4);have ln:∀ {σ':St} {δ':Dl} {H':Hp},Ok (c.plus l) σ' δ' H'->¬ Own σ' δ' l:=λ{σ' δ' H'} k=>rf k
    have KZ:post (c.plus l) (t δ3) λb δ5=>post c (if b then(el δ5).bind λx δ3=>if acc.length < Wb then dg cs g t el (ds.drop (i + 1)) (bG cs δ3) (acc ++ [x.d]) else .stuck
     else dg cs g t el (ds.drop (i + 1)) (bG cs δ5) acc) Fin:=p3
    refine aX KZ λb δ5 p5 H5 a5=>?_
    have Bv:=k9.trans a5;have K0:H3 l=some (.lst vs):=a3.keep l _ hv (ln a2.ok);have Bw:H5 l=some (.lst vs):=a5.keep l _ K0 (ln a4.ok);have Bx:=aA.du (aA.du (aA.du rv a3) a4) a5
    cases b with
    | false =>
     have c5:=Bv.clear le Bu hs;refine⟨ds.length - (i + 1),by omega,bG cs δ5,acc,vs,rfl,aY,c5,Bw,aA.aW Bx λb z=>.inl ?_,p5⟩;exact z.elim .inl λ⟨j,d,e1,e2⟩=>.inr ⟨j,d,(hU cs δ5 j _ e1).1,le.2 j _ e2⟩
    | true =>
     have By:post c ((el δ5).bind λx δ3=>if acc.length < Wb then dg cs g t el (ds.drop (i + 1)) (bG cs δ3) (acc ++ [x.d]) else .stuck) Fin:=p5;rw[bh] at By;refine he l _ _ _ ⟨δ5,a5.ok,?_⟩;have p6:post (c.plus l) (el δ5) λx δ6=>post c (if acc.length < Wb then dg cs g t el (ds.drop (i + 1)) (bG cs δ6) (acc ++ [x.d]) else .stuck) Fin:=By
     refine aX p6 λx δ6 p7 v H6 a6 r6=>?_
     split at p7
     ·rename_i hz;have K1:=Bv.trans a6;have K2:H6 l=some (.lst vs):=a6.keep l _ Bw (ln a5.ok);have Bz:=aA.du Bx a6;have rr:aA H6 (Av (c.plus l) σ4 δ6) (vs ++ [v]) (acc ++ [x.d]):=Bz.append (.cons r6.rep .nil);have c6:=K1.clear le Bu hs;have rX:∀ b o,H6 b=some o->¬ Av (c.plus l) σ4 δ6 b->upd H6 l (.lst (vs ++ [v])) b=some o:=λb o e n=>by
       rw[aV (λz=>n (by rw[z]; exact .inl (.inr rfl)))]; exact e
      have K3:∀ b,Av (c.plus l) (L2.bu cs σ) (bG cs δ6) b->Av (c.plus l) σ4 δ6 b:=λb z=>z.elim .inl λ⟨j,d,e1,e2⟩=>.inr ⟨j,d,(hU cs δ6 j _ e1).1,le.2 j _ e2⟩
      refine⟨vs,ds.length - (i + 1),K2,by rw[Bz.1]; exact hz,by omega,bG cs δ6,acc ++ [x.d],vs ++ [v],rfl,aY,?_,cq,aA.aW (aA.keep rr rX) λb z=>.inl (K3 b z),p7⟩;-- the list that is built has grown
      refine⟨c6.ok.KP (.inr rfl) h0 _,λa o ea n=>?_,λa z=>c6.own a z,λa o ea=>?_⟩
      ·have rY:a≠l:=λz=>by rw[z,hl] at ea; cases ea
       rw[aV rY]; exact c6.keep a o ea n
      ·by_cases rY:a=l
       ·exact⟨_,by rw[rY]; exact cq⟩
       ·obtain⟨o',e'⟩:=c6.there a o ea;exact⟨o',by rw[aV rY]; exact e'⟩
     ·exact p7.elim
  ·left
   have u5:i=ds.length:=by omega
   subst u5;rw[List.drop_length] at p2;exact⟨(u_ H2 a2.keep).1,p2 H2 vs a2 hv rv⟩
theorem oS(hc:X.calm=true)(S:oz X scope cs)(hi:SI X c tg iter it)(hg:∀ l s₀ H₀ ex,rT (gG X scope s₀ H₀ ex) (c.plus l) cs tg g)(ht:∀ l s₀ H₀ ex,u7 (gG X scope s₀ H₀ ex) (c.plus l) ifs t)
  (he:∀ l s₀ H₀ ex,SE (gG X scope s₀ H₀ ex) (c.plus l) elt el) (hp:∀ p ∈ c.pin,p.1 ∉ cs) (hs:∀ x,JF iter X.env x=pure x:=by intro _; rfl) :
  SE X c (.ListComp elt [⟨tg,iter,ifs,0⟩] scope pos) (gq cs it g t el) :=
 PE.weak (IE (g:=λv σ H Q=>∃ l,u9 cs (c.plus l) g v σ H Q) (tt:=λσ H Q=>∃ l,tT (c.plus l) t σ H Q) (te:=λσ H Q=>∃ l,tD (c.plus l) el σ H Q) hc S hi
  (λs₀ H₀ ex pins s σ H v u Q I r ⟨l,q⟩=>hg l s₀ H₀ ex pins s σ H v u Q I r q) (λs₀ H₀ ex pins s σ H Q I ⟨l,q⟩=>ht l s₀ H₀ ex pins s σ H Q I q) (λs₀ H₀ ex pins s σ H Q I ⟨l,q⟩=>he l s₀ H₀ ex pins s σ H Q I q) hs)
  λσ H Q h=>KU (λ_ _ _ h=>h) (λl _ _ _ _ h=>⟨l,h⟩) (λl _ _ _ h=>⟨l,h⟩) (λl _ _ _ h=>⟨l,h⟩) hp h
end
abbrev DF:=List S->Option (S×List S)
def bJ:Nat->List S->List V->List (Nat×Addr)
 | n,.own _ :: ss,.ref a :: vs=>(n,a) :: bJ (n + 1) ss vs
 | n,_ :: ss,_ :: vs=>bJ (n + 1) ss vs
 | _,_,_=>[]
theorem k_:∀ {n:Nat} {ss:List S} {vs:List V} {i:Nat} {a:Addr},(i,a) ∈ bJ n ss vs->∃ j d,i=n + j/\ss[j]? = some (.own d)/\vs[j]? = some (.ref a)
 | n,[],vs,i,a,h=>by simp[bJ] at h
 | n,s :: ss,[],i,a,h=>by cases s <;> simp[bJ] at h
 | n,s :: ss,v :: vs,i,a,h=>by
  have vb:(i,a) ∈ bJ (n + 1) ss vs->∃ j d,i=n + j/\(s :: ss)[j]? = some (.own d)/\(v :: vs)[j]? = some (.ref a):=λh=>by
   obtain⟨j,d,e,h1,h2⟩:=k_ h;exact⟨j + 1,d,by omega,by simpa using h1,by simpa using h2⟩
  cases s with
  | pure d=>exact vb h
  | own d =>
   cases v with
   | ref b =>
    rcases Wo.mp h with e | h
    ·cases e;exact⟨0,d,rfl,rfl,rfl⟩
    ·exact vb h
   | _=>exact vb h
theorem rZ:∀ {n:Nat} {ss:List S} {vs:List V} {j:Nat} {d:D} {a:Addr},ss[j]? = some (.own d)->vs[j]? = some (.ref a)->(n + j,a) ∈ bJ n ss vs
 | n,[],vs,j,d,a,h,_=>by simp at h
 | n,s :: ss,[],j,d,a,_,h=>by simp at h
 | n,s :: ss,v :: vs,0,d,a,h1,h2=>by
  simp at h1 h2;subst h1 h2;exact Wj
 | n,s :: ss,v :: vs,j + 1,d,a,h1,h2=>by
  have ih:=rZ (n:=n + 1) (ss:=ss) (vs:=vs) (j:=j) (d:=d) (a:=a) (by simpa using h1) (by simpa using h2);have e:n + 1 + j=n + (j + 1):=by omega
  rw[e] at ih
  cases s with
  | pure d=>exact ih
  | own d =>
   cases v with
   | ref b=>exact Wd _ ih
   | _=>exact ih
abbrev bK(vs:List V):St:=vs.map some
abbrev bQ(ss:List S):Dl:=ss.map some
theorem eQ{ss:List S}{i:Nat}{r:S}:(bQ ss)[i]? = some (some r) ↔ ss[i]? = some r:=by
 rw[Wy]
 cases ss[i]? <;> simp
theorem eW{vs:List V}{i:Nat}{v:V}:(bK vs)[i]? = some (some v) ↔ vs[i]? = some v:=by
 rw[Wy]
 cases vs[i]? <;> simp
def j3(n:Nat)(G:DF):Sp:=λvs H Q _=>∃ ss B,vs.length=n/\Ok ⟨H,B,bJ 0 ss vs,λ_ _=>False⟩ (bK vs) (bQ ss) H/\∃ r aB,G ss=some (r,aB) /\
 ∀ v H',aE ⟨H,B,bJ 0 ss vs,λ_ _=>False⟩ (bK vs) (bQ ss) H (bK vs) (bQ aB) H'->aZ ⟨H,B,bJ 0 ss vs,λ_ _=>False⟩ (bK vs) (bQ aB) H H' v r->Q v H'
def b8(P:Wg)(w:Wh)(K:W2)(mg:Str->Option Value)(base:Heap)(k:Nat)(x:Str)(n:Nat)(G:DF):Prop :=
 ∃ (f:Addr) (fd:WD) (ps:List Str),mg x=some (.ref f)/\Qa K (.ref f)=true/\Binds K fd ps []/\eC P w K mg base dm k f fd ps (j3 n G)
def bc(n:Nat)(ss:List S):Dl:=bQ ss ++ Wc (n - ss.length) none
def bA:Nat->List S->Dl->Option (List S)
 | _,[],_=>some []
 | n,.pure d :: ss,δ=>(bA (n + 1) ss δ).map (.pure d :: ·)
 | n,.own _ :: ss,δ=>match δ[n]? with
  | some (some (.own d'))=>(bA (n + 1) ss δ).map (.own d' :: ·)
  | _=>none
def cf:Fl->Option S
 | .next=>some (.pure .aw)
 | .ret r=>some r
 | _=>none
def fL(f:DS)(n:Nat)(ss:List S):Option (S×List S):=match f (bc n ss) with
 | .ok fl δ=>(cf fl).bind λr=>(bA 0 ss δ).map λaB=>(r,aB)
 | _=>none
def bR(np:List Nat):Nat->List S->Bool
 | _,[]=>true
 | n,.own _ :: ss=>np.contains n && bR np (n + 1) ss
 | n,.pure _ :: ss=>bR np (n + 1) ss
theorem r8:∀ {n:Nat} {ss:List S} {j:Nat} {d:D},bR np n ss=true->ss[j]? = some (.own d)->np.contains (n + j)=true
 | n,[],j,d,_,h=>by simp at h
 | n,s :: ss,0,d,h,e=>by
  simp at e;subst e;simp only[bR,Wm] at h;exact h.1
 | n,s :: ss,j + 1,d,h,e=>by
  have h':bR np (n + 1) ss=true:=by
   cases s with
   | pure d=>exact h
   | own d=>simp only[bR,Wm] at h; exact h.2
  have:=r8 (n:=n + 1) (j:=j) h' (by simpa using e);rw[show n + (j + 1)=n + 1 + j by omega];exact this
theorem oU:∀ {n:Nat} {ss aB:List S} {δ:Dl},bA n ss δ=some aB->aB.length=ss.length/\∀ (i:Nat) s,ss[i]? = some s->(∃ d,s = .pure d/\aB[i]? = some (.pure d))\/∃ d d',s = .own d/\δ[n + i]? = some (some (.own d'))/\aB[i]? = some (.own d')
 | n,[],aB,δ,h=>by
  simp only[bA,Wa] at h;subst h;exact⟨rfl,λi s e=>by simp at e⟩
 | n,.pure d :: ss,aB,δ,h=>by
  simp only[bA] at h
  cases e:bA (n + 1) ss δ with
  | none=>rw[e] at h; cases h
  | some os =>
   rw[e] at h;simp only[WJ,Wa] at h;subst h;obtain⟨h1,h2⟩:=oU e;refine⟨by simp[h1],λi s es=>?_⟩
   cases i with
   | zero=>simp at es; subst es; exact .inl ⟨d,rfl,rfl⟩
   | succ i =>
    rcases h2 i s (by simpa using es) with ⟨d,z1,z2⟩ | ⟨d,d',z1,z2,z3⟩
    ·exact .inl ⟨d,z1,by simpa using z2⟩
    ·exact .inr ⟨d,d',z1,by rw[show n + (i + 1)=n + 1 + i by omega]; exact z2,by simpa using z3⟩
 | n,.own d :: ss,aB,δ,h=>by
  simp only[bA] at h;split at h
  ·rename_i d' ed
   cases e:bA (n + 1) ss δ with
   | none=>rw[e] at h; cases h
   | some os =>
    rw[e] at h;simp only[WJ,Wa] at h;subst h;obtain⟨h1,h2⟩:=oU e;refine⟨by simp[h1],λi s es=>?_⟩
    cases i with
    | zero=>simp at es; subst es; exact .inr ⟨d,d',rfl,ed,rfl⟩
    | succ i =>
     rcases h2 i s (by simpa using es) with ⟨d,z1,z2⟩ | ⟨d,d',z1,z2,z3⟩
     ·exact .inl ⟨d,z1,by simpa using z2⟩
     ·exact .inr ⟨d,d',z1,by rw[show n + (i + 1)=n + 1 + i by omega]; exact z2,by simpa using z3⟩
  ·cases h
section
variable {c:Fc} {H H':Hp} {vs:List V} {ss aB:List S} {σ':St} {δ':Dl}
theorem la{α:Type}{l:List (Option α)}{k i:Nat}{v:α}(h:(l ++ Wc k none)[i]? = some (some v)):l[i]? = some (some v):=by
 by_cases hi:i < l.length
 ·rw[List.getElem?_append_left hi] at h; exact h
 ·rw[List.getElem?_append_right (by omega),List.getElem?_replicate] at h;split at h <;> cases h
theorem j4{α:Type}{l:List (Option α)}{k i:Nat}{v:α}(h:l[i]? = some (some v)):(l ++ Wc k none)[i]? = some (some v):=by
 have hi:i < l.length:=(We.mp h).1;rw[List.getElem?_append_left hi]; exact h
theorem Own.ext{σ:St}{δ:Dl}{k:Nat}{a:Addr}:Own (σ ++ Wc k none) (δ ++ Wc k none) a ↔ Own σ δ a :=
 ⟨λ⟨i,d,e1,e2⟩=>⟨i,d,la e1,la e2⟩,λ⟨i,d,e1,e2⟩=>⟨i,d,j4 e1,j4 e2⟩⟩
theorem Ok.ext{σ:St}{δ:Dl}(k:Ok c σ δ H)(n:Nat):Ok c (σ ++ Wc n none) (δ ++ Wc n none) H:=by
 have sub:∀ b,Av c (σ ++ Wc n none) (δ ++ Wc n none) b->Av c σ δ b:=λb z=>z.elim .inl λz=>.inr (Own.ext.mp z)
 refine⟨k.keep,k.bd,k.cQ,by simp[k.len],λi d e=>?_,λi d e=>?_,λi j a d d' e1 e2 e3 e4=>k.inj i j a d d' (la e1) (la e2) (la e3) (la e4),λp hm=>j4 (k.pinned p hm)⟩
 ·obtain⟨v,h1,h2⟩:=k.slot i d (la e);exact⟨v,j4 h1,h2.aW λb z=>.inl (sub b z)⟩
 ·obtain⟨a,h1,h2,h3⟩:=k.own i d (la e);exact⟨a,j4 h1,h2.aW λb z=>.inl (sub b z),h3⟩
theorem lb{B:Addr->Prop}{n:Nat}(hc:c = ⟨H,B,bJ 0 ss vs,λ_ _=>False⟩)(k:Ok c (bK vs) (bQ ss) H)(x:aE c (bK vs ++ Wc n none) (bQ ss ++ Wc n none) H σ' δ' H')(ho:bA 0 ss δ'=some aB) :
  aE c (bK vs) (bQ ss) H (bK vs) (bQ aB) H'/\∀ v r,aZ c σ' δ' H H' v r->aZ c (bK vs) (bQ aB) H H' v r:=by
 obtain⟨hlen,hat⟩:=oU ho;have j5:ss.length=vs.length:=by have:=k.len; simpa using this
 have pin:∀ (i:Nat) (a:Addr) (d:D),ss[i]? = some (.own d)->vs[i]? = some (.ref a)->σ'[i]? = some (some (.ref a)):=λi a d h1 h2=>by
  have:=rZ (n:=0) h1 h2;rw[Jw] at this;exact x.ok.pinned (i,a) (by rw[hc]; exact this)
 have r9:∀ (i:Nat) (d:D),aB[i]? = some (.own d)->(∃ d₀,ss[i]? = some (.own d₀))/\δ'[i]? = some (some (.own d)):=λi d e=>by
  have hi:i < ss.length:=by rw[<- hlen]; exact(We.mp e).1
  rcases hat i ss[i] (by simp[hi]) with ⟨d₁,z1,z2⟩ | ⟨d₁,d',z1,z2,z3⟩
  ·rw[e] at z2; cases z2
  ·rw[e] at z3; cases z3
   rw[Jw] at z2;exact⟨⟨d₁,by rw[W8 hi,z1]⟩,z2⟩
 have sub:∀ b,Own (bK vs) (bQ aB) b->Own σ' δ' b:=λb ⟨i,d,e1,e2⟩=>by
  obtain⟨⟨d₀,h0⟩,h1⟩:=r9 i d (eQ.mp e1);exact⟨i,d,h1,pin i b d₀ h0 (eW.mp e2)⟩
 have ml:∀ b,Av c (bK vs) (bQ aB) b->Av c σ' δ' b:=λb z=>z.elim .inl λz=>.inr (sub b z)
 have BA:∀ {c':Fc},c'.pin=c.pin->Ok c' σ' δ' H'->(∀ b,c.B b->c'.B b)->(∀ (i:Nat) d v,ss[i]? = some (.pure d)->vs[i]? = some v->Rep H' (Av c' σ' δ') v d)->Ok c' (bK vs) (bQ aB) H':=λ{c'} ep k' hB hsl=>by
  have BC:∀ b,Av c' (bK vs) (bQ aB) b->Av c' σ' δ' b:=λb z=>z.elim .inl λz=>.inr (sub b z)
  refine⟨k'.keep,k'.bd,k'.cQ,by simp[hlen,j5],λi d e=>?_,λi d e=>?_,λi j a d d' e1 e2 e3 e4=>?_,λp hm=>?_⟩
  ·have e':=eQ.mp e;have hi:i < ss.length:=by rw[<- hlen]; exact(We.mp e').1
   have hv:i < vs.length:=by omega
   rcases hat i ss[i] (by simp[hi]) with ⟨d₁,z1,z2⟩ | ⟨d₁,d',z1,z2,z3⟩
   ·rw[e'] at z2; cases z2
    exact⟨vs[i],by simp[hv],(hsl i d vs[i] (by rw[W8 hi,z1]) (by simp[hv])).aW λb z=>.inl (BC b z)⟩
   ·rw[e'] at z3; cases z3
  ·have e':=eQ.mp e;obtain⟨⟨d₀,h0⟩,h1⟩:=r9 i d e';obtain⟨a₀,h2,_⟩:=k.own i d₀ (eQ.mpr h0);obtain⟨a,h3,h4,h5⟩:=k'.own i d h1;rw[pin i a₀ d₀ h0 (eW.mp h2)] at h3
   cases h3;exact⟨a₀,h2,h4.aW λb z=>.inl (BC b z),h5⟩
  ·obtain⟨⟨d₀,h0⟩,h1⟩:=r9 i d (eQ.mp e1);obtain⟨⟨d₁,h2⟩,h3⟩:=r9 j d' (eQ.mp e2);exact k'.inj i j a d d' h1 h3 (pin i a d₀ h0 (eW.mp e3)) (pin j a d₁ h2 (eW.mp e4))
  ·exact k.pinned p (by rw[<- ep]; exact hm)
 have slots:∀ (i:Nat) d v,ss[i]? = some (.pure d)->vs[i]? = some v->Rep H' (Av c σ' δ') v d:=λi d v h1 h2=>by
  obtain⟨w,e1,r⟩:=(k.ext n).slot i d (j4 (eQ.mpr h1));rw[j4 (eW.mpr h2)] at e1
  cases e1;exact Rep.du r x
 refine⟨⟨BA rfl x.ok (λ_ z=>z) slots,λa o e m=>x.keep a o e λz=>m (Own.ext.mp z),λa z=>(x.own a (sub a z)).elim (λz=>.inl (Own.ext.mp z)) .inr,x.there⟩,λv r hr=>?_⟩
 cases r with
 | pure d=>exact Rep.aW hr λb z=>.inl (ml b z)
 | own d =>
  obtain⟨a,ea,o,nb,h0,kp,hs⟩:=hr;refine⟨a,ea,o.aW λb z=>.inl (z.elim .inl λz=>.inr (sub b z)),nb,h0,BA rfl kp (λ_ z=>.inl z) λi d v h1 h2=>?_,hs⟩;obtain⟨w,e1,r⟩:=(k.ext n).slot i d (j4 (eQ.mpr h1));rw[j4 (eW.mpr h2)] at e1
  cases e1;have nE:H a=none:=hs;have r1:Rep H (Av c (bK vs ++ Wc n none) (bQ ss ++ Wc n none)) v d:=r;have r2:Rep H (λb=>Av c (bK vs ++ Wc n none) (bQ ss ++ Wc n none) b\/Av (c.plus a) σ' δ' b) v d:=r1.aW λb z=>by
   rcases z with z | (z | z) | z
   ·exact .inl z
   ·exact .inl (.inl z)
   ·exact .inr (by rw[z]; exact nE)
   ·rcases x.own b z with q | q
    ·exact .inl (.inr q)
    ·exact .inr q
  exact(r2.keep λb o e m=>x.keep b o e λz=>m (.inl (.inr z))).aW λb z=>.inl (.inr z)
end
section
variable {P:Wg} {w:Wh} {K:W2} {mg:Str->Option Value} {base:Heap}
theorem BF{x qual:Str}{st:Stmt}{f:Addr}{fd:WD}{N ps:List Str}{k:Nat}{np:List Nat}{fb:DS}{G:DF}(F:bV K x qual st f fd)(S:cu N ps (bf st))
  (eE:∀ (c:Fc) (aO:Value) (A:Wl) (outer:List Env) (s:W1) (H:Hp) (E:XK),bX k (A.deeper (QU qual (bf st) s.heap.objs.size f aO))->Np c np->gp (fj dm P w K mg base N qual (bf st) f aO A outer s H E).i5 c (fm st) fb)
  (hG:∀ ss y,G ss=some y->bR np 0 ss=true/\fL fb N.length ss=some y):eC P w K mg base dm (k + 1) f fd ps (j3 ps.length G):=by
 refine F.ok S (λvs H Q E h=>?_) λaO A outer s H vs Q E hr h=>?_
 ·obtain⟨ss,B,hl,_⟩:=h;exact hl
 ·obtain⟨ss,B,hl,ok,r,aB,hg,q⟩:=h;obtain⟨fX,hrun⟩:=hG ss _ hg;have j5:ss.length=vs.length:=by have:=ok.len; simpa using this
  have oV:Np ⟨H,B,bJ 0 ss vs,λ_ _=>False⟩ np:=λp hp=>by
   obtain⟨j,d,e,h1,_⟩:=k_ (i:=p.1) (a:=p.2) hp;rw[e];exact r8 fX h1
  refine⟨k7 ⟨H,B,bJ 0 ss vs,λ_ _=>False⟩ fb,eE ⟨H,B,bJ 0 ss vs,λ_ _=>False⟩ aO A outer s H E hr oV,?_⟩;have cO:start N vs=bK vs ++ Wc (N.length - ss.length) none:=by rw[j5]; rfl
  refine⟨bc N.length ss,by rw[cO]; exact ok.ext _,?_⟩;unfold fL at hrun;unfold dW
  cases e:fb (bc N.length ss) with
  | exc x δx=>rw[e] at hrun; cases hrun
  | stuck=>rw[e] at hrun; cases hrun
  | ok fl δ' =>
   rw[e] at hrun;show ∀ σ' H',aE _ (start N vs) (bc N.length ss) H σ' δ' H'->fin _ _ σ' δ' H' fl;intro σ' H' a;rw[cO] at a;simp only at hrun
   cases fl with
   | brk=>cases hrun
   | cont=>cases hrun
   | next =>
    simp only[cf,WA] at hrun
    cases eo:bA 0 ss δ' with
    | none=>rw[eo] at hrun; cases hrun
    | some os =>
     rw[eo] at hrun
     cases hrun;obtain⟨l1,l2⟩:=lb rfl ok a eo;exact q .aw H' l1 .aw
   | ret r' =>
    simp only[cf,WA] at hrun
    cases eo:bA 0 ss δ' with
    | none=>rw[eo] at hrun; cases hrun
    | some os =>
     rw[eo] at hrun
     cases hrun;obtain⟨l1,l2⟩:=lb rfl ok a eo;exactλv rv=>q v H' l1 (l2 v _ rv)
theorem fY{x qual:Str}{st:Stmt}{f:Addr}{fd:WD}{N ps:List Str}{k:Nat}{np:List Nat}{fb:DS}{G:DF}(F:bV K x qual st f fd)(hm:mg x=some (.ref f))(hb:Binds K fd ps [])(S:cu N ps (bf st))
  (eE:∀ (c:Fc) (aO:Value) (A:Wl) (outer:List Env) (s:W1) (H:Hp) (E:XK),bX k (A.deeper (QU qual (bf st) s.heap.objs.size f aO))->Np c np->gp (fj dm P w K mg base N qual (bf st) f aO A outer s H E).i5 c (fm st) fb)
  (hG:∀ ss y,G ss=some y->bR np 0 ss=true/\fL fb N.length ss=some y):b8 P w K mg base (k + 1) x ps.length G:=⟨f,fd,ps,hm,F.kp,hb,BF F S eE hG⟩
end
inductive Ak where
 | val (f:DE)
 | io (i:Nat)
def bx:List Ak->Dl->Rs (List (Option D))
 | [],δ=>.ok [] δ
 | .val f :: r,δ=>(f δ).bind λx δ1=>(bx r δ1).bind λxs δ2=>.ok (some x.d :: xs) δ2
 | .io _ :: r,δ=>(bx r δ).bind λxs δ2=>.ok (none :: xs) δ2
inductive j6 (c:Fc) (σ:St) (δ:Dl) (H:Hp):List V->List Ak->List (Option D)->Prop
 | nil:j6 c σ δ H [] [] []
 | val {v:V} {d:D} {f:DE} {vs:List V} {as:List Ak} {ds:List (Option D)}:Rep H (Av c σ δ) v d->j6 c σ δ H vs as ds->j6 c σ δ H (v :: vs) (.val f :: as) (some d :: ds)
 | io {v:V} {i:Nat} {vs:List V} {as:List Ak} {ds:List (Option D)}:σ[i]? = some (some v)->j6 c σ δ H vs as ds->j6 c σ δ H (v :: vs) (.io i :: as) (none :: ds)
def tX(c:Fc)(as:List Ak):TA:=λσ H Q=>∃ δ,Ok c σ δ H/\(∀ i,Ak.io i ∈ as->∃ v,σ[i]? = some (some v))/\post c (bx as δ) λds δ'=>∀ vs H',aE c σ δ H σ δ' H'->j6 c σ δ' H' vs as ds->Q vs H'
abbrev SX(X:Cx)(c:Fc)(es:List Expr)(as:List Ak):Prop:=PA X es (tX c as)
section
variable {X:Cx} {c:Fc} {e:Expr} {es:List Expr} {fe:DE} {as:List Ak} {pos pp:Pos}
theorem bN:SX X c [] []:=PA.weak fP λσ H Q ⟨δ,k,_,q⟩=>q [] H (.refl k) .nil
theorem K4(ha:SE X c e fe)(hr:SX X c es as)(hs:W7 (e :: es) X.env=(false,eval e X.env) :: W7 es X.env:=by rfl):SX X c (e :: es) (.val fe :: as):=PA.weak (dR ha hr hs) λσ H Q ⟨δ,k,fX,q⟩=>by
 unfold bx at q;rw[bh] at q;refine⟨δ,k,aX q λx δ1 q1 v H1 a1 r1=>⟨δ1,a1.ok,λi hi=>fX i (Wd _ hi),?_⟩⟩;rw[bh] at q1;exact aX q1 λxs δ2 q2 vs H2 a2 r2=>q2 (v :: vs) H2 (a1.trans a2) (.val (Rep.du r1.rep a2) r2)
theorem K5(ha:PE X e (da i))(hr:SX X c es as)(hs:W7 (e :: es) X.env=(false,eval e X.env) :: W7 es X.env:=by rfl):SX X c (e :: es) (.io i :: as):=PA.weak (dR ha hr hs) λσ H Q ⟨δ,k,fX,q⟩=>by
 obtain⟨v,ev⟩:=fX i Wj;unfold bx at q;rw[bh] at q;exact⟨v,ev,δ,k,λi hi=>fX i (Wd _ hi),aX q λxs δ2 q2 vs H2 a2 r2=>q2 (v :: vs) H2 a2 (.io ev r2)⟩
end
def bj:List Ak->List (Option D)->Dl->Option (List S)
 | [],[],_=>some []
 | .val _ :: as,some d :: ds,δ=>(bj as ds δ).map (.pure d :: ·)
 | .io i :: as,none :: ds,δ=>match δ[i]? with
  | some (some (.own d))=>(bj as ds δ).map (.own d :: ·)
  | _=>none
 | _,_,_=>none
def a_:List Ak->List Nat
 | []=>[]
 | .val _ :: as=>a_ as
 | .io i :: as=>i :: a_ as
def aP:List Ak->List S->Dl->Dl
 | .io i :: as,r :: rs,δ=>aP as rs (δ.set i (some r))
 | .val _ :: as,_ :: rs,δ=>aP as rs δ
 | _,_,δ=>δ
def bC:List Nat->Bool
 | []=>true
 | i :: r=>!r.contains i && bC r
def ax(G:DF)(as:List Ak):DE:=λδ=>if (a_ as).all (bT δ) && bC (a_ as) then(bx as δ).bind λds δ1=>match bj as ds δ1 with
  | none=>.stuck
  | some ss=>match G ss with
   | none=>.stuck
   | some (r,aB)=>.ok r (aP as aB δ1)
 else .stuck
theorem vc:∀ {l:List Nat},bC l=true->l.Nodup
 | [],_=>.nil
 | i :: r,h=>by
  simp only[bC,Wm,JJ] at h;exact List.nodup_cons.mpr ⟨λhm=>by have:=h.1; simp at this; exact this hm,vc h.2⟩
theorem lh:∀ {as:List Ak} {i:Nat},i ∈ a_ as ↔ Ak.io i ∈ as
 | [],i=>by simp[a_]
 | .val f :: as,i=>by simp[a_,lh (as:=as)]
 | .io j :: as,i=>by simp[a_,lh (as:=as)]
theorem vd:∀ {as:List Ak} {i j k:Nat},(a_ as).Nodup->as[j]? = some (.io i)->as[k]? = some (.io i)->j=k
 | [],i,j,k,_,h,_=>by simp at h
 | .val f :: as,i,j,k,nd,h1,h2=>by
  cases j with
  | zero=>simp at h1
  | succ j =>
   cases k with
   | zero=>simp at h2
   | succ k=>exact congrArg (· + 1) (vd (as:=as) nd (by simpa using h1) (by simpa using h2))
 | .io n :: as,i,j,k,nd,h1,h2=>by
  have nF:=Q4.mp nd
  cases j with
  | zero =>
   simp at h1;subst h1
   cases k with
   | zero=>rfl
   | succ k=>exact absurd (lh.mpr (Wx (by simpa using h2))) nF.1
  | succ j =>
   cases k with
   | zero =>
    simp at h2;subst h2;exact absurd (lh.mpr (Wx (by simpa using h1))) nF.1
   | succ k=>exact congrArg (· + 1) (vd (as:=as) nF.2 (by simpa using h1) (by simpa using h2))
section
variable {c:Fc} {σ:St} {δ:Dl} {H:Hp} {vs:List V} {as:List Ak} {ds:List (Option D)} {ss:List S}
theorem r_(h:j6 c σ δ H vs as ds):∀ {ss:List S},bj as ds δ=some ss->ss.length=vs.length/\as.length=vs.length/\∀ (j:Nat) s v,ss[j]? = some s->vs[j]? = some v ->
  (∃ d f,s = .pure d/\as[j]? = some (.val f)/\Rep H (Av c σ δ) v d)\/∃ d i,s = .own d/\as[j]? = some (.io i)/\σ[i]? = some (some v)/\δ[i]? = some (some (.own d)):=by
 induction h with
 | nil =>
  intro ss h;simp only[bj,Wa] at h;subst h;exact⟨rfl,rfl,λj s v e _=>by simp at e⟩
 | @val v d f vs as ds r _ ih =>
  intro ss h;simp only[bj] at h
  cases e:bj as ds δ with
  | none=>rw[e] at h; cases h
  | some rs =>
   rw[e] at h;simp only[WJ,Wa] at h;subst h;obtain⟨h1,h2,h3⟩:=ih e;refine⟨by simp[h1],by simp[h2],λj s v' e1 e2=>?_⟩
   cases j with
   | zero=>simp at e1 e2; subst e1 e2; exact .inl ⟨d,f,rfl,rfl,r⟩
   | succ j=>simpa using h3 j s v' (by simpa using e1) (by simpa using e2)
 | @io v i vs as ds ev _ ih =>
  intro ss h;simp only[bj] at h;split at h
  ·rename_i d ed
   cases e:bj as ds δ with
   | none=>rw[e] at h; cases h
   | some rs =>
    rw[e] at h;simp only[WJ,Wa] at h;subst h;obtain⟨h1,h2,h3⟩:=ih e;refine⟨by simp[h1],by simp[h2],λj s v' e1 e2=>?_⟩
    cases j with
    | zero=>simp at e1 e2; subst e1 e2; exact .inr ⟨d,i,rfl,rfl,ev,ed⟩
    | succ j=>simpa using h3 j s v' (by simpa using e1) (by simpa using e2)
  ·cases h
theorem ve:∀ (as:List Ak) (rs:List S) (δ:Dl),(aP as rs δ).length=δ.length
 | [],rs,δ=>by simp[aP]
 | .val f :: as,[],δ=>by simp[aP]
 | .io i :: as,[],δ=>by simp[aP]
 | .val f :: as,r :: rs,δ=>by simp[aP,ve as rs δ]
 | .io i :: as,r :: rs,δ=>by simp[aP,ve as rs]
theorem oW:∀ (as:List Ak) (rs:List S) (δ:Dl) (i:Nat),i ∉ a_ as->(aP as rs δ)[i]? = δ[i]?
 | [],rs,δ,i,_=>by simp[aP]
 | .val f :: as,[],δ,i,_=>by simp[aP]
 | .io j :: as,[],δ,i,_=>by simp[aP]
 | .val f :: as,r :: rs,δ,i,h=>by rw[aP]; exact oW as rs δ i h
 | .io j :: as,r :: rs,δ,i,h=>by
  simp only[a_,Wo,not_or] at h;rw[aP,oW as rs _ i h.2,W5 (Ne.symm h.1)]
theorem se:∀ (as:List Ak) (rs:List S) (δ:Dl) (i j:Nat) (r:S),(a_ as).Nodup->as[j]? = some (.io i)->rs[j]? = some r->i < δ.length->(aP as rs δ)[i]? = some (some r)
 | [],rs,δ,i,j,r,_,h,_,_=>by simp at h
 | a :: as,[],δ,i,j,r,_,_,h,_=>by simp at h
 | .val f :: as,r0 :: rs,δ,i,j,r,nd,h1,h2,hi=>by
  cases j with
  | zero=>simp at h1
  | succ j=>rw[aP]; exact se as rs δ i j r nd (by simpa using h1) (by simpa using h2) hi
 | .io k :: as,r0 :: rs,δ,i,j,r,nd,h1,h2,hi=>by
  have nF:=Q4.mp nd
  cases j with
  | zero =>
   simp at h1 h2;subst h1 h2;rw[aP,oW as rs _ k nF.1,Wq hi]
  | succ j=>rw[aP]; exact se as rs _ i j r nF.2 (by simpa using h1) (by simpa using h2) (by simpa using hi)
theorem BG(k:Ok c σ δ H)(hr:j6 c σ δ H vs as ds)(hm:bj as ds δ=some ss)(nd:(a_ as).Nodup) :
  Ok ⟨H,λa=>Av c σ δ a/\¬ ∃ (j:Nat) (d:D),ss[j]? = some (S.own d)/\vs[j]? = some (V.ref a),bJ 0 ss vs,λ_ _=>False⟩ (bK vs) (bQ ss) H:=by
 obtain⟨h1,h2,h3⟩:=r_ hr hm;have at':∀ (j:Nat) s,ss[j]? = some s->∃ v,vs[j]? = some v:=λj s e=>by
  have:j < vs.length:=by rw[<- h1]; exact(We.mp e).1
  exact⟨vs[j],by simp[this]⟩
 have BH:∀ a,Own (bK vs) (bQ ss) a ↔ ∃ (j:Nat) (d:D),ss[j]? = some (S.own d)/\vs[j]? = some (V.ref a):=λa =>
  ⟨λ⟨j,d,e1,e2⟩=>⟨j,d,eQ.mp e1,eW.mp e2⟩,λ⟨j,d,e1,e2⟩=>⟨j,d,eQ.mpr e1,eW.mpr e2⟩⟩
 have BI:∀ a,Own (bK vs) (bQ ss) a->Own σ δ a:=λa z=>by
  obtain⟨j,d,e1,e2⟩:=(BH a).mp z;rcases h3 j _ _ e1 e2 with ⟨d',f,e,_⟩ | ⟨d',i,e,_,es,ed⟩
  ·cases e
  ·exact⟨i,d',ed,es⟩
 have sub:∀ a,Av ⟨H,λa=>Av c σ δ a/\¬ ∃ (j:Nat) (d:D),ss[j]? = some (S.own d)/\vs[j]? = some (V.ref a),bJ 0 ss vs,λ_ _=>False⟩ (bK vs) (bQ ss) a->Av c σ δ a:=λa z=>z.elim (λz=>z.1) λz=>.inr (BI a z)
 refine⟨λa o e _=>e,λa z=>k.Az z.1,λa ⟨i,hi⟩=>?_,by simp[h1],λj d e=>?_,λj d e=>?_,λi j a d d' e1 e2 e3 e4=>?_,λp hp=>?_⟩
 ·obtain⟨j,d,_,e1,e2⟩:=k_ hi;exact k.oC (BI a ((BH a).mpr ⟨j,d,e1,e2⟩))
 ·have e':=eQ.mp e;obtain⟨v,ev⟩:=at' j _ e';rcases h3 j _ v e' ev with ⟨d',f,e,_,r⟩ | ⟨d',i,e,_⟩
  ·cases e;exact⟨v,eW.mpr ev,r.aW λb z=>.inl (sub b z)⟩
  ·cases e
 ·have e':=eQ.mp e;obtain⟨v,ev⟩:=at' j _ e';rcases h3 j _ v e' ev with ⟨d',f,e,_,r⟩ | ⟨d',i,e,_,es,ed⟩
  ·cases e
  ·cases e;obtain⟨a,g1,g2,g3⟩:=k.own i d ed;rw[es] at g1
   cases g1;refine⟨a,eW.mpr ev,g2.aW λb z=>.inl (sub b z),.inl ⟨0 + j,rZ e' ev⟩,λz=>z.2 ⟨j,d,e',ev⟩⟩
 ·have f1:=eQ.mp e1;have f2:=eQ.mp e2;rcases h3 i _ _ f1 (eW.mp e3) with ⟨_,_,e,_⟩ | ⟨d1,i1,e,a1,s1,x1⟩
  ·cases e
  ·rcases h3 j _ _ f2 (eW.mp e4) with ⟨_,_,e',_⟩ | ⟨d2,i2,e',a2,s2,x2⟩
   ·cases e'
   ·have:=k.inj i1 i2 a d1 d2 x1 x2 s1 s2;subst this;exact vd nd a1 a2
 ·obtain⟨j,d,e,e1,e2⟩:=k_ (i:=p.1) (a:=p.2) hp;rw[Jw] at e;rw[e];exact eW.mpr e2
theorem vf(k:Ok c σ δ H)(hr:j6 c σ δ H vs as ds)(hm:bj as ds δ=some ss)(nd:(a_ as).Nodup)(hB:B=λa=>Av c σ δ a/\¬ ∃ (j:Nat) (d:D),ss[j]? = some (S.own d)/\vs[j]? = some (V.ref a))
  (x:aE ⟨H,B,bJ 0 ss vs,λ_ _=>False⟩ (bK vs) (bQ ss) H (bK vs) (bQ aB) H') (fX:∀ (j:Nat) d,ss[j]? = some (.own d)->∃ d',aB[j]? = some (.own d')) (SH:∀ (j:Nat) d,ss[j]? = some (.pure d)->∃ d',aB[j]? = some (.pure d')) :
  aE c σ δ H σ (aP as aB δ) H'/\∀ v r,aZ ⟨H,B,bJ 0 ss vs,λ_ _=>False⟩ (bK vs) (bQ aB) H H' v r->aZ c σ (aP as aB δ) H H' v r:=by
 obtain⟨h1,h2,h3⟩:=r_ hr hm;have sf:∀ i,i ∈ a_ as->∃ (j:Nat) (d:D) (a:Addr),as[j]? = some (.io i)/\ss[j]? = some (.own d)/\vs[j]? = some (.ref a)/\σ[i]? = some (some (.ref a))/\δ[i]? = some (some (.own d)):=λi hi=>by
  obtain⟨j,hj,ej⟩:=List.mem_iff_getElem.mp (lh.mp hi);have hv:j < vs.length:=by omega
  have hs:j < ss.length:=by omega
  have vg:as[j]? = some (.io i):=by rw[W8 hj,ej]
  rcases h3 j ss[j] vs[j] (by simp[hs]) (by simp[hv]) with ⟨d,f,e,a1,_⟩ | ⟨d,i',e,a1,s1,x1⟩
  ·rw[vg] at a1; cases a1
  ·rw[vg] at a1; cases a1
   obtain⟨a,g1,_⟩:=k.own i d x1;rw[s1] at g1;have g2:vs[j] = .ref a:=by
    have:=Ws g1;exact Ws this
   exact⟨j,d,a,vg,by rw[W8 hs,e],by rw[W8 hv,g2],by rw[s1,g2],x1⟩
 have oX:∀ a,(∃ (j:Nat) (d:D),ss[j]? = some (S.own d)/\vs[j]? = some (V.ref a))->Own σ δ a:=λa ⟨j,d,e1,e2⟩=>by
  rcases h3 j _ _ e1 e2 with ⟨d',f,e,_⟩ | ⟨d',i,e,_,es,ed⟩
  ·cases e
  ·exact⟨i,d',ed,es⟩
 have SJ:∀ a,(⟨H,B,bJ 0 ss vs,λ_ _=>False⟩:Fc).I a ↔ ∃ (j:Nat) (d:D),ss[j]? = some (S.own d)/\vs[j]? = some (V.ref a):=λa =>
  ⟨λ⟨i,hi⟩=>by obtain⟨j,d,_,e1,e2⟩:=k_ hi; exact⟨j,d,e1,e2⟩,λ⟨j,d,e1,e2⟩=>⟨0 + j,rZ e1 e2⟩⟩
 have ownIn:∀ a,Own (bK vs) (bQ ss) a->∃ (j:Nat) (d:D),ss[j]? = some (S.own d)/\vs[j]? = some (V.ref a):=λa ⟨j,d,e1,e2⟩=>⟨j,d,eQ.mp e1,eW.mp e2⟩
 -- the owned addresses are the same
 have sg:∀ (i:Nat) (d:D),(aP as aB δ)[i]? = some (some (.own d))->(i ∉ a_ as/\δ[i]? = some (some (.own d)))\/(i ∈ a_ as/\∃ (j:Nat) (d0:D) (a:Addr),as[j]? = some (.io i)/\ss[j]? = some (.own d0)/\vs[j]? = some (.ref a)/\σ[i]? = some (some (.ref a))/\aB[j]? = some (.own d)):=λi d e=>by
  by_cases hi:i ∈ a_ as
  ·right
   obtain⟨j,d0,a,a1,a2,a3,a4,a5⟩:=sf i hi;obtain⟨d',ed'⟩:=fX j d0 a2;have aY:i < δ.length:=(We.mp a5).1;have:=se as aB δ i j (.own d') nd a1 ed' aY;rw[e] at this
   cases this;exact⟨hi,j,d0,a,a1,a2,a3,a4,ed'⟩
  ·rw[oW as aB δ i hi] at e;exact .inl ⟨hi,e⟩
 have oY:∀ b,Own σ (aP as aB δ) b->Own σ δ b:=λb ⟨i,d,e1,e2⟩=>by
  rcases sg i d e1 with ⟨_,e⟩ | ⟨hi,j,d0,a,_,a2,a3,a4,_⟩
  ·exact⟨i,d,e,e2⟩
  ·rw[e2] at a4;have:b=a:=by injection (Ws (Ws a4))
   subst this;exact oX b ⟨j,d0,a2,a3⟩
 have K6:∀ (i:Nat) (d:D),(aP as aB δ)[i]? = some (some (.pure d))->i ∉ a_ as/\δ[i]? = some (some (.pure d)):=λi d e=>by
  by_cases hi:i ∈ a_ as
  ·obtain⟨j,d0,a,a1,a2,a3,a4,a5⟩:=sf i hi;obtain⟨d',ed'⟩:=fX j d0 a2;have aY:i < δ.length:=(We.mp a5).1;have:=se as aB δ i j (.own d') nd a1 ed' aY;rw[e] at this
   cases this
  ·rw[oW as aB δ i hi] at e;exact⟨hi,e⟩
 have BJ:∀ a o,H a=some o->¬ Av c σ δ a->H' a=some o:=λa o e n=>x.keep a o e λz=>n (.inr (oX a (ownIn a z)))
 have ml:∀ b,Av c σ (aP as aB δ) b->Av c σ δ b:=λb z=>z.elim .inl λz=>.inr (oY b z)
 -- the callee's set holds ours
 have big:∀ {c':Fc},c'.B=B->∀ b,Av c σ δ b->Av c' (bK vs) (bQ aB) b:=λ{c'} hB' b z=>by
  by_cases hp:∃ (j:Nat) (d:D),ss[j]? = some (S.own d)/\vs[j]? = some (V.ref b)
  ·obtain⟨j,d,e1,e2⟩:=hp;obtain⟨d',ed'⟩:=fX j d e1;exact .inr ⟨j,d',eQ.mpr ed',eW.mpr e2⟩
  ·exact .inl (by rw[hB',hB]; exact⟨z,hp⟩)
 have BK:∀ (c1 c2:Fc),c1.H₀=c.H₀->c1.pin=c.pin->(∀ b,c1.B b->c.B b\/(c2.B b/\H b=none))->c2.pin=bJ 0 ss vs->(∀ b,B b->c2.B b)->Ok c2 (bK vs) (bQ aB) H'->(∀ b,c1.B b->∃ o,H' b=some o)->Ok c1 σ (aP as aB δ) H':=λc1 c2 e0 e1 e2 e3 e4 k2 hex=>by
  have BL:∀ b,Av c1 σ (aP as aB δ) b->Av c σ δ b\/H b=none:=λb z=>by
   rcases z with z | z
   ·rcases e2 b z with z | ⟨_,z⟩
    ·exact .inl (.inl z)
    ·exact .inr z
   ·exact .inl (.inr (oY b z))
  have rg:∀ b,Av c1 σ (aP as aB δ) b->Av c2 (bK vs) (bQ aB) b:=λb z=>by
   have bg:∀ b,Av c σ δ b->Av c2 (bK vs) (bQ aB) b:=λb z=>by
    by_cases hp:∃ (j:Nat) (d:D),ss[j]? = some (S.own d)/\vs[j]? = some (V.ref b)
    ·obtain⟨j,d,e1,e2⟩:=hp;obtain⟨d',ed'⟩:=fX j d e1;exact .inr ⟨j,d',eQ.mpr ed',eW.mpr e2⟩
    ·exact .inl (e4 b (by rw[hB]; exact⟨z,hp⟩))
   rcases z with z | z
   ·rcases e2 b z with z | ⟨z,_⟩
    ·exact bg b (.inl z)
    ·exact .inl z
   ·exact bg b (.inr (oY b z))
  have K7:∀ {v:V} {d:D},Rep H (Av c σ δ) v d->Rep H' (Av c1 σ (aP as aB δ)) v d:=λ{v d} r=>by
   have r1:Rep H (λb=>Av c σ δ b\/Av c1 σ (aP as aB δ) b) v d:=r.aW λb z=>z.elim .inl (BL b)
   exact(r1.keep λb o e n=>BJ b o e λz=>n (.inl z)).aW λb z=>.inl (.inr z)
  refine⟨λa o e n=>?_,hex,λa z=>?_,by rw[ve]; exact k.len,λi d e=>?_,λi d e=>?_,λi j a d d' f1 f2 f3 f4=>?_,by rw[e1]; exact k.pinned⟩
  ·rw[e0] at e;have n':¬ c.I a:=λz=>n (by unfold Fc.I at z ⊢; rw[e1]; exact z)
   refine x.keep a o (k.keep a o e n') λz=>?_
   obtain⟨i,d,g1,g2⟩:=oX a (ownIn a z);obtain⟨a',g3,_,g4,_⟩:=k.own i d g1;rw[g2] at g3; cases g3
   rcases g4 with g4 | g4
   ·exact n' g4
   ·rw[g4] at e; cases e
  ·have z':c.I a:=by unfold Fc.I at z ⊢; rw[<- e1]; exact z
   obtain⟨o,e⟩:=k.cQ a z';exact x.there a o e
  ·obtain⟨hi,e'⟩:=K6 i d e;obtain⟨v,g1,g2⟩:=k.slot i d e';exact⟨v,g1,K7 g2⟩
  ·rcases sg i d e with ⟨hi,e'⟩ | ⟨hi,j,d0,a,b1,b2,b3,b4,b5⟩
   ·obtain⟨a,g1,g2,g3,g4⟩:=k.own i d e';have na:¬ Own (bK vs) (bQ ss) a:=λz=>by
     obtain⟨j,d1,q1,q2⟩:=ownIn a z;rcases h3 j _ _ q1 q2 with ⟨d',f,ee,_⟩ | ⟨d',i',ee,ai,es,ed⟩
     ·cases ee
     ·have:=k.inj i i' a d d' e' ed g1 es;subst this;exact hi (lh.mpr (Wx ai))
    have K8:fJ H' (Av c1 σ (aP as aB δ)) a d:=by
     have o1:fJ H (λb=>Av c σ δ b\/Av c1 σ (aP as aB δ) b) a d:=g2.aW λb z=>z.elim .inl (BL b)
     exact(o1.keep (λb o e n=>BJ b o e λz=>n (.inl z)) λo e=>x.keep a o e na).aW λb z=>.inl (.inr z)
    refine⟨a,g1,K8,by unfold Fc.I at g3 ⊢; rw[e0,e1]; exact g3,λz=>?_⟩;rcases e2 a z with z | ⟨_,z⟩
    ·exact g4 z
    ·obtain⟨o,eo⟩:=g2.some;rw[z] at eo; cases eo
   ·obtain⟨a',g1,g2,g3,g4⟩:=k2.own j d (eQ.mpr b5);rw[eW.mpr b3] at g1
    cases g1;obtain⟨i0,d1,q1,q2⟩:=oX a ⟨j,d0,b2,b3⟩;obtain⟨a'',q3,q4,q5,q6⟩:=k.own i0 d1 q1;rw[q2] at q3; cases q3
    refine⟨a,b4,g2.aW λb z=>.inl (rg b z),by unfold Fc.I at q5 ⊢; rw[e0,e1]; exact q5,λz=>?_⟩;rcases e2 a z with z | ⟨_,z⟩
    ·exact q6 z
    ·obtain⟨o,eo⟩:=q4.some;rw[z] at eo; cases eo
  ·obtain⟨d1,g1⟩:∃ d1,δ[i]? = some (some (.own d1)):=by
    rcases sg i d f1 with ⟨_,e'⟩ | ⟨hi,_⟩
    ·exact⟨d,e'⟩
    ·obtain⟨_,d1,_,_,_,_,_,a5⟩:=sf i hi;exact⟨d1,a5⟩
   obtain⟨d2,g2⟩:∃ d2,δ[j]? = some (some (.own d2)):=by
    rcases sg j d' f2 with ⟨_,e'⟩ | ⟨hi,_⟩
    ·exact⟨d',e'⟩
    ·obtain⟨_,d1,_,_,_,_,_,a5⟩:=sf j hi;exact⟨d1,a5⟩
   exact k.inj i j a d1 d2 g1 g2 f3 f4
 have K9:Ok c σ (aP as aB δ) H':=BK c ⟨H,B,bJ 0 ss vs,λ_ _=>False⟩ rfl rfl (λb z=>.inl z) rfl (λb z=>z) x.ok λb z=>by
  obtain⟨o,e⟩:=k.bd b z;exact x.there b o e
 refine⟨⟨K9,λa o e n=>x.keep a o e λz=>n (oX a (ownIn a z)),λa z=>.inl (oY a z),x.there⟩,λv r hr=>?_⟩
 cases r with
 | pure d=>exact Rep.aW hr λb z=>.inl (big rfl b (ml b z))
 | own d =>
  obtain⟨a,ea,o,nb,h0,kp,hs⟩:=hr;have nE:H a=none:=hs;have g7:¬ Av c σ δ a:=k.g7 nE;refine⟨a,ea,o.aW λb z=>.inl ?_,λz=>g7 (.inl z),k.jO nE,?_,nE⟩
  ·rcases z with (z | z) | z
   ·exact(big rfl b (.inl z)).elim (λz=>.inl (.inl z)) .inr
   ·exact .inl (.inr z)
   ·exact(big rfl b (.inr (oY b z))).elim (λz=>.inl (.inl z)) .inr
  ·refine BK (c.plus a) (Fc.plus ⟨H,B,bJ 0 ss vs,λ_ _=>False⟩ a) rfl rfl (λb z=>?_) rfl (λb z=>.inl z) kp λb z=>?_
   ·rcases z with z | z
    ·exact .inl z
    ·exact .inr ⟨.inr z,by rw[z]; exact nE⟩
   ·rcases z with z | z
    ·obtain⟨o,e⟩:=k.bd b z;exact x.there b o e
    ·rw[z]; exact o.some
end
def dF(G:DF):Prop:=∀ ss r aB,G ss=some (r,aB)->aB.length=ss.length/\∀ (j:Nat),(∀ d,ss[j]? = some (.own d)->∃ d',aB[j]? = some (.own d'))/\∀ d,ss[j]? = some (.pure d)->∃ d',aB[j]? = some (.pure d')
theorem K_(hG:∀ ss y,G ss=some y->fL fb n ss=some y):dF G:=λss r aB h=>by
 have:=hG ss _ h;unfold fL at this
 cases e:fb (bc n ss) with
 | exc x δx=>rw[e] at this; cases this
 | stuck=>rw[e] at this; cases this
 | ok fl δ =>
  rw[e] at this;simp only at this
  cases e1:cf fl with
  | none=>rw[e1] at this; cases this
  | some r' =>
   rw[e1] at this;simp only[WA] at this
   cases e2:bA 0 ss δ with
   | none=>rw[e2] at this; cases this
   | some os =>
    rw[e2] at this
    cases this;obtain⟨h1,h2⟩:=oU e2;refine⟨h1,λj=>⟨λd ed=>?_,λd ed=>?_⟩⟩
    ·rcases h2 j _ ed with ⟨d',z,_⟩ | ⟨d',d'',_,_,z⟩
     ·cases z
     ·exact⟨d'',z⟩
    ·rcases h2 j _ ed with ⟨d',z,z'⟩ | ⟨d',d'',z,_⟩
     ·exact⟨d',z'⟩
     ·cases z
section
variable {X:Cx} {c:Fc} {e:Expr} {es:List Expr} {as:List Ak} {k n:Nat} {x:Str} {G:DF} {pp pos:Pos}
theorem BM{ps:List Str}(hK:dF G){σ:St}{H:Hp}{Q:VK}(hl:as.length=n)(h:tD c (ax G as) σ H Q):t8 (j3 n G) [] E0 (tX c as) σ H Q:=by
 obtain⟨δ,kk,q⟩:=h;unfold ax at q;split at q
 ·rename_i hc;rw[Wm] at hc;have nd:=vc hc.2;rw[bh] at q;refine⟨δ,kk,λi hi=>?_,aX q λds δ1 q1 vs H1 a1 r1=>?_⟩
  ·have:=Qj.mp hc.1 i (lh.mpr hi);unfold bT at this;split at this
   ·rename_i d ed;exact nc kk ed
   ·cases this
  ·cases em:bj as ds δ1 with
   | none=>rw[em] at q1; exact q1.elim
   | some ss =>
    rw[em] at q1;simp only at q1
    cases eg:G ss with
    | none=>rw[eg] at q1; exact q1.elim
    | some y =>
     obtain⟨r,aB⟩:=y;rw[eg] at q1;have lj:=BG a1.ok r1 em nd;obtain⟨m1,m2,_⟩:=r_ r1 em;obtain⟨g1,g2⟩:=hK ss r aB eg;refine⟨ss,_,by rw[WX,<- m2]; exact hl,by rw[WX]; exact lj,r,aB,eg,λv H2 a2 r2=>?_⟩;rw[WX] at a2 r2;obtain⟨o1,o2⟩:=vf a1.ok r1 em nd rfl a2 (λj d ed=>(g2 j).1 d ed) λj d ed=>(g2 j).2 d ed
     exact q1 v H2 (a1.trans o1) (aZ.back (o2 v r r2) a1)
 ·exact q.elim
theorem bU (F:b8 X.prog X.w X.K X.mg X.base k x n G) (hK:dF G) (hr:bX k X.A) (hg:Gl X x) (ha:SX X c (e :: es) as) (hl:as.length=n) (cY:(x == ("__debug__" : Str))=false:=by decide)
  (he:W7 (e :: es) X.env=(false,eval e X.env) :: W7 es X.env:=by rfl) (bM:(WN pos (W7 es X.env)).any (·.1)=false:=by rfl):SE X c (.Call (.Name x pp) (e :: es) [] pos) (ax G as):=by
 obtain⟨f,fd,ps,hm,hk,hb,ok⟩:=F;exact PE.weak (GO ok hr hg hm hk hb .nil HZ ha cY he bM) λσ H Q h=>BM (ps:=ps) hK hl h
end
def b9(np:List Nat)(n:Nat)(b:DS):DF:=λss=>if bR np 0 ss then fL b n ss else none
theorem eX(h:b9 np n b ss=some y):bR np 0 ss=true/\fL b n ss=some y:=by
 unfold b9 at h;split at h
 ·rename_i hi; exact⟨hi,h⟩
 ·cases h
theorem fu:dF (b9 np n b):=K_ λ_ _ h=>(eX h).2
theorem eZ(r:bX k A):A.units + 64 < Ww:=by have:=r.un; omega
theorem oZ{c:Fc}{np cs:List Nat}(h:Np c np)(hc:cs.all (λi=>!np.contains i)=true):∀ p ∈ c.pin,p.1 ∉ cs:=λp hp z=>by
 have h1:=h p hp;have h2:=Qj.mp hc p.1 z;rw[h1] at h2
 cases h2
def sh:List Str->Bool
 | []=>true
 | x :: r=>!r.contains x && sh r
theorem BN:∀ {l:List Str},sh l=true->l.Nodup
 | [],_=>.nil
 | x :: r,h=>by
  simp only[sh,Wm,JJ] at h;exact List.nodup_cons.mpr ⟨λhm=>by have:=h.1; simp at this; exact this hm,BN h.2⟩
def gL(names:List (Str×NameKind))(x:Str)(k:NameKind):Bool:=match names.lookup x with
 | some j=>j == k
 | none=>false
theorem vh(h:gL names x k=true):names.lookup x=some k:=by
 unfold gL at h;split at h
 ·rename_i j e; rw[e,eq_of_beq h]
 ·cases h
def BO(names:List (Str×NameKind))(N:List Str)(sc:List (Str×NameKind))(cs:List Nat):Bool :=
 sc.all (λx=>!(x.2 == .local) || gL sc x.1 .local) && sc.all (λx=>!(x.2 == .free) || (gL names x.1 .cell || gL names x.1 .free)) && sh (sc.map (·.1)) &&
 (Q1 N.length).all λi=>match N[i]? with
  | some x=>!(gL sc x .local || gL sc x .cell) || cs.contains i
  | none=>true
theorem BP(h:names.lookup x=some k):gL names x k=true:=by
 unfold gL; rw[h]; simp
theorem o_{X:Cx}{scope:Scope}{cs:List Nat}(hk:scope.kind = .function)(h:BO X.env.scope.names X.N scope.names cs=true):oz X scope cs:=by
 unfold BO at h;simp only[Wm] at h;obtain⟨⟨⟨h1,h2⟩,h3⟩,h4⟩:=h;refine⟨hk,λx hx hl=>?_,λx hx hf=>?_,BN h3,λi x hi hl=>?_⟩
 ·have:=Qj.mp h1 x hx;rw[hl] at this;exact vh (by simpa using this)
 ·have:=Qj.mp h2 x hx;rw[hf] at this;have:gL X.env.scope.names x.1 .cell=true\/gL X.env.scope.names x.1 .free=true:=by simpa using this
  exact this.elim (λz=>.inl (vh z)) λz=>.inr (vh z)
 ·have k8:i < X.N.length:=(We.mp hi).1;have:=Qj.mp h4 i (List.mem_range.mpr k8);rw[hi] at this;have gC:(gL scope.names x .local || gL scope.names x .cell)=true:=by
   rcases hl with z | z
   ·rw[BP z]; rfl
   ·rw[BP z]; simp
  simp only[gC,Bool.not_true,Bool.false_or] at this;simpa using this
theorem La {K:W2}:jW K "int":=⟨rfl,rfl,rfl,rfl,rfl,rfl,rfl⟩
theorem Lb {K:W2}:jW K "bool":=⟨rfl,rfl,rfl,rfl,rfl,rfl,rfl⟩
theorem Lc {K:W2}:jW K "str":=⟨rfl,rfl,rfl,rfl,rfl,rfl,rfl⟩
def nG:Expr->Bool
 | .Starred ..=>false
 | _=>true
theorem pb(h:nG e=true):W7 (e :: es) env=(false,eval e env) :: W7 es env:=by
 cases e <;> first | (cases h; done) | rw[W7] | rfl
 all_goals (intros; contradiction)
section
variable {X:Cx} {c:Fc} {e:Expr} {es:List Expr} {f fe:DE} {g:DA} {as:List Ak}
theorem bB(ha:SE X c e f)(hr:SA X c es g)(hs:nG e=true:=by rfl):SA X c (e :: es) (aG f g):=A8 ha hr (pb hs)
theorem aH(ha:SE X c e fe)(hr:SX X c es as)(hs:nG e=true:=by rfl):SX X c (e :: es) (.val fe :: as):=K4 ha hr (pb hs)
theorem e9{i:Nat}(ha:PE X e (da i))(hr:SX X c es as)(hs:nG e=true:=by rfl):SX X c (e :: es) (.io i :: as):=K5 ha hr (pb hs)
end
mutual
def iK:Nat->Expr->Option D
 | _,.Constant (.int i) _ _=>some (.int i)
 | _,.Constant (.bool b) _ _=>some (.bl b)
 | _,.Constant .none _ _=>some .aw
 | _,.Constant (.str x) _ _=>some (.str x.cps.toList)
 | n + 1,.Tuple es _ _=>if es.length<=1000 then(mq n es).map .tup else none
 | _,_=>none
def mq:Nat->List Expr->Option (List D)
 | _,[]=>some []
 | n,e :: es=>match iK n e,mq n es with
  | some d,some ds=>some (d :: ds)
  | _,_=>none
end
theorem Ld:∀ {n:Nat} {e:Expr} {d:D},iK n e=some d->nG e=true:=λ{n e d} h=>by
 cases e <;> first | rfl | (cases n <;> simp[iK] at h)
mutual
theorem BQ:∀ {n:Nat} {e:Expr} {d:D},iK n e=some d->SE X c e (eD d)
 | _,.Constant (.int i) _ _,d,h=>by
  simp only[iK,Wa] at h; subst h; exact aL
 | _,.Constant (.bool b) _ _,d,h=>by
  simp only[iK,Wa] at h; subst h; exact kT
 | _,.Constant .none _ _,d,h=>by
  simp only[iK,Wa] at h; subst h; exact mY
 | _,.Constant (.str x) _ _,d,h=>by
  simp only[iK,Wa] at h; subst h; exact fQ _ (Ax x)
 | 0,.Tuple es k pos,d,h=>by simp[iK] at h
 | n + 1,.Tuple es k pos,d,h=>by
  simp only[iK] at h;split at h
  ·rename_i hl
   cases e:mq n es with
   | none=>rw[e] at h; cases h
   | some ds =>
    rw[e] at h;simp only[WJ,Wa] at h;subst h;exact kZ (vi e) hl
  ·cases h
theorem vi:∀ {n:Nat} {es:List Expr} {ds:List D},mq n es=some ds->SA X c es (λδ=>.ok ds δ)
 | _,[],ds,h=>by
  simp only[mq,Wa] at h; subst h; exact eV
 | n,e :: es,ds,h=>by
  simp only[mq] at h;split at h
  ·rename_i d dC h1 h2
   cases h;exact A8 (BQ h1) (vi h2) (pb (Ld h1))
  ·cases h
end
def gM(ds:List D):DE:=λδ=>.ok (.own (.lst ds)) δ
theorem BU{X:Cx}{c:Fc}{e:Expr}{d:D}(h:iK 9 e=some d):SE X c e (eD d):=BQ h
theorem pe{X:Cx}{c:Fc}{es:List Expr}{ds:List D}{pos:Pos}(h:mq 9 es=some ds)(hl:es.length<=1000):SE X c (.List es pos) (gM ds):=ji (vi h) hl
section
variable {X:Cx} {c:Fc} {e:Expr} {fe:DE} {pos:Pos} {tg:Expr}
theorem BV(he:SE X c e fe)(hs:Ji e none pos.line X.env=pure false:=by rfl):SS X c (.Expr e pos) (iI fe) :=
 KD he (λ_=>hs) trivial (zb he hs)
theorem vj{i:Nat}{o:Expr}{apos aJ:Pos}(ho:PE X o (da i))(he:SE X c e fe)
  (jJ:Q9 o "append" X.env (eval o X.env)=eval o X.env:=by rfl)
  (jK:((WN aJ (W7 [e] X.env)).all (λx=>!x.1) && (Jb aJ (QA [] X.env)).all (λx=>x.1.isSome)
   && decide ([e].length + ([]:List Keyword).length + (if ([]:List Keyword).isEmpty then 0 else 1) < 30))=true:=by rfl)
  (fH:(apos.endLine == aJ.line)=true:=by rfl) (hs:W7 [e] X.env=(false,eval e X.env) :: W7 [] X.env:=by rfl)
  (Lf:Ji (.Call (.Attribute o "append" apos) [e] [] aJ) none pos.line X.env=pure false:=by rfl):SS X c (.Expr (.Call (.Attribute o "append" apos) [e] [] aJ) pos) (fW i fe) :=
 KG (p0:=apos) ho he (zb (qR PySem.F.plainAttrs_list PySem.F.slot_list_append PySem.F.type_list_append z6 ho (dR he fP hs) jJ jK fH hs rfl) Lf)
end
def vk(K:W2):Bool:=K.all λp=>match p.2.cls with
 | .type t=>!(t == "list")
 | _=>true
theorem BW[BEq α][LawfulBEq α]:∀ {K:List (α×β)} {a:α} {o:β},K.lookup a=some o->(a,o) ∈ K
 | [],a,o,e=>by simp at e
 | (b,o') :: r,a,o,e=>by
  rw[WY] at e
  cases hb:a == b with
  | true =>
   rw[hb] at e;have h1:o'=o:=Ws e;have h2:a=b:=eq_of_beq hb;rw[h1,h2];exact Wj
  | false =>
   rw[hb] at e;exact Wd _ (BW e)
theorem Lg {K:W2} {a:Addr} {o:Obj} (h:vk K=true) (e:K.lookup a=some o) (hc:o.cls = .type "list"):False:=by
 have hm:(a,o) ∈ (K:List (Addr×Obj)):=BW e;have h1:=Qj.mp h (a,o) hm;have h2:(match o.cls with | .type t=>!(t == "list") | _=>true)=true:=h1;rw[hc] at h2;have h3:(!(("list" : String) == "list"))=true:=h2;rw[beq_self_eq_true] at h3
 cases h3
theorem Lh{K:W2}{G:DF}{H:Hp}{a:Addr}{ns:List Int}{E:XK}(hK:vk K=true)(hS:ck K H a (ns.map V.int))(hG:∃ aB,G [.pure (.lst (ns.map .int))]=some (.pure (.bl true),aB)) :
  j3 1 G [.ref a] H (λv _=>v = .bl true) E:=by
 have hR:Rd H a (.lst (ns.map V.int)):=by
  rcases hS with h | ⟨o,af,n,e,hc,_⟩
  ·exact h
  ·exact(Lg hK e hc).elim
 obtain⟨aB,hg⟩:=hG;have rep:∀ O:Addr->Prop,¬ O a->Rep H O (.ref a) (.lst (ns.map D.int)):=λO hO=>.lst hO hR (by simp) λi v d e1 e2=>by
  rw[Wy] at e1 e2
  cases e:ns[i]? with
  | none=>rw[e] at e1; cases e1
  | some k=>rw[e] at e1 e2; cases e1; cases e2; exact .int k
 refine⟨[.pure (.lst (ns.map .int))],λ_=>False,rfl,⟨λb o e _=>e,λb z=>z.elim,λb ⟨i,z⟩=>?_,rfl,λi d e=>?_,λi d e=>?_,λi j b d d' e1 e2 e3 e4=>?_,λp z=>?_⟩,_,aB,hg,λv H' x r=>?_⟩
 ·simp[bJ] at z
 ·cases i with
  | zero =>
   simp at e;subst e;refine⟨.ref a,rfl,rep _ λz=>?_⟩;rcases z with z | ⟨j,d',z1,z2⟩
   ·exact z
   ·cases j with
    | zero=>simp at z1
    | succ j=>simp at z1
  | succ i=>simp at e
 ·cases i with
  | zero=>simp at e
  | succ i=>simp at e
 ·cases i with
  | zero=>simp at e1
  | succ i=>simp at e1
 ·simp[bJ] at z
 ·cases r;rfl
theorem BX{l:PySem.W.OpenLaw}{q:Wg}{loose:List Str}{XP:(Str->Option Value)->Heap->Prop}{YP:Wh->Heap->Prop}{d:DefRec}{K:Params->W2}{k:Nat}{G:DF}(hn:l.most=some 63)(ow:d.params.defaults=[])(hr:bX k callerA)
  (hY:∀ (w:Wh) (h:Heap),YP w h->(K w.params).In h) (hL:∀ p:Params,vk (K p)=true)
  (hG:∀ ns:List Int,ns.length<=63->∃ aB,G [.pure (.lst (ns.map .int))]=some (.pure (.bl true),aB))
  (F:∀ (w:Wh) (mg:Str->Option Value) (fa:Addr) (h:Heap),(K w.params).In h->h.Ns Wr mg->mg d.name=some (.ref fa) ->
   ∃ fd:WD,(∀ (s:W1) (u:Value),BindsTo s fd ⟨[u],[]⟩ [("script",u)])/\∀ base:Heap,(K w.params).In base->base.Ns Wr mg->eC l.prog w (K w.params) mg base dm k fa fd ["script"] (j3 1 G)) :
  PySem.W.WalkO q loose XP YP l.row.toRowW d [] (λf vs=>PySem.call f vs) :=
 L2.HX (n:=63) (k:=k) (x:="script") (CX:=λ_=>dm) (sp:=λ_=>j3 1 G) hn (by decide) ow hr hY F (λw H a ns hl _ hS=>Lh (hL w.params) hS (hG ns hl)) λ_ _ _ _ _ z=>z
end DV
set_option maxHeartbeats 400000
namespace L2
open PySem PySem.Spec PyProof.Rows
def vm(x:Str):It:=⟨λi _=>i < x.cps.size,λi H y H'=>H'=H/\∃ c,x.cps[i]? = some c/\y = .str ⟨#[c]⟩,λi _=>i=x.cps.size⟩
theorem Li {P:Wg} {w:Wh} {K:W2} {tg:Expr} (x:Str) (t:Tok) (it:Addr) (T:String) (hT:T = "str_ascii_iterator"\/T = "str_iterator"):Turn P w K tg (vm x) [it] it (λi h=>h.IsStrIter it T x t i):=by
 have W:∀ A:Wl,A.handled=none->Walks P w A it [it] [it] x.cps.size (SignAt x) (λi h=>h.IsStrIter it T x t i):=λA hh=>by
  rcases hT with rfl | rfl
  ·exact Walks.strAscii hh it x t
  ·exact Walks.strWide hh it x t
 refine⟨by simp,λi h st b hb=>?_,λi h h' st k=>?_,?_,?_,λA i s Q E st h=>?_⟩
 ·have e:b=it:=by simpa using hb
  subst e;obtain⟨o,e,c,d⟩:=st;exact⟨o,e,λv z=>by rw[d] at z; cases z⟩
 ·obtain⟨o,e,r⟩:=st;exact⟨o,k it (by simp) o e,r⟩
 ·intro X hP hw hK hc i pins s σ H E I hf st hg;subst hP hw hK;obtain⟨f0,f1,f2,f3,f4,f5⟩:=hf it (by simp);refine(W X.A (I.ok.hd hc)).item i s _ _ hg st λv h' tk hv fG kk=>?_
  obtain⟨c,u,hx,rfl⟩:=hv;have I1:Inv X pins σ H { s with heap:=h',toks:=tk }:=I.turned (λb o hb e=>kk b o (by simpa using hb) e) f0 f1 f3 f4 f5;obtain⟨o,e,c',d⟩:=id fG;refine⟨_,rfl,qE (s:={ s with heap:=h',toks:=tk }) e c' d (by rcases hT with rfl | rfl <;> decide) ⟨.str ⟨#[c]⟩,H,I1,⟨u,rfl⟩,⟨rfl,c,hx,rfl⟩,fG,λb hb=>(hf b hb).1⟩⟩
 ·intro X hP hw hK hc i pins s σ H E I hf st hg;subst hP hw hK;have mW:i=x.cps.size:=hg;subst mW;obtain⟨f0,f1,f2,f3,f4,f5⟩:=hf it (by simp);exact(W X.A (I.ok.hd hc)).done s _ _ st λh' tk eb=>⟨rfl,I.turned (λb o hb e=>eb b o (by simpa using hb) e) f0 f1 f3 f4 f5⟩
 ·rcases hT with rfl | rfl
  ·exact wpAny_pyIter_striter_ascii st h
  ·exact wpAny_pyIter_striter_wide st h
end L2
namespace DV
open PySem PySem.Spec PyProof.Rows L2
section
variable {X:Cx} {c:Fc} {tg e:Expr} {fe:DE} {pos pp:Pos}
def Lj(K:W2)(tl:TE):TI:=λσ H R=>tl σ H λx H1=>(∃ a,x = .ref a/\(∃ xs,ck K H1 a xs)/\R (tV K a) H1)\/(∃ a,x = .ref a/\(∃ xs,cz K H1 a xs)/\R (qF K a) H1)\/∃ z,x = .str z/\R (vm z) H1
theorem Lk{l:Expr}{tl:TE}(hl:PE X l tl):PI X tg l (Lj X.K tl):=by
 intro pins s σ H R I h;refine aM (hl pins s σ H _ I h) λv s1 ⟨x,H1,I1,r1,q1⟩=>?_
 rcases q1 with q1 | q1 | ⟨z,e,q⟩
 ·obtain⟨a,e,⟨xs,hq⟩,q⟩:=q1;subst e
  cases r1;obtain⟨af,rv,p,hz⟩:=I1.list hq;refine wpAny_pyIter_list p.isList ?_;refine⟨s1.heap.objs.size,[s1.heap.objs.size],_,_,H1,rfl,I1.kept (t':=s1.toks) λb o e=>W6 _ e,FW a _,⟨_,Wn _ rfl,rfl,rfl⟩,λb hb=>?_,q⟩;have e:b=s1.heap.objs.size:=by simpa using hb
  subst e;exact I1.iA (Wf _) (I1.ah.fresh (Wf _))
 ·obtain⟨a,e,⟨xs,hq⟩,q⟩:=q1;subst e
  cases r1;obtain⟨af,rv,p,hz⟩:=I1.tuple hq;refine J5 (show s1.heap.IsTuple a af.toArray from p) ?_;refine⟨s1.heap.objs.size,[s1.heap.objs.size],_,_,H1,rfl,I1.kept (t':=s1.toks) λb o e=>W6 _ e,FX a _,⟨_,Wn _ rfl,rfl,rfl⟩,λb hb=>?_,q⟩;have e:b=s1.heap.objs.size:=by simpa using hb
  subst e;exact I1.iA (Wf _) (I1.ah.fresh (Wf _))
 ·subst e;obtain⟨t,rfl⟩:=r1;refine wpAny_pyIter_strU ?_;have hT:JL z = "str_ascii_iterator"\/JL z = "str_iterator":=by
   unfold JL;split
   ·exact .inl rfl
   ·exact .inr rfl
  refine⟨s1.heap.objs.size,[s1.heap.objs.size],_,_,H1,rfl,I1.kept (t':=s1.toks) λb o e=>W6 _ e,Li z t _ _ hT,⟨_,Wn _ rfl,rfl,rfl⟩,λb hb=>?_,q⟩;have e:b=s1.heap.objs.size:=by simpa using hb
  subst e;exact I1.iA (Wf _) (I1.ah.fresh (Wf _))
theorem Ll(z:Tx):mi c σ δ H (vm (toS z)) (z.map λn=>D.str [n]):=by
 intro H2 kp;have hsz:(toS z).cps.size=z.length:=by simp[toS]
 refine⟨by show(z.map _).length=_; rw[hsz]; simp,λi d e=>?_⟩;rw[Wy] at e
 cases ez:z[i]? with
 | none=>rw[ez] at e; cases e
 | some n =>
  rw[ez] at e
  cases e;have hi:i < z.length:=(We.mp ez).1;refine⟨by show i < _; rw[hsz]; exact hi,λx H3 ⟨e3,cc,hc,hx⟩=>.inl ⟨e3,?_⟩⟩;have:(toS z).cps[i]? = z[i]?:=by simp[toS]
  rw[this,ez] at hc
  cases hc;rw[hx];exact .str [n]
def fw(f:DE):DI:=λδ=>(f δ).bind λr δ1=>match r.d with
 | .lst ds=>.ok ds δ1
 | .tup ds=>.ok ds δ1
 | .str x=>.ok (x.map λn=>.str [n]) δ1
 | _=>.stuck
theorem nH(he:SE X c e fe):SI X c tg e (fw fe):=PI.weak (Lk he) λσ H R ⟨δ,k,q⟩=>by
 unfold fw at q;rw[bh] at q;refine⟨δ,k,aX q λr δ1 q1 v H1 a1 r1=>?_⟩;have rr:=r1.rep;generalize r.d=d at q1 rr
 cases d <;> first | exact q1.elim | skip
 ·cases rr;exact .inr (.inr ⟨_,rfl,q1 _ H1 a1 (Ll _)⟩)
 ·cases rr with
  | tup h1 h2 h3 h4=>exact .inr (.inl ⟨_,rfl,⟨_,.of h2⟩,q1 _ H1 a1 (KH _ h2 (λz=>h1 (.inr z)) ⟨h3,h4⟩)⟩)
 ·cases rr with
  | lst h1 h2 h3 h4 =>
   refine .inl ⟨_,rfl,⟨_,.inl h2⟩,q1 _ H1 a1 ?_⟩;intro H2 kp;rename_i a vs;have h5:Rd H2 a (.lst vs):=Rd.keep h2 λo e=>kp a o e λz=>h1 (.inr z)
   have r':aA H1 (Av c σ δ1) vs _:=⟨h3,h4⟩
   refine⟨⟨vs,.inl h5,by rw[r'.1]; exact Wf _⟩,λi d e=>?_⟩;obtain⟨v,ev,rv⟩:=r'.get e;refine⟨⟨vs,v,.inl h5,ev⟩,λx H3 ⟨e3,y⟩=>.inl ⟨e3,?_⟩⟩;have:=y vs (.inl h5);rw[ev] at this
   cases this;exact rv
end
end DV
namespace L2
open PySem PySem.Spec PyProof.Rows
theorem Lm(a:Int)(t:Tok)(l:Addr)(dd:Option Addr)(items:Array Value)(n:Nat)(sl:Array (Option Value)) :
  Meets (Builtin.«int.__rmul__» ⟨[.int a t,.ref l],[]⟩) (λ_ R s=>s.heap.get? l=some { cls:=.type "tuple",dict:=dd,data:=.seq items n,slots:=sl }/\R (.ok (.ret Value.notImplemented)) s) :=
 .of_wp λprog w A R s h=>by obtain⟨hp,g,d,tk,os⟩:=s; obtain⟨hl,h⟩:=h; wp_walk; exact⟨_,rfl,h⟩
theorem Ln:fillsNumberSlot (.type "tuple") "mul" = pure false :=
 PySem.fillsNumberSlot_seq (id:="tuple.__mul__") (r:=some (.builtin "tuple.__rmul__")) F.slot_tuple_mul.lookup (by decide +kernel) F.slot_tuple_rmul.lookup (by decide +kernel)
theorem Lo:seqRepeat? (.type "tuple")=pure (some (.builtin "tuple.__mul__")):=by
 unfold seqRepeat?;rw[PySem.seqSlot_of (T:="tuple") (name:="__mul__") (id:="tuple.__mul__") F.slot_tuple_mul.lookup (by decide +kernel),PySem.seqSlot_of (T:="tuple") (name:="__rmul__") (id:="tuple.__rmul__") F.slot_tuple_rmul.lookup (by decide +kernel)];rfl
theorem Lp(l:Addr)(dd:Option Addr)(items:Array Value)(n:Nat)(sl:Array (Option Value))(x:Int)(u:Tok)(h1:¬ (decide (x < -(2 ^ 63)) || decide (x ≥ 2 ^ 63))=true)(h2:¬ (items.isEmpty || x == 1)=true)(h3:¬ (decide (x<=0) || items.isEmpty)=true)(h4:¬ items.size * x > (2 ^ 63 - 1) / 8)(h5:¬ Builtin.Tuple.tupleTooMany (items.size * x)=true)(h6:((Wc x.toNat items).foldl (· ++ ·) #[]).size<=Wb) :
  Meets (Builtin.«tuple.__mul__» ⟨[.ref l,.int x u],[]⟩) (λ_ R s=>s.heap.get? l=some { cls:=.type "tuple",dict:=dd,data:=.seq items n,slots:=sl } /\
   R (.ok (.ret (.ref s.heap.objs.size))) { s with heap:=s.heap.push { cls:=.type "tuple",data:=.seq ((Wc x.toNat items).foldl (· ++ ·) #[]) } }) :=
 .of_wp λprog w A R s h=>by
  obtain⟨hp,g,d,tk,os⟩:=s; obtain⟨hl,h⟩:=h
  wp_walk
  rw[if_neg h1];wp_walk
  try rw[if_neg h2]
  try wp_walk
  try rw[if_neg h3]
  try wp_walk
  try rw[if_neg h4]
  try wp_walk
  try rw[if_neg h5]
  try wp_walk
  exact⟨_,rfl,h⟩
theorem vn(af:List α):∀ (k:Nat) (acc:List α),List.foldl (λx1 x2:Array α=>x1 ++ x2) acc.toArray (Wc k af.toArray)=(acc ++ (Wc k af).flatten).toArray
 | 0,acc=>by simp
 | k + 1,acc=>by
  rw[WZ,QZ,show acc.toArray ++ af.toArray=(acc ++ af).toArray by simp,vn af k];simp[WZ]
section
variable {X:Cx}
def BY(K:W2):R2:=λx y H Q=>∃ l k xs,x = .ref l/\y = .int k/\cz K H l xs/\xs≠[]/\2<=k/\k<=1000000/\xs.length * k.toNat<=Wb/\∀ p,H p=none->Q (.ref p) (upd H p (.tup (Wc k.toNat xs).flatten))
theorem Lq:bD X (Qe .Mult) (BY X.K):=by
 intro pins s σ H x y v u Q I rx ry h;obtain⟨l,k,xs,rfl,rfl,hH,c_,h1,h2,hz,q⟩:=h
 cases rx;obtain⟨t,rfl⟩:=ry;obtain⟨af,r,pl,hl⟩:=I.tuple hH;obtain⟨⟨cls,dd,data,sl⟩,ho,hc,n,hd⟩:=id pl;simp only at hc hd;subst hc hd;have hlen:af.toArray.size=xs.length:=by rw[Wp]; exact r.length.symm
 have nJ:af.toArray.isEmpty=false:=by
  cases af with
  | nil=>exact absurd (r.qM.mp rfl) c_
  | cons a b=>rfl
 have fH:Wb=16777216:=rfl;have hk:(k.toNat:Int)=k:=by omega
 have hmul:((af.toArray.size:Nat):Int) * k=((xs.length * k.toNat:Nat):Int):=by rw[hlen,Int.natCast_mul,hk]
 have BZ:List.foldl (λx1 x2=>x1 ++ x2) #[] (Wc k.toNat af.toArray)=(Wc k.toNat af).flatten.toArray:=by
  have:=z4 af k.toNat [];rw[J9] at this;exact this
 refine wpAny_binaryOp_repeat_ref (T:="tuple") (U:="int") (by decide) ⟨_,ho,rfl⟩ (λs'=>JC s' k t) Ln F.fills_int_mul F.slot_int_rmul Lo F.slot_int_index.lookup
  (JD F.slot_int_rmul (JC s k t) F.entry_int_rmul (F.args_int_rmul_2 _ _) (Lm k t l dd af.toArray n sl)
   ⟨ho,rfl,⟨_,ho,rfl⟩,JD F.slot_tuple_mul ⟨_,ho,rfl⟩ F.entry_tuple_mul (F.args_tuple_mul_2 _ _) (Lp l dd af.toArray n sl k t ?_ ?_ ?_ ?_ ?_ ?_) ⟨ho,?_⟩⟩)
 ·simp; omega
 ·rw[nJ]; simp; omega
 ·rw[nJ]; simp; omega
 ·rw[hmul]; omega
 ·rw[hmul];unfold Builtin.Tuple.tupleTooMany;rw[fH] at hz;generalize xs.length * k.toNat=m at hz;simp only[fH,decide_eq_true_eq];omega
 ·rw[BZ,Wp,uh,<- r.length,JR]; exact hz
 ·rw[BZ];have I1:Inv X pins σ (upd H s.heap.objs.size (.tup (Wc k.toNat xs).flatten)) { s with heap:=s.heap.push { cls:=.type "tuple",data:=.seq (Wc k.toNat af).flatten.toArray } } :=
   I.laid (t':=s.toks) (λb o e=>W6 _ e) (Wf _) (show bz X.prog X.w _ _ _ (.tup (Wc k.toNat xs).flatten) from⟨by rw[uh,JR]; exact hz,(Wc k.toNat af).flatten,r.rep k.toNat,gx.new _ _⟩)
  exact⟨.ref _,_,I1,rfl,q _ (I.ah.fresh (Wf _))⟩
def B0:R2:=λx y H Q=>∃ z k,x = .str z/\y = .int k/\2<=k/\k<=1000000/\0 < z.length/\z.length * k.toNat<=Wb/\Q (.str ⟨(Wc k.toNat z.cps).foldl (· ++ ·) #[]⟩) H
theorem Lr:bD X (Qe .Mult) B0:=by
 intro pins s σ H x y v u Q I rx ry h;obtain⟨z,k,rfl,rfl,h1,h2,h0,hz,q⟩:=h;obtain⟨t,rfl⟩:=rx;obtain⟨t',rfl⟩:=ry;have fH:Wb=16777216:=rfl;have c1:¬ k < 1:=by omega
 have c2:(k == 1 || z.length == 0)=false:=by
  simp;omega
 refine PySem.P.mul_str (by simp; omega) (λ_ _=>?_) (λ_ _=>?_) ?_
 ·have hm:(z.length:Int) * k<=16777216:=by
   have:(z.length:Int) * k=((z.length * k.toNat:Nat):Int):=by rw[Int.natCast_mul,show(k.toNat:Int)=k by omega]
   rw[this];rw[fH] at hz;omega
  have:(z.length:Int)<=(2 ^ 63 - 1) / k:=(Int.le_ediv_iff_mul_le (by omega)).mpr (by omega);omega
 ·unfold Builtin.Str.tooLong;rw[fH] at hz;generalize z.length * k.toNat=m at hz;simp only[fH,decide_eq_false_iff_not];omega
 ·rw[if_neg c1,if_neg (by rw[c2]; simp)];have hsz:((Wc k.toNat z.cps).foldl (· ++ ·) #[]).size=k.toNat * z.length:=by
   have h:=vn z.cps.toList k.toNat [];simp only[J9,Array.toArray_toList] at h;rw[h,Wp,uh];simp[Str.length]
  exact⟨by show((Wc k.toNat z.cps).foldl (· ++ ·) #[]).size<=_; rw[hsz,JR]; exact hz,.str _,H,I.tok _,⟨_,rfl⟩,q⟩
end
end L2
namespace DV
open PySem PySem.Spec PyProof.Rows L2
def dX:D->D->Option S
 | .int i,.int j=>oG (.int i) (.int j)
 | .str x,.int k=>if 2<=k/\k<=1000000/\0 < x.length/\x.length * k.toNat<=Wb then some (.pure (.str (Wc k.toNat x).flatten)) else none
 | .tup xs,.int k=>if 2<=k/\k<=1000000/\0 < xs.length/\xs.length * k.toNat<=Wb then some (.pure (.tup (Wc k.toNat xs).flatten)) else none
 | _,_=>none
def B3(K:W2):R2:=λx y H Q=>rI oq (λi j=>V.int (i * j)) x y H Q\/B0 x y H Q\/BY K x y H Q
theorem pf:bD X (Qe .Mult) (B3 X.K):=Gj.or (Lr.or Lq)
theorem aA.rep(h:aA H O vs ds):∀ k:Nat,aA H O (Wc k vs).flatten (Wc k ds).flatten
 | 0=>.nil
 | k + 1=>by rw[WZ,WZ,QL,QL]; exact h.append (aA.rep h k)
theorem pj{K:W2}:cF (B3 K) dX:=by
 intro c σ δ H x y d e s Q k rx ry hp q
 cases d <;> cases e <;> first | (simp[dX] at hp; done) | skip
 ·exact .inl (Kc c σ δ H x y _ _ s Q k rx ry hp q)
 ·rename_i z n;simp only[dX] at hp;split at hp
  ·rename_i h
   cases hp;refine .inr (.inl ⟨toS z,n,rx.str,ry.int,h.1,h.2.1,by rw[jd]; exact h.2.2.1,by rw[jd]; exact h.2.2.2,?_⟩);have e:(⟨(Wc n.toNat (toS z).cps).foldl (· ++ ·) #[]⟩:Str)=toS (Wc n.toNat z).flatten:=by
    unfold toS;congr 1
    have:=vn z n.toNat [];rw[J9] at this;exact this
   rw[e];exact q _ H (.refl k) (.str _)
  ·cases hp
 ·rename_i ds n;simp only[dX] at hp;split at hp
  ·rename_i h
   cases hp;obtain⟨a,vs,ex,ha,r⟩:=rx.tup;refine .inr (.inr ⟨a,n,vs,ex,ry.int,.of ha,?_,h.1,h.2.1,by rw[r.1]; exact h.2.2.2,λp B4=>?_⟩)
   ·intro z;rw[z] at r;have:=r.1;simp at this;omega
   ·exact q _ _ (.alloc k B4 _) (aZ.mX k (aA.rep r _) B4)
  ·cases hp
section
variable {X:Cx} {c:Fc} {e a x y:Expr} {fb:BE} {f g fa:DE} {pos pp p p2:Pos}
def Ls(neg:Bool)(fa f g:DE):DE:=λδ=>(fa δ).bind λv δ1=>(f δ1).bind λlo δ2=>(g δ2).bind λhi δ3=>match v.d,lo.d,hi.d with
 | .int i,.int l,.int h=>.ok (.pure (.bl (if neg then !(decide (l<=i) && decide (i < h)) else(decide (l<=i) && decide (i < h))))) δ3
 | _,_,_=>.stuck
end
end DV
set_option maxHeartbeats 1000000
namespace L2
open PySem PySem.Spec PyProof.Rows
theorem B5:entryFor table "dict.update.loop" = some Builtin.«dict.update.loop»:=entryFor_of_tree (by kernel_rfl)
theorem pk:plainId "dict.update.loop" = true:=by decide +kernel
theorem Lu:typeLookup (.type "tuple") "keys" = pure none:=by rw[typeLookup_type,builtinLookup_eq_fast]; kernel_rfl
theorem Lv:typeLookup (.type "list") "keys" = pure none:=by rw[typeLookup_type,builtinLookup_eq_fast]; kernel_rfl
set_option maxRecDepth 8000 in
theorem Lw
  (hx:s.heap.get? a=some o) (hc:o.cls = .type "tuple") (ll:o.data = .seq xs k) (hd:o.dict=none) (hA:A.handled=none)
  (h:∀ h' tk,(∀ b ob,s.heap.get? b=some ob->h'.get? b=some ob)->Q none { s with heap:=h',toks:=tk }) :
  W4 (model prog w) A (getAttr? (.ref a) "keys") Q E s:=by
 obtain⟨c,ba,dat,sl⟩:=o;simp only at hc ll hd;subst hc ll hd;obtain⟨hp,g,d,tk,os⟩:=s;have hT:∀ pq,(⟨hp,g,d,pq,os⟩:W1).TypeIs (.ref a) "tuple":=λ_=>⟨_,hx,rfl⟩
 have f1:=sub_AttributeError;have f3:=F.slot_tuple_getattribute.lookup;have f4:=F.slot_tuple_getattribute.bind (.ref a);have f5:=am_tuple_getattr_none;have vo:=Lu;unfold getAttr? getAttrBy? getAttrBy;repeat (any_goals (first | assumption | exact hT _ | ((with_reducible show W4 _ _ (call (Value.builtin "tuple.__getattribute__") _ _) _ _ _); refine JD F.slot_tuple_getattribute (hT _) am_entry_tuple_getattribute (F.args_tuple_getattribute_2 _ _) (meets_getattribute_miss_tuple a xs k sl "keys" _ vo (by decide +kernel)) ⟨hx,hA,λh' pq e px=>?_⟩) | wp_step))
 obtain⟨t',u',he⟩:=px.there;show W4 _ _ (Jx _ _ _ _ _ _ _) _ _ _;unfold Jx;repeat (any_goals (first | assumption | wp_step))
 exact h _ _ px.keeps
set_option maxRecDepth 8000 in
theorem Lx
  (hx:s.heap.get? a=some o) (hc:o.cls = .type "list") (ll:o.data = .seq xs k) (hd:o.dict=none) (hA:A.handled=none)
  (h:∀ h' tk,(∀ b ob,s.heap.get? b=some ob->h'.get? b=some ob)->Q none { s with heap:=h',toks:=tk }) :
  W4 (model prog w) A (getAttr? (.ref a) "keys") Q E s:=by
 obtain⟨c,ba,dat,sl⟩:=o;simp only at hc ll hd;subst hc ll hd;obtain⟨hp,g,d,tk,os⟩:=s;have hT:∀ pq,(⟨hp,g,d,pq,os⟩:W1).TypeIs (.ref a) "list":=λ_=>⟨_,hx,rfl⟩
 have f1:=sub_AttributeError;have f3:=F.slot_list_getattribute.lookup;have f4:=F.slot_list_getattribute.bind (.ref a);have f5:=am_list_getattr_none;have vo:=Lv;unfold getAttr? getAttrBy? getAttrBy;repeat (any_goals (first | assumption | exact hT _ | ((with_reducible show W4 _ _ (call (Value.builtin "list.__getattribute__") _ _) _ _ _); refine JD F.slot_list_getattribute (hT _) am_entry_list_getattribute (F.args_list_getattribute_2 _ _) (meets_getattribute_miss_list a xs k sl "keys" _ vo (by decide +kernel)) ⟨hx,hA,λh' pq e px=>?_⟩) | wp_step))
 obtain⟨t',u',he⟩:=px.there;show W4 _ _ (Jx _ _ _ _ _ _ _) _ _ _;unfold Jx;repeat (any_goals (first | assumption | wp_step))
 exact h _ _ px.keeps
def fz(kps:List (Key×V))(acc:List (Key×V)):List (Key×V):=kps.foldl (λa kv=>putK a kv.1 kv.2) acc
theorem Ly{prog:Wg}{w:Wh}{A:Wl}{R:Result->W1->Prop}{s:W1}{dl it:Addr}{i:Int}{t0:Tok}
  (hn:W4 (model prog w) A.in1 (Qv (.ref it)) (λr s1=>∃ (q:Addr) (k v:Value) (n:Nat),r=some (.ref q)/\s1.heap.get? q=some { cls:=.type "tuple",dict:=none,data:=.seq #[k,v] n,slots:=#[] } /\
   W4 (model prog w) A.in1 (dictSet dl k v) (λ_ s2=>Qq (model prog w) A (.builtin "dict.update.loop" ⟨[.ref dl,.ref it,WR (i + 1),.none],[]⟩) R s2) (λ_ _=>False) s1) (λ_ _=>False) s) :
  Qq (model prog w) A (.builtin "dict.update.loop" ⟨[.ref dl,.ref it,.int i t0,.none],[]⟩) R s:=by
 refine Jq B5 ?_;rw[Around.under_plainId pk _];show W4 _ A.in1 (Qv (.ref it) >>= _) _ _ s;refine W0 (WQ hn (λr s1 hr=>?_) λ_ _ z=>z.elim);obtain⟨q,k,v,n,rfl,hq,hd⟩:=hr;dsimp only;refine W0 ?_;try with_reducible refine WK ?_
 refine W0 (wpAny_tryCatch ?_);have hT:s1.TypeIs (.ref q) "tuple":=⟨_,hq,rfl⟩
 unfold Builtin.Dict.pairItems;refine W0 (Jf hT ?_);rw[if_pos (by decide)];refine W0 ?_;unfold seqItems?;refine W0 (wpAny_load hq (W3 ?_));refine W3 ?_;show W4 _ A.in1 (holding [k,v] (dictSet dl k v)) _ _ s1;try with_reducible refine WK ?_
 refine WQ hd (λ_ s2 h2=>?_) λ_ _ z=>z.elim
 exact W3 ⟨plainId_quiet pk _,h2⟩
theorem Lz{prog:Wg}{w:Wh}{A:Wl}{R:Result->W1->Prop}{s:W1}{dl it:Addr}{i:Int}{t0:Tok}
  (hn:W4 (model prog w) A.in1 (Qv (.ref it)) (λr s1=>r=none/\R (.ok (.ret .none)) s1) (λ_ _=>False) s) :
  Qq (model prog w) A (.builtin "dict.update.loop" ⟨[.ref dl,.ref it,.int i t0,.none],[]⟩) R s:=by
 refine Jq B5 ?_;rw[Around.under_plainId pk _];show W4 _ A.in1 (Qv (.ref it) >>= _) _ _ s;refine W0 (WQ hn (λr s1 hr=>?_) λ_ _ z=>z.elim);obtain⟨rfl,hd⟩:=hr;dsimp only;show W4 _ A.in1 (Builtin.Dict.addKeywords dl [] >>= _) _ _ s1;exact W0 (W3 (W3 hd))
section
variable {X:Cx} {pins:List (Addr×Obj)} {σ:St} {H:Hp}
theorem Rd.sub(h:Rd H a u)(k:∀ b o,H b=some o->H' b=some o):Rd H' a u:=by
 rcases h with h | ⟨o,h⟩
 ·exact .inl (k _ _ h)
 ·exact .inr ⟨o,k _ _ h⟩
def si(H:Hp)(ys:List V)(kps:List (Key×V)):Prop:=ys.length=kps.length/\∀ (i:Nat) y kv,ys[i]? = some y->kps[i]? = some kv->∃ q,y = .ref q/\H q=some (.tup [kV kv.1,kv.2])
theorem B6:∀ (kps acc:List (Key×V)),(fz kps acc).length<=acc.length + kps.length
 | [],acc=>Wf _
 | kv :: r,acc=>by
  have h1:=B6 r (putK acc kv.1 kv.2);have h2:=z7 acc kv.1 kv.2;show(fz r (putK acc kv.1 kv.2)).length<=_;simp only[Q7];omega
theorem LA(kps:List (Key×V))(kv:Key×V)(acc:List (Key×V)):fz (kps ++ [kv]) acc=putK (fz kps acc) kv.1 kv.2:=by
 unfold fz;rw[List.foldl_append];rfl
theorem B7{A:Wl}{R:Result->W1->Prop}{dl it:Addr}{ys:List V}{kps:List (Key×V)}{tn:Nat->Heap->Prop}(hP:si H ys kps)(iL:H dl=none)(hz:kps.length<=Wb)
  (item:∀ (i:Nat) (y:V) (H':Hp) (s:W1) (Q:Option Value->W1->Prop),(∀ b o,H b=some o->H' b=some o)->H' it=none->Inv X pins σ H' s->tn i s.heap->ys[i]? = some y->(∀ u s',RelV y u->Inv X pins σ H' s'->tn (i + 1) s'.heap->Q (some u) s')->W4 (model X.prog X.w) A.in1 (Qv (.ref it)) Q (λ_ _=>False) s)
  (done:∀ (H':Hp) (s:W1) (Q:Option Value->W1->Prop),(∀ b o,H b=some o->H' b=some o)->H' it=none->Inv X pins σ H' s->tn ys.length s.heap->(∀ s',Inv X pins σ H' s'->Q none s')->W4 (model X.prog X.w) A.in1 (Qv (.ref it)) Q (λ_ _=>False) s)
  (keep:∀ (i:Nat) (h h':Heap),tn i h->(∀ o,h.get? it=some o->h'.get? it=some o)->tn i h') (hit:H it=none) (c_:it≠dl) (hR:∀ s',Inv X pins σ (upd H dl (.dK (fz kps []))) s'->R (.ok (.ret .none)) s') :
  ∀ (k i:Nat) (s:W1) (j:Int) (t0:Tok),ys.length - i=k->i<=ys.length->Inv X pins σ (upd H dl (.dK (fz (kps.take i) []))) s->tn i s.heap ->
   Qq (model X.prog X.w) A (.builtin "dict.update.loop" ⟨[.ref dl,.ref it,.int j t0,.none],[]⟩) R s:=by
 have up:∀ (acc:List (Key×V)) b o,H b=some o->upd H dl (.dK acc) b=some o:=λacc b o e=>by rw[aV (fD e iL)]; exact e
 have kE:∀ acc:List (Key×V),upd H dl (.dK acc) it=none:=λacc=>by rw[aV c_]; exact hit
 intro k;induction k with
 | zero =>
  intro i s j t0 hk hi I st;have e:i=ys.length:=by omega
  subst e;rw[hP.1,List.take_of_length_le (Wf _)] at I;refine Lz (done _ s _ (up _) (kE _) I st λs' I'=>⟨rfl,hR s' I'⟩)
 | succ k ih =>
  intro i s j t0 hk hi I st;have aY:i < ys.length:=by omega
  have lq:i < kps.length:=by rw[<- hP.1]; exact aY
  obtain⟨q,ey,hq⟩:=hP.2 i ys[i] kps[i] (by simp[aY]) (by simp[lq]);-- the item is a tuple of two
  have main:∀ s1,Inv X pins σ (upd H dl (.dK (fz (kps.take i) []))) s1->tn (i + 1) s1.heap->∃ (kk vv:Value) (n:Nat),s1.heap.get? q=some { cls:=.type "tuple",dict:=none,data:=.seq #[kk,vv] n,slots:=#[] }/\RelV (kV kps[i].1) kk/\RelV kps[i].2 vv:=λs1 I1 _=>by
   obtain⟨_,af,r,n,e⟩:=(show bz X.prog X.w _ s1.heap q (.tup [kV kps[i].1,kps[i].2]) from I1.ah q _ (up _ q _ hq))
   obtain⟨u,v,rfl,r1,r2⟩:=Vals.two r;exact⟨u,v,n,e,r1,r2⟩
  refine Ly (item i ys[i] _ s _ (up _) (kE _) I st (by simp[aY]) λu s' ru I' fG=>?_);rw[ey] at ru
  cases ru;obtain⟨kk,vv,n,e,r1,r2⟩:=main s' I' fG;refine⟨q,kk,vv,n,rfl,e,?_⟩;obtain⟨z,hd,vs,rel,dd⟩:=z_ I'.ah cq;have j5:vs.length<=Wb:=by rw[<- rel.length]; exact z
  have hl:(putK (fz (kps.take i) []) kps[i].1 kps[i].2).length<=Wb:=by
   have h1:=z7 (fz (kps.take i) []) kps[i].1 kps[i].2;have h2:=B6 (kps.take i) [];simp at h2;omega
  refine wpAny_dictSet_pairs (hsz:=j5) (kO r1) dd λh' B8 hs=>?_
  have he:∃ q,h'.get? dl=some q:=let ⟨q,_,_,hq,_⟩:=B8; ⟨q,hq⟩
  have I2:=Aa (t':=s'.toks + 1) I' (by rw[cq]; exact True.intro) hs he (Hy hl hd (rel.put kps[i].1 r2) B8);rw[E7] at I2;have et:kps.take (i + 1)=kps.take i ++ [kps[i]]:=by rw[List.take_add_one]; simp[lq]
  rw[show putK (fz (kps.take i) []) kps[i].1 kps[i].2=fz (kps.take (i + 1)) [] by rw[et,LA]] at I2;exact ih (i + 1) _ (j + 1) _ (by omega) aY I2 (keep (i + 1) _ _ fG λo eo=>(hs.2 it c_).trans eo)
theorem LB (hc:X.calm=true):eS X (.type "dict") (λxs H Q=>∃ p ys kps,xs=[.ref p]/\(H p=some (.tup ys)\/Rd H p (.lst ys))/\si H ys kps/\kps.length<=Wb/\∀ l,H l=none->Q (.ref l) (upd H l (.dK (fz kps [])))):=by
 intro pins s σ H xs us Q I r h;obtain⟨p,ys,kps,rfl,hp,hP,hz,q⟩:=h;obtain⟨u,rfl,rx⟩:=i6 r
 cases rx;have hA:X.A.handled=none:=I.ok.hd hc;refine callType_codes (Q₁:=λobj s₁=>obj = .ref s.heap.objs.size/\s₁ = { s with heap:=s.heap.push { cls:=.type "dict",data:=.dict #[] } }) F.kt_called_dict (F.kt_typeCall_dict_1 _) F.entry_dict_init (kt_code_dict_new _ ⟨rfl,rfl⟩) ?_;rintro obj s₁ ⟨rfl,rfl⟩;have iL:H s.heap.objs.size=none:=I.ah.fresh (Wf _);have I1:Inv X pins σ (upd H s.heap.objs.size (.dK [])) { s with heap:=s.heap.push { cls:=.type "dict",data:=.dict #[] } }:=I.laid (t':=s.toks) (λ_ _ q=>W6 _ q) (Wf _) (HA s.heap I.big);generalize je:s.heap.objs.size=dl at iL I1;have up:∀ (acc:List (Key×V)) b o,H b=some o->upd H dl (.dK acc) b=some o:=λacc b o e=>by rw[aV (fD e iL)]; exact e
 have B9:({ s with heap:=s.heap.push { cls:=.type "dict",data:=.dict #[] } }:W1).TypeIs (.ref dl) "dict":=⟨_,by rw[<- je]; exact Wn _ rfl,rfl⟩
 refine⟨B9,F.args_dict_init_2 _ _,?_⟩;unfold Builtin.«dict.__init__»;refine W0 ?_;unfold Builtin.Dict.selfAndRest;refine W0 (wpAny_notOrdered_dict B9 ?_);show W4 _ _ (pure (dl,[Value.ref p])) _ _ _;refine W3 ?_;show W4 _ _ (Builtin.Dict.updateFrom "dict.__init__" dl (.ref p) [] .none) _ _ _;unfold Builtin.Dict.updateFrom;have fin:∀ s',Inv X pins σ (upd H dl (.dK (fz kps []))) s'->EP X pins σ Q (.ref dl) s':=λs' I'=>⟨.ref dl,_,I',rfl,q dl iL⟩
 rcases hp with hp | hp
 ·obtain⟨_,af,r,n,e⟩:=(show bz X.prog X.w _ (s.heap.push { cls:=.type "dict",data:=.dict #[] }) p (.tup ys) from I1.ah p _ (up _ p _ hp))
  refine W0 (Jf ⟨_,e,rfl⟩ ?_);rw[if_pos (by decide)];refine W0 (Lw e rfl rfl rfl hA λh' tk kp=>?_);rw[if_pos (show(none:Option Value).isNone=true from rfl)];refine W0 (J4 ?_);have I2:Inv X pins σ (upd H dl (.dK [])) { s with heap:=h',toks:=tk }:=I1.kept kp;have vp:h'.IsTuple p af.toArray:=⟨_,kp _ _ e,rfl,n,rfl⟩
  refine W0 (J5 (s:={ s with heap:=h',toks:=tk }) vp ?_);refine W3 ⟨plainId_quiet pk _,?_⟩;have dS:upd H dl (.dK []) h'.objs.size=none:=I2.ah.fresh (Wf _);have c_:h'.objs.size≠dl:=λz=>by rw[z,cq] at dS; cases dS
  have hit:H h'.objs.size=none:=by rw[aV c_] at dS; exact dS
  have fp:∀ H':Hp,H' h'.objs.size=none->fF X pins H' h'.objs.size:=λH' hn=>I2.iA (Wf _) hn
  refine B7 (X:=X) (pins:=pins) (σ:=σ) (H:=H) (dl:=dl) (it:=h'.objs.size) (ys:=ys) (kps:=kps) (tn:=λi h=>h.IsTupleIter h'.objs.size p i) hP iL hz ?_ ?_ (λi h h2 st k=>st.at k) hit c_ (λs' I'=>⟨rfl,fin s' I'⟩) ys.length 0 _ 0 _ (Nat.sub_zero _) (Ql _) ?_ ?_
  ·intro i y H' s' Q' sub hn I' st hy k;obtain⟨_,its2,r2,n2,e2⟩:=(show bz X.prog X.w _ s'.heap p (.tup ys) from I'.ah p _ (sub p _ hp))
   obtain⟨v,hv,rv⟩:=r2.get hy;obtain⟨f0,f1,f2,f3,f4,f5⟩:=fp H' hn;refine wpAny_pyNext_tuple_item st (items:=its2.toArray) ⟨_,e2,rfl,n2,rfl⟩ (x:=v) (by simpa using hv) λh3 kH sb=>?_
   exact k v { s' with heap:=h3 } rv (I'.turned (t':=s'.toks) (λb o hb e=>(sb.2 b hb).trans e) f0 f1 f3 f4 f5) kH
  ·intro H' s' Q' sub hn I' st k;obtain⟨_,its2,r2,n2,e2⟩:=(show bz X.prog X.w _ s'.heap p (.tup ys) from I'.ah p _ (sub p _ hp))
   obtain⟨f0,f1,f2,f3,f4,f5⟩:=fp H' hn;have m_:=r2.length;exact wpAny_pyNext_tuple_end (show X.A.in1.in1.handled=none from hA) st (items:=its2.toArray) ⟨_,e2,rfl,n2,rfl⟩ (by simp; omega) λh3 eb=>k { s' with heap:=h3 } (I'.turned (t':=s'.toks) (λb o hb e=>eb b o hb e) f0 f1 f3 f4 f5)
  ·exact I2.kept (t':=tk) λb o e=>W6 _ e
  ·exact⟨_,Wn _ rfl,rfl,rfl⟩
 ·obtain⟨_,af,n,r,e⟩:=(show bz X.prog X.w _ (s.heap.push { cls:=.type "dict",data:=.dict #[] }) p (.lst ys) from(Rd.sub hp (up _)).ok I1.ah)
  refine W0 (Jf ⟨_,e,rfl⟩ ?_);rw[if_pos (by decide)];refine W0 (Lx e rfl rfl rfl hA λh' tk kp=>?_);rw[if_pos (show(none:Option Value).isNone=true from rfl)];refine W0 (J4 ?_);have I2:Inv X pins σ (upd H dl (.dK [])) { s with heap:=h',toks:=tk }:=I1.kept kp;have vp:h'.IsList p af.toArray:=⟨_,kp _ _ e,rfl,n,rfl⟩
  refine W0 (wpAny_pyIter_list (s:={ s with heap:=h',toks:=tk }) vp ?_);refine W3 ⟨plainId_quiet pk _,?_⟩;have dS:upd H dl (.dK []) h'.objs.size=none:=I2.ah.fresh (Wf _);have c_:h'.objs.size≠dl:=λz=>by rw[z,cq] at dS; cases dS
  have hit:H h'.objs.size=none:=by rw[aV c_] at dS; exact dS
  have fp:∀ H':Hp,H' h'.objs.size=none->fF X pins H' h'.objs.size:=λH' hn=>I2.iA (Wf _) hn
  refine B7 (X:=X) (pins:=pins) (σ:=σ) (H:=H) (dl:=dl) (it:=h'.objs.size) (ys:=ys) (kps:=kps) (tn:=λi h=>h.IsListIter h'.objs.size p i) hP iL hz ?_ ?_ (λi h h2 st k=>st.at k) hit c_ (λs' I'=>⟨rfl,fin s' I'⟩) ys.length 0 _ 0 _ (Nat.sub_zero _) (Ql _) ?_ ?_
  ·intro i y H' s' Q' sub hn I' st hy k;obtain⟨_,its2,n2,r2,e2⟩:=(show bz X.prog X.w _ s'.heap p (.lst ys) from(Rd.sub hp sub).ok I'.ah)
   obtain⟨v,hv,rv⟩:=r2.get hy;obtain⟨f0,f1,f2,f3,f4,f5⟩:=fp H' hn;refine wpAny_pyNext_list_item st (items:=its2.toArray) ⟨_,e2,rfl,n2,rfl⟩ (x:=v) (by simpa using hv) λh3 kH sb=>?_
   exact k v { s' with heap:=h3 } rv (I'.turned (t':=s'.toks) (λb o hb e=>(sb.2 b hb).trans e) f0 f1 f3 f4 f5) kH
  ·intro H' s' Q' sub hn I' st k;obtain⟨_,its2,n2,r2,e2⟩:=(show bz X.prog X.w _ s'.heap p (.lst ys) from(Rd.sub hp sub).ok I'.ah)
   obtain⟨f0,f1,f2,f3,f4,f5⟩:=fp H' hn;have m_:=r2.length;exact wpAny_pyNext_list_end (show X.A.in1.in1.handled=none from hA) st (items:=its2.toArray) ⟨_,e2,rfl,n2,rfl⟩ (by simp; omega) λh3 eb=>k { s' with heap:=h3 } (I'.turned (t':=s'.toks) (λb o hb e=>eb b o hb e) f0 f1 f3 f4 f5)
  ·exact I2.kept (t':=tk) λb o e=>W6 _ e
  ·exact⟨_,Wn _ rfl,rfl,rfl⟩
end
end L2
set_option maxHeartbeats 400000
namespace DV
open PySem PySem.Spec PyProof.Rows L2
def dh(aa:List (bI×D))(k:bI):Option D:=(aa.find? λkv=>decide (kv.1=k)).map (·.2)
def putD(aa:List (bI×D))(k:bI)(v:D):List (bI×D) :=
 if (aa.any λkv=>decide (kv.1=k))=true then aa.map (λkv=>if kv.1=k then(kv.1,v) else kv) else aa ++ [(k,v)]
def mr(kps acc:List (bI×D)):List (bI×D):=kps.foldl (λa kv=>putD a kv.1 kv.2) acc
theorem LC(h:dq k=dq j):k=j:=by
 cases k <;> cases j <;> simp[dq] at h
 ·rw[h]
 ·rw[uC h]
def DR(H:Hp)(O:Addr->Prop):List (Key×V)->List (bI×D)->Prop
 | [],[]=>True
 | p :: ws,q :: ds=>p.1=dq q.1/\Rep H O p.2 q.2/\DR H O ws ds
 | _,_=>False
section
variable {H H':Hp} {O O':Addr->Prop}
theorem DR.of:∀ {ws:List (Key×V)} {ds:List (bI×D)},ws.map (·.1)=ds.map (λp=>dq p.1)->(∀ (i:Nat) p q,ws[i]? = some p->ds[i]? = some q->Rep H O p.2 q.2)->DR H O ws ds
 | [],[],_,_=>trivial
 | [],_ :: _,h,_=>by simp at h
 | _ :: _,[],h,_=>by simp at h
 | p :: ws,q :: ds,h,k=>by
  simp only[Wk,List.cons.injEq] at h;exact⟨h.1,k 0 p q rfl rfl,DR.of h.2 λi p' q' e1 e2=>k (i + 1) p' q' (by simpa using e1) (by simpa using e2)⟩
theorem DR.keys:∀ {ws:List (Key×V)} {ds:List (bI×D)},DR H O ws ds->ws.map (·.1)=ds.map (λp=>dq p.1)
 | [],[],_=>rfl
 | [],_ :: _,h=>h.elim
 | _ :: _,[],h=>h.elim
 | p :: ws,q :: ds,h=>by simp only[Wk,h.1,DR.keys h.2.2]
theorem DR.vals:∀ {ws:List (Key×V)} {ds:List (bI×D)},DR H O ws ds->∀ (i:Nat) p q,ws[i]? = some p->ds[i]? = some q->Rep H O p.2 q.2
 | [],[],_,i,p,q,e,_=>by simp at e
 | [],_ :: _,h,_,_,_,_,_=>h.elim
 | _ :: _,[],h,_,_,_,_,_=>h.elim
 | p :: ws,q :: ds,h,i,p',q',e1,e2=>by
  cases i with
  | zero=>simp at e1 e2; subst e1 e2; exact h.2.1
  | succ i=>exact DR.vals h.2.2 i p' q' (by simpa using e1) (by simpa using e2)
theorem DR.map:∀ {ws:List (Key×V)} {ds:List (bI×D)},DR H O ws ds->(∀ v d,Rep H O v d->Rep H' O' v d)->DR H' O' ws ds
 | [],[],_,_=>trivial
 | [],_ :: _,h,_=>h.elim
 | _ :: _,[],h,_=>h.elim
 | p :: ws,q :: ds,h,k=>⟨h.1,k _ _ h.2.1,DR.map h.2.2 k⟩
theorem mv(h:p=dq q):(p=dq k) ↔ q=k:=⟨λe=>LC (by rw[<- h]; exact e),λe=>by rw[h,e]⟩
theorem DR.any:∀ {ws:List (Key×V)} {ds:List (bI×D)} (k:bI),DR H O ws ds->(ws.any λkv=>decide (kv.1=dq k))=ds.any λkv=>decide (kv.1=k)
 | [],[],_,_=>rfl
 | [],_ :: _,_,h=>h.elim
 | _ :: _,[],_,h=>h.elim
 | p :: ws,q :: ds,k,h=>by
  rw[Q8,Q8,DR.any k h.2.2];congr 1
  exact decide_eq_decide.mpr (mv h.1)
theorem DR.val:∀ {ws:List (Key×V)} {ds:List (bI×D)} (k:bI),DR H O ws ds->(dh ds k=none/\fI ws (dq k)=none)\/∃ v d,dh ds k=some d/\fI ws (dq k)=some v/\Rep H O v d
 | [],[],_,_=>.inl ⟨rfl,rfl⟩
 | [],_ :: _,_,h=>h.elim
 | _ :: _,[],_,h=>h.elim
 | p :: ws,q :: ds,k,h=>by
  by_cases e:q.1=k
  ·have e':=(mv h.1).mpr e;exact .inr ⟨p.2,q.2,by simp[dh,WT,e],ui e',h.2.1⟩
  ·have e':¬ p.1=dq k:=λz=>e ((mv h.1).mp z)
   have ev:dh (q :: ds) k=dh ds k:=by simp[dh,WT,e]
   rw[ev,uj e'];exact DR.val k h.2.2
theorem DR.append:∀ {ws B_:List (Key×V)} {ds dC:List (bI×D)},DR H O ws ds->DR H O B_ dC->DR H O (ws ++ B_) (ds ++ dC)
 | [],_,[],_,_,h'=>h'
 | [],_,_ :: _,_,h,_=>h.elim
 | _ :: _,_,[],_,h,_=>h.elim
 | p :: ws,_,q :: ds,_,h,h'=>⟨h.1,h.2.1,DR.append h.2.2 h'⟩
theorem DR.store:∀ {ws:List (Key×V)} {ds:List (bI×D)} {k:bI} {v:V} {d:D},DR H O ws ds->Rep H O v d->DR H O (ws.map λkv=>if kv.1=dq k then(kv.1,v) else kv) (ds.map λkv=>if kv.1=k then(kv.1,d) else kv)
 | [],[],_,_,_,_,_=>trivial
 | [],_ :: _,_,_,_,h,_=>h.elim
 | _ :: _,[],_,_,_,h,_=>h.elim
 | p :: ws,q :: ds,k,v,d,h,r=>by
  refine⟨?_,?_,DR.store h.2.2 r⟩
  ·by_cases e:q.1=k
   ·dsimp only; rw[if_pos ((mv h.1).mpr e),if_pos e]; exact h.1
   ·dsimp only; rw[if_neg λz=>e ((mv h.1).mp z),if_neg e]; exact h.1
  ·by_cases e:q.1=k
   ·dsimp only; rw[if_pos ((mv h.1).mpr e),if_pos e]; exact r
   ·dsimp only; rw[if_neg λz=>e ((mv h.1).mp z),if_neg e]; exact h.2.1
theorem DR.put(h:DR H O ws ds)(r:Rep H O v d):DR H O (putK ws (dq k) v) (putD ds k d):=by
 unfold putK putD;rw[DR.any k h];split
 ·exact DR.store h r
 ·exact DR.append h ⟨rfl,r,trivial⟩
theorem DR.vq:∀ {kps:List (Key×V)} {sj:List (bI×D)} {ws:List (Key×V)} {ds:List (bI×D)},DR H O kps sj->DR H O ws ds->DR H O (fz kps ws) (mr sj ds)
 | [],[],_,_,_,h=>h
 | [],_ :: _,_,_,h,_=>h.elim
 | _ :: _,[],_,_,h,_=>h.elim
 | p :: kps,q :: sj,ws,ds,h,h'=>by
  show DR H O (fz kps (putK ws p.1 p.2)) (mr sj (putD ds q.1 q.2));rw[h.1];exact DR.vq h.2.2 (DR.put h' h.2.1)
end
def dY:D->Option bI
 | .int i=>some (.inl i)
 | .str x=>some (.inr x)
 | _=>none
theorem Ca(h:dY d=some k)(r:Rep H O v d):v=kV (dq k):=by
 cases d <;> simp[dY] at h <;> subst h <;> cases r <;> rfl
theorem sk(h:dY d=some k)(r:cg c σ δ H v d):v=kV (dq k):=by
 rcases r with r | ⟨a,rfl,r⟩
 ·exact Ca h r
 ·cases d <;> simp[dY] at h <;> exact r.elim
def hV:List D->Option (List (bI×D))
 | []=>some []
 | .tup [k,v] :: r=>match dY k,hV r with
  | some k',some r'=>some ((k',v) :: r')
  | _,_=>none
 | _ :: _=>none
def gN:D->Option S
 | .lst ds=>(hV ds).bind λps=>if ps.length<=Wb then some (.own (.ba (mr ps []))) else none
 | .tup ds=>(hV ds).bind λps=>if ps.length<=Wb then some (.own (.ba (mr ps []))) else none
 | _=>none
theorem vt:∀ {ds:List D} {vs:List V} {ps:List (bI×D)},hV ds=some ps->aA H O vs ds->∃ kps,si H vs kps/\DR H O kps ps/\kps.length=ps.length
 | [],[],ps,h,_=>by
  simp[hV] at h;subst h;exact⟨[],⟨rfl,λi y kv e=>by simp at e⟩,trivial,rfl⟩
 | [],_ :: _,_,_,r=>by have:=r.1; simp at this
 | _ :: _,[],_,_,r=>by have:=r.1; simp at this
 | d :: ds,v :: vs,ps,h,r=>by
  unfold hV at h;split at h
  ·rename_i heq; cases heq
  ·rename_i k w r' heq
   cases heq;split at h
   ·rename_i k' r'' hk hr
    cases h;obtain⟨kps,hP,hD,hL⟩:=vt hr r.tail;have rp:=r.head
    cases rp with
    | tup h1 h2 h3 h4 =>
     rename_i a us;match us,h3,h4,h2 with
     | [x,y],_,h4,h2 =>
      have rk:=h4 0 x k rfl rfl;have rv:=h4 1 y w rfl rfl;have ek:=Ca hk rk;subst ek;refine⟨(dq k',y) :: kps,⟨by simp[hP.1],λi z kv e1 e2=>?_⟩,⟨rfl,rv,hD⟩,by simp[hL]⟩
      cases i with
      | zero=>simp at e1 e2; subst e1 e2; exact⟨a,rfl,h2⟩
      | succ i=>exact hP.2 i z kv (by simpa using e1) (by simpa using e2)
   ·cases h
  ·cases h
theorem aZ.Cb(k:Ok c σ δ H)(hp:H p=none)(r:DR H (Av c σ δ) ws ds):aZ c σ δ H (upd H p (.dK ws)) (.ref p) (.own (.ba ds)):=by
 have up:∀ a w,H a=some w->upd H p (.dK ws) a=some w:=λa w e=>by rw[aV (fD e hp)]; exact e
 have r1:DR (upd H p (.dK ws)) (Av (c.plus p) σ δ) ws ds:=r.map λv d h=>(h.aW λb z=>by
  rcases z with (z | z) | z
  ·exact .inl (.inl z)
  ·exact .inr (by rw[z]; exact hp)
  ·exact .inl (.inr z)).keep λb w e _=>up b w e
 exact⟨p,rfl,⟨ws,cq,r1.keys,r1.vals⟩,λz=>k.g7 hp (.inl z),k.jO hp,k.plus hp _,hp⟩
section
variable {X:Cx} {c:Fc} {e:Expr} {fb:BE} {pos pp:Pos}
theorem LD:Qg "dict" = some (.type "dict"):=by decide +kernel
theorem vw (hc:X.calm=true) (hg:Gl X "dict") (hm:X.mg "dict" = none) (he:SB X c e fb) (hs:nG e=true:=by rfl):SE X c (.Call (.Name "dict" pp) [e] [] pos) (bO gN fb) :=
 uT (r:=λv H Q=>∃ p ys kps,v = .ref p/\(H p=some (.tup ys)\/Rd H p (.lst ys))/\si H ys kps/\kps.length<=Wb/\∀ l,H l=none->Q (.ref l) (upd H l (.dK (fz kps []))))
  (LB hc) (λv H Q ⟨p,ys,kps,e,h⟩=>⟨p,ys,kps,by rw[e],h⟩)
  (λc σ δ H x d s Q k rx hp q=>by
   cases d with
   | lst ds =>
    simp only[gN] at hp
    cases j7:hV ds with
    | none=>rw[j7] at hp; cases hp
    | some ps =>
     rw[j7] at hp;simp only[WA] at hp;split at hp
     ·rename_i hz
      cases hp;obtain⟨a,vs,ex,ha,r⟩:=rx.lst;obtain⟨kps,hP,hD,hL⟩:=vt j7 r;exact⟨a,vs,kps,ex,.inr ha,hP,by rw[hL]; exact hz,λl hl=>q _ _ (.alloc k hl _) (aZ.Cb k hl (DR.vq hD (ws:=[]) (ds:=[]) trivial))⟩
     ·cases hp
   | tup ds =>
    simp only[gN] at hp
    cases j7:hV ds with
    | none=>rw[j7] at hp; cases hp
    | some ps =>
     rw[j7] at hp;simp only[WA] at hp;split at hp
     ·rename_i hz
      cases hp;obtain⟨a,vs,ex,ha,r⟩:=rx.tup;obtain⟨kps,hP,hD,hL⟩:=vt j7 r;exact⟨a,vs,kps,ex,.inl ha,hP,by rw[hL]; exact hz,λl hl=>q _ _ (.alloc k hl _) (aZ.Cb k hl (DR.vq hD (ws:=[]) (ds:=[]) trivial))⟩
     ·cases hp
   | _=>simp[gN] at hp) hg hm LD he (by decide) (by decide) (pb hs)
end
theorem pz(r:cg c σ δ H v (.ba ds)):∃ a ws,v = .ref a/\H a=some (.dK ws)/\DR H (Av c σ δ) ws ds:=by
 obtain⟨a,ws,e,h,k1,k2⟩:=r.ba;exact⟨a,ws,e,h,DR.of k1 k2⟩
def vx(neg:Bool):R2:=λx y H Q=>∃ a aa k,y = .ref a/\H a=some (.dK aa)/\x=kV k/\Q (.bl (if neg then !(fI aa k).isSome else(fI aa k).isSome)) H
theorem SK(hu:X.A.units + 64 < Ww):bD X (WB .In) (vx false):=by
 intro pins s σ H x y v u Q I rx ry h;obtain⟨a,aa,k,rfl,ha,rfl,q⟩:=h
 cases ry;exact Hw (by omega) I (g6.k ha) rx λs' I'=>⟨.bl _,H,I',rfl,q⟩
theorem LF(hu:X.A.units + 64 < Ww):bD X (WB .NotIn) (vx true):=by
 intro pins s σ H x y v u Q I rx ry h;obtain⟨a,aa,k,rfl,ha,rfl,q⟩:=h
 cases ry;exact Hx (by omega) I (g6.k ha) rx λs' I'=>⟨.bl _,H,I',rfl,q⟩
def Cc(K:W2)(neg:Bool):R2:=λx y H Q=>vx neg x y H Q\/zY K neg x y H Q\/∃ i j,x = .str i/\y = .str j/\Q (.bl (if neg then !(!(Builtin.Str.occurrences j i 0 j.length 1).isEmpty) else !(Builtin.Str.occurrences j i 0 j.length 1).isEmpty)) H
theorem LG{X:Cx}(hu:X.A.units + 64 < Ww):bD X (WB .NotIn) (Cc X.K true):=(LF hu).or (Hh.or Gu)
def j8(neg:Bool)(x y:D):Option S:=match y with
 | .ba ds=>(dY x).map λk=>.pure (.bl (if neg then !(dh ds k).isSome else(dh ds k).isSome))
 | .str y=>match x with
  | .str [n]=>some (.pure (.bl (if neg then !decide (n ∈ y) else decide (n ∈ y))))
  | _=>none
 | .lst ds=>match x,fK ds with
  | .str z,some ts=>some (.pure (.bl (if neg then !ts.contains z else ts.contains z)))
  | _,_=>none
 | .tup ds=>match x,fK ds with
  | .str z,some ts=>some (.pure (.bl (if neg then !ts.contains z else ts.contains z)))
  | _,_=>none
 | _=>none
theorem Cd(z:Tx)(ts:List Tx):qP (V.str (toS z)) (ts.map λz=>V.str (toS z))=ts.contains z:=by
 unfold qP;rw[List.any_map];induction ts with
 | nil=>rfl
 | cons t r ih =>
  rw[Q8,Jy,ih];congr 1
  show(toS t == toS z)=(z == t);rw[oE,Bool.beq_comm]
theorem Ce(ts:List Tx):(ts.map λz=>V.str (toS z)).all jH=true:=by
 rw[List.all_map];exact List.all_eq_true.mpr λ_ _=>rfl
theorem LH{K:W2}(neg:Bool):cF (Cc K neg) (j8 neg):=by
 intro c σ δ H x y d e s Q k rx ry hp q
 cases e <;> first | (simp[j8] at hp; done) | skip
 ·rename_i z;simp only[j8] at hp;split at hp <;> first | (cases hp; done) | skip
  rename_i n
  cases hp;refine .inr (.inr ⟨toS [n],toS z,rx.str,ry.str,?_⟩);rw[show toS [n] = ⟨#[n]⟩ from rfl,PySem.StrLaws.found_one,show(toS z).cps.toList=z by simp[toS]];exact q _ H (.refl k) (.bl _)
 ·rename_i ds;simp only[j8] at hp;split at hp <;> first | (cases hp; done) | skip
  rename_i z ts ht
  cases hp;obtain⟨a,vs,ea,ha,r⟩:=ry.tup;have ev:=oI ht r;refine .inr (.inl ⟨a,vs,ea,.inr (.of ha),by rw[rx.str]; rfl,by rw[ev]; exact Ce ts,?_⟩);rw[rx.str,ev,Cd];exact q _ H (.refl k) (.bl _)
 ·rename_i ds;simp only[j8] at hp;split at hp <;> first | (cases hp; done) | skip
  rename_i z ts ht
  cases hp;obtain⟨a,vs,ea,ha,r⟩:=ry.lst;have ev:=oI ht r;refine .inr (.inl ⟨a,vs,ea,.inl (.inl ha),by rw[rx.str]; rfl,by rw[ev]; exact Ce ts,?_⟩);rw[rx.str,ev,Cd];exact q _ H (.refl k) (.bl _)
 ·rename_i ds;simp only[j8] at hp
  cases hk:dY d with
  | none=>rw[hk] at hp; cases hp
  | some kk =>
   rw[hk] at hp
   cases hp;obtain⟨a,ws,ea,ha,dr⟩:=pz ry;refine .inl ⟨a,ws,dq kk,ea,ha,sk hk rx,?_⟩;have:(fI ws (dq kk)).isSome=(dh ds kk).isSome:=by
    rcases dr.val kk with ⟨e1,e2⟩ | ⟨v,d,e1,e2,_⟩
    ·rw[e1,e2]; rfl
    ·rw[e1,e2]; rfl
   rw[this];exact q _ H (.refl k) (.bl _)
def vy:R2:=λx y H Q=>∃ a aa k v,x = .ref a/\H a=some (.dK aa)/\y=kV k/\fI aa k=some v/\Q v H
def pA:D->D->Option S
 | .ba ds,k=>(dY k).bind λk=>(dh ds k).map .pure
 | x,y=>ay x y
theorem LI(hu:X.A.units + 64 < Ww):gF X vy:=by
 intro value slice pins s σ H x y v u Q I rx ry h hs;obtain⟨a,aa,k,w,rfl,ha,rfl,hv,q⟩:=h
 cases rx;obtain⟨_,_,vs,_,dd⟩:=z_ I.ah ha;have hT:s.TypeIs (.ref a) "dict":=dd.typeIs;exact tail_any hT F.slot_dict_getitem.lookup (Hv (v:=w) (by omega) I (by rw[<- hv]; exact g6.k ha) ry λw' s' I' aC=>⟨w,H,I',aC,q⟩) hs
theorem LJ{K:W2}:cF (λx y H Q=>vy x y H Q\/qO K x y H Q) pA:=by
 intro c σ δ H x y d e s Q k rx ry hp q
 cases d with
 | ba ds =>
  simp only[pA] at hp
  cases hk:dY e with
  | none=>rw[hk] at hp; cases hp
  | some kk =>
   rw[hk] at hp;simp only[WA,WS] at hp;obtain⟨dv,hv,rfl⟩:=hp;obtain⟨a,ws,ea,ha,dr⟩:=pz rx;rcases dr.val kk with ⟨e1,e2⟩ | ⟨v,d',e1,e2,r⟩
   ·rw[e1] at hv; cases hv
   ·rw[e1] at hv; cases hv
    exact .inl ⟨a,ws,dq kk,v,ea,ha,sk hk ry,e2,q v H (.refl k) r⟩
 | _=>exact .inr (cb c σ δ H x y _ e s Q k rx ry hp q)
end DV
namespace PySem
open Sem (wp)
open AutoSeq1 (wpAny_loadPart')
section
variable {prog:Wg} {w:Wh} {A:Wl} {E:Value->W1->Prop} {s:W1}
theorem LK{items}(hit:s.heap.IsTupleIter it l i)(hl:s.heap.IsTuple l items)(hx:items[i]? = some x)
  (hQ:∀ h',h'.IsTupleIter it l (i + 1)->Qh it s.heap h'->Q x { s with heap:=h' }):W4 (model prog w) A (QP (.ref it)) Q E s:=by
 obtain⟨o,ho,hc,hd⟩:=id hit;obtain⟨ol,hol,_,nl,iL⟩:=hl;unfold QP;refine W0 (WI (name:=Str.ofString "__next__") hit.typeIs QI
  (WE QI hit.typeIs F.entry_tuple_iterator_next ?_ (F.args_tuple_iterator_next_1 _)))
 show W4 _ _ (field (.ref it) 0 >>= _) _ _ s;refine W0 (WV ho hd (x:=.ref l) rfl ?_);show W4 _ _ (if (Value.ref l == Value.none)=true then _ else _) _ _ s;rw[if_neg (show ¬ ((Value.ref l == Value.none)=true) from WC)];show W4 _ _ (field (.ref it) 1 >>= _) _ _ s;refine W0 (WV ho hd (x:=.int i 0) rfl ?_);show W4 _ _ (seqItems? (.ref l) >>= _) _ _ s;refine W0 (JE hol iL ?_);simp only[Qm,hx];refine W0 (Qx ho hd (by simp) (W3 ⟨x,rfl,W3 (hQ _ ?_ (Qr ..))⟩));exact⟨_,WH _ ho (Obj.isFreed_of_fields (Obj.data_mapFields hd _)),(Obj.cls_mapFields ..).trans hc,by
  rw[Obj.data_mapFields hd]; simp[WR]⟩
theorem LL{items}(hh:A.handled=none)(hit:s.heap.IsTupleIter it l i)(hl:s.heap.IsTuple l items)(hx:items[i]? = none)
  (hE:∀ h' e,Heap.ExtBut it s.heap h'->(∃ o,h'.get? e=some o/\o.cls = .type "StopIteration")->E (.ref e) { s with heap:=h' }):W4 (model prog w) A (QP (.ref it)) Q E s:=by
 obtain⟨o,ho,hc,hd⟩:=id hit;obtain⟨ol,hol,_,nl,iL⟩:=hl;unfold QP;refine W0 (WI (name:=Str.ofString "__next__") hit.typeIs QI
  (WE QI hit.typeIs F.entry_tuple_iterator_next ?_ (F.args_tuple_iterator_next_1 _)))
 show W4 _ _ (field (.ref it) 0 >>= _) _ _ s;refine W0 (WV ho hd (x:=.ref l) rfl ?_);show W4 _ _ (if (Value.ref l == Value.none)=true then _ else _) _ _ s;rw[if_neg (show ¬ ((Value.ref l == Value.none)=true) from WC)];show W4 _ _ (field (.ref it) 1 >>= _) _ _ s;refine W0 (WV ho hd (x:=.int i 0) rfl ?_);show W4 _ _ (seqItems? (.ref l) >>= _) _ _ s;refine W0 (JE hol iL ?_);simp only[Qm,hx];refine W0 (J4 (W0 (Qx ho hd (by simp) ?_)));show W4 _ _ (newExc (.type "StopIteration") [] >>= _) _ _ _;refine W0 ?_;simp only[newExc,newTuple];refine W0 (WG ?_ (by size_fits));refine W0 (m:=Jg _ _) (wpAny_of_eq (a:=Value.none) (by first | rfl | (simp only[Jg]; rfl)) ?_);refine WG ?_ (by size_fits);simp only[raiseNew];refine W0 (wpAny_handled ?_);first | rw[show A.in1.handled=none from hh] | rw[hh]
 refine W0 (W3 (wpAny_throw ?_));exact hE _ _ (((Qr ..).extBut.push _).push _) ⟨_,Wn _ rfl,rfl⟩
end
theorem IsTuple.at'{h h':Heap}{l:Addr}{items:Array Value}(x:h.IsTuple l items)(k:∀ o,h.get? l=some o->h'.get? l=some o):h'.IsTuple l items:=by
 obtain⟨o,ho,r⟩:=x;exact⟨o,k o ho,r⟩
theorem Draws.tuple'{prog:Wg}{w:Wh}{A:Wl}(hh:A.handled=none)(it l:Addr)(c_:l≠it)(items:Array Value) :
  Draws prog w A it [it,l] items.size (λi v=>items[i]? = some v) (λi h=>h.IsTupleIter it l i/\h.IsTuple l items) where
 live:=λ_ _ st=>let ⟨o,ho,_⟩:=st.1; ⟨o,ho⟩
 frame:=λ_ _ _ st hk=>⟨st.1.at λo e=>hk it (by simp) o e,IsTuple.at' st.2 λo e=>hk l (by simp) o e⟩
 item:=λi s Q E hi st hQ=>by
  refine LK st.1 st.2 (x:=items[i]) (by simp[hi]) λh' LM jc=>?_
  exact hQ _ h' s.toks (by simp[hi]) ⟨LM,IsTuple.at' st.2 λo e=>(jc.2 l c_).trans e⟩ jc
 done:=λs Q E st hE=>LL hh st.1 st.2 (by simp) hE
theorem LN(l:Addr)(items:Array Value)(n:Nat)(ba:Option Addr)(sl:Array (Option Value)) :
  Meets (Builtin.«enumerate.__new__» ⟨[.type "enumerate",.ref l],[]⟩) (λ_ R s=>s.heap.get? l=some { cls:=.type "tuple",dict:=ba,data:=.seq items n,slots:=sl } /\
   R (.ok (.ret (.ref (s.heap.push { cls:=.type "tuple_iterator",data:=.fields #[.ref l,.int 0 0] }).objs.size)))
    { s with heap:=(s.heap.push { cls:=.type "tuple_iterator",data:=.fields #[.ref l,.int 0 0] }).push { cls:=.type "enumerate",data:=.fields #[.none,.bool false,.ref s.heap.objs.size,WR 0,.none,.none] } }) :=
 .of_wp λprog w A R s h=>by
  obtain⟨hp,g,d,tk,os⟩:=s; obtain⟨hl,h⟩:=h
  have SM:=sub_enumerate;have hL:Heap.IsTuple (Shared.heap ⟨hp,g,d,tk,os⟩) l items:=⟨_,hl,rfl,n,rfl⟩
  wp_walk using Q5 hl
  refine wpAny_stack_any λst=>W3 ?_
  split
  ·rename_i c _ _ _ _ _
   cases (c == Value.type "enumerate")
   ·wp_walk using Q5 hl,J5 hL
    exact⟨_,rfl,h⟩
   ·wp_walk using Q5 hl,J5 hL
    exact⟨_,rfl,h⟩
  ·wp_walk using Q5 hl,J5 hL
   exact⟨_,rfl,h⟩
theorem LO(hL:s.heap.IsTuple l items)
  (h:∀ h',IsEnum h' (s.heap.objs.size + 1) s.heap.objs.size 0 .none->h'.IsTupleIter s.heap.objs.size l 0->h'.objs.size=s.heap.objs.size + 2 ->
   (∀ b o,s.heap.get? b=some o->h'.get? b=some o)->Q (.ref (s.heap.objs.size + 1)) { s with heap:=h' }) :
  W4 (model prog w) A (call (.type "enumerate") [.ref l]) Q E s:=by
 obtain⟨⟨c,ba,dt,sl⟩,hl,hc,n,hd⟩:=hL;replace hc:c = .type "tuple":=hc;replace hd:dt = .seq items n:=hd;subst hc hd;refine callType_new F.called_enumerate (by decide) (F.typeCall_enumerate_1 _) (F.newCall_enumerate_1 _) (λobj=>F.args_object_init_2 obj _) F.entry_enumerate_new
  (LN l items n ba sl) ⟨hl,?_⟩
 have hz:(s.heap.push { cls:=.type "tuple_iterator",data:=.fields #[.ref l,.int 0 0] }).objs.size=s.heap.objs.size + 1:=QS ..;show _/\_;rw[hz];have he:IsEnum ((s.heap.push { cls:=.type "tuple_iterator",data:=.fields #[.ref l,.int 0 0] }).push
   { cls:=.type "enumerate",data:=.fields #[.none,.bool false,.ref s.heap.objs.size,WR 0,.none,.none] }) (s.heap.objs.size + 1) s.heap.objs.size 0 .none:=by
  have:=Wn (s.heap.push { cls:=.type "tuple_iterator",data:=.fields #[.ref l,.int 0 0] })
   (o:={ cls:=.type "enumerate",data:=.fields #[.none,.bool false,.ref s.heap.objs.size,WR 0,.none,.none] }) rfl
  rw[hz] at this; exact this
 refine⟨⟨_,he,rfl⟩,h _ he ⟨_,W6 _ (Wn _ rfl),rfl,rfl⟩ (by rw[QS,hz]) λb o x=>W6 _ (W6 _ x)⟩
end PySem
namespace L2
open PySem PySem.Spec PyProof.Rows
section
variable {X:Cx} {pins:List (Addr×Obj)} {σ:St} {H:Hp} {s:W1} {h':Heap}
theorem Inv.vz(fp:List Addr)(I:Inv X pins σ H s)(k:∀ b o,b ∉ fp->s.heap.get? b=some o->h'.get? b=some o)(hf:∀ b ∈ fp,fF X pins H b):Inv X pins σ H { s with heap:=h',toks:=t' }:=by
 have kE:∀ b u,H b=some u->b ∉ fp:=λb u e z=>by rw[(hf b z).1] at e; cases e
 refine I.step (g':=s.gens) (d':=s.drawn) (ch:=fp) (λb hb=>?_) (λb o _ _ hc e _=>k b o hc e) (λb o _ _ hc e _=>⟨o.slots,k b o hc e⟩) (λ_ _ _ _ n=>n)
  (λb o hc e=>⟨o,k b o hc e⟩) (λ_ _ e=>e) (λ_ _ _ e=>e) (λb ps e=>⟨#[],by rw[e]; simp⟩) (λm hm=>?_) (λb u e=>?_) I.bare
 ·obtain⟨f0,f1,f2,f3,f4,f5⟩:=hf b hb;exact⟨f3,f1,f4,f5⟩
 ·obtain⟨o,es,ep,ho,r⟩:=hm;exact⟨o,es,ep,k _ o (λz=>(hf _ z).2.1 rfl) ho,r⟩
 ·refine(I.ah b u e).jC (λc v hc q=>k c v ?_ q) (λ_ q=>q) (λ_ _ q=>q) λ_ _ _ q=>q
  rcases hc with z | z
  ·rw[z]; exact kE b u e
  ·exact kE c _ z
theorem Inv.vA(I:Inv X pins σ H s)(hf:∀ b ∈ [e,it],fF X pins H b)(aY:∀ b ∈ [e,it],b < s.heap.objs.size)(ru:RelV y u)
  (hT:h'.get? s.heap.objs.size=some { cls:=.type "tuple",data:=.seq #[.int i tk,u] }) (k:∀ b o,b≠e->b≠it->s.heap.get? b=some o->h'.get? b=some o) :
  Inv X pins σ (upd H s.heap.objs.size (.tup [.int i,y])) { s with heap:=h',toks:=t' }:=by
 have I1:Inv X pins σ (upd H s.heap.objs.size (.tup [.int i,y])) { s with heap:=s.heap.push { cls:=.type "tuple",data:=.seq #[.int i tk,u] },toks:=t' } :=
  I.laid (t':=t') (λb o e=>W6 _ e) (Wf _) (show bz X.prog X.w _ _ _ (.tup [.int i,y]) from
   ⟨by simp only[Q7,Jp]; rw[QR]; decide,[.int i tk,u],.cons ⟨_,rfl⟩ (.cons ru .nil),gx.new _ _⟩)
 have:=Inv.vz (t':=t') (h':=h') [e,it] I1 (λb o hb eb=>?_) λb hb=>?_
 ·exact this
 ·have he:b≠e:=λz=>hb (by simp[z])
  have hi:b≠it:=λz=>hb (by simp[z])
  rcases Heap.get?_push_cases eb with ⟨z,z'⟩ | eb
  ·subst z z';exact hT
  ·exact k b o he hi eb
 ·obtain⟨f0,r⟩:=hf b hb;refine⟨?_,r⟩;have hl:=aY b hb;rw[aV (Wv hl)];exact f0
def Cf(K:W2)(a:Addr):It :=
 ⟨(tV K a).go,λi H x H'=>∃ p y,H p=none/\(∀ xs,ck K H a xs->xs[i]? = some y)/\H'=upd H p (.tup [.int i,y])/\x = .ref p,λi H=>∃ xs,ck K H a xs/\xs.length=i⟩
def Cg(K:W2)(a:Addr):It :=
 ⟨(qF K a).go,λi H x H'=>∃ p y,H p=none/\(∀ xs,cz K H a xs->xs[i]? = some y)/\H'=upd H p (.tup [.int i,y])/\x = .ref p,λi H=>∃ xs,cz K H a xs/\xs.length=i⟩
theorem LP{P:Wg}{w:Wh}{K:W2}{elts:List Expr}{ctx}{pos:Pos}(a e it:Addr)(iM:e≠it)(vC:a≠e)(mw:a≠it):Turn P w K (.Tuple elts ctx pos) (Cf K a) [e,it] e (λi h=>(∃ old,IsEnum h e it i old)/\h.IsListIter it a i) where
 mem:=by simp
 obj:=λi h st b hb=>by
  obtain⟨⟨old,he⟩,hi⟩:=st;have hb:b=e\/b=it:=by simpa using hb
  rcases hb with z | z
  ·subst z;exact⟨_,he,λv z=>by
    have z':Data.fields _=Data.cell v:=z
    cases z'⟩
  ·subst z;obtain⟨o,e,c,d⟩:=hi;exact⟨o,e,λv z=>by rw[d] at z; cases z⟩
 keep:=λi h h' st k=>⟨let ⟨old,he⟩:=st.1; ⟨old,k e (by simp) _ he⟩,st.2.at λo q=>k it (by simp) o q⟩
 item:=by
  intro X hP hw hK hc i pins s σ H E I hf st hg;subst hP hw hK;obtain⟨xs,x,hq,hx⟩:=hg;obtain⟨af,rv,p,hz⟩:=I.list hq;obtain⟨u,hu,ru⟩:=rv.get hx;obtain⟨⟨old,he⟩,hi⟩:=st;have hL:s.heap.IsList a af.toArray:=p.isList;have D:=Draws.list (prog:=X.prog) (w:=X.w) (A:=X.A.in1) (I.ok.hd hc) it a mw af.toArray;have pB:i < af.length:=(We.mp hu).1;have aY:∀ b ∈ [e,it],b < s.heap.objs.size:=λb hb=>by
   have hb:b=e\/b=it:=by simpa using hb
   rcases hb with z | z
   ·subst z; exact Wi he
   ·subst z; obtain⟨o,q,_⟩:=hi; exact Wi q
  refine wpAny_pyNext_enum_itemD D he ⟨hi,hL⟩ (by simpa using pB) iM (by simp[iM,Ne.symm vC]) λx' h' tk hP ho jc hT hsz hk=>?_
  have ex:x'=u:=by
   have:af.toArray[i]? = some x':=hP;rw[List.getElem?_toArray,hu] at this
   cases this;rfl
  subst ex;refine⟨_,rfl,wpAny_letOwnedTupleGo_enum ho λh2 pC sb=>?_⟩;have k2:∀ b o,b≠e->b≠it->s.heap.get? b=some o->h2.get? b=some o:=λb o q1 q2 q=>(sb.2 b q1).trans (hk b o q1 q2 q)
  have pD:h2.get? s.heap.objs.size=some { cls:=.type "tuple",data:=.seq #[.int i tk,x'] }:=(sb.2 _ (QT (aY e (by simp)))).trans hT;have I2:Inv X pins σ (upd H s.heap.objs.size (.tup [.int i,x])) { s with heap:=h2,toks:=tk + 1 }:=Inv.vA (t':=tk + 1) I hf aY ru pD k2;refine⟨.ref s.heap.objs.size,_,I2,rfl,⟨s.heap.objs.size,x,I.ah.fresh (Wf _),λys hy=>by rw[I.y8 hy hq]; exact hx,rfl,rfl⟩,⟨⟨x',by simpa using pC⟩,jc.1.at λo q=>(sb.2 it (Ne.symm iM)).trans q⟩,λb hb=>?_⟩;rw[aV (Wv (aY b hb))];exact(hf b hb).1
 done:=by
  intro X hP hw hK hc i pins s σ H E I hf st hg;subst hP hw hK;obtain⟨xs,hq,hx⟩:=hg;obtain⟨af,rv,p,hz⟩:=I.list hq;obtain⟨⟨old,he⟩,hi⟩:=st;have hL:s.heap.IsList a af.toArray:=p.isList;have hl:=rv.length;have D:=Draws.list (prog:=X.prog) (w:=X.w) (A:=X.A.in1) (I.ok.hd hc) it a mw af.toArray;have hn:af.toArray.size=i:=by simp; omega
  obtain⟨f0,f1,f2,f3,f4,f5⟩:=hf it (by simp);exact wpAny_pyNext_enum_endD D he ⟨by rw[hn]; exact hi,hL⟩ λh' eb=>⟨rfl,I.turned (t':=s.toks) (λb o hb q=>eb b o hb q) f0 f1 f3 f4 f5⟩
 self:=λ_ _ _ _ _ st h=>by
  obtain⟨⟨old,he⟩,_⟩:=st;exact QM he h
theorem LQ{P:Wg}{w:Wh}{K:W2}{elts:List Expr}{ctx}{pos:Pos}(a e it:Addr)(iM:e≠it)(vC:a≠e)(mw:a≠it):Turn P w K (.Tuple elts ctx pos) (Cg K a) [e,it] e (λi h=>(∃ old,IsEnum h e it i old)/\h.IsTupleIter it a i) where
 mem:=by simp
 obj:=λi h st b hb=>by
  obtain⟨⟨old,he⟩,hi⟩:=st;have hb:b=e\/b=it:=by simpa using hb
  rcases hb with z | z
  ·subst z;exact⟨_,he,λv z=>by
    have z':Data.fields _=Data.cell v:=z
    cases z'⟩
  ·subst z;obtain⟨o,e,c,d⟩:=hi;exact⟨o,e,λv z=>by rw[d] at z; cases z⟩
 keep:=λi h h' st k=>⟨let ⟨old,he⟩:=st.1; ⟨old,k e (by simp) _ he⟩,st.2.at λo q=>k it (by simp) o q⟩
 item:=by
  intro X hP hw hK hc i pins s σ H E I hf st hg;subst hP hw hK;obtain⟨xs,x,hq,hx⟩:=hg;obtain⟨af,rv,p,hz⟩:=I.tuple hq;obtain⟨u,hu,ru⟩:=rv.get hx;obtain⟨⟨old,he⟩,hi⟩:=st;have hL:s.heap.IsTuple a af.toArray:=p;have D:=Draws.tuple' (prog:=X.prog) (w:=X.w) (A:=X.A.in1) (I.ok.hd hc) it a mw af.toArray;have pB:i < af.length:=(We.mp hu).1;have aY:∀ b ∈ [e,it],b < s.heap.objs.size:=λb hb=>by
   have hb:b=e\/b=it:=by simpa using hb
   rcases hb with z | z
   ·subst z; exact Wi he
   ·subst z; obtain⟨o,q,_⟩:=hi; exact Wi q
  refine wpAny_pyNext_enum_itemD D he ⟨hi,hL⟩ (by simpa using pB) iM (by simp[iM,Ne.symm vC]) λx' h' tk hP ho jc hT hsz hk=>?_
  have ex:x'=u:=by
   have:af.toArray[i]? = some x':=hP;rw[List.getElem?_toArray,hu] at this
   cases this;rfl
  subst ex;refine⟨_,rfl,wpAny_letOwnedTupleGo_enum ho λh2 pC sb=>?_⟩;have k2:∀ b o,b≠e->b≠it->s.heap.get? b=some o->h2.get? b=some o:=λb o q1 q2 q=>(sb.2 b q1).trans (hk b o q1 q2 q)
  have pD:h2.get? s.heap.objs.size=some { cls:=.type "tuple",data:=.seq #[.int i tk,x'] }:=(sb.2 _ (QT (aY e (by simp)))).trans hT;have I2:Inv X pins σ (upd H s.heap.objs.size (.tup [.int i,x])) { s with heap:=h2,toks:=tk + 1 }:=Inv.vA (t':=tk + 1) I hf aY ru pD k2;refine⟨.ref s.heap.objs.size,_,I2,rfl,⟨s.heap.objs.size,x,I.ah.fresh (Wf _),λys hy=>by rw[I.y9 hy hq]; exact hx,rfl,rfl⟩,⟨⟨x',by simpa using pC⟩,jc.1.at λo q=>(sb.2 it (Ne.symm iM)).trans q⟩,λb hb=>?_⟩;rw[aV (Wv (aY b hb))];exact(hf b hb).1
 done:=by
  intro X hP hw hK hc i pins s σ H E I hf st hg;subst hP hw hK;obtain⟨xs,hq,hx⟩:=hg;obtain⟨af,rv,p,hz⟩:=I.tuple hq;obtain⟨⟨old,he⟩,hi⟩:=st;have hL:s.heap.IsTuple a af.toArray:=p;have hl:=rv.length;have D:=Draws.tuple' (prog:=X.prog) (w:=X.w) (A:=X.A.in1) (I.ok.hd hc) it a mw af.toArray;have hn:af.toArray.size=i:=by simp; omega
  obtain⟨f0,f1,f2,f3,f4,f5⟩:=hf it (by simp);exact wpAny_pyNext_enum_endD D he ⟨by rw[hn]; exact hi,hL⟩ λh' eb=>⟨rfl,I.turned (t':=s.toks) (λb o hb q=>eb b o hb q) f0 f1 f3 f4 f5⟩
 self:=λ_ _ _ _ _ st h=>by
  obtain⟨⟨old,he⟩,_⟩:=st;exact QM he h
end
end L2
namespace DV
open PySem PySem.Spec PyProof.Rows L2
section
variable {X:Cx} {c:Fc} {tg e:Expr} {fe:DE} {pos pp:Pos}
def LR(K:W2)(ta:TA):TI:=λσ H R=>ta σ H λvs H1=>(∃ a,vs=[.ref a]/\(∃ xs,ck K H1 a xs)/\R (Cf K a) H1)\/(∃ a,vs=[.ref a]/\(∃ xs,cz K H1 a xs)/\R (Cg K a) H1)
theorem LS {ctx} (hg:Gl X "enumerate") (hm:X.mg "enumerate" = none) (ha:PA X [a] ta) (hs:W7 [a] X.env=[(false,eval a X.env)]:=by rfl):PI X (.Tuple elts ctx tp) (.Call (.Name "enumerate" pp) [a] [] pos) (LR X.K ta):=by
 intro pins s σ H R I h;refine Call_ (mS I hg hm boot_enumerate (QF (aM (ha pos pins s σ H _ I h) λus s1 ⟨vs,H1,I1,r1,q1⟩=>?_) hs rfl));rcases q1 with ⟨a,ev,⟨xs,hq⟩,q⟩ | ⟨a,ev,⟨xs,hq⟩,q⟩
 ·subst ev
  cases r1 with
  | cons r rr =>
   cases rr
   cases r;obtain⟨af,rv,p,hz⟩:=I1.list hq;have hL:s1.heap.IsList a af.toArray:=p.isList;have aY:a < s1.heap.objs.size:=by obtain⟨o,q,_⟩:=hL; exact Wi q
   refine call_enumerate_list hL λh' he hi hsz kp=>QM he ?_
   refine⟨s1.heap.objs.size + 1,[s1.heap.objs.size + 1,s1.heap.objs.size],_,_,H1,rfl,I1.kept (t':=s1.toks) kp,LP a _ _ (Nat.succ_ne_self _) (Wv (JI aY)) (Wv aY),⟨⟨_,he⟩,hi⟩,λb hb=>?_,q⟩;have hb:b=s1.heap.objs.size + 1\/b=s1.heap.objs.size:=by simpa using hb
   have hle:s1.heap.objs.size<=b:=by rcases hb with z | z <;> subst z <;> first | exact Wf _ | exact Jm _
   exact I1.iA hle (I1.ah.fresh hle)
 ·subst ev
  cases r1 with
  | cons r rr =>
   cases rr
   cases r;obtain⟨af,rv,p,hz⟩:=I1.tuple hq;have hL:s1.heap.IsTuple a af.toArray:=p;have aY:a < s1.heap.objs.size:=by obtain⟨o,q,_⟩:=hL; exact Wi q
   refine LO hL λh' he hi hsz kp=>QM he ?_
   refine⟨s1.heap.objs.size + 1,[s1.heap.objs.size + 1,s1.heap.objs.size],_,_,H1,rfl,I1.kept (t':=s1.toks) kp,LQ a _ _ (Nat.succ_ne_self _) (Wv (JI aY)) (Wv aY),⟨⟨_,he⟩,hi⟩,λb hb=>?_,q⟩;have hb:b=s1.heap.objs.size + 1\/b=s1.heap.objs.size:=by simpa using hb
   have hle:s1.heap.objs.size<=b:=by rcases hb with z | z <;> subst z <;> first | exact Wf _ | exact Jm _
   exact I1.iA hle (I1.ah.fresh hle)
def jm(ds:List D):List D:=ds.mapIdx λi d=>D.tup [.int (i:Nat),d]
theorem vD{ds:List D}{i:Nat}{d:D}(h:(jm ds)[i]? = some d):∃ d',ds[i]? = some d'/\d = .tup [.int i,d']:=by
 unfold jm at h;rw[List.getElem?_mapIdx] at h
 cases e:ds[i]? with
 | none=>rw[e] at h; cases h
 | some d' =>
  rw[e] at h
  cases h;exact⟨d',rfl,rfl⟩
theorem aA.pair(r:Rep H O v d):aA H O [.int i,v] [.int i,d]:=by
 refine⟨rfl,λj v' d' e1 e2=>?_⟩;match j with
 | 0=>simp at e1 e2; subst e1 e2; exact .int _
 | 1=>simp at e1 e2; subst e1 e2; exact r
 | j + 2=>simp at e1
def pE(f:DE):DI:=λδ=>(f δ).bind λr δ1=>match r.d with
 | .lst ds=>.ok (jm ds) δ1
 | .tup ds=>.ok (jm ds) δ1
 | _=>.stuck
theorem LU {elts:List Expr} {ctx} {tp:Pos} (hg:Gl X "enumerate") (hm:X.mg "enumerate" = none) (he:SE X c e fe) (hs:W7 [e] X.env=[(false,eval e X.env)]:=by rfl):SI X c (.Tuple elts ctx tp) (.Call (.Name "enumerate" pp) [e] [] pos) (pE fe) :=
 PI.weak (LS hg hm (dR he fP hs) hs) λσ H R ⟨δ,k,q⟩=>by
  unfold pE at q;rw[bh] at q;refine⟨δ,k,aX q λr δ1 q1 v H1 a1 r1=>?_⟩;have rr:=r1.rep;generalize r.d=d at q1 rr
  cases d <;> first | exact q1.elim | skip
  ·cases rr with
   | tup h1 h2 h3 h4 =>
    rename_i a vs;refine .inr ⟨_,rfl,⟨_,.of h2⟩,q1 _ H1 a1 ?_⟩;intro H2 kp;have h5:=kp _ _ h2 λz=>h1 (.inr z)
    have r':aA H1 (Av c σ δ1) vs _:=⟨h3,h4⟩
    refine⟨⟨vs,.of h5,by rw[r'.1]; simp[jm]⟩,λi d e=>?_⟩;obtain⟨d',e',rfl⟩:=vD e;obtain⟨v,ev,rv⟩:=r'.get e';refine⟨⟨vs,v,.of h5,ev⟩,λx H3 ⟨p,y,hp,hy,e3,ex⟩=>.inr ⟨p,_,_,hp,e3,ex,rfl,?_⟩⟩;have:=hy vs (.of h5);rw[ev] at this
    cases this;exact aA.pair rv
  ·cases rr with
   | lst h1 h2 h3 h4 =>
    rename_i a vs;refine .inl ⟨_,rfl,⟨_,.inl h2⟩,q1 _ H1 a1 ?_⟩;intro H2 kp;have h5:Rd H2 a (.lst vs):=Rd.keep h2 λo e=>kp a o e λz=>h1 (.inr z)
    have r':aA H1 (Av c σ δ1) vs _:=⟨h3,h4⟩
    refine⟨⟨vs,.inl h5,by rw[r'.1]; simp[jm]⟩,λi d e=>?_⟩;obtain⟨d',e',rfl⟩:=vD e;obtain⟨v,ev,rv⟩:=r'.get e';refine⟨⟨vs,v,.inl h5,ev⟩,λx H3 ⟨p,y,hp,hy,e3,ex⟩=>.inr ⟨p,_,_,hp,e3,ex,rfl,?_⟩⟩;have:=hy vs (.inl h5);rw[ev] at this
    cases this;exact aA.pair rv
end
end DV
namespace HT
open PySem PySem.Spec PyProof.Rows
section
variable {prog:Wg} {w:Wh} {A:Wl} {E:Value->W1->Prop} {s:W1}
end
end HT
namespace DV
open PySem PySem.Spec PyProof.Rows L2
section
variable {X:Cx} {c:Fc} {e:Expr} {fb:BE} {pos p2:Pos}
def j9:D->Option S
 | .int i=>some (.pure (.int (-i)))
 | _=>none
theorem Ci(he:SB X c e fb):SE X c (.UnaryOp .USub e pos) (bO j9 fb) :=
 PE.weak (Gg Gm he) λσ H Q h=>nr (λc σ δ H x d s Q k rx hp q=>by
  cases d with
  | int i =>
   simp only[j9,Wa] at hp;subst hp;exact⟨i,rx.int,q _ H (.refl k) (.int _)⟩
  | _=>simp[j9] at hp) h
end
def Fc.nK(c:Fc)(i:Nat)(a:Addr):Fc:=⟨c.H₀,λb=>c.B b\/b=a,(i,a) :: c.pin,c.xc⟩
section
variable {c:Fc} {σ σ':St} {δ δ':Dl} {H H':Hp} {i:Nat} {a:Addr} {ds:List D}
theorem Own.unset(h:Own σ (δ.set i none) b):Own σ δ b:=by
 obtain⟨j,d',e1,e2⟩:=h;by_cases hj:i=j
 ·subst hj;rw[WL] at e1;split at e1
  ·split at e1 <;> cases e1
  ·rename_i q; exact absurd rfl q
 ·rw[W5 hj] at e1;exact⟨j,d',e1,e2⟩
theorem LV(k:Ok c σ δ H)(e:δ[i]? = some (some (.own (.lst ds))))(ea:σ[i]? = some (some (.ref a)))(b:Addr)(z:Av (c.nK i a) σ (δ.set i none) b):Av c σ δ b:=by
 rcases z with (z | z) | z
 ·exact .inl z
 ·subst z; exact .inr ⟨i,_,e,ea⟩
 ·exact .inr z.unset
theorem Ok.nK(k:Ok c σ δ H)(e:δ[i]? = some (some (.own (.lst ds))))(ea:σ[i]? = some (some (.ref a))):Ok (c.nK i a) σ (δ.set i none) H:=by
 have sub:=LV k e ea;have ne:∀ j d,(δ.set i none)[j]? = some (some d)->i≠j/\δ[j]? = some (some d):=λj d q=>by
  by_cases hj:i=j
  ·subst hj;rw[Wq (We.mp e).1] at q; cases q
  ·rw[W5 hj] at q; exact⟨hj,q⟩
 refine⟨λb o h n=>k.keep b o h λ⟨j,z⟩=>n ⟨j,Wd _ z⟩,λb z=>?_,λb ⟨j,z⟩=>?_,by rw[Qo]; exact k.len,λj d q=>?_,λj d q=>?_,λj l b d d' q1 q2=>?_,λp hp=>?_⟩
 ·rcases z with z | z
  ·exact k.bd b z
  ·subst z; exact k.oC ⟨i,_,e,ea⟩
 ·rcases Wo.mp z with z | z
  ·cases z; exact k.oC ⟨i,_,e,ea⟩
  ·exact k.cQ b ⟨j,z⟩
 ·obtain⟨_,q⟩:=ne j _ q;obtain⟨v,g1,g2⟩:=k.slot j d q;exact⟨v,g1,g2.aW λb z=>.inl (sub b z)⟩
 ·obtain⟨hj,q⟩:=ne j _ q;obtain⟨b,g1,g2,g3,g4⟩:=k.own j d q;refine⟨b,g1,g2.aW λb z=>.inl (sub b z),g3.imp (λ⟨l,z⟩=>⟨l,Wd _ z⟩) id,λz=>?_⟩;rcases z with z | z
  ·exact g4 z
  ·subst z; exact hj (k.inj i j b _ _ e q ea g1)
 ·exact k.inj j l b d d' (ne j _ q1).2 (ne l _ q2).2
 ·rcases Wo.mp hp with z | z
  ·subst z; exact ea
  ·exact k.pinned p z
end
def SN(i:Nat)(g:DG)(b:DS):DS:=λδ=>match δ[i]? with
 | some (some (.own (.lst ds)))=>(forL g b ds (δ.set i none)).bind λfl δ'=>match fl with
  | .ret (.own _)=>.stuck
  | fl=>.ok fl (δ'.set i (some (.own (.lst ds))))
 | _=>.stuck
section
variable {X:Cx} {c:Fc} {tg iter:Expr} {body:List Stmt} {g:DG} {b:DS} {i:Nat} {pos:Pos}
def so(np:List Nat)(i:Nat):DS:=λδ=>match δ[i]? with
 | some (some (.own d))=>if np.contains i || !np.all (bT δ) then .ok (.ret (.pure d)) (δ.set i (some (.pure d))) else .ok (.ret (.own d)) (δ.set i none)
 | some (some (.pure d))=>.ok (.ret (.pure d)) δ
 | _=>.stuck
theorem LW{np:List Nat}{e:Expr}(aD:Np c np)(he:PE X e (da i)):SS X c (.Return (some e) pos) (so np i):=PS.weak (zc he) λD σ H ⟨δ,k,q⟩=>by
 unfold so dW at q;split at q
 ·rename_i d e;obtain⟨a,ea,oa,ia,nb⟩:=k.own i d e;refine⟨.ref a,ea,?_⟩;split at q
  ·obtain⟨a',eO,x,r⟩:=k.give e;rw[ea] at eO; cases eO
   exact q σ H x _ r
  ·rename_i hc;simp only[Bool.or_eq_true,not_or,Bool.not_eq_true,Bool.not_eq_false',List.all_eq_true] at hc;obtain⟨hc1,hc2⟩:=hc;have nI:¬ c.I a:=λ⟨j,z⟩=>by
    have z1:=aD (j,a) z;have z2:=k.pinned (j,a) z;have z3:=hc2 j (by simpa using z1);unfold bT at z3;split at z3
    ·rename_i d' ej;have:=k.inj i j a _ _ e ej ea z2;subst this;rw[z1] at hc1; cases hc1
    ·cases z3
   have h0:c.H₀ a=none:=ia.resolve_left nI;have hi:i < δ.length:=(We.mp e).1;have ne:∀ j d,(δ.set i none)[j]? = some (some d)->i≠j/\δ[j]? = some (some d):=λj d q=>by
    by_cases hj:i=j
    ·subst hj;rw[Wq hi] at q; cases q
    ·rw[W5 hj] at q; exact⟨hj,q⟩
   have sub:∀ b,Av (c.plus a) σ (δ.set i none) b->Av c σ δ b:=λb z=>by
    rcases z with (z | z) | z
    ·exact .inl z
    ·subst z; exact .inr ⟨i,_,e,ea⟩
    ·exact .inr z.unset
   have kp:Ok (c.plus a) σ (δ.set i none) H:=by
    refine⟨k.keep,λb z=>?_,k.cQ,by rw[Qo]; exact k.len,λj d q=>?_,λj d q=>?_,λj l b d d' q1 q2=>k.inj j l b d d' (ne j _ q1).2 (ne l _ q2).2,k.pinned⟩
    ·rcases z with z | z
     ·exact k.bd b z
     ·subst z; exact k.oC ⟨i,_,e,ea⟩
    ·obtain⟨_,q⟩:=ne j _ q;obtain⟨v,g1,g2⟩:=k.slot j d q;exact⟨v,g1,g2.aW λb z=>.inl (sub b z)⟩
    ·obtain⟨hj,q⟩:=ne j _ q;obtain⟨b,g1,g2,g3,g4⟩:=k.own j d q;refine⟨b,g1,g2.aW λb z=>.inl (sub b z),g3,λz=>?_⟩;rcases z with z | z
     ·exact g4 z
     ·subst z; exact hj (k.inj i j b _ _ e q ea g1)
   have x:aE c σ δ H σ (δ.set i none) H:=by
    refine⟨⟨k.keep,k.bd,k.cQ,by rw[Qo]; exact k.len,λj d q=>?_,λj d q=>?_,λj l b d d' q1 q2=>k.inj j l b d d' (ne j _ q1).2 (ne l _ q2).2,k.pinned⟩,λ_ _ w _=>w,λb z=>.inl z.unset,λ_ o w=>⟨o,w⟩⟩
    ·obtain⟨_,q⟩:=ne j _ q;obtain⟨v,g1,g2⟩:=k.slot j d q;exact⟨v,g1,g2.aW λb z=>.inl (z.elim .inl λz=>.inr z.unset)⟩
    ·obtain⟨hj,q⟩:=ne j _ q;obtain⟨b,g1,g2,g3,g4⟩:=k.own j d q;exact⟨b,g1,g2.aW λb z=>.inl (z.elim .inl λz=>.inr z.unset),g3,g4⟩
   exact q σ H x _ ⟨a,rfl,oa.aW λb z=>.inl (sub b z),nb,h0,kp,h0⟩
 ·rename_i d e;obtain⟨v,e1,r⟩:=k.slot i d e;exact⟨v,e1,q σ H (.refl k) v r⟩
 ·exact q.elim
end
theorem LX(hu:X.A.units + 64 < Ww):gF X (λx y H Q=>vy x y H Q\/qO X.K x y H Q):=(LI hu).or b_
end DV
namespace L2
open PySem PySem.Spec PyProof.Rows
section
variable {X:Cx}
end
end L2
namespace DV
open PySem PySem.Spec PyProof.Rows L2
section
variable {X:Cx} {c:Fc} {e:Expr} {fe:DE} {pos:Pos}
end
section
variable {c:Fc} {σ:St} {δ δ':Dl} {H H':Hp} {i:Nat} {a p:Addr} {ds:List D}
end
open Classical in
noncomputable def itAt (δ₀:Dl) (ds:List D):DI:=λδ=>if δ=δ₀ then .ok ds δ else .stuck
section
variable {X:Cx} {c:Fc} {cs:List Nat} {tg iter elt:Expr} {ifs:List Expr} {scope:Scope} {pos:Pos} {g:DG} {t:DT} {el:DE} {i:Nat}
end
section
variable {X:Cx} {c:Fc} {e:Expr} {fe:DE} {pos pos':Pos}
end
section
variable {X:Cx} {c:Fc} {pp pos:Pos}
end
section
variable {c:Fc} {σ:St} {δ:Dl} {H:Hp} {a:Addr} {d:D}
end
section
variable {X:Cx} {c:Fc} {e:Expr} {es:List Expr} {as:List Ak} {f0:DE} {k n:Nat} {x:Str} {G:DF} {pp pos:Pos}
end
section
variable {X:Cx} {c:Fc} {e:Expr} {fe:DE} {pos:Pos}
end
section
variable {X:Cx} {c:Fc} {o e f:Expr} {fe ff:DE} {i:Nat} {apos aJ:Pos}
def pF(δ:Dl)(i:Nat):Bool:=match δ[i]? with
 | some (some s)=>match s.d with
  | .ba _=>true
  | _=>false
 | _=>false
theorem Cj(k:Ok c σ δ H)(h:pF δ i=true):∃ a ws ds s,δ[i]? = some (some s)/\s.d = .ba ds/\σ[i]? = some (some (.ref a))/\H a=some (.dK ws)/\DR H (Av c σ δ) ws ds:=by
 unfold pF at h;split at h
 ·rename_i s e;split at h
  ·rename_i ds hs;obtain⟨v,ev⟩:=nc k e;have rb:=ny k e ev;rw[hs] at rb;obtain⟨a,ws,rfl,ha,dr⟩:=pz rb;exact⟨a,ws,ds,s,e,hs,ev,ha,dr⟩
  ·cases h
 ·cases h
def Ck(i:Nat)(fe:DE):DE:=λδ=>if pF δ i then(fe δ).bind λk δ1=>match δ1[i]? with
  | some (some s)=>match s.d,dY k.d with
   | .ba ds,some kk=>.ok (.pure ((dh ds kk).getD .aw)) δ1
   | _,_=>.stuck
  | _=>.stuck else .stuck
def pG(i:Nat)(fe ff:DE):DE:=λδ=>if pF δ i then(fe δ).bind λk δ1=>(ff δ1).bind λz δ2=>match δ2[i]? with
  | some (some s)=>match s.d,dY k.d with
   | .ba ds,some kk=>.ok (.pure ((dh ds kk).getD z.d)) δ2
   | _,_=>.stuck
  | _=>.stuck else .stuck
theorem SQ (hu:X.A.units + 64 < Ww) (ho:PE X o (da i)) (he:SE X c e fe) (hb:Q9 o "get" X.env (eval o X.env)=eval o X.env:=by rfl)
  (hf:((WN aJ (W7 [e] X.env)).all (λx=>!x.1) && (Jb aJ (QA [] X.env)).all (λx=>x.1.isSome)
   && decide (([e]:List Expr).length + ([]:List Keyword).length + (if ([]:List Keyword).isEmpty then 0 else 1) < 30))=true:=by rfl) (hl:(apos.endLine == aJ.line)=true:=by rfl)
  (ht:WN aJ (W7 [e] X.env)=[(false,eval e X.env)]:=by rfl):SE X c (.Call (.Attribute o "get" apos) [e] [] aJ) (Ck i fe) :=
 PE.weak (HF (by omega) ho he ⟨hb,hf,hl,ht⟩) λσ H Q ⟨δ,k,q⟩=>by
  unfold Ck at q;split at q
  case isFalse=>exact q.elim
  rename_i hd;obtain⟨a,ws,ds,s,e1,e2,e3,e4,_⟩:=Cj k hd;rw[bh] at q;refine⟨.ref a,e3,a,rfl,.inl ⟨ws,.inl e4⟩,δ,k,aX q λkx δ1 q1 v H1 a1 r1=>?_⟩;split at q1
  ·rename_i s1 es1;split at q1
   ·rename_i ds1 kk hs1 hk;have rb:=ny a1.ok es1 e3;rw[hs1] at rb;obtain⟨a',ws1,ea,ha1,dr1⟩:=pz rb
    cases ea;have hv:=sk hk r1.b;subst hv;refine⟨_,.inl ⟨ws1,_,.inl ha1,rfl,rfl⟩,?_⟩;rcases dr1.val kk with ⟨z1,z2⟩ | ⟨v,d,z1,z2,z3⟩
    ·rw[z1] at q1; rw[z2]
     exact q1 _ H1 a1 .aw
    ·rw[z1] at q1; rw[z2]
     exact q1 _ H1 a1 z3
   ·exact q1.elim
  ·exact q1.elim
theorem LY (hu:X.A.units + 64 < Ww) (ho:PE X o (da i)) (he:SE X c e fe) (hx:SE X c f ff) (hb:Q9 o "get" X.env (eval o X.env)=eval o X.env:=by rfl)
  (hf:((WN aJ (W7 [e,f] X.env)).all (λx=>!x.1) && (Jb aJ (QA [] X.env)).all (λx=>x.1.isSome)
   && decide (([e,f]:List Expr).length + ([]:List Keyword).length + (if ([]:List Keyword).isEmpty then 0 else 1) < 30))=true:=by rfl) (hl:(apos.endLine == aJ.line)=true:=by rfl)
  (ht:WN aJ (W7 [e,f] X.env)=[(false,eval e X.env),(false,eval f X.env)]:=by rfl):SE X c (.Call (.Attribute o "get" apos) [e,f] [] aJ) (pG i fe ff) :=
 PE.weak (HG (by omega) ho he hx ⟨hb,hf,hl,ht⟩) λσ H Q ⟨δ,k,q⟩=>by
  unfold pG at q;split at q
  case isFalse=>exact q.elim
  rename_i hd;obtain⟨a,ws,ds,s,e1,e2,e3,e4,_⟩:=Cj k hd;rw[bh] at q;refine⟨.ref a,e3,a,rfl,.inl ⟨ws,.inl e4⟩,δ,k,aX q λkx δ1 q1 v H1 a1 r1=>⟨δ1,a1.ok,?_⟩⟩;rw[bh] at q1;refine aX q1 λzx δ2 q2 u H2 a2 r2=>?_
  split at q2
  ·rename_i s1 es1;split at q2
   ·rename_i ds1 kk hs1 hk;have rb:=ny a2.ok es1 e3;rw[hs1] at rb;obtain⟨a',ws1,ea,ha1,dr1⟩:=pz rb
    cases ea;have hv:=sk hk (show cg c σ δ2 H2 v kx.d from .inl (Rep.du r1.rep a2));subst hv;refine⟨_,.inl ⟨ws1,_,.inl ha1,rfl,rfl⟩,?_⟩;rcases dr1.val kk with ⟨z1,z2⟩ | ⟨v,d,z1,z2,z3⟩
    ·rw[z1] at q2; rw[z2]
     exact q2 _ H2 (a1.trans a2) r2.rep
    ·rw[z1] at q2; rw[z2]
     exact q2 _ H2 (a1.trans a2) z3
   ·exact q2.elim
  ·exact q2.elim
end
def j_:Int:=2 ^ 1000
def Cm(_ j:Int):Prop:=0 < j/\j < j_
theorem LZ(h0:0 < j)(h1:j < j_):j.natAbs.log2 < 9000:=by
 have e:j.natAbs < 2 ^ 1000:=by
  unfold j_ at h1;have:((2 ^ 1000:Nat):Int)=(2:Int) ^ 1000:=by exact_mod_cast rfl
  omega
 have:=(Nat.log2_lt (by omega:j.natAbs≠0)).mpr e;omega
section
variable {X:Cx}
theorem vE:bD X (Qe .FloorDiv) (rI Cm λi j=>.int (i / j)):=om λi j _ _ _ _ _ hc q=>by
 have h1:(0:Int) < j:=hc.1;exact floordiv_int (by omega) (by rw[Int.fdiv_eq_ediv_of_nonneg i (by omega)]; exact q) (.inl (PyProof.noPylong_of_log2 (LZ h1 hc.2)))
end
def pH(_ j:Int):Bool:=decide (0 < j) && decide (j < j_)
def lu:=eL pH λi j=>.int (i / j)
theorem vF:cF (rI Cm λi j=>V.int (i / j)) lu:=oF (λi j h=>by
 unfold pH at h;simp only[Wm,decide_eq_true_eq] at h;exact h) λ_ _ _ _=>.int _
theorem Cn(i j:Int)(h0:0 < j)(h1:j < j_):lu (.int i) (.int j)=some (.pure (.int (i / j))):=by
 show(if pH i j then some (S.pure (.int (i / j))) else none)=_;have:pH i j=true:=by unfold pH; simp only[h0,h1,decide_true,Bool.and_self]
 rw[this]; rfl
end DV
namespace L2
open PySem PySem.Spec PyProof.Rows
section
variable {X:Cx} {tg:Expr}
end
end L2
namespace DV
open PySem PySem.Spec PyProof.Rows L2
variable {X:Cx} {c:Fc} {tg e:Expr} {fe:DE} {pp pos:Pos}
section
variable {X:Cx}
end
theorem qV:∀ {ns:List Int} {us:List Value},Vals (ns.map V.int) us->∃ ys:List (Int×Tok),us=(ys.map λp=>Value.int p.1 p.2)/\ns=ys.map (·.1)
 | [],us,r=>by cases r; exact⟨[],rfl,rfl⟩
 | n :: ns,us,r=>by
  cases r with
  | cons r1 r2 =>
   obtain⟨ys,e1,e2⟩:=qV r2;obtain⟨t,rfl⟩:=r1;exact⟨(n,t) :: ys,by rw[e1]; rfl,by rw[e2]; rfl⟩
section
variable {X:Cx}
end
def jn:List D->Option (List Int)
 | []=>some []
 | .int i :: r=>(jn r).map (i :: ·)
 | _ :: _=>none
theorem ints_map(ns:List Int):jn (ns.map D.int)=some ns:=by
 induction ns with
 | nil=>rfl
 | cons n r ih=>simp[jn,ih]
section
variable {X:Cx} {c:Fc} {e:Expr} {fb:BE} {pos pp:Pos}
end
end DV
namespace L2
open PySem PySem.Spec PyProof.Rows
section
variable {prog:Wg} {w:Wh} {A:Wl} {E:Value->W1->Prop} {s:W1}
end
section
variable {X:Cx} {pos:Pos}
end
end L2
namespace DV
open PySem PySem.Spec PyProof.Rows L2
section
variable {X:Cx} {c:Fc} {pos:Pos}
end
open PySem PySem.Builtin PySem.Builtin.Str PySem.StrLaws
section
variable {X:Cx}
end
section
variable {X:Cx} {c:Fc} {e:Expr} {fb:BE}
end
end DV
set_option maxHeartbeats 1000000
namespace PySem
open Sem (wp)
open AutoSeq1 (wpAny_loadPart')
section
variable {prog:Wg} {w:Wh} {A:Wl} {E:Value->W1->Prop} {s:W1}
end
end PySem
namespace PyProof.Rows
open PySem
section
variable {M:Model} {A:Wl} {E:Value->W1->Prop} {s:W1} {env:Env}
end
end PyProof.Rows
set_option maxHeartbeats 400000
namespace L2
open PySem PySem.Spec PyProof.Rows
end L2
namespace DV
open PySem PySem.Spec PyProof.Rows L2
section
variable {X:Cx} {c:Fc} {tg e:Expr} {fe:DE} {pos pp:Pos}
end
end DV
namespace L2
open PySem PySem.Spec PyProof.Rows
def hZ(h:Heap)(a C T:Addr)(dx:Option Addr)(fl:Value):Prop :=
 ∃ vs sl oT ts a0,h.get? a=some ⟨.ref C,dx,.fields vs,sl⟩/\vs[0]? = some a0/\vs[1]? = some (.ref T)/\T≠a/\h.get? T=some oT/\oT.data = .fields ts/\ts[3]? = some fl
structure vG(h h':Heap)(fs:List Addr)(a T:Addr)(old:Value):Prop where
 new:h.get? T=none
 keep:∀ b o,h.get? b=some o->b≠a->old≠.ref b->b ∉ fs->h'.get? b=some o
 frame:∀ b o,h.get? b=some o->(∀ vs,o.data≠.fields vs)->∃ sl,h'.get? b=some { o with slots:=sl }
section
variable {M:Model} {A:Wl} {E:Value->W1->Prop} {s:W1}
theorem Co
  (dS:A.frames=some (env :: outer)) (hl:s.heap.FunFrames base (env :: outer)) (hf:env.frame=some L)
  (he:s.heap.get? a=some ⟨.ref C,dx,.fields vs,sl⟩) (h0:vs[0]? = some a0) (h1:1 < vs.size)
  (q:∀ h' T,hZ h' a C T dx (WR L)->vG s.heap h' ((env :: outer).filterMap (·.frame)) a T .none->Q () { s with heap:=h' }) :
  W4 M A (do let x <- frameOf env; let pl <- entryPlaceOf L b0; let y <- EntryCells.newEntry head x .none (WR L) .none pl; setField (.ref a) 1 y) Q E s:=by
 have na:a ∉ (env :: outer).filterMap (·.frame):=λz=>by
  obtain⟨_,o,g1,g2⟩:=hl.mem z;rw[he] at g1
  cases g1;exact g2 vs rfl
 refine W0 (wpAny_frameOf_fun dS hl hf λhA k=>W0 (wpAny_entryPlaceOf λpl bM=>?_));unfold EntryCells.newEntry newFields;refine W0 (WG ?_ (bM.sizeOk5 _ _ _ _ _));have eA:hA.get? a=some ⟨.ref C,dx,.fields vs,sl⟩:=(k.2.1 a na).trans he;generalize dZ:([head,.ref L,.none,WR L,.none] ++ (if pl.isEmpty then Wc 6 Value.none else pl)).toArray=ts;have t3:ts[3]? = some (WR L):=by
  rw[<- dZ];rcases bM with rfl | ⟨_,_,_,_,_,_,_,rfl⟩ <;> simp
 have eB:=W6 (h:=hA) { cls:=.type "traceback",dict:=none,data:=.fields ts } eA;have nT:hA.objs.size≠a:=QT (Wi eA);refine Qx eB rfl h1 (q _ hA.objs.size ⟨vs.setIfInBounds 1 (.ref hA.objs.size),sl,{ cls:=.type "traceback",dict:=none,data:=.fields ts },ts,a0,?_,?_,?_,nT,?_,rfl,t3⟩ ⟨?_,λb o e n _ nf=>?_,λb o e d=>?_⟩)
 ·exact(WH _ eB rfl)
 ·rw[Array.getElem?_setIfInBounds_ne (by decide)]; exact h0
 ·simp[h1]
 ·rw[WM _ _ (Ne.symm nT)]; exact Wn hA rfl
 ·cases z:s.heap.get? hA.objs.size with
  | none=>rfl
  | some o =>
   obtain⟨sl',z'⟩:=k.2.2 _ o z;exact absurd (Wi z') (Qk _)
 ·rw[WM _ _ (Ne.symm n)];exact W6 _ ((k.2.1 b nf).trans e)
 ·have nb:b≠a:=λz=>by
   rw[z,he] at e
   cases e;exact d vs rfl
  obtain⟨sl',z⟩:=k.2.2 b o e;exact⟨sl',by rw[WM _ _ (Ne.symm nb)]; exact W6 _ z⟩
theorem L4
  (dS:A.frames=some (env :: outer)) (hl:s.heap.FunFrames base (env :: outer)) (hf:env.frame=some L)
  (he:s.heap.get? a=some ⟨.ref C,dx,.fields vs,sl⟩) (h0:vs[0]? = some a0) (h1:vs[1]? = some .none)
  (q:∀ h' T,hZ h' a C T dx (WR L)->vG s.heap h' ((env :: outer).filterMap (·.frame)) a T .none->Q () { s with heap:=h' }):W4 M A (Ju (.ref a) env) Q E s:=by
 unfold Ju;simp only[hf];refine W0 (WV he rfl h1 ?_);rw[if_neg (by decide)];exact Co dS hl hf he h0 (QJ.mp h1).1 q
theorem L5
  (dS:A.frames=some (env :: outer)) (hl:s.heap.FunFrames base (env :: outer)) (hf:env.frame=some L) (hx:hZ s.heap a C T₀ dx .none)
  (q:∀ h' T,hZ h' a C T dx (WR L)->vG s.heap h' ((env :: outer).filterMap (·.frame)) a T (.ref T₀)->Q () { s with heap:=h' }):W4 M A (Ju (.ref a) env) Q E s:=by
 obtain⟨vs,sl,oT,ts,a0,e1,e2,e3,e4,e5,e6,e7⟩:=hx;unfold Ju;simp only[hf];refine W0 (WV e1 rfl e3 ?_);rw[if_pos (by simp)];refine W0 (WV e5 e6 e7 ?_);rw[if_neg (by simp[WR])];refine W0 (Qx e5 e6 (QJ.mp e7).1 ?_);have lx:∀ b,b≠T₀->(s.heap.update T₀ (Obj.mapFields (·.setIfInBounds 3 Value.none))).get? b=s.heap.get? b:=λb n=>WM _ _ (Ne.symm n)
 have Cp:∀ b o,s.heap.get? b=some o->(∀ us,o.data≠.fields us)->b≠T₀:=λb o e d z=>by
  rw[z,e5] at e
  cases e;exact d ts e6
 refine Co (s:={ s with heap:=s.heap.update T₀ (Obj.mapFields (·.setIfInBounds 3 Value.none)) }) dS (hl.of_keeps λb o e d=>⟨o,(lx b (Cp b o e d)).trans e,rfl⟩) hf ((lx a (Ne.symm e4)).trans e1) e2 (QJ.mp e3).1 λh' T f n=>q h' T f ⟨?_,λb o e n1 n2 n3=>?_,λb o e d=>n.frame b o ((lx b (Cp b o e d)).trans e) d⟩
 ·have:=n.new;by_cases z:T=T₀
  ·exfalso
   rw[z] at this;have g:=WH (h:=s.heap) (Obj.mapFields (·.setIfInBounds 3 Value.none)) e5 (Obj.isFreed_of_fields (Obj.data_mapFields e6 _));rw[this] at g
   cases g
  ·exact(lx T z).symm.trans this
 ·exact n.keep b o ((lx b λz=>n2 (by rw[z])).trans e) n1 (by simp) n3
theorem L6{env:Env}{L a C T:Addr}{dx:Option Addr}{Q:Unit->W1->Prop}(hf:env.frame=some L)(hx:hZ s.heap a C T dx (WR L))(q:Q () s):W4 M A (Ju (.ref a) env) Q E s:=by
 obtain⟨vs,sl,oT,ts,a0,e1,e2,e3,e4,e5,e6,e7⟩:=hx;unfold Ju;simp only[hf];refine W0 (WV e1 rfl e3 ?_);rw[if_pos (by simp)];refine W0 (WV e5 e6 e7 ?_);rw[if_pos (by simp)];exact W3 q
theorem L7(hx:hZ s.heap a C T dx fl)
  (q:∀ h',hZ h' a C T dx (o.elim .none λf=>WR f)->(∀ b,b≠T->h'.get? b=s.heap.get? b)->Q () { s with heap:=h' }):W4 M A (setFlight (.ref a) o) Q E s:=by
 obtain⟨vs,sl,oT,ts,a0,e1,e2,e3,e4,e5,e6,e7⟩:=hx;have hi:=(QJ.mp e7).1;have lx:∀ b,b≠T->(s.heap.update T (Obj.mapFields (·.setIfInBounds 3 (o.elim Value.none λf=>WR f)))).get? b=s.heap.get? b:=λb n=>WM _ _ (Ne.symm n)
 unfold setFlight;refine W0 (WV e1 rfl e3 ?_);rw[if_pos (by simp)];exact Qx e5 e6 hi (q _ ⟨vs,sl,_,_,a0,(lx a (Ne.symm e4)).trans e1,e2,e3,e4,WH _ e5 (Obj.isFreed_of_fields (Obj.data_mapFields e6 _)),Obj.data_mapFields e6 _,by simp[hi]⟩ lx)
end
abbrev iN:List Value:=[.type "ValueError",.type "Exception",.type "BaseException",.type "object"]
def jo (K:W2) (C:Addr):Prop:=PySem.W.excIn K C iN "ValueError.__new__" = true
theorem jo.obj{K:W2}{C:Addr}{h:Heap}(q:jo K C)(X:K.In h):∃ (bm:List Value) (N:Addr) (nm qn:Str) (bs:List Value) (hdct:Bool) (sn:List Str) (sub:List Value) (ab:Bool) (col:Option Bool) (dd:Option Addr) (k0 k1 k2 k3 k5:Option Value) (mN:Str->Option Value),
  h.get? C=some (excClassObj nm qn C N bs bm hdct sn sub ab col dd k0 k1 k2 k3 k5 "ValueError.__new__")/\h.Ns N mN/\mN "__init__" = none/\OwnTail h iN bm:=by
 unfold jo PySem.W.excIn at q;split at q;next dd cd sl lk =>
  split at q;next C' bm k0 k1 k2 k3 n k5 e1 e2 =>
   simp only[Wm,beq_iff_eq,JJ] at q;obtain⟨⟨⟨⟨⟨c1,c2⟩,c3⟩,c4⟩,c5⟩,c6⟩:=q;subst c1; subst c2
   have e3:sl = #[k0,k1,k2,k3,some (.builtin "ValueError.__new__"),k5]:=by
    cases sl; simp only at e2; rw[e2]
   subst e3
   cases cd;simp only at e1 c3 c4 c5 c6 lk;subst e1; subst c3
   exact⟨bm,_,_,_,_,_,_,_,_,_,dd,k0,k1,k2,k3,k5,_,X _ _ lk,.of_isNs (PySem.W.isNs_of_in X c5),PySem.W.nsMap_none_of_in X c5 c6,PySem.W.tail_of_in X c4⟩
  next=>cases q
 next=>cases q
def ka(P:Wg)(w:Wh):g5:=λouter H s E v s' =>
 ∃ (a C T:Addr) (dx:Option Addr) (H':Hp),v = .ref a/\s'.os=s.os/\AllBare s'.gens/\Un (dQ outer) [] H H' s.heap s'.heap/\bW P w H' s'.heap/\hZ s'.heap a C T dx .none/\s.heap.get? a=none/\s.heap.get? T=none/\H' a=none/\H' T=none/\E (.ref C) dx H'
section
variable {X:Cx} {x:Str} {C:Addr} {np aJ pos:Pos}
theorem L8 {W:St->Hp->Prop} (q:jo X.K C) (hc:X.calm=true) (hg:Gl X x) (hm:X.mg x=some (.ref C)) (hd:(x == ("__debug__" : Str))=false)
  (kR:∀ pins σ H s h' e,Inv X pins σ H s->W σ H->Heap.MadeExcOf s.heap h' e (.ref C) []->X.xe (.ref e) { s with heap:=h' }) :
  PS X (.Raise (some (.Call (.Name x np) [] [] aJ)) none pos) (λ_ σ H=>W σ H):=by
 intro pins s σ H D I hw;obtain⟨bm,N,nm,qn,bs,hdct,sn,sub,ab,col,dd,k0,k1,k2,k3,k5,mN,hC,hN,hi,hT⟩:=q.obj I.cy;refine wpAny_Raise_call_subT (C:=C) (nm:=nm) (q:=qn) (N:=N) (bs:=bs) (bm:=bm) (hdct:=hdct) (sn:=sn) (sub:=sub) (ab:=ab) (col:=col) (dd:=dd) (k0:=k0) (k1:=k1) (k2:=k2) (k3:=k3) (k5:=k5) (mN:=mN)
  PySem.F.excBase_ValueError (hT.hasType rfl) (I.ok.hd hc) rfl hi (lO I hg hm ⟨rfl,?_⟩ hd)
 exact evalArgs_empty ⟨rfl,Ql _,hC,hN,hT,λh' e hm=>kR pins σ H s h' e I hw hm⟩
end
section
variable {X:Cx} {pins:List (Addr×Obj)} {σ:St} {H:Hp} {s:W1} {h':Heap}
theorem Inv.gone(I:Inv X pins σ H s)(hx:X.ex=[])(e:s.heap.get? b=none):H b=none/\X.s₀.heap.get? b=none:=by
 constructor
 ·cases q:H b with
  | none=>rfl
  | some o =>
   exfalso
   have:∃ u,s.heap.get? b=some u:=by
    have z:=I.ah b o q;clear q;induction o with
    | lst xs=>obtain⟨_,_,_,_,e⟩:=z; exact⟨_,e⟩
    | tup xs=>obtain⟨_,_,_,_,e⟩:=z; exact⟨_,e⟩
    | dK aa=>obtain⟨_,_,_,_,_,_,_,e,_⟩:=z; exact⟨_,e⟩
    | dT aa=>obtain⟨_,_,_,_,_,_,_,e,_⟩:=z; exact⟨_,e⟩
    | set S n=>obtain⟨_,_,_,_,e,_⟩:=z; exact⟨_,e⟩
    | ins C dx fs=>obtain⟨_,_,_,e,_⟩:=z; exact⟨_,e⟩
    | own y=>exact z
    | xd fs=>obtain⟨_,⟨_,_,_,e,_⟩,_⟩:=z; exact⟨_,e⟩
    | i3 lo hi=>obtain⟨_,_,_,e⟩:=z; exact⟨_,e⟩
    | frz ob u ih=>exact⟨_,z.1⟩
    | tbl ps=>exact⟨_,z⟩
    | ctab pos q=>obtain⟨_,e,_⟩:=z; exact⟨_,e⟩
    | dN ep aa=>obtain⟨_,_,_,_,e,_⟩:=z; exact⟨_,e⟩
    | met f y=>exact⟨_,z⟩
    | ext φ=>exact z.2.1
   obtain⟨u,q⟩:=this;rw[e] at q; cases q
 ·cases q:X.s₀.heap.get? b with
  | none=>rfl
  | some o =>
   obtain⟨o',q'⟩:=I.base.there b o q (by rw[hx]; simp);rw[e] at q'; cases q'
end
structure Apart(X:Cx)(pins:List (Addr×Obj))(H:Hp)(b:Addr):Prop where
 old:X.s₀.heap.get? b=none
 free:H b=none
 loc:b≠X.env.locals
 jb:∀ x c,X.env.cells.lookup x=some c->c≠b
 pin:∀ p ∈ X.pn ++ pins,p.1≠b
section
variable {X:Cx} {pins:List (Addr×Obj)} {σ:St} {H:Hp} {s:W1} {h':Heap} {a T:Addr}
theorem Inv.lM(I:Inv X pins σ H s)(e:X.s₀.heap.get? b=some o):b≠X.env.locals:=Wv (Wu (Wi e) I.ok.above)
theorem Inv.vH(I:Inv X pins σ H s)(ha:Apart X pins H a)(hT:Apart X pins H T)(k1:∀ b o,s.heap.get? b=some o->b ∉ dQ X.stack->b≠a->b≠T->h'.get? b=some o)
  (k2:∀ b o,s.heap.get? b=some o->b ∈ dQ X.stack->∃ sl,h'.get? b=some { o with slots:=sl }):Inv X pins σ H { s with heap:=h' }:=by
 have any:∀ b o,s.heap.get? b=some o->b≠a->b≠T->∃ sl,h'.get? b=some { o with slots:=sl }:=λb o e n1 n2=>by
  by_cases hb:b ∈ dQ X.stack
  ·exact k2 b o e hb
  ·exact⟨o.slots,k1 b o e hb n1 n2⟩
 have ne:∀ b o,X.s₀.heap.get? b=some o->b≠a/\b≠T:=λb o e=>⟨λz=>(by rw[z,ha.old] at e; cases e),λz=>(by rw[z,hT.old] at e; cases e)⟩
 have Cq:∀ b,b≠X.env.locals->b ∉ X.fs->b ∉ dQ X.stack:=λb n1 n2 z=>(Wo.mp (I.qz b z)).elim n1 n2
 have cellK:∀ y c,X.env.cells.lookup y=some c->∀ v,s.heap.IsCell c v->h'.IsCell c v:=λy c e v ⟨o,ho,hd⟩=>by
  obtain⟨sl,q⟩:=any c o ho (ha.jb y c e) (hT.jb y c e);exact⟨_,q,hd⟩
 refine⟨I.ok,I.os,I.bare,⟨λb o e n hb hx=>?_,λb o e n hb hx=>?_,I.base.free,λb o e hx=>?_,I.base.gW,I.base.gy,I.base.gX⟩,?_,λy c e=>?_,I.free,I.dH,λp hp=>?_,λb o e=>?_,I.len⟩
 ·exact k1 b o (I.base.keep b o e n hb hx) (Cq b (I.lM e) hb) (ne b o e).1 (ne b o e).2
 ·obtain⟨sl,q⟩:=I.base.slot b o e n hb hx;obtain⟨sl',q'⟩:=any b _ q (ne b o e).1 (ne b o e).2;exact⟨sl',q'⟩
 ·obtain⟨o',q⟩:=I.base.there b o e hx;obtain⟨sl',q'⟩:=any b _ q (ne b o e).1 (ne b o e).2;exact⟨_,q'⟩
 ·obtain⟨m,⟨o,es,ep,ho,hd,r⟩,hl⟩:=I.loc;obtain⟨sl,q⟩:=any _ o ho (λz=>ha.loc z.symm) (λz=>hT.loc z.symm);refine⟨m,⟨_,es,ep,q,hd,r⟩,λi y v e1 e2 e3=>?_⟩;obtain⟨u,ru,lk⟩:=hl i y v e1 e2 e3;refine⟨u,ru,lk.elim .inl λ⟨k,c,e,z⟩=>.inr ⟨k,c,e,cellK y c e _ z⟩⟩
 ·obtain⟨v,z⟩:=I.cell y c e;exact⟨v,cellK y c e v z⟩
 ·obtain⟨e,n,nl,nf,d⟩:=I.pin p hp;exact⟨k1 p.1 p.2 e (Cq _ nl nf) (ha.pin p hp) (hT.pin p hp),n,nl,nf,d⟩
 ·refine(I.ah b o e).jC (λc u hc q=>k1 c u q (λz=>?_) (λz=>?_) (λz=>?_)) (λ_ q=>q) (λ_ _ q=>q) λ_ _ _ q=>q
  ·have:=I.qA c z;rcases hc with rfl | hc
   ·rw[e] at this; cases this
   ·rw[hc] at this; cases this
  ·subst z;rcases hc with rfl | hc
   ·rw[ha.free] at e; cases e
   ·rw[ha.free] at hc; cases hc
  ·subst z;rcases hc with rfl | hc
   ·rw[hT.free] at e; cases e
   ·rw[hT.free] at hc; cases hc
theorem Inv.vI(I:Inv X pins σ H s)(ha:Apart X pins H a)(ob:bz X.prog X.w (upd H a o) s.heap a o):Inv X pins σ (upd H a o) s:=by
 have ne:∀ {b:Addr} {u:HO},H b=some u->b≠a:=λ{b u} e z=>by rw[z,ha.free] at e; cases e
 have up:∀ {b:Addr} {u:HO},H b=some u->upd H a o b=some u:=λ{b u} e=>by rw[aV (ne e)]; exact e
 have no:∀ {b:Addr},b≠a->H b=none->upd H a o b=none:=λ{b} n e=>by rw[aV n]; exact e
 refine⟨I.ok,I.os,I.bare,⟨I.base.keep,I.base.slot,λb u e n hx=>no (λz=>by rw[z,ha.old] at e; cases e) (I.base.free b u e n hx),I.base.there,λb xs e=>up (I.base.gW b xs e),λb u z e=>up (I.base.gy b u z e),λb ps e=>?_⟩,I.loc,I.cell,no (Ne.symm ha.loc) I.free,λx c e=>no (ha.jb x c e) (I.dH x c e),λp hp=>?_,λb u e=>?_,I.len⟩
 ·obtain⟨m,q⟩:=I.base.gX b ps e;exact⟨m,up q⟩
 ·obtain⟨e,n,nl,nf,d⟩:=I.pin p hp;exact⟨e,no (ha.pin p hp) n,nl,nf,d⟩
 ·by_cases hb:b=a
  ·subst hb;rw[cq] at e
   cases e;exact ob
  ·rw[aV hb] at e;exact(I.ah b u e).jC (λ_ _ _ q=>q) (λc q=>up q) (λc xs q=>up q) λ_ _ _ q=>up q
theorem L9(I:Inv X pins σ H s)(hN:X.N.Nodup)(hi:X.N[i]? = some x)(hk:X.env.scope.names.lookup x=some .local)
  (h:∀ s',Inv X pins (σ.set i none) H s'->Q () s'):W4 M A (do bindName X.env x .none; unbindBehindTheSuite X.env x pos) Q E s:=by
 have oh:i < σ.length:=by rw[I.len]; exact(We.mp hi).1
 refine W0 (wpAny_bindName (tN (v:=.aw) (u:=.none) I hN hi (.inl hk) rfl (λs1 I1 _=>?_) (.inr hk)));obtain⟨m,hn,hl⟩:=id I1.loc;obtain⟨u,ru,lk⟩:=hl i x .aw hi (Wq oh) (.inl hk);have hv:m x=some u:=by
  rcases lk with ⟨_,e⟩ | ⟨z,_⟩
  ·exact e
  ·have:X.env.kindOf x=some .local:=hk;rw[this] at z;rcases z with z | z <;> cases z
 refine wpAny_onRaise (wpAny_unbindName_local hk hn hv (by rw[I.ok.kind]; rfl) λh' w' kF hs=>h _ ?_);obtain⟨oL,_,_,hoL,_⟩:=id hn;have iu:=I1.iu;refine⟨I1.ok,I1.os,I1.bare,⟨λb o e n hb hx=>?_,λb o e n hb hx=>?_,I1.base.free,λb o e hx=>?_,I1.base.gW,I1.base.gy,I1.base.gX⟩,⟨_,kF,λj y v' e1 e2 e3=>?_⟩,λy c e=>?_,I1.free,I1.dH,λp hp=>?_,λb ob e=>?_,by simpa using I.len⟩
 ·exact(hs.2 b (I1.lM e)).trans (I1.base.keep b o e n hb hx)
 ·obtain⟨sl,q⟩:=I1.base.slot b o e n hb hx;exact⟨sl,(hs.2 b (I1.lM e)).trans q⟩
 ·obtain⟨o',q⟩:=I1.base.there b o e hx;exact⟨o',(hs.2 b (I1.lM e)).trans q⟩
 ·by_cases hj:j=i
  ·subst hj;rw[Wq oh] at e2
   cases e2
  ·rw[W5 (Ne.symm hj)] at e2;obtain⟨u',r',q⟩:=hl j y v' e1 (by rw[W5 (Ne.symm hj)]; exact e2) e3;have pI:y≠x:=λz=>hj (tM hN e1 (z ▸ hi))
   refine⟨u',r',?_⟩;rcases q with ⟨k,e⟩ | ⟨k,c,e,z⟩
   ·exact .inl ⟨k,by simp[pI,e]⟩
   ·exact .inr ⟨k,c,e,z.sameBut hs (iu y c e)⟩
 ·obtain⟨w2,z⟩:=I1.cell y c e;exact⟨w2,z.sameBut hs (iu y c e)⟩
 ·obtain⟨e,n,nl,nf,d⟩:=I1.pin p hp;exact⟨(hs.2 p.1 nl).trans e,n,nl,nf,d⟩
 ·refine(I1.ah b ob e).jC (λc u' hc q=>(hs.2 c λz=>?_).trans q) (λ_ q=>q) (λ_ _ q=>q) λ_ _ _ q=>q
  subst z;have:=I1.free;rcases hc with rfl | hc
  ·rw[e] at this; cases this
  ·rw[hc] at this; cases this
end
section
variable {prog:Wg} {w:Wh} {A:Wl} {E:Value->W1->Prop} {K:W2}
theorem L_{C B e:Addr}{oe:Obj}{h:Heap}{g:Array GenState}{d:Drawn}{t:Nat}{os:OsState}{Q:Bool->W1->Prop}(X:K.In h)(qB:jo K B)(qm:PySem.W.mroIn K C (.ref B)=some true)(he:h.get? e=some oe)(hc:oe.cls = .ref C)
  (hq:Q true ⟨h,g,d,t,os⟩):W4 (model prog w) A (excMatches (.ref e) (.ref B)) Q E ⟨h,g,d,t,os⟩:=by
 obtain⟨bm,N,nm,qn,bs,hdct,sn,sub,ab,col,dd,k0,k1,k2,k3,k5,mN,hB,_,_,hT⟩:=qB.obj X;have cB:(Value.ref B :: bm).contains (.type "BaseException")=true:=by rw[Jy,hT.hasType (X:="BaseException") (b:=true) rfl,Bool.or_true]
 have lk:=PySem.W.looks_mroIn (M:=model prog w) X qm;have f:=tc_notTuple;unfold excMatches;repeat (first | with_reducible refine PySem.W.Looks.at lk ?_ | (with_reducible refine Qc he ?_; rw[hc]) | with_reducible refine Qc hB ?_ | (with_reducible refine wpAny_isSubtype_exc hB ?_; rw[cB]) | wp_step)
 exact hq
end
def Cx.wt(X:Cx)(pn:List (Addr×Obj))(xe:Value->W1->Prop):Cx:={ X with pn:=pn,xe:=xe }
def Cx.hand(X:Cx)(a:Addr):Cx:={ X with A:=X.A.mark (some (.ref a)),calm:=false,xe:=λ_ _=>False }
section
variable {X:Cx} {pins ps:List (Addr×Obj)} {σ:St} {H:Hp} {s:W1} {a:Addr} {xe:Value->W1->Prop} {pn:List (Addr×Obj)}
theorem Cx.Ok.wt(o:X.Ok):(X.wt pn xe).Ok:=⟨o.mod,o.kind,o.glob,o.blt,o.above,o.inj,o.has,o.kz,o.hd,o.frames,o.lK,o.lL,o.bs,o.gz,o.kA,o.kC,o.fE,o.ir⟩
theorem Cx.Ok.hand(o:X.Ok):(X.hand a).Ok:=⟨o.mod,o.kind,o.glob,o.blt,o.above,o.inj,o.has,o.kz,λz=>(by cases z),o.frames,o.lK,o.lL,o.bs,o.gz,o.kA,o.kC,o.fE,o.ir⟩
theorem Inv.wt(I:Inv X pins σ H s):Inv (X.wt (X.pn ++ pins) xe) [] σ H s:=⟨I.ok.wt,I.os,I.bare,I.base,I.loc,I.cell,I.free,I.dH,λp hp=>I.pin p (by simpa[Cx.wt] using hp),I.ah,I.len⟩
theorem Inv.iO(o:X.Ok)(J:Inv (X.wt (X.pn ++ pins) xe) ps σ H s):Inv X pins σ H s:=⟨o,J.os,J.bare,J.base,J.loc,J.cell,J.free,J.dH,λp hp=>J.pin p (Jk _ hp),J.ah,J.len⟩
theorem Inv.hand(I:Inv X pins σ H s):Inv (X.hand a) pins σ H s:=⟨I.ok.hand,I.os,I.bare,I.base,I.loc,I.cell,I.free,I.dH,I.pin,I.ah,I.len⟩
theorem Inv.Ma(o:X.Ok)(J:Inv (X.hand a) pins σ H s):Inv X pins σ H s:=⟨o,J.os,J.bare,J.base,J.loc,J.cell,J.free,J.dH,J.pin,J.ah,J.len⟩
theorem Apart.iO(h:Apart (X.wt (X.pn ++ pins) xe) ps H a):Apart X pins H a:=⟨h.old,h.free,h.loc,h.jb,λp hp=>h.pin p (Jk _ hp)⟩
theorem SP.iO(o:X.Ok)(h:SP (X.wt (X.pn ++ pins) xe) ps D f s):SP X pins D f s:=by
 cases f with
 | next=>obtain⟨σ',H',J,q⟩:=h; exact⟨σ',H',Inv.iO o J,q⟩
 | brk=>obtain⟨σ',H',J,q⟩:=h; exact⟨σ',H',Inv.iO o J,q⟩
 | cont=>obtain⟨σ',H',J,q⟩:=h; exact⟨σ',H',Inv.iO o J,q⟩
 | ret u=>obtain⟨v,σ',H',J,r,q⟩:=h; exact⟨v,σ',H',Inv.iO o J,r,q⟩
def pJ(X:Cx)(pins:List (Addr×Obj))(H:Hp)(s:W1)(a C:Addr)(dx:Option Addr):Prop:=∃ T fl,hZ s.heap a C T dx fl/\(fl = .none\/∃ L,X.env.frame=some L/\fl=WR L)/\Apart X pins H a/\Apart X pins H T
def sq(X:Cx)(ps:List (Addr×Obj))(H:Hp)(s:W1)(a C:Addr)(dx:Option Addr):Prop:=(∃ vs sl a0,s.heap.get? a=some ⟨.ref C,dx,.fields vs,sl⟩/\vs[0]? = some a0/\vs[1]? = some .none)/\Apart X ps H a
theorem Inv.apart(I:Inv X pins σ H s)(hx:X.ex=[])(e:s.heap.get? b=none)(f:H' b=none):Apart X pins H' b:=by
 refine⟨(I.gone hx e).2,f,λz=>?_,λx c hc z=>?_,λp hp z=>?_⟩
 ·obtain⟨m,⟨o,_,_,ho,_⟩,_⟩:=I.loc;rw[<- z,e] at ho; cases ho
 ·obtain⟨v,o,ho,_⟩:=I.cell x c hc;rw[z,e] at ho; cases ho
 ·have:=(I.pin p hp).1;rw[z,e] at this; cases this
section
variable {M:Model} {E:Value->W1->Prop} {C L:Addr} {dx:Option Addr} {Q:Unit->W1->Prop}
theorem Inv.Cr(I:Inv X pins σ H s)(cO:X.stack=X.env :: X.outer)(hf:X.env.frame=some L)(hex:X.ex=[])(hc:pJ X pins H s a C dx\/sq X pins H s a C dx)
  (q:∀ h' T,Inv X pins σ H { s with heap:=h' }->hZ h' a C T dx (WR L)->Apart X pins H a->Apart X pins H T->Q () { s with heap:=h' }):W4 M X.A (Ju (.ref a) X.env) Q E s:=by
 have dS:X.A.frames=some (X.env :: X.outer):=by rw[<- cO]; exact I.ok.frames
 have hl:s.heap.FunFrames X.base (X.env :: X.outer):=by rw[<- cO]; exact I.stack
 have mem:∀ {b},b ∈ dQ X.stack->∃ o,s.heap.get? b=some o/\∀ vs,o.data≠.fields vs:=λ{b} z=>let ⟨_,o,g1,g2⟩:=I.stack.mem z; ⟨o,g1,g2⟩
 rcases hc with ⟨T,fl,f,iC,pa,pT⟩ | ⟨⟨vs,sl,a0,e1,e2,e3⟩,pa⟩
 ·rcases iC with rfl | ⟨L',e,rfl⟩
  ·refine L5 dS hl hf f λh' T' f' n=>?_
   refine q h' T' (I.vH pa pT (λb o z m n1 n2=>n.keep b o z n1 (λw=>n2 (by cases w; rfl)) (by rw[<- cO]; exact m)) λb o z m=>?_) f' pa (I.apart hex n.new (I.gone hex n.new).1);obtain⟨o',g1,g2⟩:=mem m;rw[z] at g1; cases g1
   exact n.frame b o z g2
  ·rw[hf] at e; cases e
   exact L6 hf f (q s.heap T I f pa pT)
 ·refine L4 dS hl hf e1 e2 e3 λh' T' f' n=>?_
  refine q h' T' (I.vH pa pa (λb o z m n1 n2=>n.keep b o z n1 (λw=>by cases w) (by rw[<- cO]; exact m)) λb o z m=>?_) f' pa (I.apart hex n.new (I.gone hex n.new).1);obtain⟨o',g1,g2⟩:=mem m;rw[z] at g1; cases g1
  exact n.frame b o z g2
theorem Inv.vJ{A:Wl}{o:Option Addr}{fl:Value}(I:Inv X pins σ H s)(f:hZ s.heap a C T dx fl)(pT:Apart X pins H T)
  (q:∀ h',Inv X pins σ H { s with heap:=h' }->hZ h' a C T dx (o.elim .none λf=>WR f)->Q () { s with heap:=h' }):W4 M A (setFlight (.ref a) o) Q E s :=
 L7 f λh' f' k=>q h' (I.vH pT pT (λb u z _ n _=>(k b n).trans z) λb u z _=>by
  by_cases n:b=T
  ·subst n;obtain⟨vs,sl,oT,ts,a0,e1,e2,e3,e4,e5,e6,e7⟩:=f;have:=I.qA b ‹_›;obtain⟨_,o',g1,g2⟩:=I.stack.mem ‹b ∈ dQ X.stack›;rw[e5] at g1; cases g1
   exact absurd e6 (g2 ts)
  ·exact⟨u.slots,(k b n).trans z⟩) f'
end
def Ends.hand(D:Ends)(i:Nat):Ends where
 nx:=λσ H=>D.nx (σ.set i none) H
 rt:=D.rt
 bk:=λσ H=>D.bk (σ.set i none) H
 ct:=λσ H=>D.ct (σ.set i none) H
theorem Mb{body:List Stmt}{x n:Str}{b₀:Stmt}{sr:List Stmt}{np vK pos:Pos}{B:Addr}{i:Nat}{tb:(Addr->Option Addr->St->Hp->Prop)->TS}{th:Addr->Addr->TS}(hex:X.ex=[])(cO:X.stack=X.env :: X.outer)(hf:X.env.frame=some X.env.locals)
  (hN:X.N.Nodup) (hi:X.N[i]? = some n) (hl:X.env.scope.names.lookup n=some .local) (hg:Gl X x) (hm:X.mg x=some (.ref B)) (qB:jo X.K B) (cY:(x == ("__debug__" : Str))=false)
  (eE:∀ (W:Addr->Option Addr->St->Hp->Prop) (pn:List (Addr×Obj)) (xe:Value->W1->Prop),(∀ ps σ H s a C dx,Inv (X.wt pn xe) ps σ H s->pJ (X.wt pn xe) ps H s a C dx\/sq (X.wt pn xe) ps H s a C dx->W C dx σ H->xe (.ref a) s)->di (X.wt pn xe) body (tb W))
  (Mc:∀ C a,di (X.hand a) (b₀ :: sr) (th C a)) :
  PS X (.Try body [.ExceptHandler (some (.Name x np)) (some n) (b₀ :: sr) vK] [] [] pos)
   (λD σ H=>tb (λC dx σ' H'=>PySem.W.mroIn X.K C (.ref B)=some true/\∃ v,(∀ x,v = .ref x->dx=some x)/\∀ a,H' a=none->th C a (D.hand i) (σ'.set i (some (.ref a))) (upd H' a (.ext (DV.excAt C v a)))) D σ H):=by
 intro pins s σ H D I hw;refine wpAny_Try_except (WQ (eE _ (X.pn ++ pins) _ (λps σ1 H1 s1 a C dx J hc hW=>?_) [] s σ H D I.wt hw) (λf s1 hs=>?_) λe s1 he=>he)
 ·have J:Inv X pins σ1 H1 s1:=Inv.iO I.ok J;have hc:pJ X pins H1 s1 a C dx\/sq X pins H1 s1 a C dx:=by
   rcases hc with ⟨T,fl,f,iC,pa,pT⟩ | ⟨y,pa⟩
   ·exact .inl ⟨T,fl,f,iC,pa.iO,pT.iO⟩
   ·exact .inr ⟨y,pa.iO⟩
  refine J.Cr cO hf hex hc λh2 T J2 f2 pa pT=>?_
  refine J2.vJ f2 pT λh3 I3 f3=>?_
  obtain⟨vs3,sl3,_,_,_,u3,_⟩:=id f3;obtain⟨qm,v,hv,qh⟩:=hW;refine wpAny_handleBy_cons (codeAny_handlers_test ?_) (by intro z; cases z);have Md:Inv (X.hand a) pins σ1 H1 { s1 with heap:=h3 }:=I3.hand;refine lO (X:=X.hand a) Md hg hm ?_ cY;refine L_ I3.cy qB qm u3 rfl ?_;refine codeAny_handlers_suite_as (I3.vJ f3 pT λh4 I4 f4=>?_);obtain⟨vs4,sl4,_,_,_,u1,_⟩:=f4;have I5:Inv X pins σ1 (upd H1 a (.ext (DV.excAt C v a))) { s1 with heap:=h4 }:=I4.vI pa ⟨⟨_,u1,rfl,λx z=>hv x z,vs4,rfl⟩,⟨_,u1⟩,λh1 h2 ⟨o,e1,e2⟩ k=>⟨o,k o e1,e2⟩⟩;refine tN (v:=.ref a) (u:=.ref a) (X:=X.hand a) I5.hand hN hi (.inl hl) rfl (λs6 I6 _=>?_) (.inr hl);refine WQ (Mc C a pins s6 _ _ (D.hand i) I6 (qh a pa.free)) (λf s7 hs=>?_) (λe s7 he=>he.elim);have un:∀ {σ':St} {H':Hp} {Q:Flow->W1->Prop},Inv (X.hand a) pins σ' H' s7->(∀ s8,Inv X pins (σ'.set i none) H' s8->Q f s8)->W4 (model X.prog X.w) X.A (do bindName X.env n .none; unbindBehindTheSuite X.env n vK) (λ_ s8=>Q f s8) X.xe s7 :=
   λ{σ' H' Q} J7 k=>L9 (Inv.Ma I.ok J7) hN hi hl λs8 J8=>k s8 J8
  cases f with
  | next=>obtain⟨σ',H',J7,q⟩:=hs; exact un J7 λs8 J8=>⟨_,_,J8,q⟩
  | brk=>obtain⟨σ',H',J7,q⟩:=hs; exact un J7 λs8 J8=>⟨_,_,J8,q⟩
  | cont=>obtain⟨σ',H',J7,q⟩:=hs; exact un J7 λs8 J8=>⟨_,_,J8,q⟩
  | ret u=>obtain⟨v,σ',H',J7,r,q⟩:=hs; exact un J7 λs8 J8=>⟨v,_,_,J8,r,q⟩
 ·have hs:=SP.iO I.ok hs
  cases f with
  | next=>exact wpAny_execs_nil hs
  | brk=>exact hs
  | cont=>exact hs
  | ret u=>exact hs
end
def kb(X:Cx)(W:Addr->Option Addr->St->Hp->Prop):Prop:=∀ ps σ H s a C dx,Inv X ps σ H s->pJ X ps H s a C dx\/sq X ps H s a C dx->W C dx σ H->X.xe (.ref a) s
section
variable {X:Cx} {pins:List (Addr×Obj)} {σ:St} {H:Hp} {s:W1} {b:Addr}
theorem Inv.Me(I:Inv X pins σ H s)(hx:X.ex=[])(h:ka X.prog X.w X.stack H s E v s'):∃ a C dx H',v = .ref a/\Inv X pins σ H' s'/\pJ X pins H' s' a C dx/\E (.ref C) dx H':=by
 obtain⟨a,C,T,dx,H',rfl,ho,hb,un,ah,fl,na,nT,fa,fT,q⟩:=h;exact⟨a,C,dx,H',rfl,I.yZ (ch:=[]) ho un ah hb (λb z=>absurd z (by simp)),⟨T,.none,fl,.inl rfl,I.apart hx na fa,I.apart hx nT fT⟩,q⟩
end
section
variable {X:Cx} {k:Nat} {f:Addr} {fd:WD} {ps:List Str} {sp:Sp} {x:Str} {p pos:Pos} {e:Expr} {es:List Expr} {t:TA} {W:Addr->Option Addr->St->Hp->Prop}
theorem Mf(F:eC X.prog X.w X.K X.mg X.base (ka X.prog X.w) k f fd ps sp)(hr:bX k X.A)(hex:X.ex=[])(hg:Gl X x)(hm:X.mg x=some (.ref f))(hk:Qa X.K (.ref f)=true)(hb:Binds X.K fd ps [])(hx:kb X W)
  (ha:PA X (e :: es) t) (cY:(x == ("__debug__" : Str))=false:=by decide) (he:W7 (e :: es) X.env=(false,eval e X.env) :: W7 es X.env:=by rfl) (bM:(WN pos (W7 es X.env)).any (·.1)=false:=by rfl) :
  PE X (.Call (.Name x p) (e :: es) [] pos) (λσ H Q=>t σ H λvs H1=>sp vs H1 Q (λc dx H'=>∃ C,c = .ref C/\W C dx σ H')):=by
 intro pins s σ H Q I h;refine QG (lO I hg hm ?_ cY);refine PySem.W.callWith_K (h₀:=X.base) I.ok.mod.lJ hk (aM (ha pos pins s σ H _ I h) λus s1 ⟨vs,H1,I1,r,q⟩=>⟨I1.cy,?_⟩) he bM;have hl:(us ++ []).length=ps.length:=by rw[WX,<- r.length]; exact F.len _ _ _ _ q
 refine wpAny_call (Js (F.run X.A X.stack s1 H1 ⟨us,[]⟩ us vs Q _ hr I1.qK (by have:=hb s1 us I1.cy hl; rwa [WX] at this) r q) λr s' hq=>?_)
 cases r with
 | error e =>
  obtain⟨a,C,dx,H',ea,I2,co,C',hC,hW⟩:=I1.Me (E:=λc dx H'=>∃ C,c = .ref C/\W C dx σ H') (v:=e) (s':=s') hex hq
  cases hC;subst ea;exact hx pins σ H' s' a C dx I2 (.inl co) hW
 | ok fl =>
  cases fl with
  | ret u=>exact I1.after hq
  | next=>exact False.elim hq
  | brk=>exact False.elim hq
  | cont=>exact False.elim hq
end
section
variable {P:Wg} {w:Wh} {K:W2} {mg:Str->Option Value} {base:Heap} {N:List Str} {qual:Str} {scope:Scope} {f:Addr} {cd:Value} {A:Wl} {outer:List Env} {s₀:W1} {H₀:Hp} {E:XK}
theorem Mg{W:Addr->Option Addr->St->Hp->Prop}(hW:∀ C dx σ H,W C dx σ H->E (.ref C) dx H):kb (fj (ka P w) P w K mg base N qual scope f cd A outer s₀ H₀ E) W:=λps σ H s a C dx I hc q=>by
 show W4 _ _ (leaving _ _) _ _ _;unfold leaving;refine W0 (I.Cr rfl rfl rfl hc λh2 T I2 f2 pa pT=>I2.vJ f2 pT λh3 I3 f3=>?_);exact⟨a,C,T,dx,H,rfl,I3.os,I3.bare,I3.base,I3.ah,f3,pa.old,pT.old,pa.free,pT.free,hW C dx σ H q⟩
end
def Cx.loop(X:Cx):Cx:={ X with xe:=notedBy (model X.prog X.w) X.A X.env (cameBackBy (model X.prog X.w) X.A X.env X.xe) }
section
variable {X:Cx} {pins ps:List (Addr×Obj)} {σ:St} {H:Hp} {s:W1}
end
end L2
namespace DV
open PySem PySem.Spec PyProof.Rows L2
section
variable {c:Fc} {σ σ':St} {δ δ':Dl} {H H':Hp} {g:Xc->Dl->Prop}
theorem Ok.since(h0:c.H₀=H)(k:Ok c σ δ H)(hI:∀ a,c.I a->Own σ δ a)(k':Ok c σ' δ' H'):aE c σ δ H σ' δ' H':=by
 refine⟨k',λa o e n=>k'.keep a o (by rw[h0]; exact e) λz=>n (hI a z),λa ⟨i,d,e1,e2⟩=>?_,λa o e=>?_⟩
 ·obtain⟨b,e3,_,q,_⟩:=k'.own i d e1;rw[e2] at e3; cases e3
  rcases q with q | q
  ·exact .inl (hI a q)
  ·rw[h0] at q; exact .inr q
 ·by_cases z:c.I a
  ·exact k'.cQ a z
  ·exact⟨o,k'.keep a o (by rw[h0]; exact e) z⟩
end
def wD(mg:Str->Option Value)(c:Fc)(C:Addr)(dx:Option Addr)(σ:St)(H:Hp):Prop:=∃ (x:Xc) (δ:Dl) (v:V),mg (toS x.cls)=some (.ref C)/\Ok c σ δ H/\Rep H (Av c σ δ) v x.iE/\(∀ y,v = .ref y->dx=some y)/\c.xc x δ
def pK(x:Tx):DS:=λδ=>.exc ⟨x,.aw⟩ δ
theorem Mh {X:Cx} {c:Fc} {x:Str} {C:Addr} {np aJ pos:Pos} (y:Tx) (q:jo X.K C) (hc:X.calm=true) (hg:Gl X x) (hm:X.mg x=some (.ref C)) (hx:kb X (wD X.mg c)) (hy:x=toS y:=by decide +kernel) (hd:(x == ("__debug__" : Str))=false:=by decide) (hex:X.ex=[]:=by rfl) :
  SS X c (.Raise (some (.Call (.Name x np) [] [] aJ)) none pos) (pK y) :=
 PS.weak (L8 (W:=λσ H=>wD X.mg c C none σ H) q hc hg hm hd λps σ H s h' e I w hm=>by
  obtain⟨t,ht,_⟩:=hm.there;have I1:Inv X ps σ H { s with heap:=h' }:=I.kept (t':=s.toks) hm.keeps;exact hx ps σ H _ e C none I1 (.inr ⟨⟨_,_,_,ht,rfl,rfl⟩,I.apart hex hm.new (I.gone hex hm.new).1⟩) w) λD σ H ⟨δ,k,w⟩=>⟨⟨y,.aw⟩,δ,.aw,by rw[<- hy]; exact hm,k,.aw,λ_ z=>(by cases z),w⟩
abbrev DX:=List S->Option ((S×List S) ⊕ (Xc×List S))
def mx(f:DS)(n:Nat)(ss:List S):Option ((S×List S) ⊕ (Xc×List S)):=match f (bc n ss) with
 | .ok fl δ=>(cf fl).bind λr=>(bA 0 ss δ).map λaB=>.inl (r,aB)
 | .exc x δ=>(bA 0 ss δ).map λaB=>.inr (x,aB)
 | .stuck=>none
def vL(mg:Str->Option Value)(n:Nat)(G:DX):Sp:=λvs H Q E=>∃ ss B,vs.length=n/\Ok ⟨H,B,bJ 0 ss vs,λ_ _=>False⟩ (bK vs) (bQ ss) H/\∃ y,G ss=some y/\match y with
 | .inl (r,aB)=>∀ v H',aE ⟨H,B,bJ 0 ss vs,λ_ _=>False⟩ (bK vs) (bQ ss) H (bK vs) (bQ aB) H'->aZ ⟨H,B,bJ 0 ss vs,λ_ _=>False⟩ (bK vs) (bQ aB) H H' v r->Q v H'
 | .inr (x,aB)=>∀ C dx v H',mg (toS x.cls)=some (.ref C)->aE ⟨H,B,bJ 0 ss vs,λ_ _=>False⟩ (bK vs) (bQ ss) H (bK vs) (bQ aB) H'->Rep H' (Av ⟨H,B,bJ 0 ss vs,λ_ _=>False⟩ (bK vs) (bQ aB)) v x.iE->(∀ y,v = .ref y->dx=some y)->E (.ref C) dx H'
def nL(P:Wg)(w:Wh)(K:W2)(mg:Str->Option Value)(base:Heap)(k:Nat)(x:Str)(n:Nat)(G:DX):Prop :=
 ∃ (f:Addr) (fd:WD) (ps:List Str),mg x=some (.ref f)/\Qa K (.ref f)=true/\Binds K fd ps []/\eC P w K mg base (ka P w) k f fd ps (vL mg n G)
theorem Mi(h:(⟨H,B,bJ 0 ss vs,g⟩:Fc).I a):Own (bK vs) (bQ ss) a:=by
 obtain⟨i,hi⟩:=h;obtain⟨j,d,_,e1,e2⟩:=k_ hi;exact⟨j,d,eQ.mpr e1,eW.mpr e2⟩
section
variable {P:Wg} {w:Wh} {K:W2} {mg:Str->Option Value} {base:Heap}
theorem aZ.Mj(h:aZ { c with xc:=g } σ δ Hs H v r):aZ c σ δ Hs H v r:=by
 cases r with
 | pure d=>exact h
 | own d =>
  obtain⟨a,e,o,n,f,k,q⟩:=h;exact⟨a,e,o,n,f,⟨k.keep,k.bd,k.cQ,k.len,k.slot,k.own,k.inj,k.pinned⟩,q⟩
theorem Ml{x qual:Str}{st:Stmt}{f:Addr}{fd:WD}{N ps:List Str}{k:Nat}{np:List Nat}{fb:DS}{G:DX}(F:bV K x qual st f fd)(S:cu N ps (bf st))
  (eE:∀ (c:Fc) (aO:Value) (A:Wl) (outer:List Env) (s:W1) (H:Hp) (E:XK),bX k (A.deeper (QU qual (bf st) s.heap.objs.size f aO))->Np c np ->
   kb (fj (ka P w) P w K mg base N qual (bf st) f aO A outer s H E) (wD mg c)->gp (fj (ka P w) P w K mg base N qual (bf st) f aO A outer s H E) c (fm st) fb)
  (hG:∀ ss y,G ss=some y->bR np 0 ss=true/\mx fb N.length ss=some y):eC P w K mg base (ka P w) (k + 1) f fd ps (vL mg ps.length G):=by
 obtain⟨oc,od,kV,doc,pm,an,aO,ct,i_,rfl,lk,dj⟩:=F.ex;refine zK lk dj S (λvs H Q E h=>?_) λA outer s H vs Q E hr h=>?_
 ·obtain⟨ss,B,hl,_⟩:=h;exact hl
 ·obtain⟨ss,B,hl,ok,y,hg,q⟩:=h;obtain⟨fX,hrun⟩:=hG ss _ hg;have j5:ss.length=vs.length:=by have:=ok.len; simpa using this
  let g:Xc->Dl->Prop:=λx δ'=>∃ aB,bA 0 ss δ'=some aB/\y = .inr (x,aB)
  have oV:Np ⟨H,B,bJ 0 ss vs,g⟩ np:=λp hp=>by
   obtain⟨j,d,e,h1,_⟩:=k_ (i:=p.1) (a:=p.2) hp;rw[e];exact r8 fX h1
  have cO:start N vs=bK vs ++ Wc (N.length - ss.length) none:=by rw[j5]; rfl
  have jq:Ok ⟨H,B,bJ 0 ss vs,λ_ _=>False⟩ (start N vs) (bc N.length ss) H:=by rw[cO]; exact ok.ext _
  have gD:∀ C dx σ' H',wD mg ⟨H,B,bJ 0 ss vs,g⟩ C dx σ' H'->E (.ref C) dx H':=λC dx σ' H' ⟨z,δ',v,hm,k',rv,hv,aB,ho,hy⟩=>by
   rw[hy] at q;have k1:Ok ⟨H,B,bJ 0 ss vs,λ_ _=>False⟩ σ' δ' H':=⟨k'.keep,k'.bd,k'.cQ,k'.len,k'.slot,k'.own,k'.inj,k'.pinned⟩
   have a:aE ⟨H,B,bJ 0 ss vs,λ_ _=>False⟩ (bK vs ++ Wc (N.length - ss.length) none) (bQ ss ++ Wc (N.length - ss.length) none) H σ' δ' H' :=
    Ok.since rfl (by rw[cO] at jq; exact jq) (λa z=>Own.ext.mpr (Mi z)) k1
   exact q C dx v H' hm (lb rfl ok a ho).1 ((lb rfl ok a ho).2 v (.pure z.iE) rv) hv
  refine⟨k7 ⟨H,B,bJ 0 ss vs,g⟩ fb,eE ⟨H,B,bJ 0 ss vs,g⟩ aO A outer s H E hr oV (Mg gD),bc N.length ss,⟨jq.keep,jq.bd,jq.cQ,jq.len,jq.slot,jq.own,jq.inj,jq.pinned⟩,?_⟩;unfold mx at hrun;unfold dW
  cases e:fb (bc N.length ss) with
  | stuck=>rw[e] at hrun; cases hrun
  | exc x δx =>
   rw[e] at hrun;simp only at hrun
   cases eo:bA 0 ss δx with
   | none=>rw[eo] at hrun; cases hrun
   | some os =>
    rw[eo] at hrun
    cases hrun;exact⟨os,eo,rfl⟩
  | ok fl δ' =>
   rw[e] at hrun;show ∀ σ' H',aE _ (start N vs) (bc N.length ss) H σ' δ' H'->fin _ _ σ' δ' H' fl;intro σ' H' a;rw[cO] at a;have k1:=a.ok;have a1:aE ⟨H,B,bJ 0 ss vs,λ_ _=>False⟩ (bK vs ++ Wc (N.length - ss.length) none) (bc N.length ss) H σ' δ' H':=⟨⟨k1.keep,k1.bd,k1.cQ,k1.len,k1.slot,k1.own,k1.inj,k1.pinned⟩,a.keep,a.own,a.there⟩
   simp only at hrun
   cases fl with
   | brk=>cases hrun
   | cont=>cases hrun
   | next =>
    simp only[cf,WA] at hrun
    cases eo:bA 0 ss δ' with
    | none=>rw[eo] at hrun; cases hrun
    | some os =>
     rw[eo] at hrun
     cases hrun;obtain⟨l1,l2⟩:=lb rfl ok a1 eo;exact q .aw H' l1 .aw
   | ret r' =>
    simp only[cf,WA] at hrun
    cases eo:bA 0 ss δ' with
    | none=>rw[eo] at hrun; cases hrun
    | some os =>
     rw[eo] at hrun
     cases hrun;obtain⟨l1,l2⟩:=lb rfl ok a1 eo;exactλv rv=>q v H' l1 (l2 v _ (aZ.Mj (c:=⟨H,B,bJ 0 ss vs,λ_ _=>False⟩) (g:=g) rv))
theorem Cs{x qual:Str}{st:Stmt}{f:Addr}{fd:WD}{N ps:List Str}{k:Nat}{np:List Nat}{fb:DS}{G:DX}(F:bV K x qual st f fd)(hm:mg x=some (.ref f))(hb:Binds K fd ps [])(S:cu N ps (bf st))
  (eE:∀ (c:Fc) (aO:Value) (A:Wl) (outer:List Env) (s:W1) (H:Hp) (E:XK),bX k (A.deeper (QU qual (bf st) s.heap.objs.size f aO))->Np c np ->
   kb (fj (ka P w) P w K mg base N qual (bf st) f aO A outer s H E) (wD mg c)->gp (fj (ka P w) P w K mg base N qual (bf st) f aO A outer s H E) c (fm st) fb)
  (hG:∀ ss y,G ss=some y->bR np 0 ss=true/\mx fb N.length ss=some y):nL P w K mg base (k + 1) x ps.length G:=⟨f,fd,ps,hm,F.kp,hb,Ml F S eE hG⟩
end
def vM:(S×List S) ⊕ (Xc×List S)->List S
 | .inl y=>y.2
 | .inr y=>y.2
def pL(G:DX):Prop:=∀ ss y,G ss=some y->∀ (j:Nat),(∀ d,ss[j]? = some (.own d)->∃ d',(vM y)[j]? = some (.own d'))/\∀ d,ss[j]? = some (.pure d)->∃ d',(vM y)[j]? = some (.pure d')
theorem Mm{ss os:List S}{δ:Dl}(e:bA 0 ss δ=some os)(j:Nat):(∀ d,ss[j]? = some (.own d)->∃ d',os[j]? = some (.own d'))/\∀ d,ss[j]? = some (.pure d)->∃ d',os[j]? = some (.pure d'):=by
 obtain⟨h1,h2⟩:=oU e;refine⟨λd ed=>?_,λd ed=>?_⟩
 ·rcases h2 j _ ed with ⟨d',z,_⟩ | ⟨d',d'',_,_,z⟩
  ·cases z
  ·exact⟨d'',z⟩
 ·rcases h2 j _ ed with ⟨d',z,z'⟩ | ⟨d',d'',z,_⟩
  ·exact⟨d',z'⟩
  ·cases z
theorem Mn(h:mx fb n ss=some y):∃ δ,bA 0 ss δ=some (vM y):=by
 unfold mx at h
 cases e:fb (bc n ss) with
 | stuck=>rw[e] at h; cases h
 | exc x δ =>
  rw[e] at h;simp only at h
  cases e2:bA 0 ss δ with
  | none=>rw[e2] at h; cases h
  | some os=>rw[e2] at h; cases h; exact⟨δ,e2⟩
 | ok fl δ =>
  rw[e] at h;simp only at h
  cases e1:cf fl with
  | none=>rw[e1] at h; cases h
  | some r =>
   rw[e1] at h;simp only[WA] at h
   cases e2:bA 0 ss δ with
   | none=>rw[e2] at h; cases h
   | some os=>rw[e2] at h; cases h; exact⟨δ,e2⟩
def jr(np:List Nat)(n:Nat)(b:DS):DX:=λss=>if bR np 0 ss then mx b n ss else none
theorem vN(h:jr np n b ss=some y):bR np 0 ss=true/\mx b n ss=some y:=by
 unfold jr at h;split at h
 ·exact⟨by assumption,h⟩
 ·cases h
theorem Ct{np:List Nat}{n:Nat}{b:DS}:pL (jr np n b):=λss y h j=>by
 obtain⟨δ,e⟩:=Mn (vN h).2;exact Mm e j
def jt(G:DX)(as:List Ak):DE:=λδ=>if (a_ as).all (bT δ) && bC (a_ as) then(bx as δ).bind λds δ1=>match bj as ds δ1 with
  | none=>.stuck
  | some ss=>match G ss with
   | none=>.stuck
   | some (.inl (r,aB))=>.ok r (aP as aB δ1)
   | some (.inr (x,aB))=>.exc x (aP as aB δ1)
 else .stuck
section
variable {X:Cx} {c:Fc} {e:Expr} {es:List Expr} {as:List Ak} {k n:Nat} {x:Str} {G:DX} {pp pos:Pos}
theorem Mo(hK:pL G)(hl:as.length=n)(h:tD c (jt G as) σ H Q):tX c as σ H λvs H1=>vL X.mg n G vs H1 Q (λc' dx H'=>∃ C,c' = .ref C/\wD X.mg c C dx σ H'):=by
 obtain⟨δ,kk,q⟩:=h;unfold jt at q;split at q
 ·rename_i hc;rw[Wm] at hc;have nd:=vc hc.2;rw[bh] at q;refine⟨δ,kk,λi hi=>?_,aX q λds δ1 q1 vs H1 a1 r1=>?_⟩
  ·have:=Qj.mp hc.1 i (lh.mpr hi);unfold bT at this;split at this
   ·rename_i d ed;exact nc kk ed
   ·cases this
  ·cases em:bj as ds δ1 with
   | none=>rw[em] at q1; exact q1.elim
   | some ss =>
    rw[em] at q1;simp only at q1
    cases eg:G ss with
    | none=>rw[eg] at q1; exact q1.elim
    | some y =>
     rw[eg] at q1;have lj:=BG a1.ok r1 em nd;obtain⟨m1,m2,_⟩:=r_ r1 em;have g2:=hK ss y eg;refine⟨ss,_,by rw[<- m2]; exact hl,lj,y,eg,?_⟩
     cases y with
     | inl y =>
      obtain⟨r,aB⟩:=y;intro v H2 a2 r2;obtain⟨o1,o2⟩:=vf a1.ok r1 em nd rfl a2 (λj d ed=>(g2 j).1 d ed) λj d ed=>(g2 j).2 d ed
      exact q1 v H2 (a1.trans o1) (aZ.back (o2 v r r2) a1)
     | inr y =>
      obtain⟨z,aB⟩:=y;intro C dx v H2 hm a2 rv hv;obtain⟨o1,o2⟩:=vf a1.ok r1 em nd rfl a2 (λj d ed=>(g2 j).1 d ed) λj d ed=>(g2 j).2 d ed
      exact⟨C,rfl,z,aP as aB δ1,v,hm,o1.ok,o2 v (.pure z.iE) rv,hv,q1⟩
 ·exact q.elim
theorem Cu (F:nL X.prog X.w X.K X.mg X.base k x n G) (hK:pL G) (hr:bX k X.A) (hex:X.ex=[]) (hx:kb X (wD X.mg c)) (hg:Gl X x) (ha:SX X c (e :: es) as) (hl:as.length=n) (cY:(x == ("__debug__" : Str))=false:=by decide)
  (he:W7 (e :: es) X.env=(false,eval e X.env) :: W7 es X.env:=by rfl) (bM:(WN pos (W7 es X.env)).any (·.1)=false:=by rfl):SE X c (.Call (.Name x pp) (e :: es) [] pos) (jt G as):=by
 obtain⟨f,fd,ps,hm,hk,hb,ok⟩:=F;exact PE.weak (Mf ok hr hex hg hm hk hb hx ha cY he bM) λσ H Q h=>Mo hK hl h
end
def su(δ:Dl):Bool:=δ.all fun
 | some (.own _)=>false
 | _=>true
def unset(i:Nat):Rs Fl->Rs Fl
 | .ok fl δ=>.ok fl (δ.set i none)
 | r=>r
def pM(ce:Tx->Nat)(ys:List Tx)(i:Nat)(fb fh:DS):DS:=λδ=>if su δ then match fb δ with
  | .exc x δ'=>if ys.contains x.cls && decide (i < δ'.length) then unset i (fh (δ'.set i (some (.pure (.exc (ce x.cls) x.iE))))) else .stuck
  | r=>r
 else .stuck
section
variable {c:Fc} {σ σ':St} {δ δ':Dl} {H H':Hp}
theorem Mp(h:Np c []):c.pin=[]:=by
 cases e:c.pin with
 | nil=>rfl
 | cons p r =>
  have:=h p (by rw[e]; exact Wj);simp at this
theorem aE.unset(x:aE c σ₀ δ₀ H₀ σ δ H)(hp:c.pin=[])(i:Nat):aE c σ₀ δ₀ H₀ (σ.set i none) (δ.set i none) H:=by
 have k:=x.ok;have back:∀ {α:Type} {l:List (Option α)} {j:Nat} {v:α},(l.set i none)[j]? = some (some v)->l[j]? = some (some v)/\i≠j:=λ{α l j v} e=>by
  by_cases hj:i=j
  ·subst hj;rw[WL] at e;simp at e
  ·rw[W5 hj] at e;exact⟨e,hj⟩
 have own:∀ a,Own (σ.set i none) (δ.set i none) a->Own σ δ a:=λa ⟨j,d,e1,e2⟩=>⟨j,d,(back e1).1,(back e2).1⟩
 have av:∀ a,Av c (σ.set i none) (δ.set i none) a->Av c σ δ a:=λa z=>z.elim .inl λz=>.inr (own a z)
 refine⟨⟨k.keep,k.bd,k.cQ,by simp[k.len],λj d e=>?_,λj d e=>?_,λj1 j2 a d d' e1 e2 e3 e4=>k.inj j1 j2 a d d' (back e1).1 (back e2).1 (back e3).1 (back e4).1,λp hm=>by rw[hp] at hm; simp at hm⟩,x.keep,λa z=>x.own a (own a z),x.there⟩
 ·obtain⟨e',n⟩:=back e;obtain⟨v,e1,r⟩:=k.slot j d e';exact⟨v,by rw[W5 n]; exact e1,r.aW λa z=>.inl (av a z)⟩
 ·obtain⟨e',n⟩:=back e;obtain⟨a,e1,r,q⟩:=k.own j d e';exact⟨a,by rw[W5 n]; exact e1,r.aW λa z=>.inl (av a z),q⟩
end
section
variable {c:Fc} {σ σ':St} {δ δ':Dl} {H H':Hp} {B':Addr->Prop} {g:Xc->Dl->Prop}
theorem Ok.Cv(k:Ok c σ δ H)(h:su δ=true):Ok ⟨H,c.B,[],g⟩ σ δ H :=
 ⟨λ_ _ e _=>e,k.bd,λa ⟨i,z⟩=>(by simp at z),k.len,k.slot,λi d e=>((by have:=Qj.mp h _ (Wx e); cases this)),k.inj,λp z=>(by simp at z)⟩
theorem Ok.my(k:Ok c σ δ H)(hp:c.pin=[])(k':Ok ⟨H,B',[],g⟩ σ' δ' H'):Ok { c with B:=B' } σ' δ' H':=by
 have nI:∀ a,¬ c.I a:=λa ⟨i,z⟩=>by rw[hp] at z; simp at z
 have Cw:∀ a,¬ (⟨H,B',[],g⟩:Fc).I a:=λa ⟨i,z⟩=>by simp at z
 refine⟨λa o e n=>k'.keep a o (k.keep a o e n) (Cw a),k'.bd,λa z=>absurd z (nI a),k'.len,k'.slot,λi d e=>?_,k'.inj,λp z=>by rw[show({ c with B:=B' }:Fc).pin=c.pin from rfl,hp] at z; simp at z⟩;obtain⟨a,e1,r,q,nb⟩:=k'.own i d e;refine⟨a,e1,r,.inr ?_,nb⟩;rcases q with q | q
 ·exact absurd q (Cw a)
 ·exact k.jO q
theorem aE.my(k:Ok c σ δ H)(hp:c.pin=[])(x:aE ⟨H,c.B,[],g⟩ σ δ H σ' δ' H'):aE c σ δ H σ' δ' H':=⟨k.my hp x.ok,x.keep,x.own,x.there⟩
theorem aZ.my(k:Ok c σ δ H)(hp:c.pin=[])(h:aZ ⟨H,c.B,[],g⟩ σ' δ' H H' v r):aZ c σ' δ' c.H₀ H' v r:=by
 cases r with
 | pure d=>exact h
 | own d =>
  obtain⟨a,e,o,n,f,k',q⟩:=h;exact⟨a,e,o,n,k.jO f,k.my hp k',k.jO f⟩
theorem aZ.unset(hp:c.pin=[])(i:Nat)(h:aZ c σ δ Hs H v r):aZ c (σ.set i none) (δ.set i none) Hs H v r:=by
 have own:∀ a,Own (σ.set i none) (δ.set i none) a->Own σ δ a:=λa ⟨j,d,e1,e2⟩=>by
  have back:∀ {α:Type} {l:List (Option α)} {v:α},(l.set i none)[j]? = some (some v)->l[j]? = some (some v):=λ{α l v} e=>by
   by_cases hj:i=j
   ·subst hj; rw[WL] at e; simp at e
   ·rw[W5 hj] at e; exact e
  exact⟨j,d,back e1,back e2⟩
 cases r with
 | pure d=>exact Rep.aW h λa z=>.inl (z.elim .inl λz=>.inr (own a z))
 | own d =>
  obtain⟨a,e,o,n,f,k,q⟩:=h;exact⟨a,e,o.aW λb z=>.inl (z.elim .inl λz=>.inr (own b z)),n,f,(aE.unset (aE.refl k) hp i).ok,q⟩
end
theorem Mq(hex:X.ex=[])(aD:Np c [])(cO:X.stack=X.env :: X.outer)(hf:X.env.frame=some X.env.locals)
  (hN:X.N.Nodup) (hi:X.N[i]? = some n) (hl:X.env.scope.names.lookup n=some .local) (hg:Gl X x) (hm:X.mg x=some (.ref B)) (qB:jo X.K B)
  (Mr:∀ y ∈ ys,X.mg (toS y)=some (.ref (ce y))/\PySem.W.mroIn X.K (ce y) (.ref B)=some true)
  (hb:∀ (c':Fc) (pn:List (Addr×Obj)) (xe:Value->W1->Prop),Np c' []->kb (X.wt pn xe) (wD X.mg c')->gp (X.wt pn xe) c' body fb) (hh:∀ a,gp (X.hand a) c (b₀ :: sr) fh) (cY:(x == ("__debug__" : Str))=false:=by decide) :
  SS X c (.Try body [.ExceptHandler (some (.Name x np)) (some n) (b₀ :: sr) vK] [] [] pos) (pM ce ys i fb fh):=by
 have hp:=Mp aD;refine PS.weak (Mb (i:=i) (B:=B) (th:=λ_ _=>k7 c fh)
  (tb:=λW D σ H=>k7 ⟨H,c.B,[],λz δ'=>∀ σ' H',Ok ⟨H,c.B,[],λ_ _=>False⟩ σ' δ' H'->∀ C dx v,X.mg (toS z.cls)=some (.ref C)->Rep H' (Av ⟨H,c.B,[],λ_ _=>False⟩ σ' δ') v z.iE->(∀ y,v = .ref y->dx=some y)->W C dx σ' H'⟩ fb D σ H) hex cO hf hN hi hl hg hm qB cY
  (λW pn xe acc pins s σ H D I hw=>hb _ pn xe (λp z=>(by simp at z)) (λps σ' H' s' a C dx J co ⟨y,δ',v,hy,k',rv,hv,w'⟩=>acc ps σ' H' s' a C dx J co (w' σ' H' ⟨k'.keep,k'.bd,k'.cQ,k'.len,k'.slot,k'.own,k'.inj,k'.pinned⟩ C dx v hy rv hv)) pins s σ H D I hw)
  (λ_ a=>hh a)) λD σ H ⟨δ,k,q⟩=>?_
 unfold pM at q;split at q
 ·rename_i eT;refine⟨δ,k.Cv eT,?_⟩;unfold dW at q ⊢
  cases e:fb δ with
  | stuck=>rw[e] at q; exact q.elim
  | ok fl δ' =>
   rw[e] at q;intro σ' H' a;have f0:=q σ' H' (aE.my k hp a)
   cases fl with
   | next=>exact f0
   | brk=>exact f0
   | cont=>exact f0
   | ret r=>exactλv rv=>f0 v (aZ.my k hp rv)
  | exc z δ' =>
   rw[e] at q;simp only at q;split at q
   ·rename_i hc;simp only[Wm,decide_eq_true_eq] at hc;obtain⟨hy,aY⟩:=hc;intro σ' H' k' C dx v hC rv hv;obtain⟨y1,y2⟩:=Mr z.cls (by simpa using hy);rw[y1] at hC
    cases hC;refine⟨y2,v,hv,λa ha=>?_⟩;have A1:aE c σ δ H σ' δ' H':=aE.my k hp (Ok.since (c:=⟨H,c.B,[],λ_ _=>False⟩) rfl (k.Cv eT) (λa ⟨j,z⟩=>by simp at z) k');have A2:=A1.trans (aE.alloc A1.ok ha (.ext (excAt (ce z.cls) v a)));have A3:=Ok.set (i:=i) (v:=.ref a) (r:=.pure (.exc (ce z.cls) z.iE)) A2 (.exc (A1.ok.g7 ha) cq (Rep.du rv (aE.alloc A1.ok ha _))) (λp zz=>by rw[hp] at zz; simp at zz);refine⟨δ'.set i (some (.pure (.exc (ce z.cls) z.iE))),A3.ok,?_⟩;unfold dW;generalize fh (δ'.set i (some (.pure (.exc (ce z.cls) z.iE))))=r at q
    cases r with
    | stuck=>exact q.elim
    | exc z' δ4=>exact q
    | ok fl δ4 =>
     intro σ4 H4 A4;have f0:=q (σ4.set i none) H4 (aE.unset (A3.trans A4) hp i)
     cases fl with
     | next=>exact f0
     | brk=>exact f0
     | cont=>exact f0
     | ret r=>exactλv rv=>f0 v (aZ.unset hp i rv)
   ·exact q.elim
 ·exact q.elim
end DV
namespace L2
open PySem PySem.Spec PyProof.Rows PySem.W Builtin Builtin.ObjectAttr Builtin.Getset_descriptor
section
variable {prog:Wg} {w:Wh} {A:Wl} {E:Value->W1->Prop} {K:W2} {C e:Addr} {oe:Obj} {h:Heap} {g:Array GenState} {d:Drawn} {t:Nat} {os:OsState}
structure kc(K:W2)(C:Addr):Prop where
 ga:Jh K (.ref C) "__getattribute__" = some (some (.builtin "BaseException.__getattribute__"))
 gt:Jh K (.ref C) "__getattr__" = some none
 cl:Jh K (.ref C) "__class__" = some (some (.builtin "object.__class__"))
 sp:specialIn K (.builtin "object.__class__") "__get__" = some (some (.builtin "getset_descriptor.__get__"))
 tk:takesIn K (.builtin "object.__class__")=some true
 mo:mroIn K C (.type "object")=some true
 mb:mroIn K C (.type "BaseException")=some true
theorem Ms(X:K.In h)(k:kc K C)(he:h.get? e=some oe)(hc:oe.cls = .ref C)(q:R (.ok (.ret (.ref C))) ⟨h,g,d,t,os⟩) :
  Qq (model prog w) A (.call (.builtin "getset_descriptor.__get__") ⟨[.builtin "object.__class__",.ref e,tp],[]⟩) R ⟨h,g,d,t,os⟩:=by
 have l1:Looks (model prog w) h (typeOf (.ref e)) (.ref C):=hc ▸ (Looks.ld he).andThen .now;have l2:=looks_mroIn (M:=model prog w) X k.mo;refine codeAny_call_builtin
  KF.slot_gs.plain KF.entry_gs
  (KF.slot_gs.check _ _ _ _ _ _ _ _
   KF.type_class (KF.args_gs _ _ _) ?_)
 unfold Builtin.«getset_descriptor.__get__» descrGet; rw[dga_obj]
 refine W0 (W3 ?_);unfold descrGetter descrCheckInstance descrNameAndClass isInstance; simp only[KF.owner_class]
 repeat lk
 refine⟨Code.quiet_builtin _ (by decide +kernel),
  Jq KF.entry_class ?_⟩
 unfold Builtin.«object.__class__» shownTypeOf; repeat lk
 exact q
theorem Mt(X:K.In h)(k:kc K C)(he:h.get? e=some oe)(hc:oe.cls = .ref C)(q:Q (.done (.ret (.ref C))) ⟨h,g,d,t,os⟩) :
  W4 (model prog w) A (Builtin.«object.__getattribute__» ⟨[.ref e,.str "__class__" tk],[]⟩) Q E ⟨h,g,d,t,os⟩:=by
 have l0:Looks (model prog w) h (typeOf (.ref e)) (.ref C):=hc ▸ (Looks.ld he).andThen .now;have l1:=looks_findIn (M:=model prog w) X k.cl;have l2:=KF.type_class;have l3:=F.slot_gs_get.lookup;have l4:=F.slot_gs_set.lookup;repeat (any_goals (first | assumption | with_reducible refine Looks.at l0 ?_ | with_reducible refine Looks.at l1 ?_ | (with_reducible refine Qc he ?_; rw[hc]) | wp_step))
 refine Ms X k he hc ?_;repeat (any_goals (first | assumption | wp_step))
theorem Mu(X:K.In h)(k:kc K C)(he:h.get? e=some oe)(hc:oe.cls = .ref C)(q:Q () ⟨h,g,d,t,os⟩) :
  W4 (model prog w) A (checkBuiltinCall "BaseException.__getattribute__" ⟨[.ref e,nv],[]⟩) Q E ⟨h,g,d,t,os⟩:=by
 have l0:Looks (model prog w) h (typeOf (.ref e)) (.ref C):=hc ▸ (Looks.ld he).andThen .now;have l1:=looks_mroIn (M:=model prog w) X k.mb;have b1:builtinKind "BaseException.__getattribute__" = some .slot:=by decide +kernel
 have b2:splitId "BaseException.__getattribute__" = some ("BaseException","__getattribute__"):=by decide +kernel
 have b3:=F.args_bexc_ga (.ref e) nv;simp only[checkBuiltinCall,b1,b2];refine W0 ?_;unfold isInstance;repeat (first | with_reducible refine Looks.at l0 ?_ | with_reducible refine Looks.at l1 ?_ | (with_reducible refine Qc he ?_; rw[hc]) | wp_step)
 exact q
theorem Mv (X:K.In h) (k:kc K C) (he:h.get? e=some oe) (hc:oe.cls = .ref C) (q:Q (some (.ref C)) ⟨h,g,d,t + 1,os⟩):W4 (model prog w) A (getAttr? (.ref e) "__class__") Q E ⟨h,g,d,t,os⟩:=by
 have L0:Looks (model prog w) h (typeOf (.ref e)) (.ref C):=hc ▸ (Looks.ld he).andThen .now;have L1:=looks_findIn (M:=model prog w) X k.ga;have L2:=looks_findIn (M:=model prog w) X k.gt;have L3:=looks_mroIn (M:=model prog w) X k.mb;have SR:(false && onTheHeap (Value.builtin "BaseException.__getattribute__"))=false:=rfl;have Mw:(Value.builtin "BaseException.__getattribute__" == Value.builtin "object.__getattribute__")=false:=by decide +kernel
 have f3:=F.attrBase_ValueError.ga.bind (.ref e);unfold getAttr? getAttrBy? getAttrBy;refine W0 (wpAny_mkText (W0 (wpAny_attempt (WK (W0 (L0.at (W0 (L1.at ?_))))))));dsimp only;rw[Mw,Bool.and_false];simp only[Jz,if_false];unfold getAttrByItsOwn hookBefore;repeat (any_goals (first | assumption | with_reducible refine Looks.at L2 ?_ | wp_step))
 refine codeAny_call_builtin F.attrBase_ValueError.ga.plain F.entry_bexc_ga (Mu X k he hc (Mt X k he hc ?_));repeat (any_goals (first | assumption | wp_step))
theorem Mx{v:V}(k:kc K C)(hk:(clsIn K C).isSome=true):KitX K (.ref e) (.ref C) (DV.excAt C v e) where
 ty:=λM h X ⟨o,h1,h2,_⟩=>h2 ▸ (Looks.ld h1).andThen .now
 it:=λM h X _=>by
  obtain⟨cd,dj⟩:=QB.mp hk;unfold clsIn at dj;split at dj;next c' d' cd' sl' ho=>exactλA' Q' E' s' kk q=>by unfold isType loadHead; exact W0 (wpAny_loadPart (kk _ _ (X _ _ ho)) (W3 q))
  next=>cases dj
 ne:=λh tp dd af n sl X My=>by
  obtain⟨cd,dj⟩:=QB.mp hk;refine Bool.eq_false_iff.mpr λq=>?_
  obtain rfl:C=tp:=Value.ref.inj (beq_iff_eq.mp q);unfold clsIn at dj;split at dj;next c' d' cd' sl' ho=>have z:=(X _ _ ho).symm.trans My; cases z
  next=>cases dj
 ca:=λ{prog w A E Q s} X ⟨o,h1,h2,_⟩ q=>by
  obtain⟨hh,gg,dd,tt,oo⟩:=s;exact Mv X k h1 h2 q
end
section
variable {X:Cx} {y:Str} {D:Addr} {pos:Pos}
theorem Mz (hg:Gl X y) (hm:X.mg y=some (.ref D)) (hd:(y == ("__debug__" : Str))=false:=by decide):PE X (.Name y pos) (λσ H Q=>Q (.ref D) H):=λpins s σ H Q I h=>lO I hg hm ⟨.ref D,H,I,rfl,h⟩ hd
structure IsT(K:W2)(ce:DV.Tx->Nat)(ys:List DV.Tx)(cv:Value)(tab:DV.Tx->Bool):Prop where
 k:∀ z ∈ ys,kc K (ce z)
 c:∀ z ∈ ys,(PySem.W.clsIn K (ce z)).isSome=true
 one:∀ z ∈ ys,Qw K (.ref (ce z)) cv=some (tab z)
theorem Cy(Cz:∀ u,RelV cV u->u=cv)(T:IsT X.K ce ys cv tab) :
  eS X (.builtin "isinstance") (λxs H Q=>∃ (a:Addr) (z:DV.Tx) (v:V),xs=[.ref a,cV]/\H a=some (.ext (DV.excAt (ce z) v a))/\z ∈ ys/\Q (.bl (tab z)) H):=by
 intro pins s σ H xs us Q I r h;obtain⟨a,z,v,rfl,ha,hz,q⟩:=h;obtain⟨u,w',rfl,r1,r2⟩:=t5 r
 cases r1;have e:=Cz _ r2;subst e;obtain⟨p,_,_⟩:=I.ah a _ ha;exact WW (Mx (T.k z hz) (T.c z hz)) I.cy p (T.one z hz) (λz=>nomatch z) λtk=>⟨.bl (tab z),H,I.tok tk,rfl,q⟩
end
structure fM(k:Nat)(A:Wl):Prop where
 dp:A.depth + 3 * k + 5 < recursionLimit
 un:A.units + 16 * k + 200 < Ww
theorem fM.deeper(r:fM (k + 1) A)(env:Env):fM k (A.deeper env) :=
 ⟨by have:=r.dp; show A.depth + 1 + 3 * k + 5 < _; omega,by have:=r.un; show A.units + 3 + 16 * k + 200 < _; omega⟩
theorem bX.h(r:bX k A):fM k A:=⟨r.dp,r.un⟩
theorem fM.mono(r:fM k A)(h:j<=k):fM j A:=⟨by have:=r.dp; omega,by have:=r.un; omega⟩
theorem fM.mark(r:fM k A)(v:Option Value):fM k (A.mark v):=⟨r.dp,r.un⟩
def Cx.vO(X:Cx):Cx:={ X with calm:=false,xe:=λ_ _=>False }
structure vP(P:Wg)(w:Wh)(K:W2)(mg:Str->Option Value)(base:Heap)(k:Nat)(f:Addr)(fd:WD)(ps:List Str)(sp:Sp):Prop where
 len:∀ vs H Q E,sp vs H Q E->vs.length=ps.length
 run:∀ (A:Wl) (outer:List Env) (s:W1) (H:Hp) (args:Args) (us:List Value) (vs:List V) (Q:VK),fM k A->i7 P w K mg base A outer s H->BindsTo s fd args (ps.zip us)->Vals vs us->sp vs H Q E0 ->
  Qq (model P w) A (.call (.ref f) args) (CR dm outer P w H s Q E0) s
section
variable {P:Wg} {w:Wh} {K:W2} {mg:Str->Option Value} {base:Heap} {k:Nat} {f:Addr}
theorem MA{x qual:Str}{st:Stmt}{fd:WD}{N ps:List Str}{sp:Sp}(F:bV K x qual st f fd)(S:cu N ps (bf st))(len:∀ vs H Q E,sp vs H Q E->vs.length=ps.length)
  (eE:∀ (aO:Value) (A:Wl) (outer:List Env) (s:W1) (H:Hp) (vs:List V) (Q:VK),fM k (A.deeper (QU qual (bf st) s.heap.objs.size f aO))->sp vs H Q E0 ->
   ∃ t,di (fj dm P w K mg base N qual (bf st) f aO A outer s H E0).vO (fm st) t/\t { nx:=λ_ H'=>Q .aw H',rt:=Q } (start N vs) H):vP P w K mg base (k + 1) f fd ps sp:=by
 obtain⟨oc,od,kV,doc,pm,an,aO,ct,i_,rfl,lk,dj⟩:=F.ex;refine⟨len,λA outer s H args us vs Q hr e0 hb r iB=>?_⟩;have hl:=len _ _ _ _ iB;have KX:K.In s.heap:=e0.mod.lJ.keeps λb o e=>(e0.bs b o e).1
 have lim:s.heap.NoLimit:=e0.mod.nolimit.keeps λb o e=>(e0.bs b o e).1
 have ua:∀ y ∈ ps.zip us,(bf st).names.lookup y.1=some .local\/((bf st).names.lookup y.1=some .cell/\((Qn (s.heap.objs.size + 1) (bf st).names []).lookup y.1).isSome=true):=λ⟨n,v⟩ hy=>by
  rcases S.par n (JP hy).1 with q | q
  ·exact .inl q
  ·exact .inr ⟨q,Jc _ _ _ (.inl q)⟩
 have MB:A.depth < recursionLimit:=by have:=hr.dp; omega
 refine codeAny_call_function MB (KX _ _ lk) rfl S.co S.gen rfl (PySem.W.codeRec_of KX dj) (hb _ _ _ _ ?_);refine wpAny_newFunctionEnv_cells S.kind ua λenv he s1 x=>?_
 subst he;refine⟨lim.keeps x.toInCall.keep,codeAny_func ?_⟩;obtain⟨t,ht,hq⟩:=eE aO A outer s H vs Q (hr.deeper _) iB;have e1:i7 P w K mg base { A with handled:=none } outer s H:=⟨e0.frames,e0.mod,e0.bs,e0.gz,e0.fE,e0.ir,e0.ah,e0.bare⟩
 have J:=zI (CX:=dm) (E:=E0) (qual:=qual) (f:=f) (cd:=aO) (A:={ A with handled:=none }) S rfl e1 hl r x;have I:Inv (fj dm P w K mg base N qual (bf st) f aO A outer s H E0).vO [] (start N vs) H s1:=by
  have o:=J.ok;exact⟨⟨o.mod,o.kind,o.glob,o.blt,o.above,o.inj,o.has,o.kz,λz=>(by cases z),Around.frames_deeper e0.frames,o.lK,o.lL,o.bs,o.gz,o.kA,o.kC,o.fE,o.ir⟩,J.os,J.bare,J.base,J.loc,J.cell,J.free,J.dH,J.pin,J.ah,J.len⟩
 refine WQ (ht [] s1 (start N vs) H _ I hq) (λfl s' hs=>?_) λe s' hs=>hs.elim
 cases fl with
 | ret u =>
  obtain⟨v,σ',H',J2,rv,q⟩:=hs;exact⟨v,H',J2.os,J2.bare,J2.base,J2.ah,rv,q⟩
 | next =>
  obtain⟨σ',H',J2,q⟩:=hs;exact⟨V.aw,H',J2.os,J2.bare,J2.base,J2.ah,rfl,q⟩
 | brk =>
  obtain⟨_,_,_,q⟩:=hs;exact False.elim q
 | cont =>
  obtain⟨_,_,_,q⟩:=hs;exact False.elim q
end
section
variable {X:Cx} {k:Nat} {f:Addr} {fd:WD} {ps:List Str} {sp:Sp} {x:Str} {p pos:Pos} {e:Expr} {es:List Expr} {t:TA}
theorem MC(F:vP X.prog X.w X.K X.mg X.base k f fd ps sp)(hr:fM k X.A)(hg:Gl X x)(hm:X.mg x=some (.ref f))(hk:Qa X.K (.ref f)=true)(hb:Binds X.K fd ps [])
  (ha:PA X (e :: es) t) (cY:(x == ("__debug__" : Str))=false:=by decide) (he:W7 (e :: es) X.env=(false,eval e X.env) :: W7 es X.env:=by rfl) (bM:(WN pos (W7 es X.env)).any (·.1)=false:=by rfl) :
  PE X (.Call (.Name x p) (e :: es) [] pos) (t8 sp [] E0 t):=by
 intro pins s σ H Q I h;refine QG (lO I hg hm ?_ cY);refine PySem.W.callWith_K (h₀:=X.base) I.ok.mod.lJ hk (aM (ha pos pins s σ H _ I h) λus s1 ⟨vs,H1,I1,r,q⟩=>⟨I1.cy,?_⟩) he bM;have q:sp vs H1 Q E0:=by have q':sp (vs ++ []) H1 Q E0:=q; rwa [WX] at q'
 have hl:(us ++ []).length=ps.length:=by rw[WX,<- r.length]; exact F.len _ _ _ _ q
 refine wpAny_call (Js (F.run X.A X.stack s1 H1 ⟨us,[]⟩ us vs Q hr I1.qK (by have:=hb s1 us I1.cy hl; rwa [WX] at this) r q) λr s' hq=>?_)
 cases r with
 | error e=>exact False.elim hq
 | ok fl =>
  cases fl with
  | ret u=>exact I1.after hq
  | next=>exact False.elim hq
  | brk=>exact False.elim hq
  | cont=>exact False.elim hq
end
end L2
namespace DV
open PySem PySem.Spec PyProof.Rows L2
def fN(ce:Tx->Nat)(ys:List Tx)(tab:Tx->Bool)(fb:BE):DE:=λδ=>(fb δ).bind λd δ'=>match d with
 | .exc n _=>match ys.find? λz=>ce z == n with
  | some z=>.ok (.pure (.bl (tab z))) δ'
  | none=>.stuck
 | _=>.stuck
section
variable {X:Cx} {c:Fc} {e:Expr} {fb:BE} {pp py pos:Pos} {y:Str} {ce:Tx->Nat} {ys:List Tx} {tab:Tx->Bool}
theorem CA(h:tD c (fN ce ys tab fb) σ H Q):tB c fb σ H λv H1=>∃ (a:Addr) (z:Tx) (w:V),[v,cV]=[.ref a,cV]/\H1 a=some (.ext (excAt (ce z) w a))/\z ∈ ys/\Q (.bl (tab z)) H1:=by
 obtain⟨δ,k,q⟩:=h;unfold fN at q;rw[bh] at q;refine⟨δ,k,aX q λd δ1 q1 v H1 a1 r1=>?_⟩
 cases d <;> first | exact q1.elim | skip
 rename_i n fl;simp only at q1;split at q1
 ·rename_i z hz;have h1:=List.find?_some hz;have h2:=List.mem_of_find?_eq_some hz;have e:ce z=n:=by simpa using h1
  subst e;rcases r1 with r1 | ⟨a,_,o⟩
  ·cases r1 with
   | exc _ ha _=>exact⟨_,z,_,rfl,ha,h2,q1 _ H1 a1 (.bl _)⟩
  ·exact o.elim
 ·exact q1.elim
theorem ke {D:Addr} (T:IsT X.K ce ys (.ref D) tab) (hg:Gl X "isinstance") (hm:X.mg "isinstance" = none) (oJ:Gl X y) (oK:X.mg y=some (.ref D)) (he:SB X c e fb) (oM:(y == ("__debug__" : Str))=false:=by decide)
  (hs:W7 [e,.Name y py] X.env=(false,eval e X.env) :: W7 [.Name y py] X.env:=by rfl) (bM:(WN pos (W7 [.Name y py] X.env)).any (·.1)=false:=by rfl) :
  SE X c (.Call (.Name "isinstance" pp) [e,.Name y py] [] pos) (fN ce ys tab fb) :=
 PE.weak (ou (Cy (cV:=.ref D) (λu r=>by cases r; rfl) T) hg hm PyProof.Rows.boot_isinstance (dR he (dR (Mz oJ oK oM) fP) hs) (by decide) (by decide) hs bM) λσ H Q h=>CA h
theorem ME {T':String} (T:IsT X.K ce ys (.type T') tab) (hg:Gl X "isinstance") (hm:X.mg "isinstance" = none) (oJ:Gl X y) (oK:X.mg y=none) (uX:Qg y=some (.type T')) (he:SB X c e fb)
  (uY:y≠"__name__":=by decide) (oM:(y == ("__debug__" : Str))=false:=by decide)
  (hs:W7 [e,.Name y py] X.env=(false,eval e X.env) :: W7 [.Name y py] X.env:=by rfl) (bM:(WN pos (W7 [.Name y py] X.env)).any (·.1)=false:=by rfl) :
  SE X c (.Call (.Name "isinstance" pp) [e,.Name y py] [] pos) (fN ce ys tab fb) :=
 PE.weak (ou (Cy (cV:=.ty T') (λu r=>by cases r; rfl) T) hg hm PyProof.Rows.boot_isinstance (dR he (dR (y6 (v:=.ty T') oJ oK uX rfl uY oM) fP) hs) (by decide) (by decide) hs bM) λσ H Q h=>CA h
end
def sv(P:Wg)(w:Wh)(K:W2)(mg:Str->Option Value)(base:Heap)(k:Nat)(x:Str)(n:Nat)(G:DF):Prop :=
 ∃ (f:Addr) (fd:WD) (ps:List Str),mg x=some (.ref f)/\Qa K (.ref f)=true/\Binds K fd ps []/\vP P w K mg base k f fd ps (j3 n G)
theorem MF(r:fM k A):A.units + 64 < Ww:=by have:=r.un; omega
section
variable {P:Wg} {w:Wh} {K:W2} {mg:Str->Option Value} {base:Heap}
theorem MG{x qual:Str}{st:Stmt}{f:Addr}{fd:WD}{N ps:List Str}{k:Nat}{np:List Nat}{fb:DS}{G:DF}(F:bV K x qual st f fd)(hm:mg x=some (.ref f))(hb:Binds K fd ps [])(S:cu N ps (bf st))
  (eE:∀ (c:Fc) (aO:Value) (A:Wl) (outer:List Env) (s:W1) (H:Hp) (E:XK),fM k (A.deeper (QU qual (bf st) s.heap.objs.size f aO))->Np c np->gp (fj dm P w K mg base N qual (bf st) f aO A outer s H E).vO c (fm st) fb)
  (hG:∀ ss y,G ss=some y->bR np 0 ss=true/\fL fb N.length ss=some y):sv P w K mg base (k + 1) x ps.length G:=by
 refine⟨f,fd,ps,hm,F.kp,hb,MA F S (λvs H Q E h=>?_) λaO A outer s H vs Q hr h=>?_⟩
 ·obtain⟨ss,B,hl,_⟩:=h;exact hl
 ·obtain⟨ss,B,hl,ok,r,aB,hg,q⟩:=h;obtain⟨fX,hrun⟩:=hG ss _ hg;have j5:ss.length=vs.length:=by have:=ok.len; simpa using this
  have oV:Np ⟨H,B,bJ 0 ss vs,λ_ _=>False⟩ np:=λp hp=>by
   obtain⟨j,d,e,h1,_⟩:=k_ (i:=p.1) (a:=p.2) hp;rw[e];exact r8 fX h1
  refine⟨k7 ⟨H,B,bJ 0 ss vs,λ_ _=>False⟩ fb,eE ⟨H,B,bJ 0 ss vs,λ_ _=>False⟩ aO A outer s H E0 hr oV,?_⟩;have cO:start N vs=bK vs ++ Wc (N.length - ss.length) none:=by rw[j5]; rfl
  refine⟨bc N.length ss,by rw[cO]; exact ok.ext _,?_⟩;unfold fL at hrun;unfold dW
  cases e:fb (bc N.length ss) with
  | exc x δx=>rw[e] at hrun; cases hrun
  | stuck=>rw[e] at hrun; cases hrun
  | ok fl δ' =>
   rw[e] at hrun;show ∀ σ' H',aE _ (start N vs) (bc N.length ss) H σ' δ' H'->fin _ _ σ' δ' H' fl;intro σ' H' a;rw[cO] at a;simp only at hrun
   cases fl with
   | brk=>cases hrun
   | cont=>cases hrun
   | next =>
    simp only[cf,WA] at hrun
    cases eo:bA 0 ss δ' with
    | none=>rw[eo] at hrun; cases hrun
    | some os =>
     rw[eo] at hrun
     cases hrun;obtain⟨l1,l2⟩:=lb rfl ok a eo;exact q .aw H' l1 .aw
   | ret r' =>
    simp only[cf,WA] at hrun
    cases eo:bA 0 ss δ' with
    | none=>rw[eo] at hrun; cases hrun
    | some os =>
     rw[eo] at hrun
     cases hrun;obtain⟨l1,l2⟩:=lb rfl ok a eo;exactλv rv=>q v H' l1 (l2 v _ rv)
end
section
variable {X:Cx} {c:Fc} {e:Expr} {es:List Expr} {as:List Ak} {k n:Nat} {x:Str} {G:DF} {pp pos:Pos}
theorem MH (F:sv X.prog X.w X.K X.mg X.base k x n G) (hK:dF G) (hr:fM k X.A) (hg:Gl X x) (ha:SX X c (e :: es) as) (hl:as.length=n) (cY:(x == ("__debug__" : Str))=false:=by decide)
  (he:W7 (e :: es) X.env=(false,eval e X.env) :: W7 es X.env:=by rfl) (bM:(WN pos (W7 es X.env)).any (·.1)=false:=by rfl):SE X c (.Call (.Name x pp) (e :: es) [] pos) (ax G as):=by
 obtain⟨f,fd,ps,hm,hk,hb,ok⟩:=F;exact PE.weak (MC ok hr hg hm hk hb ha cY he bM) λσ H Q h=>BM (ps:=ps) hK hl h
end
end DV
namespace L2
open PySem PySem.Spec PyProof.Rows PySem.SeqAt
theorem vQ:∀ {bs:List Bool} {us:List Value},Vals (bs.map V.bl) us->us=bs.map Value.bool
 | [],us,r=>by cases r; rfl
 | b :: bs,us,r=>by
  cases r with
  | cons r1 r2 =>
   cases r1;rw[vQ r2];rfl
def pN:Value->Bool
 | .bool b=>b
 | _=>false
theorem CB:∀ bs:List Bool,(bs.map Value.bool).countP pN=bs.count true
 | []=>rfl
 | b :: bs=>by
  rw[Wk,List.countP_cons,CB bs,List.count_cons]
  cases b <;> rfl
def CF(K:W2):V->List V->Hp->VK->Prop:=λx xs H Q=>∃ (a:Addr) (bs:List Bool),x = .ref a/\xs=[.bl true]/\ck K H a (bs.map V.bl)/\Q (.int (bs.count true:Nat)) H
def CG(K:W2):V->List V->Hp->VK->Prop:=λx xs H Q=>∃ (a:Addr) (bs:List Bool),x = .ref a/\xs=[.bl true]/\ck K H a (bs.map V.bl)/\true ∈ bs/\bs.length<=1000/\Q (.int (bs.idxOf true:Nat)) H
section
variable {X:Cx}
theorem MI:qN X "list.count" (CF X.K):=by
 intro pins s σ H x xs v us Q I rx rs h;obtain⟨a,bs,rfl,rfl,hq,q⟩:=h;obtain⟨u,rfl,ru⟩:=i6 rs
 cases ru
 cases rx;obtain⟨af,r',p,_⟩:=I.list hq;obtain rfl:=vQ r';obtain⟨⟨cls,dd,data,sl⟩,ho,hc,n,hd⟩:=p.isList;simp only at hc hd;subst hc; subst hd
 refine JD PySem.F.slot_list_count ⟨_,ho,rfl⟩ PySem.F.entry_list_count (PySem.F.args_list_count_2 _ _) (list_countAt a _ n dd sl (.bool true) pN) ⟨ho,λy hy=>?_,?_⟩
 ·have pO:y ∈ bs.map Value.bool:=by simpa using hy
  obtain⟨b,_,rfl⟩:=Qt.mp pO;have:=EqAt.bool_bool (A:=X.A.in1) (s:=s) b true
  cases b <;> exact this
 ·rw[show(bs.map Value.bool).toArray.toList=bs.map Value.bool from rfl,CB];exact⟨.int (bs.count true:Nat),H,I.tok _,⟨_,rfl⟩,q⟩
theorem MJ:qN X "list.index" (CG X.K):=by
 intro pins s σ H x xs v us Q I rx rs h;obtain⟨a,bs,rfl,rfl,hq,hm,hl,q⟩:=h;obtain⟨u,rfl,ru⟩:=i6 rs
 cases ru
 cases rx;obtain⟨af,r',p,_⟩:=I.list hq;obtain rfl:=vQ r';obtain⟨⟨cls,dd,data,sl⟩,ho,hc,n,hd⟩:=p.isList;simp only at hc hd;subst hc; subst hd
 have hj:bs.idxOf true < bs.length:=List.idxOf_lt_length_iff.mpr hm;refine JD PySem.F.slot_list_index ⟨_,ho,rfl⟩ PySem.F.entry_list_index (PySem.F.args_list_index_2 _ _) (list_indexAt a _ n dd sl (.bool true) pN (bs.idxOf true) (by simpa using hj) (by omega) ?_ ?_) ⟨ho,λy hy=>?_,⟨.int (bs.idxOf true:Nat),H,I.tok _,⟨_,rfl⟩,q⟩⟩
 ·have:=List.getElem_idxOf hj;simp[pN,this]
 ·intro m hm' aY;have SV:m < bs.length:=by simpa using hm'
  have:bs[m]≠true:=λz=>by
   have z2:=List.not_of_lt_findIdx (p:=(· == true)) (xs:=bs) (i:=m) aY;rw[z] at z2
   cases z2
  simp[pN,this]
 ·have pO:y ∈ bs.map Value.bool:=by simpa using hy
  obtain⟨b,_,rfl⟩:=Qt.mp pO;have:=EqAt.bool_bool (A:=X.A.in1) (s:=s) b true
  cases b <;> exact this
end
end L2
namespace DV
open PySem PySem.Spec PyProof.Rows L2
def mz:D->Option S
 | .lst ds=>(iG ds).map λbs=>.pure (.int (bs.count true:Nat))
 | _=>none
def mB:D->Option S
 | .lst ds=>match iG ds with
  | some bs=>if true ∈ bs/\bs.length<=1000 then some (.pure (.int (bs.idxOf true:Nat))) else none
  | none=>none
 | _=>none
section
variable {X:Cx} {c:Fc} {e:Expr} {fb:BE}
theorem MK {K:W2}:jj (λx H Q=>qQ K "list" x H/\CF K x [.bl true] H Q) mz:=by
 intro c σ δ H x d s Q k rx hp q
 cases d with
 | lst ds =>
  simp only[mz] at hp
  cases e:iG ds with
  | none=>rw[e] at hp; cases hp
  | some bs =>
   rw[e] at hp
   cases hp;obtain⟨a,vs,ea,ha,ra⟩:=rx.lst;obtain rfl:=uU e ra;subst ea;exact⟨.inl ⟨rfl,_,.inl ha⟩,a,bs,rfl,rfl,.inl ha,q _ H (.refl k) (.int _)⟩
 | _=>simp[mz] at hp
theorem ML {K:W2}:jj (λx H Q=>qQ K "list" x H/\CG K x [.bl true] H Q) mB:=by
 intro c σ δ H x d s Q k rx hp q
 cases d with
 | lst ds =>
  simp only[mB] at hp
  cases e:iG ds with
  | none=>rw[e] at hp; cases hp
  | some bs =>
   rw[e] at hp;simp only at hp;split at hp
   ·rename_i hz
    cases hp;obtain⟨a,vs,ea,ha,ra⟩:=rx.lst;obtain rfl:=uU e ra;subst ea;exact⟨.inl ⟨rfl,_,.inl ha⟩,a,bs,rfl,rfl,.inl ha,hz.1,hz.2,q _ H (.refl k) (.int _)⟩
   ·cases hp
 | _=>simp[mB] at hp
theorem MN{j}{p0 apos aJ:Pos}(he:SB X c e fb)
  (jJ:Q9 e "count" X.env (eval e X.env)=eval e X.env:=by rfl)
  (jK:((WN aJ (W7 [.Constant (.bool true) j p0] X.env)).all (λx=>!x.1) && (Jb aJ (QA [] X.env)).all (λx=>x.1.isSome)
   && decide ([Expr.Constant (.bool true) j p0].length + ([]:List Keyword).length + (if ([]:List Keyword).isEmpty then 0 else 1) < 30))=true:=by rfl)
  (fH:(apos.endLine == aJ.line)=true:=by rfl) (hs:W7 [.Constant (.bool true) j p0] X.env=(false,eval (.Constant (.bool true) j p0) X.env) :: W7 [] X.env:=by rfl) :
  SE X c (.Call (.Attribute e "count" apos) [.Constant (.bool true) j p0] [] aJ) (bO mz fb):=by
 refine PE.weak (qR PySem.F.plainAttrs_list PySem.F.slot_list_count PySem.F.type_list_count MI he (dR tO fP hs) jJ jK fH hs rfl) λσ H Q h=>?_
 obtain⟨δ,k,q⟩:=nr (MK (K:=X.K)) h;exact⟨δ,k,aX q λy δ1 q1 v H1 a1 r1=>q1 v H1 a1 r1⟩
theorem MO{j}{p0 apos aJ:Pos}(he:SB X c e fb)
  (jJ:Q9 e "index" X.env (eval e X.env)=eval e X.env:=by rfl)
  (jK:((WN aJ (W7 [.Constant (.bool true) j p0] X.env)).all (λx=>!x.1) && (Jb aJ (QA [] X.env)).all (λx=>x.1.isSome)
   && decide ([Expr.Constant (.bool true) j p0].length + ([]:List Keyword).length + (if ([]:List Keyword).isEmpty then 0 else 1) < 30))=true:=by rfl)
  (fH:(apos.endLine == aJ.line)=true:=by rfl) (hs:W7 [.Constant (.bool true) j p0] X.env=(false,eval (.Constant (.bool true) j p0) X.env) :: W7 [] X.env:=by rfl) :
  SE X c (.Call (.Attribute e "index" apos) [.Constant (.bool true) j p0] [] aJ) (bO mB fb):=by
 refine PE.weak (qR PySem.F.plainAttrs_list PySem.F.slot_list_index PySem.F.type_list_index MJ he (dR tO fP hs) jJ jK fH hs rfl) λσ H Q h=>?_
 obtain⟨δ,k,q⟩:=nr (ML (K:=X.K)) h;exact⟨δ,k,aX q λy δ1 q1 v H1 a1 r1=>q1 v H1 a1 r1⟩
end
theorem SS.i5{X:Cx}{c:Fc}{st:Stmt}{f:DS}(h:SS X.i5 c st f):SS X c st f:=λpins s σ H D I hw =>
 WQ (h pins s σ H D (I.gD _) hw) (λ_ _ q=>q.jF) λ_ _ z=>False.elim z
theorem MP:Qg "ValueError" = some (.type "ValueError"):=by decide +kernel
def vR:List (Tx×Nat)->Tx->Nat
 | [],_=>0
 | p :: r,x=>bif p.1 == x then p.2 else vR r x
end DV
namespace L2
open PySem PySem.Spec PyProof.Rows
section
variable {X:Cx}
end
end L2
namespace DV
open PySem PySem.Spec PyProof.Rows L2
end DV
namespace PySem
open Sem (wp)
structure ZA(z TI TO i1 i2:Addr)(f1 f2:List Addr):Prop where
 m1:i1 ∈ f1
 m2:i2 ∈ f2
 z1:z ∉ f1
 z2:z ∉ f2
 t1:TO ∉ f1
 t2:TO ∉ f2
 k1:i1 ∉ f2
 k2:i2 ∉ f1
 tz:TO≠z
 iz:TI≠z
 io:TI≠TO
 n1:TI≠i1
 n2:TI≠i2
section
variable {prog:Wg} {w:Wh} {A:Wl} {E:Value->W1->Prop} {s:W1}
end
def ly (b:Bool) (a:Addr):Obj:={ cls:=.type (match b with | true=>"list_iterator" | false=>"tuple_iterator"),data:=.fields #[.ref a,.int 0 0] }
end PySem
namespace L2
open PySem PySem.Spec PyProof.Rows
section
variable {X:Cx} {pins:List (Addr×Obj)} {σ:St} {H:Hp} {s:W1} {h':Heap}
theorem Inv.MQ(fp:List Addr)(I:Inv X pins σ H s)(hf:∀ b ∈ fp,fF X pins H b)(aY:∀ b ∈ fp,b < s.heap.objs.size)(ru:RelV x u)(rv:RelV y v)
  (hT:h'.get? s.heap.objs.size=some { cls:=.type "tuple",data:=.seq #[u,v] }) (k:∀ b o,b ∉ fp->s.heap.get? b=some o->h'.get? b=some o) :
  Inv X pins σ (upd H s.heap.objs.size (.tup [x,y])) { s with heap:=h',toks:=t' }:=by
 have I1:Inv X pins σ (upd H s.heap.objs.size (.tup [x,y])) { s with heap:=s.heap.push { cls:=.type "tuple",data:=.seq #[u,v] },toks:=t' } :=
  I.laid (t':=t') (λb o e=>W6 _ e) (Wf _) (show bz X.prog X.w _ _ _ (.tup [x,y]) from
   ⟨by simp only[Q7,Jp]; rw[QR]; decide,[u,v],.cons ru (.cons rv .nil),gx.new _ _⟩)
 have:=Inv.vz (t':=t') (h':=h') fp I1 (λb o hb eb=>?_) λb hb=>?_
 ·exact this
 ·rcases Heap.get?_push_cases eb with ⟨z,z'⟩ | eb
  ·subst z z'; exact hT
  ·exact k b o hb eb
 ·obtain⟨f0,r⟩:=hf b hb;exact⟨by rw[aV (Wv (aY b hb))]; exact f0,r⟩
end
end L2
namespace DV
open PySem PySem.Spec PyProof.Rows L2
section
variable {X:Cx} {c:Fc} {tg e:Expr} {fe:DE} {pos pp:Pos}
theorem aA.two(r:Rep H O u x)(r':Rep H O v y):aA H O [u,v] [x,y]:=by
 refine⟨rfl,λj v' d' e1 e2=>?_⟩;match j with
 | 0=>simp at e1 e2; subst e1 e2; exact r
 | 1=>simp at e1 e2; subst e1 e2; exact r'
 | j + 2=>simp at e1
end
section
variable {X:Cx} {c:Fc} {e:Expr} {es:List Expr} {as:List Ak} {k n:Nat} {x:Str} {G:DX} {pp pos:Pos}
end
end DV
namespace PySem
open Sem (wp)
section
variable {prog:Wg} {w:Wh} {A:Wl} {E:Value->W1->Prop} {hp:Heap} {g:Array GenState} {d:Drawn} {t:Nat} {os:OsState}
variable {nm qn:Str} {C N:Addr} {bs bm sx:List Value} {hdct:Bool} {sn:List Str} {sub:List Value} {ab:Bool} {col:Option Bool} {dd:Option Addr} {k0 k1 k2 k3 k5:Option Value} {B newId CH:String}
theorem MR(F:ExcBaseFacts B newId CH sx)(T:OwnTail hp sx bm)
  (hC:hp.get? C=some (excClassObj nm qn C N bs bm hdct sn sub ab col dd k0 k1 k2 k3 k5 newId)) (hN:hp.Ns N mN) (hi:mN "__init__" = some (.ref f)) (hf:hp.get? f=some o) (pP:o.cls = .type "function")
  (q:∀ h' e,Heap.MadeExcOf hp h' e (.ref C) vs->W4 (model prog w) A (call (.ref f) (.ref e :: vs)) (λr s'=>r = .none/\Q (.done (.ret (.ref e))) s') E ⟨h',g,d,t,os⟩) (hl:vs.length<=Wb) :
  W4 (model prog w) A (Builtin.«type.__call__» ⟨.ref C :: vs,[]⟩) Q E ⟨hp,g,d,t,os⟩:=by
 repeat (first | with_reducible refine Qc hC ?_ | with_reducible refine wpAny_madeBy_exc hC ?_ | wp_step)
 refine codeAny_call_builtin_code (Code.quiet_builtin _ F.quiet) (wpAny_check_new_subT F T hC (codeAny_exc_new_subT F T hC ?_ hl));show W4 _ _ _ _ _ _;have up:∀ {o1 o2:Obj} {b:Addr} {u:Obj},hp.get? b=some u->((hp.push o1).push o2).get? b=some u:=λe=>W6 _ (W6 _ e)
 have CI:=up (o1:={ cls:=.type "tuple",data:=.seq vs.toArray }) (o2:={ cls:=.ref C,data:=.fields #[.ref hp.objs.size,.none,.none,.none,.bool false,.none] }) hC;have MS:=up (o1:={ cls:=.type "tuple",data:=.seq vs.toArray }) (o2:={ cls:=.ref C,data:=.fields #[.ref hp.objs.size,.none,.none,.none,.bool false,.none] }) hf;have vS:((hp.push { cls:=.type "tuple",data:=.seq vs.toArray }).push { cls:=.ref C,data:=.fields #[.ref hp.objs.size,.none,.none,.none,.bool false,.none] }).Ns N mN:=let ⟨o,es,ep,e,r⟩:=hN; ⟨o,es,ep,up e,r⟩
 have he:((hp.push { cls:=.type "tuple",data:=.seq vs.toArray }).push { cls:=.ref C,data:=.fields #[.ref hp.objs.size,.none,.none,.none,.bool false,.none] }).get? (hp.objs.size + 1)=some { cls:=.ref C,data:=.fields #[.ref hp.objs.size,.none,.none,.none,.bool false,.none] }:=by heap_get
 have hc:(Value.ref C :: bm).contains (.ref C)=true:=by simp
 have T1:=T.keeps (h':=(hp.push { cls:=.type "tuple",data:=.seq vs.toArray }).push { cls:=.ref C,data:=.fields #[.ref hp.objs.size,.none,.none,.none,.bool false,.none] }) λb o e=>up e
 unfold isInstance;repeat (first | with_reducible refine Qc he ?_ | (with_reducible refine wpAny_isSubtype_exc CI ?_; rw[hc]) | wp_step)
 show W4 _ _ (typeLookup (.ref C) _) _ _ _;refine wpAny_typeLookup_tail CI vS T1 F.mroIs F.init.lookup ?_;rw[hi];refine WK (W0 ?_);unfold bindSpecial;refine W0 (Jf (T:="function") ⟨_,MS,pP⟩ ?_);rw[if_pos (by decide)];refine W3 (W0 (WQ (q _ (hp.objs.size + 1) ⟨λb o hb=>up hb,Jj (Jm _),hp.objs.size,he,Jj (Wf _),W6 _ (Heap.get?_push_at rfl rfl)⟩) (λr s' hr=>?_) λ_ _ x=>x));obtain⟨rfl,hQ⟩:=hr;wp_walk
 exact hQ
theorem MT(F:ExcBaseFacts B newId CH sx)(T:OwnTail hp sx bm)
  (hC:hp.get? C=some (excClassObj nm qn C N bs bm hdct sn sub ab col dd k0 k1 k2 k3 k5 newId)) (hN:hp.Ns N mN) (hi:mN "__init__" = some (.ref f)) (hf:hp.get? f=some o) (pP:o.cls = .type "function")
  (q:∀ h' e,Heap.MadeExcOf hp h' e (.ref C) vs->W4 (model prog w) (A.under (.builtin "type.__call__" ⟨.ref C :: vs,[]⟩)) (call (.ref f) (.ref e :: vs)) (λr s'=>r = .none/\Q (.ref e) s') E ⟨h',g,d,t,os⟩) (hl:vs.length<=Wb) :
  W4 (model prog w) A (call (.ref C) vs) Q E ⟨hp,g,d,t,os⟩:=by
 have f1:=tc_lookup;have f2:=tc_bind (.ref C);have hT:(⟨hp,g,d,t,os⟩:W1).TypeIs (.ref C) "type":=⟨_,hC,rfl⟩
 refine wpAny_call (codeAny_of_tree ?_); show W4 _ _ (callAny (.ref C) _) _ _ _
 repeat (any_goals (first | assumption | with_reducible refine Qc hC ?_ | wp_step))
 exact⟨rfl,codeAny_call_builtin_at (Code.quiet_builtin _ (by decide +kernel)) entry_typeCall (wpAny_check_type_call_sub hC (MR F T hC hN hi hf pP (λh' e hm=>q h' e hm) hl))⟩
theorem MU(hh:A.handled=none)
  (h:W4 M A x (λv s1=>∃ (e C N:Addr) (dx:Option Addr) (vs:Array Value) (sl:Array (Option Value)) (nm qn:Str) (bs bm:List Value) (hdct:Bool) (sn:List Str) (sub:List Value) (ab:Bool) (col:Option Bool) (dd:Option Addr) (k0 k1 k2 k3 k5:Option Value) (newId:String),
   v = .ref e/\bm.contains (.type "BaseException")=true/\s1.heap.get? C=some (excClassObj nm qn C N bs bm hdct sn sub ab col dd k0 k1 k2 k3 k5 newId)/\s1.heap.get? e=some ⟨.ref C,dx,.fields vs,sl⟩/\vs[1]? = some .none/\E (.ref e) s1) E s) :
  W4 M A (raiseStmt env (some x) none) Q E s:=by
 unfold raiseStmt;refine W0 (WQ h (λv s1 h1=>?_) λ_ _ x=>x);obtain⟨e,C,N,dx,vs,sl,nm,qn,bs,bm,hdct,sn,sub,ab,col,dd,k0,k1,k2,k3,k5,newId,rfl,hb,hC,he,hv,hE⟩:=h1;have hc:(Value.ref C :: bm).contains (.type "BaseException")=true:=by rw[Jy,hb,Bool.or_true]
 obtain⟨hp,g,d,tk,os⟩:=s1;repeat (first | with_reducible refine Qc he ?_ | with_reducible refine Qc hC ?_ | (with_reducible refine wpAny_isSubtype_exc hC ?_; rw[hc]) | wp_step)
 rw[hv];repeat (first | wp_step)
 exact wpAny_raiseNew_none hh hE
end
end PySem
namespace L2
open PySem PySem.Spec PyProof.Rows PySem.W PySem.Builtin PySem.Builtin.ObjectAttr
def sy:List Value->Bool
 | .ref _ :: r=>sy r
 | l=>l == iN
theorem vT (self:Value):∀ {l:List Value},sy l=true->refuseLoop self "__setattr__" l=pure ()
 | [],e=>by cases e
 | .ref c :: r,e=>by rw[refuseLoop_ref]; exact vT self e
 | .none :: r,e=>by cases e
 | .type n :: r,e=>by
  have:(Value.type n :: r)=iN:=beq_iff_eq.mp e;rw[this]; exact PySem.F.store_ValueError.passes self
 | .bool b :: r,e=>by cases (beq_iff_eq.mp (show((Value.bool b :: r) == iN)=true from e))
 | v :: r,e=>by
  cases v <;> first
   | (rw[refuseLoop_ref]; exact vT self e)
   | (rw[show _=iN from beq_iff_eq.mp e]; exact PySem.F.store_ValueError.passes self)
theorem CJ:∀ {l:List Value},sy l=true->l.contains (.type "object")=true
 | [],e=>by cases e
 | v :: r,e=>by
  cases v <;> first
   | (rw[Jy,CJ (l:=r) e,Bool.or_true])
   | (rw[show _=iN from beq_iff_eq.mp e]; decide)
def sA(K:W2)(C:Addr):Bool:=(clsIn K C).any λcd=>sy cd.mro
section
variable {prog:Wg} {w:Wh} {A:Wl} {E:Value->W1->Prop} {s:W1} {K:W2} {x C:Addr} {name:Str} {v:Value} {R:Result->W1->Prop}
theorem MV(X:K.In s.heap)(I:InstAt s.heap x ox C od)(hp:sA K C=true)(ht:takerIn K C name=some none)
  (q:∀ b,W4 (model prog w) A.in1 (storeInOwnDict (.ref x) (.ref C) (.str name tk) name v b) (λfin s'=>match fin with | .done f=>R (.ok f) s' | .again c'=>c'.quiet=true/\Qq (model prog w) A c' R s') (λe s'=>R (.error e) s') s) :
  Qq (model prog w) A (.call (.builtin "object.__setattr__") ⟨[.ref x,.str name tk,v],[]⟩) R s:=by
 have SF:=PySem.F.store_object;obtain⟨cd,hc,ho⟩:=any_some hp;have ne:cd.mro.isEmpty=false:=by
  cases z:cd.mro with
  | nil=>rw[z] at ho; cases ho
  | cons _ _=>rfl
 have sub:Looks (model prog w) s.heap (isInstance (.ref x) (.type "object")) true:=I.type.andThen (looks_mroIn X (by unfold mroIn; rw[hc,WA,if_neg (by rw[ne]; decide),CJ ho]));refine codeAny_call_builtin SF.slot.plain SF.entry (@check_slot (model prog w) _ _ s "object.__setattr__" "object" "__setattr__" (.ref x) [.str name tk,v] [] _ SF.kind SF.split sub (SF.args (.ref x) (.str name tk) v) ?_);obtain⟨attr,ha,hr⟩:=Option.bind_eq_some_iff.mp ht;have hm:Looks (model prog w) s.heap (mroOf (.ref C)) cd.mro:=(looks_clsIn X hc).andThen .now;have L3:Looks (model prog w) s.heap (storeTaker? attr) none:=by
  cases attr with
  | none=>exact .now
  | some a =>
   obtain⟨b,hb,hn⟩:=Option.map_eq_some_iff.mp hr;refine(looks_takesIn X hb).andThen ?_
   cases b
   ·exact .now
   ·cases hn
 rw[osa_eq,refuse_eq];refine W0 (W0 (I.type.here (W0 (hm.here ?_))));rw[vT _ ho];exact W3 (W0 (I.type.here (W0 ((looks_findIn X ha).here (W0 (L3.here (q _)))))))
theorem MW(X:K.In s.heap)(hx:s.heap.get? x=some ⟨.ref C,none,.fields vs,sl⟩)
  (hs:Jh K (.ref C) "__setattr__" = some (some (.builtin "object.__setattr__"))) (hp:sA K C=true) (ht:takerIn K C name=some none) (hh:hasDictIn K C=true)
  (q:∀ h' tk,h'.get? x=some ⟨.ref C,some s.heap.objs.size,.fields vs,sl⟩->(∀ b o,b≠x->s.heap.get? b=some o->h'.get? b=some o)->h'.Ns1 s.heap.objs.size (λz=>if z=name then some v else none)->Q () { s with heap:=h',toks:=tk }) :
  W4 (model prog w) A (setAttr (.ref x) name v) Q E s:=by
 have J:InstAt s.heap x ⟨.ref C,none,.fields vs,sl⟩ C none:=⟨hx,rfl,rfl,trivial⟩
 refine set_plain X J hs (MV (s:={ s with toks:=s.toks + 1 }) X J hp ht λb=>?_);obtain⟨cd,hc,hd'⟩:=any_some hh;have CK:(s.heap.push { cls:=.type "dict",data:=.dict #[] }).get? x=some ⟨.ref C,none,.fields vs,sl⟩:=W6 _ hx;have CL:x≠s.heap.objs.size:=Wv (Wi hx);refine W0 (W3 (W0 (W0 (wpAny_loadPart hx (W0 (PySem.W.Looks.here (s:={ s with toks:=s.toks + 1 }) (PySem.W.looks_clsIn X hc) ?_))))));rw[hd'];show W4 _ _ (alloc { cls:=.type "dict",data:=.dict #[] } >>= λd=>(update x λo=>{ cls:=o.cls,dict:=some d,data:=o.data,slots:=o.slots }) >>= λ_=>dictMade (.ref C) x d) _ _ _;refine W0 (wpAny_alloc' (W0 (wpAny_update' CK (W3 ?_))));have gd:((s.heap.push { cls:=.type "dict",data:=.dict #[] }).update x λo=>{ cls:=o.cls,dict:=some s.heap.objs.size,data:=o.data,slots:=o.slots }).get? s.heap.objs.size=some { cls:=.type "dict",data:=.dict #[] }:=(Heap.get?_update_ne _ _ _ _ CL.symm).trans (Heap.get?_push_at rfl rfl);have nd:((s.heap.push { cls:=.type "dict",data:=.dict #[] }).update x λo=>{ cls:=o.cls,dict:=some s.heap.objs.size,data:=o.data,slots:=o.slots }).Ns s.heap.objs.size (λ_=>none):=⟨_,#[],_,gd,rfl,λe he=>absurd he (by simp),λ_=>rfl⟩
 show W4 _ _ (storeInDict s.heap.objs.size (.str name _) name v) _ _ _;unfold storeInDict newKeyGuard;refine W0 (W3 (W0 (wpAny_nsSet1 (Heap.Ns1.of_empty nd) λh' kF sb=>?_)));obtain⟨oD,esD,epD,hoD,hdD,hcD⟩:=kF.count (Within.cons name v Within.nil);refine W0 (wpAny_lookBehind hoD (by rw[hdD]; exact pastItsLine_dict (Q2 hcD (by rw[Q7,Jp,QR]; omega))) ?_);refine W3 (q h' _ ((sb.2 x CL).trans (WH _ CK rfl)) (λb o hb e=>?_) kF);exact(sb.2 b (Wv (Wi e))).trans ((Heap.get?_update_ne _ _ _ _ hb).trans (W6 _ e))
end
def lz(C a:Addr):Heap->Prop:=λh=>∃ vs sl a0,h.get? a=some ⟨.ref C,none,.fields vs,sl⟩/\vs[0]? = some a0/\vs[1]? = some .none
def h8(C:Addr)(dx:Option Addr)(a:Addr):Heap->Prop:=λh=>∃ vs sl a0,h.get? a=some ⟨.ref C,dx,.fields vs,sl⟩/\vs[0]? = some a0/\vs[1]? = some .none
section
variable {P:Wg} {w:Wh} {H:Hp} {h:Heap} {C a:Addr}
theorem MX(q:lz C a h):bz P w H h a (.ext (lz C a)):=by
 refine⟨q,?_,?_⟩
 ·obtain⟨vs,sl,a0,e,_⟩:=q;exact⟨_,e⟩
 ·rintro h1 h2 ⟨vs,sl,a0,e,r⟩ k;exact⟨vs,sl,a0,k _ e,r⟩
theorem MY{dx:Option Addr}(q:h8 C dx a h):bz P w H h a (.ext (h8 C dx a)):=by
 refine⟨q,?_,?_⟩
 ·obtain⟨vs,sl,a0,e,_⟩:=q;exact⟨_,e⟩
 ·rintro h1 h2 ⟨vs,sl,a0,e,r⟩ k;exact⟨vs,sl,a0,k _ e,r⟩
theorem MZ{fs:List (Str×V)}(q:DV.jN fs a h):bz P w H h a (.ext (DV.jN fs a)):=by
 refine⟨q,?_,?_⟩
 ·obtain⟨mA,⟨o,_,_,e,_⟩,_⟩:=q;exact⟨_,e⟩
 ·rintro h1 h2 ⟨mA,⟨o,es,ep,e,c⟩,r⟩ k;exact⟨mA,⟨o,es,ep,k _ e,c⟩,r⟩
end
structure sC(K:W2)(C:Addr)(f:Str):Prop where
 set:Jh K (.ref C) "__setattr__" = some (some (.builtin "object.__setattr__"))
 over:sA K C=true
 hd:hasDictIn K C=true
 tk:takerIn K C f=some none
section
variable {X:Cx} {o value:Expr} {f:Str} {ta tv:TE} {pos pos':Pos}
def CM(K:W2)(ta tv:TE)(f:Str):TS:=λD σ H=>tv σ H λy H1=>ta σ H1 λx H2=>∃ a C,x = .ref a/\H2 a=some (.ext (lz C a))/\sC K C f/\∀ dx,H2 dx=none->dx≠a->D.nx σ (upd (upd H2 a (.ext (h8 C (some dx) a))) dx (.ext (DV.jN [(f,y)] dx)))
theorem M0{f g:Str}{y:V}{u:Value}(r:RelV y u):cX (List.lookup g [(f,y)]) (if g=f then some u else none):=by
 by_cases z:g=f
 ·subst z; simp[cX,r]
 ·rw[WY,beq_eq_false_iff_ne.mpr z,if_neg z]; trivial
theorem M3(hex:X.ex=[])(ha:PE X o ta)(hv:PE X value tv)(hs:Ji value (some (.Attribute o f pos')) pos.line X.env=pure false):PS X (.Assign [.Attribute o f pos'] value pos) (CM X.K ta tv f):=by
 intro pins s σ H D I h;refine plainObj_wpAny_Assign_Attribute (aM (hv pins s σ H _ I h) λu s1 ⟨y,H1,I1,ry,q⟩=>aM (ha pins s1 σ H1 _ I1 q) λov s2 ⟨x,H2,I2,rx,a,C,ex,ea,c,q2⟩=>?_) hs;subst ex;obtain rfl:ov=Value.ref a:=rx;obtain⟨⟨vs,sl,a0,e0,e1,e2⟩,_,_⟩:=(show bz X.prog X.w H2 s2.heap a (.ext (lz C a)) from I2.ah a _ ea)
 have n0:=I2.ah.fresh (Wf s2.heap.objs.size);have ne:s2.heap.objs.size≠a:=QT (Wi e0);refine MW I2.cy e0 c.set c.over c.tk c.hd λh' tk g1 g2 g3=>⟨σ,_,?_,q2 _ n0 ne⟩
 have Iw:=I2.write (x:=a) (e:=a) (t':=tk) (by rw[ea]; exact True.intro) (.inl rfl) (λb u nb z=>g2 b u nb z) ⟨_,g1⟩ (MY (P:=X.prog) (w:=X.w) (H:=upd H2 a (.ext (h8 C (some s2.heap.objs.size) a))) ⟨vs,sl,a0,g1,e1,e2⟩);exact Iw.vI (I2.apart hex (Jj (Wf _)) (by rw[aV ne]; exact n0)) (MZ ⟨_,g3,λg=>M0 ry⟩)
end
def lA(K:W2)(C f:Addr):Bool:=match K.lookup C with
 | some ⟨.type "type",_,.cls c,ss⟩=>(match c.mro,ss.toList with
  | .ref C' :: bm,[_,_,_,_,some (.builtin n),_]=>C' == C && n == "ValueError.__new__" && !c.hasDel && tailIn K iN bm && nsOkIn K c.ns && nsIn K c.ns "__init__" == some (some (.ref f))
  | _,_=>false)
 | _=>false
theorem M4{K:W2}{h:Heap}{N:Addr}{m:Str->Option Value}{n:Str}{v:Value}(X:K.In h)(G:h.Ns N m)(e:nsIn K N n=some (some v)):m n=some v:=by
 obtain⟨o,es,ep,ho,hd,_,hf⟩:=G;unfold nsIn at e;split at e;next c d kD n' sl q =>
  have z:=X _ _ q;rw[ho] at z
  cases z;simp only at hd;injection hd with h1 h2
  subst h1;split at e;next x hx =>
   cases e;rw[<- hf n];unfold nsFind findBy;rw[<- Array.find?_toList,hx];rfl
  next=>split at e <;> cases e
 next=>cases e
theorem CN{K:W2}{C f:Addr}{h:Heap}(q:lA K C f=true)(X:K.In h):∃ (bm:List Value) (N:Addr) (nm qn:Str) (bs:List Value) (hdct:Bool) (sn:List Str) (sub:List Value) (ab:Bool) (col:Option Bool) (dd:Option Addr) (k0 k1 k2 k3 k5:Option Value) (mN:Str->Option Value),
  h.get? C=some (excClassObj nm qn C N bs bm hdct sn sub ab col dd k0 k1 k2 k3 k5 "ValueError.__new__")/\h.Ns N mN/\mN "__init__" = some (.ref f)/\OwnTail h iN bm:=by
 unfold lA at q;split at q;next dd cd sl lk =>
  split at q;next C' bm k0 k1 k2 k3 n k5 e1 e2 =>
   simp only[Wm,beq_iff_eq,JJ] at q;obtain⟨⟨⟨⟨⟨c1,c2⟩,c3⟩,c4⟩,c5⟩,c6⟩:=q;subst c1; subst c2
   have e3:sl = #[k0,k1,k2,k3,some (.builtin "ValueError.__new__"),k5]:=by
    cases sl; simp only at e2; rw[e2]
   subst e3
   cases cd;simp only at e1 c3 c4 c5 c6 lk;subst e1; subst c3
   have hN:=Heap.Ns.of_isNs (isNs_of_in X c5);exact⟨bm,_,_,_,_,_,_,_,_,_,dd,k0,k1,k2,k3,k5,_,X _ _ lk,hN,M4 X hN c6,tail_of_in X c4⟩
  next=>cases q
 next=>cases q
section
variable {X:Cx} {k:Nat} {f C:Addr} {fd:WD} {ps:List Str} {sp:Sp} {x:Str} {p pos:Pos} {e:Expr} {es:List Expr} {t:TA}
theorem M5 {K:W2} {h:Heap} (X:K.In h) (q:isFn K (.ref f)=true):∃ o,h.get? f=some o/\o.cls = .type "function":=by
 have z:(K.lookup f).map (·.cls)=some (.type "function"):=beq_iff_eq.mp q;obtain⟨o,lk,e⟩:=Option.map_eq_some_iff.mp z;exact⟨o,X _ _ lk,e⟩
theorem M6{pins:List (Addr×Obj)}{σ:St}{H:Hp}{s:W1}{Q:VK}{us:List Value}{vs:List V}(q:lA X.K C f=true)(iw:isFn X.K (.ref f)=true)(F:eC X.prog X.w X.K X.mg X.base dm k f fd ps sp)(hr:bX (k + 1) X.A)(hb:Binds X.K fd ps [])(hex:X.ex=[])
  (I:Inv X pins σ H s) (r:Vals vs us) (hl:us.length<=Wb)
  (h:∀ a,H a=none->X.s₀.heap.get? a=none->sp (.ref a :: vs) (upd H a (.ext (lz C a))) (λv H2=>v = .aw/\Q (.ref a) H2) E0) :
  W4 (model X.prog X.w) X.A (call (.ref C) us) (EP X pins σ Q) X.xe s:=by
 obtain⟨bm,N,nm,qn,bs,hdct,sn,sub,ab,col,dd,k0,k1,k2,k3,k5,mN,hC,hN,hi,hT⟩:=CN q I.cy;obtain⟨o,hf,pP⟩:=M5 I.cy iw;obtain⟨hp,g,d,tk,os⟩:=s;refine MT PySem.F.excBase_ValueError hT hC hN hi hf pP (λh' a hm=>?_) hl;obtain⟨t0,ht,_,_⟩:=hm.there;have I1:Inv X pins σ H ⟨h',g,d,tk,os⟩:=I.kept (t':=tk) hm.keeps;have g1:=I.gone hex hm.new;have ap:=I.apart hex hm.new g1.1;have I2:Inv X pins σ (upd H a (.ext (lz C a))) ⟨h',g,d,tk,os⟩:=I1.vI ap (MX ⟨_,_,_,ht,rfl,rfl⟩);have hq:=h a g1.1 g1.2;have r2:Vals (V.ref a :: vs) (Value.ref a :: us):=.cons rfl r;have sD:(Value.ref a :: us ++ []).length=ps.length:=by
  rw[WX,<- r2.length]; exact F.len _ _ _ _ hq
 refine wpAny_call (Js (F.run _ X.stack _ _ ⟨Value.ref a :: us,[]⟩ (Value.ref a :: us) _ _ E0 (hr.make C us []) (I2.qK.make C us []) (by have:=hb _ (Value.ref a :: us) I2.cy sD; rwa [WX] at this) r2 hq) λrr s' pQ=>?_)
 cases rr with
 | error z=>exact pQ.elim
 | ok fl =>
  cases fl with
  | ret u =>
   obtain⟨v,H',I3,rv,ev,q3⟩:=I2.after pQ;subst ev;exact⟨rv,⟨V.ref a,H',I3,rfl,q3⟩⟩
  | next=>exact False.elim pQ
  | brk=>exact False.elim pQ
  | cont=>exact False.elim pQ
theorem M7(q:lA X.K C f=true)(iw:isFn X.K (.ref f)=true)(hk:keepIn X.K (.ref C)=true)(F:eC X.prog X.w X.K X.mg X.base dm k f fd ps sp)(hr:bX (k + 1) X.A)(hb:Binds X.K fd ps [])(hex:X.ex=[])(hg:Gl X x)(hm:X.mg x=some (.ref C))
  (ha:PA X (e :: es) t) (hl:(e :: es).length<=100) (cY:(x == ("__debug__" : Str))=false:=by decide) (he:W7 (e :: es) X.env=(false,eval e X.env) :: W7 es X.env:=by rfl) (bM:(WN pos (W7 es X.env)).any (·.1)=false:=by rfl) :
  PE X (.Call (.Name x p) (e :: es) [] pos) (λσ H Q=>t σ H λvs H1=>vs.length<=100/\∀ a,H1 a=none->X.s₀.heap.get? a=none->sp (.ref a :: vs) (upd H1 a (.ext (lz C a))) (λv H2=>v = .aw/\Q (.ref a) H2) E0):=by
 intro pins s σ H Q I h;refine QG (lO I hg hm ?_ cY);refine callWith_K (h₀:=X.base) I.ok.mod.lJ hk (aM (ha pos pins s σ H _ I h) λus s1 ⟨vs,H1,I1,r,q1⟩=>⟨I1.cy,?_⟩) he bM;exact M6 q iw F hr hb hex I1 r (by rw[J9,<- r.length,QR]; have:=q1.1; omega) q1.2
end
def vU(K:W2)(fl:List Str):Sp:=λvs H Q _=>∃ a C ys,vs = .ref a :: ys/\ys.length=fl.length/\H a=some (.ext (lz C a))/\(∀ f ∈ fl,sC K C f)/\∀ dx,H dx=none->dx≠a->Q .aw (upd (upd H a (.ext (h8 C (some dx) a))) dx (.ext (DV.jN (fl.zip ys) dx)))
section
variable {P:Wg} {w:Wh} {K:W2} {mg:Str->Option Value} {base:Heap} {x qual f1 f2:Str} {st:Stmt} {f:Addr} {fd:WD} {N ps:List Str} {k:Nat}
theorem M8(F:bV K x qual st f fd)(S:cu N ps (bf st))(j7:ps.length=2)(h0:∀ vs:List V,vs.length=2->start N vs=vs.map some)
  (eE:∀ (aO:Value) (A:Wl) (outer:List Env) (s:W1) (H:Hp) (E:XK),bX k (A.deeper (QU qual (bf st) s.heap.objs.size f aO))->di (fj dm P w K mg base N qual (bf st) f aO A outer s H E).i5 (fm st) (CM K (da 0) (da 1) f1)) :
  eC P w K mg base dm (k + 1) f fd ps (vU K [f1]):=by
 refine F.ok S (λvs H Q E ⟨a,C,ys,e,l,_⟩=>by rw[e,j7,Q7,l]; rfl) λaO A outer s H vs Q E hr ⟨a,C,ys,e,l,ea,c,q⟩=>⟨_,eE aO A outer s H E hr,?_⟩
 subst e;obtain⟨y,rfl⟩:=List.length_eq_one_iff.mp l;rw[h0 _ rfl];exact⟨y,rfl,.ref a,rfl,a,C,rfl,ea,c _ (by simp),q⟩
end
theorem bz.less:∀ {b:Addr} {o:HO},bz P w (upd H a (.ext φ)) h b o->bz P w H h b o:=by
 have dn:∀ {c:Addr} {u:HO},upd H a (.ext φ) c=some u->(∀ ψ,u≠.ext ψ)->H c=some u:=λ{c u} e n=>by
  by_cases hc:c=a
  ·subst hc; rw[cq] at e; cases e; exact absurd rfl (n φ)
  ·rw[aV hc] at e; exact e
 intro b o;induction o generalizing b with
 | dT aa =>
  rintro ⟨h1,h2,xs,h3,h4⟩;refine⟨h1,h2,xs,L2.Paired.tL h3 (λp q ⟨e1,e2,e3⟩=>⟨e1,dn e2 (λψ z=>by cases z),e3⟩),h4⟩
 | ins C dx fs =>
  rintro ⟨h1,h2⟩;exact⟨dn h1 (λψ z=>by cases z),h2⟩
 | frz ob u ih=>exactλ⟨h1,h2⟩=>⟨h1,ih h2⟩
 | ctab pos q=>exactλ⟨ps,h1,h2,h3⟩=>⟨ps,h1,h2,λcv z=>let ⟨c',oc,z1,z2,z3⟩:=h3 cv z; ⟨c',oc,z1,dn z2 (λψ z=>by cases z),z3⟩⟩
 | _=>exactλx=>x
theorem Inv.M9(I:Inv X pins σ (upd H a (.ext φ)) s)(hn:H a=none):Inv X pins σ H s:=by
 have dn:∀ {c:Addr} {u:HO},upd H a (.ext φ) c=some u->(∀ ψ,u≠.ext ψ)->H c=some u:=λ{c u} e n=>by
  by_cases hc:c=a
  ·subst hc; rw[cq] at e; cases e; exact absurd rfl (n φ)
  ·rw[aV hc] at e; exact e
 have no:∀ {c:Addr},upd H a (.ext φ) c=none->H c=none:=λ{c} e=>by
  by_cases hc:c=a
  ·subst hc; exact hn
  ·rw[aV hc] at e; exact e
 refine⟨I.ok,I.os,I.bare,⟨I.base.keep,I.base.slot,λb o e n hx=>no (I.base.free b o e n hx),I.base.there,λb xs e=>dn (I.base.gW b xs e) (λψ z=>by cases z),λb o u e=>dn (I.base.gy b o u e) (λψ z=>by cases z),λb ps e=>?_⟩,I.loc,I.cell,no I.free,λx c e=>no (I.dH x c e),λp hp=>?_,λb o e=>?_,I.len⟩
 ·obtain⟨m,q⟩:=I.base.gX b ps e;exact⟨m,dn q (λψ z=>by cases z)⟩
 ·obtain⟨e,n,r⟩:=I.pin p hp;exact⟨e,no n,r⟩
 ·have hb:b≠a:=λz=>by rw[z,hn] at e; cases e
  exact(I.ah b o (by rw[aV hb]; exact e)).less
section
variable {X:Cx} {C f:Addr} {call:Expr} {te:TE} {pos:Pos}
theorem M_{W:Option Addr->St->Hp->Prop}(q:lA X.K C f=true)(hc:X.calm=true)(he:PE X call te)
  (kR:∀ pins σ H s a dx,Inv X pins σ (upd H a (.ext (h8 C dx a))) s->H a=none->X.s₀.heap.get? a=none->W dx σ H->X.xe (.ref a) s) :
  PS X (.Raise (some call) none pos) (λ_ σ H=>te σ H λv H2=>∃ a H1 dx,v = .ref a/\H2=upd H1 a (.ext (h8 C dx a))/\H1 a=none/\X.s₀.heap.get? a=none/\W dx σ H1):=by
 intro pins s σ H D I h;rw[arm_exec_Raise];refine W0 (wpAny_standAt (MU (I.ok.hd hc) (W0 (aM (he pins s σ H _ I h) λv s1 ⟨x,H2,I2,rx,a,H1,dx,ex,eH,n1,n2,w⟩=>W0 (wpAny_standAt (W3 ?_))))));subst ex eH;obtain rfl:v=Value.ref a:=rx;obtain⟨bm,N,nm,qn,bs,hdct,sn,sub,ab,col,dd,k0,k1,k2,k3,k5,mN,hC,hN,hi,hT⟩:=CN q I2.cy;obtain⟨⟨vs,sl,a0,e0,e1,e2⟩,_,_⟩:=(show bz X.prog X.w (upd H1 a (.ext (h8 C dx a))) s1.heap a (.ext (h8 C dx a)) from I2.ah a _ cq)
 exact⟨a,C,N,dx,vs,sl,nm,qn,bs,bm,hdct,sn,sub,ab,col,dd,k0,k1,k2,k3,k5,_,rfl,hT.hasType rfl,hC,e0,e2,kR pins σ H1 s1 a dx I2 n1 n2 w⟩
end
end L2
namespace DV
open PySem PySem.Spec PyProof.Rows L2 PySem.W
def nM(y:Tx)(fl:List Tx)(fs:DA):DS:=λδ=>(fs δ).bind λds δ1=>if ds.length=fl.length then .exc ⟨y,.xd (fl.zip ds)⟩ δ1 else .stuck
theorem Na{c:Fc}{σ:St}{δ:Dl}{H:Hp}{dx:Addr}{vs:List V}{fl:List Tx}{ds:List D}(k:Ok c σ δ H)(n:H dx=none)(r:aA H (Av c σ δ) vs ds)(hl:ds.length=fl.length) :
  Ok c σ δ (upd H dx (.ext (jN ((fl.map toS).zip vs) dx)))/\Rep (upd H dx (.ext (jN ((fl.map toS).zip vs) dx))) (Av c σ δ) (.ref dx) (.xd (fl.zip ds)):=by
 have r1:=aA.du r (aE.alloc k n (.ext (jN ((fl.map toS).zip vs) dx)));refine⟨k.alloc n _,.xd (k.g7 n) cq ?_ λi p q e1 e2=>?_⟩
 ·rw[List.map_fst_zip (by rw[Wz,r.1,hl]; omega)];have z:(fl.zip ds).map (λp=>toS p.1)=((fl.zip ds).map Prod.fst).map toS:=by rw[WF]; rfl
  rw[z,List.map_fst_zip (by omega)]
 ·rw[List.getElem?_zip_eq_some] at e1 e2;exact r1.2 i _ _ e1.2 e2.2
theorem Nb{X:Cx}{c:Fc}{x:Str}{fl:List Str}{C f:Addr}{fd:WD}{ps:List Str}{k:Nat}{e:Expr}{es:List Expr}{fe:DA}{np aJ pos:Pos}(y:Tx)(gl:List Tx)(q:lA X.K C f=true)(iw:isFn X.K (.ref f)=true)(hk:keepIn X.K (.ref C)=true)(hS:∀ z ∈ fl,sC X.K C z)
  (F:eC X.prog X.w X.K X.mg X.base dm k f fd ps (vU X.K fl)) (hr:bX (k + 1) X.A) (hb:Binds X.K fd ps []) (hc:X.calm=true) (hg:Gl X x) (hm:X.mg x=some (.ref C)) (he:SA X c (e :: es) fe) (hx:kb X (wD X.mg c)) (hl:(e :: es).length<=100) (sE:fl=gl.map toS:=by decide +kernel) (sD:fl.length<=100:=by decide) (hy:x=toS y:=by decide +kernel) (hd:(x == ("__debug__" : Str))=false:=by decide) (hex:X.ex=[]:=by rfl)
  (hs:W7 (e :: es) X.env=(false,eval e X.env) :: W7 es X.env:=by rfl) (bM:(WN aJ (W7 es X.env)).any (·.1)=false:=by rfl):SS X c (.Raise (some (.Call (.Name x np) (e :: es) [] aJ)) none pos) (nM y gl fe) :=
 PS.weak (M_ (W:=λdx σ H=>wD X.mg c C dx σ H) q hc (M7 (p:=np) (pos:=aJ) q iw hk F hr hb hex hg hm he.pa hl hd hs bM) λpins σ H s a dx I n1 n2 w=>by
  obtain⟨⟨vs,sl,a0,e0,e1,e2⟩,_,_⟩:=(show bz X.prog X.w (upd H a (.ext (h8 C dx a))) s.heap a (.ext (h8 C dx a)) from I.ah a _ cq)
  have ne:∀ {b:Addr},upd H a (.ext (h8 C dx a)) b=none->a≠b:=λ{b} z e=>by rw[<- e,cq] at z; cases z
  exact hx pins σ H s a C dx (I.M9 n1) (.inr ⟨⟨vs,sl,a0,e0,e1,e2⟩,n2,n1,ne I.free,λx c hc z=>ne (I.dH x c hc) z.symm,λp hp z=>ne (I.pin p hp).2.1 z.symm⟩) w) λD σ H ⟨δ,k,q⟩=>by
  unfold nM dW at q;rw[bh] at q;refine⟨δ,k,aX q λds δ1 q1 vs H1 a1 r1=>?_⟩;split at q1
  ·rename_i hlen;have Nc:vs.length=fl.length:=by rw[r1.1,hlen,sE,Wz]
   refine⟨by omega,λa n1 n2=>⟨a,C,vs,rfl,Nc,cq,hS,λdx d1 d2=>⟨rfl,a,upd H1 dx (.ext (jN (fl.zip vs) dx)),some dx,rfl,?_,?_,n2,?_⟩⟩⟩
   ·funext b
    unfold upd;by_cases hb:b=a
    ·subst hb; simp[Ne.symm d2]
    ·simp[hb]
   ·rw[aV (Ne.symm d2)]; exact n1
   ·have Nd:H1 dx=none:=by rwa [aV d2] at d1
    obtain⟨k1,rx⟩:=Na (fl:=gl) a1.ok Nd r1 hlen;rw[sE];exact⟨⟨y,.xd (gl.zip ds)⟩,δ1,.ref dx,by rw[<- hy]; exact hm,k1,rx,λz e=>by cases e; rfl,q1⟩
  ·exact q1.elim
def vV(P:Wg)(w:Wh)(K:W2)(mg:Str->Option Value)(base:Heap)(C:Addr)(fl:List Str):Prop :=
 ∃ (f:Addr) (fd:WD) (ps:List Str),lA K C f=true/\isFn K (.ref f)=true/\keepIn K (.ref C)=true/\(∀ z ∈ fl,sC K C z)/\Binds K fd ps []/\eC P w K mg base dm 1 f fd ps (vU K fl)
theorem Nf{X:Cx}{c:Fc}{x:Str}{fl:List Str}{C:Addr}{e:Expr}{es:List Expr}{fe:DA}{np aJ pos:Pos}(y:Tx)(gl:List Tx)(N:vV X.prog X.w X.K X.mg X.base C fl)(hr:bX 2 X.A)(hc:X.calm=true)(hg:Gl X x)(hm:X.mg x=some (.ref C))(he:SA X c (e :: es) fe)(hx:kb X (wD X.mg c))(hl:(e :: es).length<=100:=by decide)(sE:fl=gl.map toS:=by decide +kernel)(sD:fl.length<=100:=by decide)
  (hy:x=toS y:=by decide +kernel) (hd:(x == ("__debug__" : Str))=false:=by decide) (hex:X.ex=[]:=by rfl) (hs:W7 (e :: es) X.env=(false,eval e X.env) :: W7 es X.env:=by rfl) (bM:(WN aJ (W7 es X.env)).any (·.1)=false:=by rfl):SS X c (.Raise (some (.Call (.Name x np) (e :: es) [] aJ)) none pos) (nM y gl fe):=by
 obtain⟨f,fd,ps,h1,h2,h3,h4,h5,h6⟩:=N;exact Nb y gl h1 h2 h3 h4 h6 hr h5 hc hg hm he hx hl sE sD hy hd hex hs bM
def Ng:Stmt->List Stmt
 | .ClassDef _ _ _ b _ _ _ _ _ _ _=>b
 | _=>[]
section
variable {X:Cx} {c:Fc} {e:Expr} {fb:BE}
end
end DV
namespace L2
open PySem PySem.Spec PyProof.Rows
section
variable {X:Cx} {tg:Expr}
end
end L2
namespace DV
open PySem PySem.Spec PyProof.Rows L2
section
variable {X:Cx} {c:Fc} {tg e:Expr} {fe:DE} {pos pp:Pos}
end
end DV
namespace PySem.SeqAt
open AutoSeq1 (wpAny_loadPart')
open MeetsSeq
section
variable {A:Wl} {s:W1}
end
end PySem.SeqAt
namespace DV
open PySem PySem.Spec PyProof.Rows L2
end DV
namespace PySem.SeqAt
open AutoSeq1 (wpAny_loadPart')
open MeetsSeq
abbrev prO (dd:Option Addr) (a1 a2:Int) (t1 t2:Tok) (n:Nat) (sl:Array (Option Value)):Obj:={ cls:=.type "tuple",dict:=dd,data:=.seq #[.int a1 t1,.int a2 t2] n,slots:=sl }
def ltP(a1 a2 b1 b2:Int):Bool:=if a1 == b1 then decide (a2 < b2) else decide (a1 < b1)
theorem z8D(l b:Addr)(a1 a2 b1 b2:Int)(t1 t2 u1 u2:Tok)(n n2:Nat)(dd lR:Option Addr)(sl kK:Array (Option Value)) :
  Meets (Builtin.«tuple.__lt__» ⟨[.ref l,.ref b],[]⟩)
   (λ_ R s=>s.heap.get? l=some (prO dd a1 a2 t1 t2 n sl)/\s.heap.get? b=some (prO lR b1 b2 u1 u2 n2 kK)/\R (.ok (.ret (.bool (ltP a1 a2 b1 b2)))) s) :=
 .of_wp λprog w A R s h=>by
  obtain⟨hp,g,d,tk,os⟩:=s; obtain⟨hl,hb,h⟩:=h
  have f2:=AutoSeq1.sub_tuple_tuple;wp_walk using Q5 hl,Q5 hb,wpAny_forIn_list _ (λrest c s'=>c.1=none/\s' = ⟨hp,g,d,tk,os⟩ /\
   (rest=[(.int a1 t1,.int b1 u1),(.int a2 t2,.int b2 u2)]\/(rest=[(.int a2 t2,.int b2 u2)]/\a1=b1)\/(rest=[]/\a1=b1/\a2=b2))) _
  case turn =>
   rintro ⟨y,x⟩ rest c s' ⟨hc,rfl,hz⟩;rcases hz with hz | ⟨hz,e1⟩ | ⟨hz,_⟩
   ·injection hz with pI hrest
    cases pI;refine W0 (EqAt.int_int a1 t1 b1 u1 prog w _ _ ?_);by_cases e:a1=b1
    ·rw[show(a1 == b1)=true by simp[e]];wp_walk
     exact⟨rfl,rfl,.inr (.inl ⟨hrest,e⟩)⟩
    ·rw[show(a1 == b1)=false by simp[e]];have aY:ltP a1 a2 b1 b2=decide (a1 < b1):=by simp[ltP,e]
     rw[aY] at h;simp only[Bool.not_false,if_true];refine W0 (J4 ?_);refine W0 (richCompare_gives (op:=.Lt) (JC _ _ t1) (JC _ _ u1) F.slot_int_lt F.entry_int_lt (F.args_int_lt_2 _ _) (gives_int_lt _ _ t1 u1) (λx=>nomatch x) ?_);refine W0 (W3 ?_);exact W3 (W3 ⟨_,rfl,h⟩)
   ·injection hz with pI hrest
    cases pI;refine W0 (EqAt.int_int a2 t2 b2 u2 prog w _ _ ?_);by_cases e:a2=b2
    ·rw[show(a2 == b2)=true by simp[e]];wp_walk
     exact⟨rfl,rfl,.inr (.inr ⟨hrest,e1,e⟩)⟩
    ·rw[show(a2 == b2)=false by simp[e]];have aY:ltP a1 a2 b1 b2=decide (a2 < b2):=by simp[ltP,e1]
     rw[aY] at h;simp only[Bool.not_false,if_true];refine W0 (J4 ?_);refine W0 (richCompare_gives (op:=.Lt) (JC _ _ t2) (JC _ _ u2) F.slot_int_lt F.entry_int_lt (F.args_int_lt_2 _ _) (gives_int_lt _ _ t2 u2) (λx=>nomatch x) ?_);refine W0 (W3 ?_);exact W3 (W3 ⟨_,rfl,h⟩)
   ·cases hz
  case fin =>
   rintro ⟨c1,c2⟩ s' ⟨hc,rfl,hz⟩;simp only at hc;subst hc;rcases hz with hz | ⟨hz,e1⟩ | ⟨_,e1,e2⟩
   ·cases hz
   ·cases hz
   ·have aY:ltP a1 a2 b1 b2=false:=by simp[ltP,e1,e2]
    rw[aY] at h;wp_walk
    exact⟨_,rfl,h⟩
  case h=>exact⟨rfl,rfl,.inl rfl⟩
end PySem.SeqAt
namespace PySem
open SeqAt (prO ltP z8D)
section
variable {prog:Wg} {w:Wh} {A:Wl} {R:Result->W1->Prop} {I:Addr} {fp wr:List Addr} {n:Nat} {P:Nat->Value->Prop} {St:Nat->Heap->Prop}
end
section
variable {prog:Wg} {w:Wh} {A:Wl} {E:Value->W1->Prop} {s:W1}
end
end PySem
namespace DV
open PySem PySem.Spec PyProof.Rows L2
open PySem.SeqAt (prO ltP)
section
variable {X:Cx} {c:Fc} {e:Expr} {fb:BE} {pos pp:Pos}
end
section
variable {c:Fc} {σ:St} {δ δ':Dl} {H H':Hp} {p:Addr}
theorem Ok.Nh(k:Ok (c.plus p) σ δ H)(h0:c.H₀ p=none)(o:HO):Ok (c.plus p) σ δ (upd H p o):=by
 have rX:∀ b w,H b=some w->¬ Av (c.plus p) σ δ b->upd H p o b=some w:=λb w e n=>by
  rw[aV (λz:b=p=>n (.inl (.inr z)))]; exact e
 have ex:∀ b,(∃ w,H b=some w)->∃ w,upd H p o b=some w:=λb ⟨w,e⟩=>by
  by_cases z:b=p
  ·rw[z]; exact⟨o,cq⟩
  ·rw[aV z]; exact⟨w,e⟩
 refine⟨λa w e n=>?_,λa z=>ex a (k.bd a z),λa z=>ex a (k.cQ a z),k.len,λi d e=>?_,λi d e=>?_,k.inj,k.pinned⟩
 ·rw[aV (λz:a=p=>by have e':c.H₀ a=some w:=e; rw[z,h0] at e'; cases e')];exact k.keep a w e n
 ·obtain⟨v,e1,r⟩:=k.slot i d e;exact⟨v,e1,r.keep rX⟩
 ·obtain⟨a,e1,oa,h1,h2⟩:=k.own i d e;exact⟨a,e1,oa.keep rX (λw e=>by rw[aV (λz:a=p=>h2 (.inr z))]; exact e),h1,h2⟩
theorem CO(h:post c r k)(m:∀ a δ,k a δ->k' a δ):post (c.plus p) r k':=by
 cases r with
 | ok a δ=>exact m a δ h
 | exc x δ=>exact h
 | stuck=>exact h
end
end DV
namespace L2
open PySem PySem.Spec PyProof.Rows
def CP(x:Str):It:=⟨λi _=>i < x.cps.size,λi H y H'=>∃ p c,H p=none/\x.cps[i]? = some c/\H'=upd H p (.tup [.int i,.str ⟨#[c]⟩])/\y = .ref p,λi _=>i=x.cps.size⟩
theorem Ni {P:Wg} {w:Wh} {K:W2} {elts:List Expr} {ctx} {pos:Pos} (x:Str) (t:Tok) (e it:Addr) (T:String) (hT:T = "str_ascii_iterator"\/T = "str_iterator") (iM:e≠it):Turn P w K (.Tuple elts ctx pos) (CP x) [e,it] e (λi h=>(∃ old,IsEnum h e it i old)/\h.IsStrIter it T x t i):=by
 have DD:∀ A:Wl,A.handled=none->Draws P w A it [it] x.cps.size (λi v=>∃ c u,x.cps[i]? = some c/\v = .str ⟨#[c]⟩ u) (λi h=>h.IsStrIter it T x t i):=λA hh=>by
  rcases hT with rfl | rfl
  ·exact Draws.strAscii hh it x t
  ·exact Draws.strWide hh it x t
 refine⟨by simp,λi h st b hb=>?_,λi h h' st k=>?_,?_,?_,λA i s Q E st h=>?_⟩
 ·obtain⟨⟨old,he⟩,hi⟩:=st;have hb:b=e\/b=it:=by simpa using hb
  rcases hb with z | z
  ·subst z;exact⟨_,he,λv z=>by
    have z':Data.fields _=Data.cell v:=z
    cases z'⟩
  ·subst z;obtain⟨o,e,c,d⟩:=hi;exact⟨o,e,λv z=>by rw[d] at z; cases z⟩
 ·obtain⟨⟨old,he⟩,o,e2,r⟩:=st;exact⟨⟨old,k e (by simp) _ he⟩,o,k it (by simp) o e2,r⟩
 ·intro X hP hw hK hc i pins s σ H E I hf st hg;subst hP hw hK;have pB:i < x.cps.size:=hg;obtain⟨⟨old,he⟩,hi⟩:=st;have D:=DD X.A.in1 (I.ok.hd hc);have aY:∀ b ∈ [e,it],b < s.heap.objs.size:=λb hb=>by
   have hb:b=e\/b=it:=by simpa using hb
   rcases hb with z | z
   ·subst z; exact Wi he
   ·subst z; obtain⟨o,q,_⟩:=hi; exact Wi q
  refine wpAny_pyNext_enum_itemD D he hi pB iM (by simp[iM]) λx' h' tk hP ho jc Nj hsz hk=>?_
  obtain⟨c,u,hx,rfl⟩:=hP;refine⟨_,rfl,wpAny_letOwnedTupleGo_enum ho λh2 pC sb=>?_⟩;have k2:∀ b o,b≠e->b≠it->s.heap.get? b=some o->h2.get? b=some o:=λb o q1 q2 q=>(sb.2 b q1).trans (hk b o q1 q2 q)
  have pD:h2.get? s.heap.objs.size=some { cls:=.type "tuple",data:=.seq #[.int i tk,.str ⟨#[c]⟩ u] }:=(sb.2 _ (QT (aY e (by simp)))).trans Nj;have I2:Inv X pins σ (upd H s.heap.objs.size (.tup [.int i,.str ⟨#[c]⟩])) { s with heap:=h2,toks:=tk + 1 }:=Inv.vA (t':=tk + 1) I hf aY ⟨u,rfl⟩ pD k2;refine⟨.ref s.heap.objs.size,_,I2,rfl,⟨s.heap.objs.size,c,I.ah.fresh (Wf _),hx,rfl,rfl⟩,⟨⟨_,by simpa using pC⟩,?_⟩,λb hb=>?_⟩
  ·obtain⟨o,e2,r⟩:=jc;exact⟨o,(sb.2 it (Ne.symm iM)).trans e2,r⟩
  ·rw[aV (Wv (aY b hb))];exact(hf b hb).1
 ·intro X hP hw hK hc i pins s σ H E I hf st hg;subst hP hw hK;have mW:i=x.cps.size:=hg;subst mW;obtain⟨⟨old,he⟩,hi⟩:=st;have D:=DD X.A.in1 (I.ok.hd hc);obtain⟨f0,f1,f2,f3,f4,f5⟩:=hf it (by simp);exact wpAny_pyNext_enum_endD D he hi λh' eb=>⟨rfl,I.turned (t':=s.toks) (λb o hb q=>eb b o hb q) f0 f1 f3 f4 f5⟩
 ·obtain⟨⟨old,he⟩,_⟩:=st;exact QM he h
end L2
namespace DV
open PySem PySem.Spec PyProof.Rows L2
section
variable {X:Cx} {c:Fc} {tg e:Expr} {fe:DE} {pos pp:Pos}
def Nk(ta:TA):TI:=λσ H R=>ta σ H λvs H1=>∃ z,vs=[.str z]/\R (CP z) H1
theorem Nl {a:Expr} {ta:TA} {elts:List Expr} {ctx} {tp:Pos} (hg:Gl X "enumerate") (hm:X.mg "enumerate" = none) (ha:PA X [a] ta) (hs:W7 [a] X.env=[(false,eval a X.env)]:=by rfl):PI X (.Tuple elts ctx tp) (.Call (.Name "enumerate" pp) [a] [] pos) (Nk ta):=by
 intro pins s σ H R I h;refine Call_ (mS I hg hm boot_enumerate (QF (aM (ha pos pins s σ H _ I h) λus s1 ⟨vs,H1,I1,r1,q1⟩=>?_) hs rfl));obtain⟨z,ev,q⟩:=q1;subst ev
 cases r1 with
 | cons r rr =>
  cases rr;obtain⟨t,rfl⟩:=r;have hT:JL z = "str_ascii_iterator"\/JL z = "str_iterator":=by
   unfold JL;split
   ·exact .inl rfl
   ·exact .inr rfl
  refine call_enumerate_str λh' he hi hsz kp=>QM he ?_
  refine⟨s1.heap.objs.size + 1,[s1.heap.objs.size + 1,s1.heap.objs.size],_,_,H1,rfl,I1.kept (t':=s1.toks) kp,Ni z t _ _ _ hT (Nat.succ_ne_self _),⟨⟨_,he⟩,hi⟩,λb hb=>?_,q⟩;have hb:b=s1.heap.objs.size + 1\/b=s1.heap.objs.size:=by simpa using hb
  have hle:s1.heap.objs.size<=b:=by rcases hb with z | z <;> subst z <;> first | exact Wf _ | exact Jm _
  exact I1.iA hle (I1.ah.fresh hle)
def pR(f:DE):DI:=λδ=>(f δ).bind λr δ1=>match r.d with
 | .str x=>.ok (jm (x.map λn=>.str [n])) δ1
 | _=>.stuck
theorem Nm {elts:List Expr} {ctx} {tp:Pos} (hg:Gl X "enumerate") (hm:X.mg "enumerate" = none) (he:SE X c e fe) (hs:W7 [e] X.env=[(false,eval e X.env)]:=by rfl):SI X c (.Tuple elts ctx tp) (.Call (.Name "enumerate" pp) [e] [] pos) (pR fe) :=
 PI.weak (Nl hg hm (dR he fP hs) hs) λσ H R ⟨δ,k,q⟩=>by
  unfold pR at q;rw[bh] at q;refine⟨δ,k,aX q λr δ1 q1 v H1 a1 r1=>?_⟩;have rr:=r1.rep;generalize r.d=d at q1 rr
  cases d <;> first | exact q1.elim | skip
  rename_i x
  cases rr;refine⟨toS x,rfl,q1 _ H1 a1 ?_⟩;have hsz:(toS x).cps.size=x.length:=by simp[toS]
  intro H2 kp;refine⟨by show(jm (x.map λn=>D.str [n])).length=(toS x).cps.size; rw[hsz]; simp[jm],λi d e=>?_⟩;obtain⟨d',e',rfl⟩:=vD e;rw[Wy,WS] at e';obtain⟨n,hn,rfl⟩:=e';have hi:i < x.length:=(We.mp hn).1;refine⟨by show i < (toS x).cps.size; rw[hsz]; exact hi,λy H3 ⟨p,cc,hp,hx,e3,ey⟩=>.inr ⟨p,_,_,hp,e3,ey,rfl,?_⟩⟩;have Nn:cc=n:=by
   have:(toS x).cps[i]? = some n:=by simp[toS,hn]
   rw[hx] at this
   cases this;rfl
  subst Nn;exact aA.pair (.str [cc])
end
section
variable {K:W2} {h:Heap} {mg:Str->Option Value} {x q:Str} {st:Stmt} {f:Addr} {fd:WD}
abbrev eR(K:W2)(x:Str)(st:Stmt):Prop:=∃ (f:Addr) (oc:Value) (od:Option Addr) (kV dc pm:Value) (an:Option Addr) (cd ct:Value) (sl:Array (Option Value)),
 PySem.W.nsIn K Wr x=some (some (.ref f))/\K.lookup f=some ⟨oc,od,.func (Qs x x (jL st) (fm st) (bf st) .none kV dc pm an cd ct),sl⟩/\PySem.W.codeIn K cd x=true/\Qa K (.ref f)=true
theorem e_(X:K.In h)(G:h.Ns Wr mg)(d:eR K x st):∃ f fd,bV K x x st f fd/\mg x=some (.ref f):=by
 obtain⟨f,oc,od,kV,dc,pm,an,cd,ct,sl,a,l,c,k⟩:=d;exact⟨f,_,uu l c k,PySem.W.mg_of X G a⟩
abbrev Bd(x q:Str)(st:Stmt)(ps:List Str)(us:List Value):Prop:=∀ (kV doc pm:Value) (an:Option Addr) (aO ct:Value),bindArgs (Qs x q (jL st) (fm st) (bf st) .none kV doc pm an aO ct) ⟨us,[]⟩=pure (ps.zip us)
variable {p1 p2 p3 p4 p5 p6:Str}
theorem pS(F:bV K x q st f fd)(h:∀ a,Bd x q st [p1] [a]):Binds K fd [p1] []:=F.binds λ_ _ _ _ _ _ us hl=>match us,hl with
 | [a],_=>h a _ _ _ _ _ _
theorem lB(F:bV K x q st f fd)(h:∀ a b,Bd x q st [p1,p2] [a,b]):Binds K fd [p1,p2] []:=F.binds λ_ _ _ _ _ _ us hl=>match us,hl with
 | [a,b],_=>h a b _ _ _ _ _ _
theorem CQ(F:bV K x q st f fd)(h:∀ a b c,Bd x q st [p1,p2,p3] [a,b,c]):Binds K fd [p1,p2,p3] []:=F.binds λ_ _ _ _ _ _ us hl=>match us,hl with
 | [a,b,c],_=>h a b c _ _ _ _ _ _
theorem CS(F:bV K x q st f fd)(h:∀ a b c d,Bd x q st [p1,p2,p3,p4] [a,b,c,d]):Binds K fd [p1,p2,p3,p4] []:=F.binds λ_ _ _ _ _ _ us hl=>match us,hl with
 | [a,b,c,d],_=>h a b c d _ _ _ _ _ _
theorem CU(F:bV K x q st f fd)(h:∀ a b c d e,Bd x q st [p1,p2,p3,p4,p5] [a,b,c,d,e]):Binds K fd [p1,p2,p3,p4,p5] []:=F.binds λ_ _ _ _ _ _ us hl=>match us,hl with
 | [a,b,c,d,e],_=>h a b c d e _ _ _ _ _ _
end
theorem Nq{α:Type}{P:α->Prop}{a:α}(x:P a):∀ z ∈ [a],P z:=λ_ h=>by cases h with | head=>exact x | tail _ h=>cases h
theorem cw{α:Type}{P:α->Prop}{a b:α}(x:P a)(y:P b):∀ z ∈ [a,b],P z:=λ_ h=>by cases h with | head=>exact x | tail _ h=>exact Nq y _ h
end DV
namespace L2
open PySem PySem.Spec PyProof.Rows
section
variable {X:Cx} {tg:Expr}
end
section
variable {X:Cx} {e:Expr} {ta:TE} {f:Str} {pos:Pos}
structure SY(K:W2)(ce:DV.Tx->Nat)(ys:List DV.Tx)(f:Str):Prop where
 k:∀ z ∈ ys,kc K (ce z)
 no:∀ z ∈ ys,Je K (.ref (ce z)) f=some none
 hd:∀ z ∈ ys,PySem.W.hasDictIn K (ce z)=true
end
end L2
namespace DV
open PySem PySem.Spec PyProof.Rows L2
section
variable {X:Cx} {c:Fc} {tg e:Expr} {fe:DE} {pos pp:Pos}
end
end DV
namespace L2
open PySem PySem.Spec PyProof.Rows
section
variable {X:Cx}
end
end L2
namespace DV
open PySem PySem.Spec PyProof.Rows L2
end DV
namespace L2
open PySem PySem.Spec PyProof.Rows PySem.SeqAt DV
section
variable {X:Cx}
end
end L2
namespace DV
open PySem PySem.Spec PyProof.Rows L2
section
variable {X:Cx} {c:Fc} {o e:Expr} {fa fb:DE}
end
end DV
namespace L2
open PySem PySem.Spec PyProof.Rows PySem.W DV
section
variable {α β:Type} {n:Nat}
end
section
variable {n:Nat} {p:Array Nat}
end
structure S0(h:Heap)(vs:List Value)(ks:List Tx):Prop where
 len:ks.length=vs.length
 at':∀ i v,vs[i]? = some v->∃ b o xs m t,v = .ref b/\h.get? b=some o/\o.cls = .type "tuple"/\o.data = .seq xs m/\xs[0]? = some (.str (toS (ks.getD i [])) t)
section
variable {prog:Wg} {w:Wh} {A:Wl} {E:Value->W1->Prop} {s:W1} {vs:List Value} {ks:List Tx}
end
section
variable {X:Cx}
end
end L2
namespace DV
open PySem PySem.Spec PyProof.Rows L2
section
variable {X:Cx} {c:Fc} {e:Expr} {fb:BE} {pp pos:Pos}
end
section
variable {X:Cx} {c:Fc} {e:Expr} {fe:DE} {fb:BE} {pos:Pos}
end
section
variable {X:Cx}
end
section
variable {X:Cx} {c:Fc} {e:Expr} {fb:BE}
end
def nz:D->Bool
 | .aw=>true
 | .int _=>true
 | _=>false
section
variable {X:Cx} {c:Fc} {e:Expr} {fe:DE}
end
section
variable {H H':Hp} {O:Addr->Prop} {v:V} {a:Addr} {us:List V}
end
section
variable {c:Fc} {σ:St} {δ δ1:Dl} {H H1:Hp} {i:Nat} {ds:List D} {g:Xc->Dl->Prop}
end
section
variable {X:Cx} {c:Fc} {e:Expr} {es:List Expr} {as:List Ak} {k n i:Nat} {x:Str} {G:DX} {pp pos:Pos}
end
section
variable {c:Fc} {σ σ':St} {δ δ':Dl} {H H':Hp} {B':Addr->Prop} {g:Xc->Dl->Prop} {i0:Nat} {a:Addr} {ds:List D}
end
end DV
namespace L2
open PySem PySem.Spec PyProof.Rows PySem.W DV
section
variable {prog:Wg} {w:Wh} {A:Wl} {E:Value->W1->Prop} {s:W1} {vs:List Value}
end
section
variable {lt:Nat->Nat->Bool} {r:Nat->Nat} {n:Nat} {α β:Type}
structure Lt(lt:Nat->Nat->Bool)(r:Nat->Nat)(n:Nat):Prop where
 lt:∀ i j,i < n->j < n->lt i j=decide (r i < r j)
 inj:∀ i j,i < n->j < n->i≠j->r i≠r j
end
end L2
namespace DV
open PySem PySem.Spec PyProof.Rows L2
section
variable {X:Cx} {c:Fc} {e:Expr} {fb:BE} {pp pos:Pos}
end
end DV
set_option maxHeartbeats 1000000
namespace SU
open PySem PyProof.Rows
def bt (w:Wh):Bool:=w.params.followText "set-order"
def vW(prog:Wg)(w:Wh)(x:Str×Tok):Int×Value:=((strKind prog w).hash x.1,.str x.1 x.2)
structure pU(prog:Wg)(w:Wh)(h:Heap)(a:Addr)(ks:List Str)(o:Obj)(es:Array (Int×Value))(ep:Nat)(t:SetTable)(xs:List (Str×Tok)):Prop where
 g:h.get? a=some o
 ex:o.ExactSet
 d:o.data = .set es ep t
 e:es.toList=xs.map (vW prog w)
 p:(xs.map (·.1)).Perm ks
 nd:ks.Nodup
 f:t.fits es.size=true
 b:es.size < scanBound
 l:bt w=false->t.led=true
 q:t.plain=true->ks=[]
def CV(prog:Wg)(w:Wh)(h:Heap)(a:Addr)(ks:List Str):Prop:=∃ o es ep t xs,pU prog w h a ks o es ep t xs
def dd(σ:List Str)(v:Str):List Str:=if v ∈ σ then σ else σ ++ [v]
section
variable {prog:Wg} {w:Wh} {A:Wl} {E:Value->W1->Prop} {s:W1}
section
variable {h:Heap} {a:Addr} {ks:List Str} {o:Obj} {es:Array (Int×Value)} {ep:Nat} {t:SetTable} {xs:List (Str×Tok)}
end
end
section
variable {prog:Wg} {w:Wh} {A:Wl} {R:Result->W1->Prop} {I:Addr} {fp wr:List Addr} {G:Array GenState->Array GenState->Prop} {n:Nat} {P:Nat->Value->Prop} {St:Nat->W1->Prop}
end
section
variable {prog:Wg} {w:Wh} {A:Wl} {E:Value->W1->Prop} {s:W1}
end
section
variable {mask:Nat} {owner:Array (Option Nat)}
end
def live(mask:Nat)(owner:Array (Option Nat)):List (Nat×Nat):=(Q1 (mask + 1)).filterMap λj=>(owner.getD j none).map (j,·)
section
variable {prog:Wg} {w:Wh} {A:Wl} {E:Value->W1->Prop} {s:W1}
theorem vX{α β:Type}{f:α->β->Sem (ForInStep β)}{Q:β->W1->Prop}(J:List α->β->W1->Prop)
  (step:∀ x r b s,J (x :: r) b s->W4 (model prog w) A (f x b) (λst s'=>∃ b',st = .yield b'/\J r b' s') E s):∀ (l:List α) (b:β) (s:W1),J l b s->(∀ b' s',J [] b' s'->Q b' s')->W4 (model prog w) A (forIn l b f) Q E s
 | [],b,s,h,q=>by
  rw[List.forIn_nil];exact W3 (q b s h)
 | x :: l,b,s,h,q=>by
  rw[List.forIn_cons];refine W0 (WQ (step x l b s h) (λst s' ⟨b',e,h'⟩=>?_) λ_ _ e=>e);subst e;exact vX J step l b' s' h' q
theorem Nr{α β:Type}{f:α->β->Sem (ForInStep β)}{Q:β->W1->Prop}(J:List α->β->W1->Prop)
  (step:∀ x r b s,J (x :: r) b s->W4 (model prog w) A (f x b) (λst s'=>∃ b',st = .yield b'/\J r b' s') E s) (l:Array α) (b:β) (s:W1) (h:J l.toList b s) (q:∀ b' s',J [] b' s'->Q b' s'):W4 (model prog w) A (forIn l b f) Q E s:=by
 rw[<- Array.forIn_toList];exact vX J step l.toList b s h q
theorem quiet{l:List Addr}{Q:Bool->W1->Prop}(hl:∀ a ∈ l,∃ ks,CV prog w s.heap a ks)(h:Q true s):W4 (model prog w) A (setsQuiet l) Q E s:=by
 unfold setsQuiet;refine W0 (vX (λr b s'=>b=(none,())/\s'=s/\∀ a ∈ r,∃ ks,CV prog w s.heap a ks) ?st l _ s ⟨rfl,rfl,hl⟩ ?fin)
 case fin =>
  rintro b s' ⟨rfl,rfl,_⟩;exact W3 h
 case st =>
  rintro a r b s' ⟨rfl,rfl,e3⟩;obtain⟨ks,x⟩:=e3 a Wj;obtain⟨o,es,ep,t,xs,x⟩:=x;refine W0 (wpAny_setEntries_of x.g x.d x.f ?_);refine W0 (Nr (λr b lQ=>b=(none,())/\lQ=s'/\∀ e ∈ r,∃ z,e=vW prog w z) ?st es _ s' ⟨rfl,rfl,λe he=>?el⟩ ?fin)
  case st =>
   rintro e r b lQ ⟨rfl,rfl,q3⟩;obtain⟨z,rfl⟩:=q3 e Wj;exact W3 ⟨_,rfl,rfl,rfl,λe he=>q3 e (Wd _ he)⟩
  case el =>
   rw[x.e] at he;obtain⟨z,_,rfl⟩:=Qt.mp he;exact⟨z,rfl⟩
  case fin =>
   rintro b lQ ⟨rfl,rfl,_⟩;exact W3 ⟨_,rfl,rfl,rfl,λa ha=>e3 a (Wd _ ha)⟩
end
section
variable {prog:Wg} {w:Wh} {A:Wl} {E:Value->W1->Prop} {s:W1}
end
theorem sF:Slot "set_iterator" "__next__" "set_iterator.__next__" :=
 .of (owner:="set_iterator") (n:="__next__") (by rw[typeLookup_type,builtinLookup_eq_fast]; kernel_rfl) (by decide +kernel) (by decide +kernel) (by decide +kernel)
  (by first | exact .inl (by decide +kernel) | exact .inr (by decide +kernel)) (by rw[isSubtype_type]; kernel_rfl)
theorem CW:entryFor table "set_iterator.__next__" = some Builtin.«set_iterator.__next__»:=entryFor_of_tree (by kernel_rfl)
theorem CY (a:Value):argsOk "set_iterator.__next__" ⟨[a],[]⟩:=by
 unfold argsOk; rw[signature?_of (id:="set_iterator.__next__") (n:="__txen__".toList) (o:="rotareti_tes".toList) (by kernel_rfl) (show Manifest.owners.lookup (String.ofList "rotareti_tes".toList.reverse)=some Manifest.sig_set_iterator by kernel_rfl)]; kernel_rfl
abbrev ly (f:Value) (i:Nat) (a:Addr) (n ep:Nat):Obj:={ cls:=.type "set_iterator",data:=.fields #[f,.int i 0,.ref a,.int n 0,.int ep 0] }
section
variable {prog:Wg} {w:Wh} {A:Wl} {E:Value->W1->Prop} {s:W1}
section
variable {a it:Addr} {ks:List Str} {o:Obj} {es:Array (Int×Value)} {ep:Nat} {t:SetTable} {xs:List (Str×Tok)} {i:Nat}
theorem Nt{Q:Option Value->W1->Prop}{f:Value}{n' j:Nat}{v:Value}(hh:A.handled=none)(hi:s.heap.get? it=some (ly f i a n' ep))(hj:j < 5)
  (h:∀ h',Heap.ExtBut it s.heap h'->Q none { s with heap:=h' }) :
  W4 (model prog w) A.in1 (do
   setField (.ref it) j v
   raiseNew (<- newExc (.type "StopIteration") [])) (λ(_:PySem.Fin) _=>False) (λe s'=>W4 (model prog w) A (do
    if <- isInstance e (.type "StopIteration") then pure none else throw e) Q E s') s:=by
 refine W0 (Qx hi rfl (by simpa using hj) ?_);refine W0 ?_;simp only[newExc,newTuple];refine W0 (WG ?_ (by size_fits));refine W0 (m:=Jg _ _) (wpAny_of_eq (a:=Value.none) (by first | rfl | (simp only[Jg]; rfl)) ?_);refine WG ?_ (by size_fits);simp only[raiseNew];refine W0 (wpAny_handled ?_);rw[show A.in1.handled=none from hh];refine W0 (W3 (wpAny_throw ?_));refine W0 (wpAny_isInstance (T:="StopIteration") (b:=true) ⟨_,Wn _ rfl,rfl⟩ isSubtype_stop ?_);exact W3 (h _ (((Qr ..).extBut.push _).push _))
end
end
section
variable {prog:Wg} {w:Wh} {A:Wl} {E:Value->W1->Prop} {s:W1}
variable {a it:Addr} {ks:List Str} {o:Obj} {es:Array (Int×Value)} {ep:Nat} {t:SetTable} {xs:List (Str×Tok)} {i:Nat}
theorem Nu{T:Addr}{ps:List Nat}{oT:Obj}{nT p:Nat}{hv:Int}{v:Value}{Q:Option Value->W1->Prop}(x:pU prog w s.heap a ks o es ep t xs)(hi:s.heap.get? it=some (ly (.ref T) i a es.size ep))
  (gT:s.heap.get? T=some oT) (dT:oT.data = .seq (ps.map λj:Nat=>WR j).toArray nT) (hp:ps[i]? = some p) (Nv:es[p]? = some (hv,v))
  (h:∀ h',Qh it s.heap h'->h'.get? it=some (ly (.ref T) (i + 1) a es.size ep)->Q (some v) { s with heap:=h' }):W4 (model prog w) A (Qv (.ref it)) Q E s:=by
 have hT:s.TypeIs (.ref it) "set_iterator":=⟨_,hi,rfl⟩
 unfold Qv;refine W0 (wpAny_attempt (WI (name:=Str.ofString "__next__") hT sF (WE sF hT CW ?_ (CY _))));unfold Builtin.«set_iterator.__next__»;refine W0 (m:=slotArgs "__next__" 0 _) (W3 ?_);refine W0 (wpAny_fieldsOf hi rfl ?_);dsimp only;refine W0 (wpAny_setEntries_of x.g x.d x.f ?_);rw[if_neg (by simp)];refine W0 (JE gT dT ?_);dsimp only;have e1:(ps.map λj:Nat=>WR j).toArray[i]? = some (.int (p:Int) 0):=by simp[hp,WR]
 rw[Qm,e1];dsimp only;refine W0 ?_;unfold setNextDrawn;refine W0 (wpAny_setState_of x.g x.d x.f ?_);simp only[Qm,bne_self_eq_false,Jz,if_false];rw[Nv];refine W3 ?_;refine W0 (Qx hi rfl (by simp) ?_);have g2:=WH (Obj.mapFields (·.setIfInBounds 1 (WR ((i:Int) + 1)))) hi (by rfl);refine W3 ⟨_,rfl,W3 (h _ (Qr ..) ?_)⟩;rw[g2];rfl
theorem Nw{T:Addr}{ps:List Nat}{oT:Obj}{nT:Nat}{Q:Option Value->W1->Prop}(hh:A.handled=none)(x:pU prog w s.heap a ks o es ep t xs)(hi:s.heap.get? it=some (ly (.ref T) i a es.size ep))
  (gT:s.heap.get? T=some oT) (dT:oT.data = .seq (ps.map λj:Nat=>WR j).toArray nT) (hp:ps[i]? = none)
  (h:∀ h',Heap.ExtBut it s.heap h'->Q none { s with heap:=h' }):W4 (model prog w) A (Qv (.ref it)) Q E s:=by
 have hT:s.TypeIs (.ref it) "set_iterator":=⟨_,hi,rfl⟩
 unfold Qv;refine W0 (wpAny_attempt (WI (name:=Str.ofString "__next__") hT sF (WE sF hT CW ?_ (CY _))));unfold Builtin.«set_iterator.__next__»;refine W0 (m:=slotArgs "__next__" 0 _) (W3 ?_);refine W0 (wpAny_fieldsOf hi rfl ?_);dsimp only;refine W0 (wpAny_setEntries_of x.g x.d x.f ?_);rw[if_neg (by simp)];refine W0 (JE gT dT ?_);dsimp only;have e1:(ps.map λj:Nat=>WR j).toArray[i]? = none:=by simpa using hp
 rw[Qm,e1];dsimp only;refine W0 (Qx hi rfl (by simp) ?_);have g1:(s.heap.update it (Obj.mapFields (·.setIfInBounds 0 (WR 0)))).get? it=some (ly (WR 0) i a es.size ep):=by
  rw[WH (Obj.mapFields (·.setIfInBounds 0 (WR 0))) hi (by rfl)];rfl
 refine WQ (Nt (s:={ s with heap:=s.heap.update it (Obj.mapFields (·.setIfInBounds 0 (WR 0))) }) (j:=2) hh g1 (by decide) λh' eb=>h h' λb ob hb e=>?_) (λ_ _ e=>e.elim) λ_ _ e=>e
 exact eb b ob hb ((WM _ _ (Ne.symm hb)).trans e)
theorem Nx{St:Nat->Heap->Prop}{n:Nat}{val:Nat->Value}{S:Addr}{res:Value}{R:Result->W1->Prop}(c_:S≠it)(hn:n<=1000)
  (fr:∀ i h h',St i h->(∀ b ob,b≠S->h.get? b=some ob->h'.get? b=some ob)->St i h')
  (item:∀ (i:Nat) (s:W1) (Q:Option Value->W1->Prop) (E:Value->W1->Prop),i < n->St i s.heap->(∀ h',(∀ b ob,b≠it->s.heap.get? b=some ob->h'.get? b=some ob)->St (i + 1) h'->Q (some (val i)) { s with heap:=h' })->W4 (model prog w) A.in1 (Qv (.ref it)) Q E s)
  (done:∀ (s:W1) (Q:Option Value->W1->Prop) (E:Value->W1->Prop),St n s.heap->(∀ h',(∀ b ob,b≠it->s.heap.get? b=some ob->h'.get? b=some ob)->Q none { s with heap:=h' })->W4 (model prog w) A.in1 (Qv (.ref it)) Q E s) :
  ∀ (k i:Nat) (s:W1) (acc:Array Value) (c:Nat),n - i=k->i<=n->St i s.heap->s.heap.get? S=some { cls:=.type "list",data:=.seq acc c }->acc.toList=(Q1 i).map val ->
   (∀ h' kf c',(∀ b ob,b≠S->b≠it->s.heap.get? b=some ob->h'.get? b=some ob)->h'.get? S=some { cls:=.type "list",data:=.seq kf c' }->kf.toList=(Q1 n).map val->R (.ok (.ret res)) { s with heap:=h' }) ->
   Qq (model prog w) A (.builtin "list.extend.loop" ⟨[.ref S,.ref it,res],[]⟩) R s:=by
 intro k;induction k with
 | zero =>
  intro i s acc c e1 e2 st g ea fin;obtain rfl:i=n:=by omega
  refine Jq PySem.F.entry_extend_loop ?_;rw[Around.under_plainId PySem.F.plain_extend_loop _];show W4 _ A.in1 (Qv (.ref it) >>= _) _ _ _;refine W0 (done s _ _ st λh' kp=>?_);exact W3 (fin h' acc c (λb ob _ hb e=>kp b ob hb e) (kp S _ c_ g) ea)
 | succ k ih =>
  intro i s acc c e1 e2 st g ea fin;refine Jq PySem.F.entry_extend_loop ?_;rw[Around.under_plainId PySem.F.plain_extend_loop _];show W4 _ A.in1 (Qv (.ref it) >>= _) _ _ _;refine W0 (item i s _ _ (by omega) st λh' kp fG=>?_);have g':=kp S _ c_ g;have za:acc.size=i:=by rw[<- Qd,ea]; simp
  show W4 _ A.in1 (updateSeq S (·.push (val i)) >>= _) _ _ _;refine W0 (wpAny_updateSeq (hz:=by rw[za,QR]; omega) g' rfl ?_);have g2:=WH (Obj.mapSeq (·.push (val i))) g' rfl;refine W3 ⟨plainId_quiet PySem.F.plain_extend_loop _,ih (i + 1) _ (acc.push (val i)) _ (by omega) (by omega) (fr _ _ _ fG λb ob hb e=>(WM _ _ (Ne.symm hb)).trans e) g2 (by rw[Array.toList_push,ea,List.range_succ,Jr]; rfl) λh2 kf c' va g3 eO=>?_⟩;exact fin h2 kf c' (λb ob hb hi e=>va b ob hb hi ((WM _ _ (Ne.symm hb)).trans (kp b ob hi e))) g3 eO
end
section
variable {prog:Wg} {w:Wh} {A:Wl} {E:Value->W1->Prop} {s:W1}
variable {a it:Addr} {ks:List Str} {o:Obj} {es:Array (Int×Value)} {ep:Nat} {t:SetTable} {xs:List (Str×Tok)} {i:Nat}
abbrev CZ (ps:List Nat):Obj:={ cls:=.type "tuple",data:=.seq (ps.map λj:Nat=>WR j).toArray }
theorem BX{S T:Addr}{res:Value}{R:Result->W1->Prop}{c:Nat}{ps:List Nat}(hh:A.handled=none)(x:pU prog w s.heap a ks o es ep t xs)(hz:es.size<=1000)(hS:S≠it)(Ny:S≠a)(mw:a≠it)(Nz:S≠T)(NA:T≠it)(pp:ps.Perm (Q1 es.size))
  (hi:s.heap.get? it=some (ly (.ref T) 0 a es.size ep)) (gT:s.heap.get? T=some (CZ ps)) (gS:s.heap.get? S=some { cls:=.type "list",data:=.seq #[] c })
  (fin:∀ h' kf c' (zs:List (Str×Tok)),(∀ b ob,b≠S->b≠it->s.heap.get? b=some ob->h'.get? b=some ob)->h'.get? S=some { cls:=.type "list",data:=.seq kf c' }->kf.toList=zs.map (λz=>Value.str z.1 z.2)->(zs.map (·.1)).Perm ks->R (.ok (.ret res)) { s with heap:=h' }) :
  Qq (model prog w) A (.builtin "list.extend.loop" ⟨[.ref S,.ref it,res],[]⟩) R s:=by
 have hl:ps.length=es.size:=by rw[pp.length_eq,List.length_range]
 have NB:xs.length=es.size:=by
  have:=congrArg List.length x.e;simp at this;omega
 have lj:∀ i (h:i < ps.length),ps[i] < xs.length:=λi h=>by
  have:=List.mem_range.mp (pp.mem_iff.mp (QW h));omega
 have ge:∀ p (h:p < xs.length),es[p]? = some (vW prog w xs[p]):=λp h=>by
  rw[<- QH,x.e,Wy,W8 h]; rfl
 refine Nx (it:=it) (St:=λi h=>h.get? it=some (ly (.ref T) i a es.size ep)/\pU prog w h a ks o es ep t xs/\h.get? T=some (CZ ps)) (n:=es.size) (val:=λi=>((ps[i]?).bind λp=>(xs[p]?).map λz=>Value.str z.1 z.2).getD .none) hS hz (λi h h' ⟨q1,q2,q3⟩ k=>⟨k _ _ (Ne.symm hS) q1,{ q2 with g:=k _ _ (Ne.symm Ny) q2.g },k _ _ (Ne.symm Nz) q3⟩) ?item ?done es.size 0 s #[] c (by omega) (Ql _) ⟨hi,x,gT⟩ gS rfl ?fin
 case item =>
  rintro i s Q E' aY ⟨q1,q2,q3⟩ k;have mf:i < ps.length:=by omega
  have hp:=lj i mf;refine Nu (A:=A.in1) (T:=T) (ps:=ps) (p:=ps[i]) q2 q1 q3 rfl (W8 mf) (ge _ hp) λh' sb g=>?_
  have:((ps[i]?).bind λp=>(xs[p]?).map λz=>Value.str z.1 z.2).getD .none=Value.str (xs[ps[i]]).1 (xs[ps[i]]).2:=by
   rw[W8 mf,WA,W8 hp]; rfl
  have k2:=k h' (λb ob pV e=>(sb.2 b pV).trans e) ⟨g,{ q2 with g:=(sb.2 a mw).trans q2.g },(sb.2 T NA).trans q3⟩;rw[this] at k2;exact k2
 case done =>
  rintro s Q E' ⟨q1,q2,q3⟩ k;exact Nw (A:=A.in1) (T:=T) (ps:=ps) hh q2 q1 q3 rfl (WU (by omega)) λh' eb=>k h' λb ob pV e=>eb b ob pV e
 case fin =>
  intro h' kf c' k g ea;refine fin h' kf c' (ps.filterMap (xs[·]?)) k g ?_ ?_
  ·rw[ea,<- hl];have all:∀ p ∈ ps,p < xs.length:=λp hp=>by have:=List.mem_range.mp (pp.mem_iff.mp hp); omega
   clear pp fin ea g k hl lj ge hi gT;have:∀ ps:List Nat,(∀ p ∈ ps,p < xs.length)->(Q1 ps.length).map (λi=>((ps[i]?).bind λp=>(xs[p]?).map λz=>Value.str z.1 z.2).getD .none)=(ps.filterMap (xs[·]?)).map λz=>Value.str z.1 z.2:=λps=>by
    induction ps with
    | nil=>intro _; rfl
    | cons p ps ih =>
     intro all;have hp:=all p Wj;rw[Q7,List.range_succ_eq_map,Wk,WF];have oB:=ih λq hq=>all q (Wd _ hq)
     have e1:(p :: ps).filterMap (xs[·]?)=xs[p] :: ps.filterMap (xs[·]?):=List.filterMap_cons_some (W8 hp);rw[e1,Wk,<- oB];simp[W8 hp,Function.comp_def]
   exact this ps all
  ·have p1:(ps.filterMap (xs[·]?)).Perm xs:=(pp.filterMap _).trans (by rw[<- NB,List.filterMap_getElem?_range_length]);exact(p1.map (·.1)).trans x.p
end
section
variable {prog:Wg} {w:Wh} {A:Wl} {E:Value->W1->Prop} {s:W1}
end
end SU
set_option maxHeartbeats 400000
namespace L2
open PySem PySem.Spec PyProof.Rows PySem.W DV SU
section
variable {X:Cx}
theorem rE:∀ {vs:List Value} {ss:List Str},StrsAre vs ss->Vals (ss.map V.str) vs
 | _,_,.nil=>.nil
 | _,_,.cons x t h=>.cons ⟨t,rfl⟩ (rE h)
end
end L2
namespace DV
open PySem PySem.Spec PyProof.Rows L2 SU
section
variable {X:Cx} {c:Fc} {a b:Expr} {f g:DE} {pp pos p1 S3 p3 p4 p5:Pos}
end
end DV
namespace L2
open PySem PySem.Spec PyProof.Rows PySem.W DV
section
variable {X:Cx}
end
end L2
namespace DV
open PySem PySem.Spec PyProof.Rows L2
section
variable {X:Cx} {c:Fc} {e:Expr} {fb:BE} {pp pos:Pos}
end
section
variable {X:Cx}
end
section
variable {X:Cx} {c:Fc} {o e:Expr} {fa fb:DE}
end
end DV
set_option maxHeartbeats 3200000
namespace SU
open PySem PyProof.Rows
section
variable {prog:Wg} {w:Wh} {A:Wl} {E:Value->W1->Prop} {s:W1}
end
end SU
set_option maxHeartbeats 1000000
namespace DV
open PySem (sizeLine)
open L2
section
variable {α β:Type}
@[simp] theorem ju (a:α) (δ:Dl) (f:α->Dl->Rs β):(Rs.ok a δ).bind f=f a δ:=id rfl
@[simp] theorem S4 (f:α->Dl->Rs β):(Rs.stuck:Rs α).bind f = .stuck:=id rfl
@[simp] theorem NC (d:D):(S.pure d).d=d:=id rfl
@[simp] theorem S5 (d:D):(S.own d).d=d:=id rfl
end
section
variable (δ:Dl) (i:Nat) (d e:D) (f g:DE) (fb:BE) (t u:DT) (p:D->D->Option S)
@[simp] theorem ND:eD d δ = .ok (.pure d) δ:=id rfl
@[simp] theorem NF:aj f δ=(f δ).bind λr δ'=>.ok r.d δ':=id rfl
@[simp] theorem NG:bb p f fb δ=(f δ).bind λx δ1=>(fb δ1).bind λy δ2=>p2 p x.d y δ2:=id rfl
@[simp] theorem S6:jR t u δ=(t δ).bind λb δ1=>if b then u δ1 else .ok false δ1:=id rfl
@[simp] theorem S7:fR t u δ=(t δ).bind λb δ1=>if b then .ok true δ1 else u δ1:=id rfl
@[simp] theorem S8:jS t δ=(t δ).bind λb δ1=>.ok (!b) δ1:=id rfl
@[simp] theorem S9:JZ t f g δ=(t δ).bind λb δ1=>if b then f δ1 else g δ1:=id rfl
@[simp] theorem S_:dw δ = .ok .next δ:=id rfl
@[simp] theorem Ta:gr δ = .ok true δ:=id rfl
@[simp] theorem Tb:iI f δ=(f δ).bind λ_ δ1=>.ok .next δ1:=id rfl
@[simp] theorem Tc:bY f δ=(f δ).bind λr δ1=>.ok (.ret r) δ1:=id rfl
@[simp] theorem Td (a b:DS):df t a b δ=(t δ).bind λx δ1=>if x then a δ1 else b δ1:=id rfl
@[simp] theorem Te (it:DI) (gg:DG) (b:DS):dz it gg b δ=(it δ).bind λds δ1=>forL gg b ds δ1:=id rfl
@[simp] theorem Tf (a:DA):fS a δ=(a δ).bind λds δ'=>.ok (.pure (.tup ds)) δ':=id rfl
@[simp] theorem Tg (a:DA):fq a δ=(a δ).bind λds δ'=>.ok (.own (.lst ds)) δ':=id rfl
@[simp] theorem Th (ds:List D):gM ds δ = .ok (.own (.lst ds)) δ:=id rfl
@[simp] theorem Ti:cD δ = .ok [] δ:=id rfl
@[simp] theorem Tj (a:DA):aG f a δ=(f δ).bind λx δ1=>(a δ1).bind λxs δ2=>.ok (x.d :: xs) δ2:=id rfl
@[simp] theorem Tn (q:D->Option S):bO q fb δ=(fb δ).bind λx δ1=>p1 q x δ1:=id rfl
@[simp] theorem To:rP f g δ=(f δ).bind λx δ1=>(g δ1).bind λy δ2=>p2 uV x.d y.d δ2:=id rfl
@[simp] theorem Tp (fl fh:k6):Ku f fl fh δ=(f δ).bind λx δ1=>(fl δ1).bind λl δ2=>(fh δ2).bind λh δ3=>p1 (jk l h) x.d δ3:=id rfl
@[simp] theorem Tq:Kr δ = .ok none δ:=id rfl
@[simp] theorem C0 (cs:List Nat) (it:DI) (gg:DG) (el:DE):gq cs it gg t el δ=(it δ).bind λds δ1=>if cs.any (bT δ1) then .stuck else
 (dg cs gg t el ds (bG cs δ1) []).bind λacc δ2=>.ok (.own (.lst acc)) (dJ cs δ1 δ2):=id rfl
@[simp] theorem Tr (np:List Nat) (r:S):ak np i r δ=if np.contains i then none else some (δ.set i (some r)):=id rfl
@[simp] theorem Ts (gg:DG) (b:DS):forL gg b [] δ = .ok .next δ:=id rfl
end
section
variable (δ:Dl) (i:Nat) (d e:D) (f g:DE) (fb:BE) (p:D->D->Option S) (s:S)
@[simp] theorem NH (x y:D):p2 p x y δ=match p x y with | some s=>.ok s δ | none=>.stuck:=id rfl
@[simp] theorem Tt (q:D->Option S) (x:D):p1 q x δ=match q x with | some s=>.ok s δ | none=>.stuck:=id rfl
@[simp] theorem Tu (a b:DS):aN a b δ=(a δ).bind λfl δ1=>match fl with | .next=>b δ1 | .ret r=>.ok (.ret r) δ1 | .brk=>.ok .brk δ1 | .cont=>.ok .cont δ1:=id rfl
@[simp] theorem Tv {α β:Type} (c:Prop) [Decidable c] (x y:Rs α) (k:α->Dl->Rs β):(if c then x else y).bind k=if c then x.bind k else y.bind k:=by split <;> rfl
end
theorem gO:Wb=16777216:=rfl
theorem jv(xs:List α)(i:Nat):cH xs (i:Int)=xs[i]?:=by
 unfold cH eF;by_cases h:i < xs.length
 ·rw[if_pos (by omega),if_pos (by omega)];simp
 ·rw[if_pos (by omega),if_neg (by omega)];simp[WU (Nat.le_of_not_lt h)]
theorem sG(xs:List α):cH xs 2=xs[2]?:=jv xs 2
theorem nN(xs:List α):cH xs 0=xs[0]?:=jv xs 0
theorem sH(xs:List α):cH xs 1=xs[1]?:=jv xs 1
theorem vY(I:Dl->Prop)(R:D->D->Prop) :
  ∀ (ds:List D) (δ:Dl) (acc:List D),I δ->acc.length + ds.length<=Wb ->
   (∀ d ∈ ds,∀ δ,I δ->∃ δ1 δ2 x δ3,g (.pure d) δ=some δ1/\t δ1 = .ok true δ2/\el δ2 = .ok x δ3/\I (bG cs δ3)/\R d x.d) ->
   ∃ xs δ',dg cs g t el ds δ acc = .ok (acc ++ xs) δ'/\I δ'/\xs.length=ds.length/\∀ (i:Nat) d x,ds[i]? = some d->xs[i]? = some x->R d x
 | [],δ,acc,h,_,_=>⟨[],δ,by simp[dg],h,rfl,λi d x e=>by simp at e⟩
 | d :: r,δ,acc,h,hl,hs=>by
  obtain⟨δ1,δ2,x,δ3,e1,e2,e3,h3,hr⟩:=hs d Wj δ h;have gC:acc.length < Wb:=by simp at hl; omega
  obtain⟨xs,δ',e4,h4,hn,hf⟩:=vY (g:=g) (t:=t) (el:=el) I R r (bG cs δ3) (acc ++ [x.d]) h3 (by simp at hl ⊢; omega) (λd hd=>hs d (Wd _ hd));refine⟨x.d :: xs,δ',?_,h4,by simp[hn],λi d' x' f1 f2=>?_⟩
  ·unfold dg;rw[e1];simp only[e2,ju,if_true,e3,if_pos gC,e4];simp
  ·cases i with
   | zero=>simp at f1 f2; subst f1 f2; exact hr
   | succ i=>exact hf i d' x' (by simpa using f1) (by simpa using f2)
theorem NI(F:D->D)(δ:Dl) :
  ∀ (ds:List D) (acc:List D),acc.length + ds.length<=Wb ->
   (∀ d ∈ ds,∃ δ1 δ2 x δ3,g (.pure d) δ=some δ1/\t δ1 = .ok true δ2/\el δ2 = .ok x δ3/\bG cs δ3=δ/\x.d=F d) ->
   dg cs g t el ds δ acc = .ok (acc ++ ds.map F) δ:=by
 intro ds acc hl hs;obtain⟨xs,δ',e,h,hn,hf⟩:=vY (cs:=cs) (g:=g) (t:=t) (el:=el) (λδ'=>δ'=δ) (λd x=>x=F d) ds δ acc rfl hl (λd hd δ' h=>by
  subst h;obtain⟨δ1,δ2,x,δ3,a,b,c,d,e⟩:=hs d hd;exact⟨δ1,δ2,x,δ3,a,b,c,d,e⟩)
 subst h;rw[e];congr 2
 apply List.ext_getElem?;intro i;by_cases hi:i < ds.length
 ·have:=hf i ds[i] (xs[i]'(by omega)) (by simp[hi]) (by simp[hn,hi]);simp[hn,hi,this]
 ·rw[WU (by omega),WU (by simp; omega)]
theorem sI(I:Nat->Dl->Prop) :
  ∀ (ds:List D) (n:Nat) (δ:Dl),I n δ ->
   (∀ (i:Nat) d δ,ds[i]? = some d->I (n + i) δ->∃ δ1 δ2,g (.pure d) δ=some δ1/\b δ1 = .ok .next δ2/\I (n + i + 1) δ2) ->
   ∃ δ',forL g b ds δ = .ok .next δ'/\I (n + ds.length) δ'
 | [],n,δ,h,_=>⟨δ,rfl,h⟩
 | d :: r,n,δ,h,hs=>by
  obtain⟨δ1,δ2,e1,e2,h2⟩:=hs 0 d δ rfl h;obtain⟨δ',e3,h3⟩:=sI (g:=g) (b:=b) I r (n + 1) δ2 h2 (λi d' δ' e hi=>by
   have:=hs (i + 1) d' δ' (by simpa using e) (by rw[show n + (i + 1)=n + 1 + i by omega]; exact hi);rw[show n + (i + 1) + 1=n + 1 + i + 1 by omega] at this;exact this)
  refine⟨δ',?_,by rw[Q7,show n + (r.length + 1)=n + 1 + r.length by omega]; exact h3⟩;unfold forL;rw[e1];simp only[e2,ju,e3]
theorem C1(xs:List Tx):fK (xs.map .str)=some xs:=by
 induction xs with
 | nil=>rfl
 | cons x r ih=>simp[fK,ih]
theorem C2:∀ ts:List Tx,iH [] ts=ts.flatten
 | []=>rfl
 | [x]=>by simp[iH]
 | x :: y :: r=>by rw[iH,C2 (y :: r)]; simp
theorem NJ(xs:List Nat):oO (xs.map λn=>[n])=xs.length:=by
 unfold oO;induction xs with
 | nil=>rfl
 | cons x r ih=>simp at ih ⊢; omega
theorem NL(xs:List Nat):(xs.map λn=>[n]).flatten=xs:=by
 induction xs with
 | nil=>rfl
 | cons x r ih=>simp[ih]
theorem NM(xs:List Nat)(h:xs.length<=16777216):jY [] (.lst (xs.map λn=>.str [n]))=some (.pure (.str xs)):=by
 have e:(xs.map λn=>D.str [n])=(xs.map λn=>[n]).map D.str:=by simp
 unfold jY;simp only[e,C1,NJ,C2,NL];rw[if_pos (by simpa using h)]
theorem NN(r:Tx)(c:Nat)(h:c < r.length)(hl:r.length<=64):ay (.str r) (.int c)=some (.pure (.str [r.getD c 0])):=by
 unfold ay;have:Wb=16777216:=rfl;simp only;rw[if_pos (by omega),jv];simp[h]
abbrev fO(fl:List Tx):D:=.tup (fl.map .str)
structure Tw(w:Nat)(fl:List Tx):Prop where
 h0:0 < fl.length
 h1:fl.length<=64
 w0:0 < w
 w1:w<=64
 all:∀ r ∈ fl,r.length=w
def turn(w:Nat)(fl:List Tx):List Tx:=(Q1 w).map λc=>fl.map λr=>r.getD c 0
def back(fl:List Tx):List Tx:=fl.map List.reverse
def i3(r:S)(δ1:Dl):Rs (List D):=match r with
 | .pure (.int j)=>if nD j then .ok (bS 0 j.toNat) δ1 else .stuck
 | _=>.stuck
@[simp] theorem Tz (f:DE) (δ:Dl):ft f δ=(f δ).bind λr δ1=>i3 r δ1:=id rfl
theorem NO(w:Nat)(hw:w<=1000000):nD (w:Int)=true:=by
 have h1 : -(4611686018427387904:Int)<=(w:Int):=by omega
 have h2:(w:Int) < 4611686018427387904:=by omega
 unfold nD;rw[Wm];exact⟨decide_eq_true h1,decide_eq_true h2⟩
theorem NP(j:Int)(hs:nD j=true)(δ:Dl):i3 (.pure (.int j)) δ = .ok (bS 0 j.toNat) δ:=by unfold i3; simp only[hs,if_true]
theorem nO(w:Nat)(hw:w<=1000000)(δ:Dl):i3 (.pure (.int w)) δ = .ok (bS 0 w) δ:=by
 have:=NP (w:Int) (NO w hw) δ;rwa [Qm] at this
theorem vZ(h:(bS 0 n)[i]? = some d):i < n/\d = .int (i:Int):=by
 unfold bS at h;rw[Wy] at h;by_cases hi:i < n
 ·rw[List.getElem?_range hi] at h;simp at h;exact⟨hi,h.symm⟩
 ·rw[WU (by simpa using hi)] at h
  cases h
theorem C3(h:d ∈ bS 0 n):∃ i:Nat,i < n/\d = .int (i:Int):=by
 obtain⟨i,hi⟩:=List.getElem?_of_mem h;exact⟨i,vZ hi⟩
@[simp] theorem TB (lo:Int) (n:Nat):(bS lo n).length=n:=by simp[bS]
def h9(x:Nat):List Nat->List Nat
 | []=>[x]
 | y :: r=>if y < x then y :: h9 x r else x :: y :: r
def gP:List Nat->List Nat
 | []=>[]
 | x :: r=>h9 x (gP r)
theorem C4(a b:Nat):(([a]:Tx) < [b]) ↔ a < b:=by
 constructor
 ·intro h
  cases h with
  | cons h=>cases h
  | rel h=>exact h
 ·intro h; exact List.Lex.rel h
theorem C5(x:Nat):∀ xs:List Nat,jQ [x] (xs.map λn=>[n])=(h9 x xs).map λn=>[n]
 | []=>rfl
 | y :: r=>by
  simp only[Wk,jQ,h9];by_cases h:y < x
  ·rw[if_pos ((C4 y x).mpr h),if_pos h,C5 x r]; rfl
  ·rw[if_neg λz=>h ((C4 y x).mp z),if_neg h]; rfl
theorem C6:∀ xs:List Nat,gH (xs.map λn=>[n])=(gP xs).map λn=>[n]
 | []=>rfl
 | x :: r=>by rw[Wk,gH,C6 r,C5]; rfl
theorem v3:∀ {xs:List Nat},y ∈ h9 x xs ↔ y=x\/y ∈ xs
 | []=>by simp[h9]
 | z :: r=>by
  unfold h9;split
  ·simp[v3 (xs:=r)]; constructor <;> (rintro (h | h | h) <;> simp[h])
  ·simp
theorem v5:∀ {xs:List Nat},y ∈ gP xs ↔ y ∈ xs
 | []=>by simp[gP]
 | x :: r=>by rw[gP,v3,v5 (xs:=r)]; simp
theorem C7(x:Nat):∀ xs:List Nat,(h9 x xs).length=xs.length + 1
 | []=>rfl
 | y :: r=>by unfold h9; split <;> simp[C7 x r]
theorem C8:∀ xs:List Nat,(gP xs).length=xs.length
 | []=>rfl
 | x :: r=>by rw[gP,C7,C8 r]; rfl
theorem C9:∀ {xs:List Nat},xs.Pairwise (· < ·)->x ∉ xs->(h9 x xs).Pairwise (· < ·)
 | [],_,_=>by simp[h9]
 | y :: r,h,hx=>by
  rw[List.pairwise_cons] at h;simp at hx;unfold h9;split
  ·rename_i hl;rw[List.pairwise_cons];refine⟨λz hz=>?_,C9 h.2 hx.2⟩;rcases v3.mp hz with rfl | hz
   ·exact hl
   ·exact h.1 z hz
  ·rename_i hl;rw[List.pairwise_cons];refine⟨λz hz=>?_,Jv.mpr h⟩;rcases Wo.mp hz with rfl | hz
   ·omega
   ·have:=h.1 z hz; omega
theorem C_:∀ {xs:List Nat},xs.Nodup->(gP xs).Pairwise (· < ·)
 | [],_=>by simp[gP]
 | x :: r,h=>by
  rw[Q4] at h;exact C9 (C_ h.2) λz=>h.1 (v5.mp z)
theorem Dc{P:Nat->Prop}:∀ {xs:List D},(∀ x ∈ xs,∃ n,P n/\x = .str [n])->∃ row:List Nat,xs=row.map (λn=>.str [n])/\∀ n ∈ row,P n
 | [],_=>⟨[],rfl,by simp⟩
 | x :: r,h=>by
  obtain⟨n,hn,rfl⟩:=h x Wj;obtain⟨row,rfl,hr⟩:=Dc (xs:=r) λy hy=>h y (Wd _ hy)
  exact⟨n :: row,rfl,by simpa using ⟨hn,hr⟩⟩
theorem NQ{R:D->D->Prop}{ds xs:List D}{Q:D->Prop}(hn:xs.length=ds.length)(hf:∀ (i:Nat) d x,ds[i]? = some d->xs[i]? = some x->R d x)(hq:∀ d x,d ∈ ds->R d x->Q x):∀ x ∈ xs,Q x:=λx hx=>by
 obtain⟨i,hi⟩:=List.getElem?_of_mem hx;have h1:=(We.mp hi).1;have h2:ds[i]? = some (ds[i]'(by omega)):=by simp[show i < ds.length by omega]
 exact hq _ x (QW _) (hf i _ x h2 hi)
theorem Dd(w:Nat)(hw:w<=100000)(δ:Dl):i3 (.pure (.int (1 + (w:Int)))) δ = .ok (bS 0 (1 + w)) δ:=by
 have:=nO (1 + w) (by omega) δ;rwa [show(((1 + w:Nat):Int))=1 + (w:Int) by omega] at this
abbrev d_(b:Nat×List Tx):D:=.tup [.str [b.1],fO b.2]
abbrev aI(h w:Nat)(bs:List (Nat×List Tx)):D:=.tup [.int h,.int w,.tup (bs.map d_)]
structure dG(h w:Nat)(bs:List (Nat×List Tx)):Prop where
 h0:0 < h
 h1:h<=4
 w0:0 < w
 w1:w<=4
 hw:2 < h + w
 n0:0 < bs.length
 n1:bs.length<=26
 up:(bs.map (·.1)).Pairwise (· < ·)
 NR:∀ b ∈ bs,97<=b.1/\b.1<=122
 gQ:∀ b ∈ bs,b.2.length=h/\∀ r ∈ b.2,r.length=w/\∀ n ∈ r,n ∈ bs.map (·.1)
theorem v7(f F:A->D)(δ:Dl):∀ (as:List A) (acc:List D),acc.length + as.length<=Wb ->
  (∀ a ∈ as,∃ δ1 δ2 x δ3,g (.pure (f a)) δ=some δ1/\t δ1 = .ok true δ2/\el δ2 = .ok x δ3/\bG cs δ3=δ/\x.d=F a)->dg cs g t el (as.map f) δ acc = .ok (acc ++ as.map F) δ
 | [],acc,_,_=>by simp[dg]
 | a :: r,acc,hl,hs=>by
  obtain⟨δ1,δ2,x,δ3,e1,e2,e3,e4,e5⟩:=hs a Wj;have gC:acc.length < Wb:=by simp at hl; omega
  have ih:=v7 (cs:=cs) (g:=g) (t:=t) (el:=el) f F δ r (acc ++ [x.d]) (by simp at hl ⊢; omega) (λa ha=>hs a (Wd _ ha));rw[Wk];unfold dg;rw[e1];rw[e5] at ih;simp only[e2,ju,if_true,e3,if_pos gC,e4,e5,ih];simp
end DV
set_option maxHeartbeats 400000
namespace L2
open PySem PySem.Spec PyProof.Rows PySem.W DV SU
section
variable {X:Cx}
end
end L2
namespace DV
open PySem PySem.Spec PyProof.Rows L2 SU
section
variable {X:Cx} {c:Fc} {e:Expr} {fb:BE} {pp pos TC TF:Pos}
end
end DV
namespace PySem
theorem NS:entryFor table "dict_itemiterator.__iter__" = some Builtin.«dict_keyiterator.__iter__» :=
 entryFor_alias (id':="dict_keyiterator.__iter__") (by kernel_rfl) rfl (by decide +kernel) (by kernel_rfl)
theorem NT(hit:IsItemIter s.heap it d i n ep ok ov)(h:Q (.ref it) s):W4 (model prog w) A (pyIter (.ref it)) Q E s:=by
 have hT:s.TypeIs (.ref it) "dict_itemiterator":=⟨_,hit,rfl⟩
 refine wpAny_pyIter_slot hT F.slot_dict_itemiterator_iter (WE F.slot_dict_itemiterator_iter hT NS ?_ (F.args_dict_itemiterator_iter_1 _));show W4 _ _ (ret (.ref it)) _ _ s;exact W3 ⟨_,rfl,"dict_itemiterator",_,hT,F.slot_dict_itemiterator_next.lookup,h⟩
end PySem
namespace L2
open PySem PySem.Spec PyProof.Rows
section
variable {X:Cx} {o:Expr} {apos aJ:Pos} {elts:List Expr} {ctx:Nat} {tp:Pos} {td:TE}
end
end L2
namespace DV
open PySem PySem.Spec PyProof.Rows L2
section
variable {X:Cx} {c:Fc} {o:Expr} {i:Nat} {apos aJ:Pos} {elts:List Expr} {ctx:Nat} {tp:Pos}
end
end DV
namespace L2
open PySem PySem.Spec PyProof.Rows
section
variable {X:Cx}
end
end L2
namespace DV
open PySem PySem.Spec PyProof.Rows L2
end DV
namespace L2
open PySem PySem.Spec PyProof.Rows
section
variable {X:Cx} {a b:Expr} {ta:TA} {pp pos v8 v9:Pos}
end
end L2
namespace DV
open PySem PySem.Spec PyProof.Rows L2
section
variable {X:Cx} {c:Fc} {a b:Expr} {f g:DE} {pp pos v8 v9:Pos}
end
section
variable {c:Fc} {σ σ':St} {δ δ':Dl} {H H':Hp} {i:Nat} {a p d:Addr} {dd:D}
end
structure Gh(c:Fc)(i:Nat)(p d:Addr)(σ0:St)(δ0:Dl)(H0:Hp)(ws:List (Key×V))(ds:List (bI×D))(t:Tx)(σ:St)(δ:Dl)(H:Hp)(vs:List V)(xs:List D):Prop where
 ok:Ok ((c.plus p).nK i d) σ δ H
 hd:H d=some (.dK (putK ws (.inr (toS t)) (.ref p)))
 hp:H p=some (.lst vs)
 rv:aA H (Av ((c.plus p).nK i d) σ δ) vs xs
 dr:DR H (Av ((c.plus p).nK i d) σ δ) ws ds
 keep:∀ a o,H0 a=some o->¬ Own σ0 δ0 a->H a=some o
 own:∀ a,Own σ δ a->Own σ0 δ0 a\/H0 a=none
 there:∀ a o,H0 a=some o->∃ o',H a=some o'
section
variable {c:Fc} {i:Nat} {p d:Addr} {σ0 σ σ':St} {δ0 δ δ':Dl} {H0 H H':Hp} {ws:List (Key×V)} {ds:List (bI×D)} {t:Tx} {vs kS:List V} {xs TJ:List D}
end
section
variable {X:Cx} {c:Fc}
end
section
variable {X:Cx} {c:Fc} {σ:St} {δ:Dl} {H:Hp} {x y:Nat} {a:Addr} {d:D}
end
end DV
namespace PySem.ZW
open Sem (wp)
structure ZS(i1 i2 l1 l2:Addr)(xs ys:Array Value)(k:Nat)(h:Heap):Prop where
 i1:h.IsListIter i1 l1 k
 i2:h.IsListIter i2 l2 k
 l1:h.IsList l1 xs
 l2:h.IsList l2 ys
section
variable {prog:Wg} {w:Wh} {A:Wl} {E:Value->W1->Prop} {s:W1} {z TI TO i1 i2 l1 l2 a:Addr} {f:Bool} {oa:Obj} {k:Nat} {xs ys:Array Value} {x y:Value}
end
end PySem.ZW
namespace PySem.ZW
open Sem (wp)
structure ZG(xs ys:Array Value)(lo:Addr)(h:Heap)(as:List Addr):Prop where
 rise:as.Pairwise (· < ·)
 above:∀ a ∈ as,lo < a
 pairs:∀ (j:Nat) a,as[j]? = some a->∃ x y,xs[j]? = some x/\ys[j]? = some y/\IsPair h a x y
structure ZL(z TI TO i1 i2 l1 l2 S:Addr)(xs ys:Array Value)(h0:Heap)(h:Heap)(acc:Array Value)(c:Nat)(as:List Addr):Prop where
 keep:∀ b o,b≠S->b≠z->b≠TO->b≠i1->b≠i2->h0.get? b=some o->h.get? b=some o
 lst:h.get? S=some { cls:=.type "list",dict:=none,data:=.seq acc c,slots:=#[] }
 items:acc.toList=as.map Value.ref
 G:ZG xs ys S h as
section
variable {prog:Wg} {w:Wh} {A:Wl} {E:Value->W1->Prop} {s:W1} {z TI TO i1 i2 l1 l2 S:Addr} {xs ys:Array Value} {R:Result->W1->Prop} {res:Value}
end
end PySem.ZW
namespace PySem.ZW
open Sem (wp)
section
variable {prog:Wg} {w:Wh} {A:Wl} {E:Value->W1->Prop} {s:W1} {z TI TO i1 i2 l1 l2:Addr} {xs ys:Array Value}
end
end PySem.ZW
namespace L2
open PySem PySem.Spec PyProof.Rows
section
variable {X:Cx} {a b:Expr} {ta:TA} {pp pos v8 v9:Pos} {elts:List Expr} {ctx:Nat} {tp:Pos}
end
end L2
namespace DV
open PySem PySem.Spec PyProof.Rows L2
section
variable {X:Cx} {c:Fc} {a b:Expr} {f g:DE} {pp pos v8 v9:Pos} {elts:List Expr} {ctx:Nat} {tp:Pos}
end
section
variable {X:Cx}
end
section
variable {X:Cx} {c:Fc} {e:Expr} {fb:BE} {pos pp:Pos}
end
end DV
namespace L2
open PySem PySem.Spec PyProof.Rows
structure TK(P:Wg)(w:Wh)(K:W2)(mg:Str->Option Value)(base:Heap)(k:Nat)(f:Addr)(fd:WD)(ps:List Str)(sp:List Env->W1->Sp):Prop where
 len:∀ outer s vs H Q E,sp outer s vs H Q E->vs.length=ps.length
 run:∀ (A:Wl) (outer:List Env) (s:W1) (H:Hp) (args:Args) (us:List Value) (vs:List V) (Q:VK) (E:XK),bX k A->i7 P w K mg base A outer s H->BindsTo s fd args (ps.zip us)->Vals vs us->sp outer s vs H Q E ->
  Qq (model P w) A (.call (.ref f) args) (CR dm outer P w H s Q E) s
section
variable {P:Wg} {w:Wh} {K:W2} {mg:Str->Option Value} {base:Heap}
end
structure TL(H:Hp)(fs:List Addr)(h:Heap)(fa:Addr)(qual:Str)(params:Arguments)(body:Expr)(scope:Scope)(cl:List (Str×Addr))(fr:List Str)(fv:List V):Prop where
 obj:∃ pm c' ctv oc,h.get? fa=some (PySem.W.kla_obj "<lambda>" qual params body scope cl pm c' ctv)/\H fa=none/\fa ∉ fs/\H c'=some (.frz oc (.ext λ_=>True))/\∃ vs tq,oc.data = .fields vs/\vs[1]? = some (.str qual tq)
 cell:∀ x c,cl.lookup x=some c->(∃ v,h.IsCell c v)/\H c=none/\c ∉ fs
 inj:∀ x y c,cl.lookup x=some c->cl.lookup y=some c->x=y
 val:∀ (i:Nat) x v,fr[i]? = some x->fv[i]? = some v->∃ c u,cl.lookup x=some c/\h.IsCell c (some u)/\RelV v u
 TM:fv.length=fr.length
structure TN(p:Str)(fr:List Str)(sc:Scope):Prop where
 kind:sc.kind = .function
 co:sc.isCoroutine=false
 gen:sc.isGenerator=false
 loc:sc.names.lookup p=some .local
 TQ:∀ y ∈ sc.names,y.2≠.cell
 free:∀ x,sc.names.lookup x=some .free->x ∈ fr
 TR:∀ x ∈ fr,sc.names.lookup x=some .free
section
variable {X:Cx} {pins:List (Addr×Obj)} {σ:St} {H:Hp} {s:W1} {fa:Addr} {qual:Str} {params:Arguments} {body:Expr} {scope:Scope} {cl:List (Str×Addr)} {fr:List Str} {fv:List V} {p:Str} {u:Value} {v:V} {k:Nat} {t:TE} {Q:VK}
end
end L2
namespace DV
open PySem PySem.Spec PyProof.Rows L2
section
variable {c:Fc} {σ:St} {δ:Dl} {H H':Hp}
end
structure TU(X:Cx)(c:Fc)(fa:Addr)(F:D->Option D):Prop where
 there:∀ pins σ H s,Inv X pins σ H s->∃ fd,s.heap.get? fa=some { cls:=.type "function",data:=.func fd }
 run:∀ pins s σ δ H v u d d' Q,Inv X pins σ H s->Ok c σ δ H->Rep H (Av c σ δ) v d->RelV v u->F d=some d'->(∀ v' H',aE c σ δ H σ δ H'->Rep H' (Av c σ δ) v' d'->Q v' H')->W4 (model X.prog X.w) X.A (call (.ref fa) [u]) (EP X pins σ Q) X.xe s
end DV
namespace L2
open PySem PySem.Spec PyProof.Rows
end L2
namespace DV
open PySem PySem.Spec PyProof.Rows L2
section
variable {X:Cx} {c:Fc} {e:Expr} {fb:BE} {pos pp p:Pos}
end
end DV
namespace L2
open PySem PySem.Spec PyProof.Rows
section
variable {X:Cx} {pins:List (Addr×Obj)} {σ:St} {H:Hp} {s:W1} {params:Arguments} {body:Expr} {scope:Scope} {pos:Pos} {cl:List (Str×Addr)} {c P:Addr} {fr:List Str} {fv:List V} {js:List Nat} {Q:Value->W1->Prop} {E:Value->W1->Prop}
end
end L2
namespace DV
open PySem PySem.Spec PyProof.Rows L2
abbrev pW:=List (Addr×Pos×Str)
def TH(ts:pW)(H:Hp):Prop:=∀ t ∈ ts,H t.1=some (.ctab t.2.1 t.2.2)
structure FT(ts:pW)(c:Fc):Prop where
 h:TH ts c.H₀
 n:∀ t ∈ ts,¬ c.I t.1
section
variable {P:Wg} {w:Wh} {K:W2} {mg:Str->Option Value} {base:Heap}
end
section
variable {P:Wg} {w:Wh} {K:W2} {mg:Str->Option Value} {base:Heap}
end
section
variable {X:Cx} {c:Fc} {e:Expr} {es:List Expr} {as:List Ak} {k n:Nat} {x:Str} {G:DF} {pp pos:Pos} {ts:pW}
end
section
variable {X:Cx} {c:Fc} {e:Expr} {fe fb:DE} {params:Arguments} {body:Expr} {scope:Scope} {TV pos pp:Pos} {P code:Addr} {cl:List (Str×Addr)} {fr:List Str} {js:List Nat} {p x:Str} {kl kw m:Nat} {TX:Addr->(D->Option D)->DS} {W:(D->Option D)->D->Option D} {ts:pW}
end
open PySem (sizeLine)
section
variable {P:Wg} {w:Wh} {K:W2} {mg:Str->Option Value} {base:Heap}
end
section
variable {X:Cx} {c:Fc} {e:Expr} {es:List Expr} {as:List Ak} {k n:Nat} {x:Str} {G:DX} {pp pos:Pos} {ts:pW}
end
end DV
namespace L2
open PySem PySem.Spec PyProof.Rows
section
variable {X:Cx} {pins:List (Addr×Obj)} {σ:St} {H:Hp} {s:W1} {a:Addr} {aa:List (Key×V)} {k:Key} {u:Value} {A:Wl} {E:Value->W1->Prop}
end
section
variable {X:Cx} {o e f:Expr} {apos aJ:Pos} {td ty tx:TE}
end
end L2
namespace DV
open PySem PySem.Spec PyProof.Rows L2
section
variable {X:Cx} {c:Fc} {e:Expr} {fe:DE} {pos:Pos}
end
section
variable {X:Cx}
end
end DV
namespace L2
open PySem PySem.Spec PyProof.Rows PySem.SeqAt
mutual
def gR:NK->Nat
 | .i _=>1
 | .s _=>1
 | .t ks=>h_ ks + 1
def h_:List NK->Nat
 | []=>0
 | k :: ks=>gR k + h_ ks
end
inductive cM (h:Heap):Nat->NK->Value->Prop
 | int {n:Nat} (z:Int) (t:Tok):cM h n (.i z) (.int z t)
 | bl {n:Nat} (b:Bool):cM h n (.i (if b then 1 else 0)) (.bool b)
 | str {n:Nat} (x:Str) (t:Tok):cM h n (.s x) (.str x t)
 | tup {n:Nat} {a:Addr} {af:Array Value} {ks:List NK}:h.IsTuple a af->ks.length=af.toList.length->(∀ (i:Nat) k v,ks[i]? = some k->af.toList[i]? = some v->cM h n k v)->cM h (n + 1) (.t ks) (.ref a)
section
variable {h h':Heap} {n:Nat}
theorem NU{α β:Type}{xs ys:List α}{vs:List β}(h1:xs.length=vs.length)(h2:ys.length=vs.length)(q:∀ (i:Nat) x y v,xs[i]? = some x->ys[i]? = some y->vs[i]? = some v->x=y):xs=ys:=by
 apply List.ext_getElem (by omega);intro i a b;exact q i _ _ vs[i] (W8 a) (W8 b) (W8 (by omega))
theorem cM.inj{x:NK}{v:Value}(r:cM h n x v):∀ {m:Nat} {y:NK},cM h m y v->x=y:=by
 induction r with
 | int z t=>intro m y k; cases k; rfl
 | bl b=>intro m y k; cases k; rfl
 | str x t=>intro m y k; cases k; rfl
 | @tup n a af ks h1 h2 h3 ih =>
  intro m y k
  cases k with
  | @tup m _ its' ks' k1 k2 k3 =>
   obtain⟨o,e,c,q,d⟩:=h1;obtain⟨o',e',c',q',d'⟩:=k1;rw[e] at e'; cases e'
   rw[d] at d'; cases d'
   rw[NU h2 k2 λi x y v e1 e2 e3=>ih i x v e1 e3 (k3 i y v e2 e3)]
theorem cM.kept{x:NK}{v:Value}(r:cM h n x v)(k:∀ b af,h.IsTuple b af->h'.IsTuple b af):cM h' n x v:=by
 induction r with
 | int z t=>exact .int z t
 | bl b=>exact .bl b
 | str x t=>exact .str x t
 | tup h1 h2 h3 ih=>exact .tup (k _ _ h1) h2 ih
theorem cM.up{x:NK}{v:Value}(r:cM h n x v):∀ {m:Nat},n<=m->cM h m x v:=by
 induction r with
 | int z t=>intro m _; exact .int z t
 | bl b=>intro m _; exact .bl b
 | str x t=>intro m _; exact .str x t
 | tup h1 h2 h3 ih =>
  intro m l;obtain⟨m,rfl⟩:∃ m',m=m' + 1:=⟨m - 1,by omega⟩
  exact .tup h1 h2 λi k v e1 e2=>ih i k v e1 e2 (by omega)
end
section
variable {prog:Wg} {w:Wh} {E:Value->W1->Prop}
theorem NV{A:Wl}{s:W1}{b:Bool}{Q:Int->W1->Prop}(h:Q (hashInt (if b then 1 else 0)) { s with toks:=s.toks + 1 }):W4 (model prog w) A (PySem.pyHash (.bool b)) Q E s:=by
 have z:reduceHash (if b then 1 else 0)=hashInt (if b then 1 else 0):=by cases b <;> decide +kernel
 refine PySem.W.pyHash_slot (id:="int.__hash__") (T:="bool") (hT:=rfl) (slot:=F.slot_bool_hash) (entry:=entry_int_hash) (args:=args_int_hash _) (hid:=beq_builtin_none _) (hu:=.inl rfl) (body:=?_)
 cases b
 ·exact(show W4 _ _ (mkInt 0 >>= λv=>ret v) _ _ _ from W0 (wpAny_mkInt (W3 ⟨_,_,rfl,z ▸ h⟩)))
 ·exact(show W4 _ _ (mkInt 1 >>= λv=>ret v) _ _ _ from W0 (wpAny_mkInt (W3 ⟨_,_,rfl,z ▸ h⟩)))
theorem De(w:Wh):∀ ks:List NK,qw w ks=ks.map (fg w)
 | []=>rfl
 | k :: ks=>by simp only[qw,Wk,De w ks]
theorem Df:∀ xs ys:List NK,h_ (xs ++ ys)=h_ xs + h_ ys
 | [],ys=>by simp[h_]
 | x :: xs,ys=>by simp only[List.cons_append,h_,Df xs ys]; omega
theorem cM.pyHash{h:Heap}{n:Nat}{k:NK}{v:Value}(r:cM h n k v):∀ {A:Wl} {s:W1} {Q:Int->W1->Prop},s.heap=h->A.units + n < Ww->Q (fg w k) { s with toks:=s.toks + gR k }->W4 (model prog w) A (PySem.pyHash v) Q E s:=by
 induction r with
 | int z t=>intro A s Q _ _ q; exact wpAny_pyHash_int q
 | bl b=>intro A s Q _ _ q; exact NV q
 | str x t=>intro A s Q _ _ q; exact wpAny_pyHash_str q
 | @tup n a af ks h1 h2 h3 ih =>
  intro A s Q hs hu q;subst hs;obtain⟨o,ho,hc,m,hd⟩:=id h1;have hT:s.TypeIs (.ref a) "tuple":=⟨o,ho,hc⟩
  refine PySem.W.pyHash_slot (T:="tuple") hT F.slot_tuple_hash F.entry_tuple_hash (F.args_tuple_hash_1 _) (beq_builtin_none _) (.inr (by omega)) ?_;show W4 _ _ (Builtin.Tuple.tupleItemsOf (.ref a) >>= _) _ _ s;refine W0 (wpAny_tupleItemsOf ho hd ?_);refine W0 ?_;rw[<- Array.forIn_toList];refine wpAny_forIn_list _ (λrest (b:Array Int) s'=>∃ i,i<=ks.length/\rest=af.toList.drop i/\b.toList=(ks.take i).map (fg w)/\s' = { s with toks:=s.toks + h_ (ks.take i) })
   _ ?_ ?_ _ _ ⟨0,Ql _,rfl,rfl,by simp[h_]⟩
  ·rintro x rest b s' ⟨i,hi,hr,hb,rfl⟩;have aY:i < af.toList.length:=by
    rcases Nat.lt_or_ge i af.toList.length with z | z
    ·exact z
    ·rw[List.drop_eq_nil_of_le z] at hr; cases hr
   rw[QO aY] at hr;injection hr with hx hr
   have lq:i < ks.length:=by omega
   refine W0 (ih i ks[i] x (W8 lq) (by rw[hx]; exact W8 aY) rfl (show A.units + 1 + n < Ww by omega) ?_);have ht:ks.take (i + 1)=ks.take i ++ [ks[i]]:=by rw[List.take_succ,W8 lq]; rfl
   have fin:∃ j,j<=ks.length/\rest=af.toList.drop j/\(b.push (fg w ks[i])).toList=(ks.take j).map (fg w)/\({ s with toks:=s.toks + h_ (ks.take i) + gR ks[i] }:W1) = { s with toks:=s.toks + h_ (ks.take j) }:=by
    refine⟨i + 1,lq,hr,by rw[ht,Jr,Array.toList_push,hb]; rfl,?_⟩;rw[ht,Df];simp only[h_];rw[Nat.add_zero,Nat.add_assoc]
   first
    | exact W3 fin
    | exact W0 (W3 (W3 fin))
  ·rintro b s' ⟨i,hi,hr,hb,rfl⟩;have hz:i=ks.length:=by
    have:=congrArg List.length hr;simp at this;simp at h2;omega
   subst hz;rw[List.take_length] at hb ⊢;show W4 _ _ (retInt (Builtin.Tuple.tupleHashOf b.toList)) _ _ _;rw[hb];refine W0 (wpAny_mkInt (W3 ⟨_,_,rfl,?_⟩));simp only[fg,gR,De] at q;simpa[Nat.add_assoc] using q
theorem cM.quiet{s:W1}{n:Nat}{k:NK}{v:Value}(r:cM s.heap n k v):∀ {A:Wl} {m:Nat} {Q:Bool->W1->Prop},n<=m->Q true s->W4 (model prog w) A (eqIsQuiet m v) Q E s:=by
 induction r with
 | int z t=>intro A m Q _ q; rw[eqIsQuiet_byValue _ rfl]; exact W3 q
 | bl b=>intro A m Q _ q; rw[eqIsQuiet_byValue _ rfl]; exact W3 q
 | str x t=>intro A m Q _ q; rw[eqIsQuiet_byValue _ rfl]; exact W3 q
 | @tup n a af ks h1 h2 h3 ih =>
  intro A m Q hm q;obtain⟨o,ho,hc,mm,hd⟩:=id h1;have hT:s.TypeIs (.ref a) "tuple":=⟨o,ho,hc⟩
  obtain⟨m,rfl⟩:∃ m',m=m' + 1:=⟨m - 1,by omega⟩
  unfold eqIsQuiet;refine W0 (wpAny_specialOf hT F.slot_tuple_eq.lookup ?_);show W4 _ _ (isInstance (.ref a) (.type "tuple") >>= _) _ _ s;refine W0 (wpAny_isInstance hT isSubtype_tuple_tuple ?_);simp only[Bool.not_true,Jz,if_false];refine W0 (JE ho hd ?_);refine W0 ?_;show W4 _ _ (forIn af _ _) _ _ s;rw[<- Array.forIn_toList];refine wpAny_forIn_list _ (λrest r s'=>r.1=none/\s'=s/\∃ i,rest=af.toList.drop i) _ ?_ ?_ _ _ ⟨rfl,rfl,0,rfl⟩
  ·rintro x rest r s' ⟨hr,rfl,i,hi⟩;have aY:i < af.toList.length:=by
    rcases Nat.lt_or_ge i af.toList.length with z | z
    ·exact z
    ·rw[List.drop_eq_nil_of_le z] at hi; cases hi
   rw[QO aY] at hi;injection hi with hx hi
   have lq:i < ks.length:=by omega
   refine W0 (ih i ks[i] x (W8 lq) (by rw[hx]; exact W8 aY) (by omega) ?_);simp only[Bool.not_true,Jz,if_false];exact W3 ⟨rfl,rfl,i + 1,hi⟩
  ·rintro ⟨r1,r2⟩ s' ⟨hr,rfl,_⟩;simp only at hr;subst hr;exact W3 q
theorem lC(a b:Int):decide (NK.i a=NK.i b)=(a == b):=by
 by_cases e:a=b
 ·subst e; simp
 ·rw[decide_eq_false λq=>e (NK.i.inj q)]; exact(beq_eq_false_iff_ne.mpr e).symm
theorem v_(a b:Str):decide (NK.s a=NK.s b)=(a == b):=by
 by_cases e:a=b
 ·subst e; simp
 ·rw[decide_eq_false λq=>e (NK.s.inj q)]; exact(beq_eq_false_iff_ne.mpr e).symm
theorem wa(a b:Bool):(a == b)=(((if a then 1 else 0:Int)) == (if b then 1 else 0:Int)):=by cases a <;> cases b <;> rfl
theorem NW{xs ys:List NK}{e:Nat->Bool}(he:∀ (j:Nat) x y,xs[j]? = some x->ys[j]? = some y->e j=decide (x=y)):((Q1 (min xs.length ys.length)).all e && xs.length == ys.length)=decide (NK.t xs=NK.t ys):=by
 by_cases hl:xs.length=ys.length
 ·rw[<- hl,Nat.min_self];simp only[beq_self_eq_true,Bool.and_true];by_cases hx:xs=ys
  ·subst hx;rw[decide_eq_true rfl,List.all_eq_true];intro j hj;have:=List.mem_range.mp hj;rw[he j xs[j] xs[j] (W8 this) (W8 this)];simp
  ·rw[decide_eq_false λq=>hx (NK.t.inj q)];rw[List.all_eq_false];apply Classical.byContradiction;intro hn;apply hx;apply List.ext_getElem hl;intro j a b;apply Classical.byContradiction;intro c_;refine hn ⟨j,List.mem_range.mpr a,?_⟩;rw[he j _ _ (W8 a) (W8 b)];simpa using c_
 ·rw[decide_eq_false λq=>hl (by rw[NK.t.inj q])];simp[hl]
theorem cM.NX{s:W1}{n:Nat}{x:NK}{u:Value}(r:cM s.heap n x u):∀ {A:Wl} {m:Nat} {y:NK} {v:Value},cM s.heap m y v->A.units + n < Ww->EqAt A s u v (decide (x=y)):=by
 induction r with
 | int z t =>
  intro A m y v k hu
  cases k with
  | int z' t'=>rw[lC]; exact EqAt.int_int _ _ _ _
  | bl b=>rw[lC]; exact EqAt.int_bool _ _ _
  | str x t'=>rw[decide_eq_false (λq=>nomatch q)]; exact EqAt.int_str _ _ _ _
  | tup k1 k2 k3=>rw[decide_eq_false (λq=>nomatch q)]; exact EqAt.int_tuple _ _ k1 (by omega)
 | bl b =>
  intro A m y v k hu
  cases k with
  | int z' t'=>rw[lC]; exact EqAt.bool_int _ _ _
  | bl b=>rw[lC,<- wa]; exact EqAt.bool_bool _ _
  | str x t'=>rw[decide_eq_false (λq=>nomatch q)]; exact EqAt.bool_str _ _ _
  | tup k1 k2 k3=>rw[decide_eq_false (λq=>nomatch q)]; exact EqAt.bool_tuple _ k1 (by omega)
 | str x t =>
  intro A m y v k hu
  cases k with
  | int z' t'=>rw[decide_eq_false (λq=>nomatch q)]; exact EqAt.str_int _ _ _ _
  | bl b=>rw[decide_eq_false (λq=>nomatch q)]; exact EqAt.str_bool _ _ _
  | str x t'=>rw[v_]; exact EqAt.str_str _ _ _ _
  | tup k1 k2 k3=>rw[decide_eq_false (λq=>nomatch q)]; exact EqAt.str_tuple _ _ k1 (by omega)
 | @tup n a af ks h1 h2 h3 ih =>
  intro A m y v k hu
  cases k with
  | int z' t'=>rw[decide_eq_false (λq=>nomatch q)]; exact EqAt.tuple_int _ _ h1 (by omega)
  | bl b=>rw[decide_eq_false (λq=>nomatch q)]; exact EqAt.tuple_bool _ h1 (by omega)
  | str x t'=>rw[decide_eq_false (λq=>nomatch q)]; exact EqAt.tuple_str _ _ h1 (by omega)
  | @tup m' b its' ks' k1 k2 k3 =>
   by_cases mZ:a=b
   ·subst mZ;have e:NK.t ks=NK.t ks':=cM.inj (cM.tup h1 h2 h3) (cM.tup k1 k2 k3);rw[decide_eq_true e];exact EqAt.same _
   ·refine EqAt.of_refs mZ ?_;let e:Nat->Bool:=λj=>match ks[j]?,ks'[j]? with
     | some x,some y=>decide (x=y)
     | _,_=>false
    have z1:af.size=ks.length:=by simpa using h2.symm
    have z2:its'.size=ks'.length:=by simpa using k2.symm
    have q:=RcAt.tuples (A:=A) (s:=s) (e:=e) h1 k1 (by omega) λj j1 j2=>by
     have l1:j < ks.length:=by omega
     have l2:j < ks'.length:=by omega
     have ee:e j=decide (ks[j]=ks'[j]):=by simp only[e,W8 l1,W8 l2]
     rw[ee];exact ih j ks[j] af[j] (W8 l1) (by simp[j1]) (k3 j ks'[j] its'[j] (W8 l2) (by simp[j2])) (show A.units + 1 + n < Ww by omega)
    rw[z1,z2,NW λj x y e1 e2=>by simp only[e,e1,e2]] at q;exact q
end
theorem NY{h h':Heap}{d:Addr}{o:Obj}{es ep}(ho:h.get? d=some o)(hd:o.data = .dict es ep)(hs:Qh d h h'):∀ b af,h.IsTuple b af->h'.IsTuple b af:=λb af ⟨o',e,c,n,q⟩=>by
 have c_:b≠d:=by
  rintro rfl;rw[e] at ho; cases ho
  rw[hd] at q; exact nomatch q
 exact⟨o',(hs.2 b c_).trans e,c,n,q⟩
noncomputable def nkKind (prog:Wg) (w:Wh):HeapKind prog w NK where
 is:=λh k a=>cM h 6 k (.ref a)
 hash:=fg w
 draws:=gR
 room:=λA=>A.units + 6 < Ww
 inj:=λhx hy=>hx.inj hy
 keeps:=λx ho hd hs=>x.kept (NY ho hd hs)
 pyHash:=λhu hk h=>hk.pyHash rfl hu h
 eqBool:=λhu hx hy h=>hx.NX hy hu _ _ _ _ h
 quiet:=λhk h=>hk.quiet (by omega) h
def kN:Key->NK
 | .inl z=>.i z
 | .inr x=>.s x
theorem NZ{p q:Key}(h:kN p=kN q):p=q:=by
 cases p <;> cases q <;> first | (cases h; rfl) | cases h
def jw(h:Heap)(m:Bool)(k:NK)(u:Value):Prop:=match m with
 | true=>∃ a,u = .ref a/\cM h 6 k u
 | false=>∃ q:Key,gw q u=true/\k=kN q
theorem N0{p q:Key}{u:Value}(h1:gw p u=true)(h2:gw q u=true):p=q:=by
 rcases iq h1 with ⟨i,t,rfl,rfl⟩ | ⟨x,t,rfl,rfl⟩ <;> rcases iq h2 with ⟨j,t',rfl,e⟩ | ⟨y,t',rfl,e⟩ <;> cases e <;> rfl
def ent(w:Wh)(x:NK×Value×Value):DictEntry:=⟨fg w x.1,x.2.1,x.2.2⟩
section
variable {prog:Wg} {w:Wh} {A:Wl} {E:Value->W1->Prop} {s:W1}
theorem Dg{m:Bool}{k:NK}{u:Value}{Q:Int->W1->Prop}(hu:A.units + 6 < Ww)(hk:jw s.heap m k u)(h:Q (fg w k) { s with toks:=s.toks + gR k }):W4 (model prog w) A (PySem.pyHash u) Q E s:=by
 cases m with
 | true=>obtain⟨a,rfl,r⟩:=hk; exact r.pyHash rfl hu h
 | false =>
  obtain⟨q,h1,rfl⟩:=hk;refine(dB prog w).pyHash (k:=q) h1 ?_
  cases q <;> exact h
theorem Dh{h:Heap}:∀ {xs:List (NK×Value×Value)},(∀ x ∈ xs,jw h true x.1 x.2.1)->∃ ys:List (NK×Addr×Value),xs=ys.map λy=>(y.1,Value.ref y.2.1,y.2.2)
 | [],_=>⟨[],rfl⟩
 | x :: xs,q=>by
  obtain⟨ys,e⟩:=Dh (xs:=xs) λy hy=>q y (Wd _ hy)
  obtain⟨a,e1,_⟩:=q x Wj;exact⟨(x.1,a,x.2.2) :: ys,by rw[Wk,<- e]; simp only[<- e1]⟩
theorem Di{m:Bool}{k:NK}{u:Value}{d:Addr}{o:Obj}{es ep}{xs:List (NK×Value×Value)}{Q:Option Nat->W1->Prop}(hu:A.units + 6 < Ww)(hk:jw s.heap m k u)
  (ho:s.heap.get? d=some o) (hd:o.data = .dict es ep) (he:es.toList=xs.map (ent w)) (hx:∀ x ∈ xs,jw s.heap m x.1 x.2.1) (hn:(xs.map (·.1)).Nodup)
  (Dj:(∀ (j:Nat) p,xs[j]?≠some (k,p))->Q none s) (Dk:∀ (j:Nat) p,xs[j]? = some (k,p)->Q (some j) s):W4 (model prog w) A (dictFind d u (fg w k)) Q E s:=by
 cases m with
 | true =>
  obtain⟨a,rfl,r⟩:=hk;obtain⟨ys,rfl⟩:=Dh hx;refine wpAny_dictFind_heap (knd:=nkKind prog w) (xs:=ys) hu r ho hd (by rw[he,WF]; rfl) (λy hy=>?_) (by rw[WF] at hn; exact hn) (λeT=>Dj λj p e=>?_) λj p e=>?_
  ·obtain⟨b,e1,e2⟩:=hx _ (Q0 hy)
   cases e1;exact e2
  ·rw[Wy] at e
   cases q:ys[j]? with
   | none=>rw[q] at e; cases e
   | some y =>
    rw[q] at e;simp only[WJ,Wa] at e;exact eT j y.2 (by rw[q,<- show y.1=k from congrArg Prod.fst e])
  ·exact Dk j (.ref p.1,p.2) (by rw[Wy,e]; rfl)
 | false =>
  obtain⟨q,h1,rfl⟩:=hk;have nJ:∀ (j:Nat) e,es[j]? = some e->∃ x,xs[j]? = some x/\e=ent w x:=λj e z=>by
   rw[<- QH,he,Wy] at z
   cases y:xs[j]? with
   | none=>rw[y] at z; cases z
   | some x=>rw[y] at z; simp only[WJ,Wa] at z; exact⟨x,rfl,z.symm⟩
  have ks:KeysOf (dB prog w) es:=λe lj=>by
   obtain⟨j,hj⟩:=List.mem_iff_getElem?.mp (Array.mem_toList_iff.mpr lj);obtain⟨x,e1,rfl⟩:=nJ j e (by rw[<- QH]; exact hj);obtain⟨q',e2,e3⟩:=hx x (Wx e1);refine⟨q',e2,?_⟩;show fg w x.1=_;rw[e3]
   cases q' <;> rfl
  have hh:fg w (kN q)=(dB prog w).hash q:=by cases q <;> rfl
  rw[hh];refine wpAny_dictFind_of (knd:=dB prog w) (k:=q) h1 ho hd ks ?_
  cases hf:es.findIdx? λe=>(dB prog w).is q e.key with
  | none =>
   refine Dj λj p e=>?_
   have hj:j < xs.length:=(We.mp e).1;have hz:es.size=xs.length:=by rw[<- Qd,he,Wz]
   obtain⟨x,e1,e2⟩:=nJ j es[j] (by simp[hz,hj]);rw[e] at e1; cases e1
   have:=Array.findIdx?_eq_none_iff.mp hf es[j] (Array.getElem_mem _);obtain⟨q',e3,e4⟩:=hx _ (Wx e);rw[NZ e4] at this;rw[e2] at this;have z:gw q' p.1=false:=this;rw[show gw q' p.1=true from e3] at z
   cases z
  | some j =>
   obtain⟨aY,hp,_⟩:=Array.findIdx?_eq_some_iff_getElem.mp hf;obtain⟨x,e1,e2⟩:=nJ j es[j] (by simp[aY]);obtain⟨q',e3,e4⟩:=hx x (Wx e1);rw[e2] at hp;have:q=q':=N0 (show gw q x.2.1=true from hp) e3;subst this;exact Dk j x.2 (by rw[e1,<- e4])
noncomputable def atN (xs:List (NK×Value×Value)) (k:NK):Option (Value×Value):=(xs.find? λx=>decide (x.1=k)).map (·.2)
noncomputable def stN (xs:List (NK×Value×Value)) (k:NK) (u v:Value):List (NK×Value×Value):=if (xs.any λx=>decide (x.1=k))=true then xs.map λx=>if x.1=k then(x.1,x.2.1,v) else x else xs ++ [(k,u,v)]
theorem Dm{xs:List (NK×Value×Value)}{k:NK}(h:∀ (j:Nat) p,xs[j]?≠some (k,p)):atN xs k=none/\(xs.any λx=>decide (x.1=k))=false:=by
 have z:∀ x ∈ xs,decide (x.1=k)=false:=λx hx=>by
  obtain⟨j,hj⟩:=List.mem_iff_getElem?.mp hx;exact decide_eq_false λe=>h j x.2 (by rw[hj,<- e])
 refine⟨?_,by rw[List.any_eq_false]; exactλx hx=>by rw[z x hx]; simp⟩;unfold atN;rw[List.find?_eq_none.mpr λx hx=>by rw[z x hx]; simp];rfl
theorem wb:∀ {xs:List (NK×Value×Value)} {k:NK} {j:Nat} {p:Value×Value},(xs.map (·.1)).Nodup->xs[j]? = some (k,p)->atN xs k=some p/\(xs.any λx=>decide (x.1=k))=true
 | [],k,j,p,_,e=>by simp at e
 | x :: xs,k,j,p,hn,e=>by
  rw[Wk,Q4] at hn
  cases j with
  | zero=>simp at e; subst e; simp[atN]
  | succ j =>
   have e':xs[j]? = some (k,p):=by simpa using e
   have c_:¬ x.1=k:=λz=>hn.1 (by rw[z]; exact List.mem_map.mpr ⟨_,Wx e',rfl⟩)
   obtain⟨h1,h2⟩:=wb hn.2 e';refine⟨?_,by rw[Q8,h2]; simp⟩;unfold atN at h1 ⊢;rw[WT,decide_eq_false c_];exact h1
theorem N1{m:Bool}{k:NK}{u:Value}{d:Addr}{o:Obj}{es ep}{xs:List (NK×Value×Value)}{Q:Option Value->W1->Prop}(hu:A.units + 6 < Ww)(hk:jw s.heap m k u)
  (ho:s.heap.get? d=some o) (hd:o.data = .dict es ep) (he:es.toList=xs.map (ent w)) (hx:∀ x ∈ xs,jw s.heap m x.1 x.2.1) (hn:(xs.map (·.1)).Nodup)
  (h:Q ((atN xs k).map (·.2)) { s with toks:=s.toks + gR k }):W4 (model prog w) A (dictGet d u) Q E s:=by
 unfold dictGet;try with_reducible refine WK ?_
 refine W0 (Dg hu hk (W0 (Di (s:={ s with toks:=s.toks + gR k }) hu hk ho hd he hx hn ?_ ?_)))
 ·intro eT;rw[(Dm eT).1] at h;exact W3 h
 ·intro j p hj;rw[(wb hn hj).1] at h;refine W0 (JK (s:={ s with toks:=s.toks + gR k }) ho hd ?_);rw[<- QH,he,Wy,hj];exact W3 h
theorem N2{xs:List (NK×Value×Value)}{k:NK}{u v:Value}(hn:(xs.map (·.1)).Nodup):((stN xs k u v).map (·.1)).Nodup:=by
 unfold stN;split
 ·rw[WF];rw[show((λx:NK×Value×Value=>x.1) ∘ λx=>if x.1=k then(x.1,x.2.1,v) else x)=(·.1) from funext λx=>by simp only[Function.comp]; split <;> rfl];exact hn
 ·rename_i hh;rw[Jr,List.nodup_append];refine⟨hn,by simp,λx hx y hy e=>?_⟩;simp only[Wk,List.map_nil,List.mem_singleton] at hy;subst hy e;obtain⟨z,hz,e⟩:=Qt.mp hx;exact hh (List.any_eq_true.mpr ⟨z,hz,decide_eq_true e⟩)
theorem Dn{k:NK}{v:Value}:∀ {xs:List (NK×Value×Value)} {j:Nat} {p:Value×Value},(xs.map (·.1)).Nodup->xs[j]? = some (k,p) ->
  (xs.map (ent w)).modify j (λe=>{ e with val:=v })=(xs.map λx=>if x.1=k then(x.1,x.2.1,v) else x).map (ent w)
 | [],j,p,_,e=>by simp at e
 | x :: xs,j,p,hn,e=>by
  rw[Wk,Q4] at hn
  cases j with
  | zero =>
   simp at e;subst e;have z:(xs.map λx=>if x.1=k then(x.1,x.2.1,v) else x)=xs:=by
    conv=>rhs; rw[<- List.map_id xs]
    refine QX λy hy=>?_
    rw[if_neg λq=>hn.1 (List.mem_map.mpr ⟨y,hy,q⟩)];rfl
   rw[Wk,Wk,Wk,z,if_pos rfl];rfl
  | succ j =>
   have e':xs[j]? = some (k,p):=by simpa using e
   have c_:¬ x.1=k:=λz=>hn.1 (by rw[z]; exact List.mem_map.mpr ⟨_,Wx e',rfl⟩)
   rw[Wk,Wk,Wk,if_neg c_];show ent w x :: (xs.map (ent w)).modify j _=_;rw[Dn hn.2 e']
theorem N3{m:Bool}{k:NK}{u v:Value}{d:Addr}{o:Obj}{es ep}{xs:List (NK×Value×Value)}{Q:Unit->W1->Prop}(hu:A.units + 6 < Ww)(hk:jw s.heap m k u)
  (ho:s.heap.get? d=some o) (hc:o.ExactDict) (hd:o.data = .dict es ep) (he:es.toList=xs.map (ent w)) (hx:∀ x ∈ xs,jw s.heap m x.1 x.2.1) (hn:(xs.map (·.1)).Nodup) (hz:xs.length<=Wb)
  (hQ:∀ h' o' kD gf,h'.get? d=some o'->o'.ExactDict->o'.data = .dict kD gf->kD.toList=(stN xs k u v).map (ent w)->Qh d s.heap h'->Q () { s with heap:=h',toks:=s.toks + gR k }) :
  W4 (model prog w) A (dictSet d u v) Q E s:=by
 have hsz:es.size=xs.length:=by rw[<- Qd,he,Wz]
 unfold dictSet;try with_reducible refine WK ?_
 refine W0 (Dg hu hk ?_);unfold dictSetHashed;try with_reducible refine WK ?_
 refine W0 (Di (s:={ s with toks:=s.toks + gR k }) hu hk ho hd he hx hn ?_ ?_)
 ·intro eT;refine W0 (J4 (wpAny_updateDictKeys (hz:=by omega) (s:={ s with toks:=s.toks + gR k }) ho hd
   (hQ _ _ _ (ep + 1) (WH _ ho (Obj.isFreed_of_dict (Obj.data_mapDictKeys hd _))) (hc.mapDictKeys _) (Obj.data_mapDictKeys hd _) ?_ (Qr ..))))
  unfold stN;rw[if_neg (by rw[(Dm eT).2]; simp)];simp[he,ent]
 ·intro j p hj;refine W0 (J4 (W0 (wpAny_updateDict (s:={ s with toks:=s.toks + gR k }) ho hd
   (wpAny_point (hQ _ _ _ ep (WH _ ho (Obj.isFreed_of_dict (Obj.data_mapDict hd _))) (hc.mapDict _) (Obj.data_mapDict hd _) ?_ (Qr ..))))))
  unfold stN;rw[if_pos (wb hn hj).2,<- Dn hn hj,<- he];obtain⟨l⟩:=es;simp
end
inductive kg (H:Hp):Nat->NK->V->Prop
 | int {n:Nat} (z:Int):kg H n (.i z) (.int z)
 | bl {n:Nat} (b:Bool):kg H n (.i (if b then 1 else 0)) (.bl b)
 | str {n:Nat} (x:Str):kg H n (.s x) (.str x)
 | tup {n:Nat} {a:Addr} {vs:List V} {ks:List NK}:H a=some (.tup vs)->ks.length=vs.length->(∀ (i:Nat) k v,ks[i]? = some k->vs[i]? = some v->kg H n k v)->kg H (n + 1) (.t ks) (.ref a)
def kh(H:Hp)(m:Bool)(k:NK)(v:V):Prop:=match m with
 | true=>(∃ a,v = .ref a)/\kg H 6 k v
 | false=>∃ q:Key,k=kN q/\v=kV q
theorem Vals.N4{xs:List V}{us:List Value}(r:Vals xs us){i:Nat}{u:Value}(e:us[i]? = some u):∃ x,xs[i]? = some x/\RelV x u:=by
 have h1:=r.length;have h2:i < xs.length:=by have:=(We.mp e).1; omega
 obtain⟨u',e',rr⟩:=r.get (W8 h2);rw[e] at e'; cases e'
 exact⟨_,W8 h2,rr⟩
theorem kg.nk{P:Wg}{w:Wh}{H:Hp}{h:Heap}{n:Nat}{k:NK}{v:V}(ok:bW P w H h)(r:kg H n k v):∀ {u:Value},RelV v u->cM h n k u:=by
 induction r with
 | int z=>intro u q; obtain⟨t,rfl⟩:=q; exact .int z t
 | bl b=>intro u q; cases q; exact .bl b
 | str x=>intro u q; obtain⟨t,rfl⟩:=q; exact .str x t
 | @tup n a vs ks h1 h2 h3 ih =>
  intro u q
  cases q;obtain⟨_,af,r,p⟩:=(show bz P w H h a (.tup vs) from ok a _ h1)
  have ht:h.IsTuple a af.toArray:=p.tup;refine .tup ht (by rw[h2]; simpa using r.length) λi k u e1 e2=>?_
  obtain⟨x,e3,rx⟩:=r.N4 (u:=u) (i:=i) (by simpa using e2);exact ih i k x e1 e3 rx
theorem kh.key{P:Wg}{w:Wh}{H:Hp}{h:Heap}{m:Bool}{k:NK}{v:V}{u:Value}(ok:bW P w H h)(r:kh H m k v)(q:RelV v u):jw h m k u:=by
 cases m with
 | true=>obtain⟨⟨a,rfl⟩,r⟩:=r; cases q; exact⟨a,rfl,r.nk ok rfl⟩
 | false=>obtain⟨q',rfl,rfl⟩:=r; exact⟨q',by rw[<- E4 P w]; exact kO q,rfl⟩
abbrev NE:=NK×V×V
def cN:List NE->List (NK×Value×Value)->Prop:=Paired λ(p:NE) (x:NK×Value×Value)=>p.1=x.1/\RelV p.2.1 x.2.1/\RelV p.2.2 x.2.2
theorem Dp{w:Wh}:∀ {aa:List NE} {es:List DictEntry},Paired (λ(p:NE) (e:DictEntry)=>e.hash=fg w p.1/\RelV p.2.1 e.key/\RelV p.2.2 e.val) aa es->∃ xs,cN aa xs/\es=xs.map (ent w)
 | _,_,.nil=>⟨[],.nil,rfl⟩
 | p :: _,e :: _,.cons r t=>by
  obtain⟨xs,h1,h2⟩:=Dp t;refine⟨(p.1,e.key,e.val) :: xs,.cons ⟨rfl,r.2.1,r.2.2⟩ h1,?_⟩;rw[Wk,<- h2];unfold ent;rw[<- r.1]
theorem Dq{w:Wh}:∀ {aa:List NE} {xs:List (NK×Value×Value)},cN aa xs->Paired (λ(p:NE) (e:DictEntry)=>e.hash=fg w p.1/\RelV p.2.1 e.key/\RelV p.2.2 e.val) aa (xs.map (ent w))
 | _,_,.nil=>.nil
 | p :: _,x :: _,.cons r t=>.cons ⟨by show fg w x.1=_; rw[r.1],r.2.1,r.2.2⟩ (Dq t)
theorem cN.keys:∀ {aa:List NE} {xs:List (NK×Value×Value)},cN aa xs->aa.map (·.1)=xs.map (·.1)
 | _,_,.nil=>rfl
 | p :: _,x :: _,.cons r t=>by rw[Wk,Wk,r.1,cN.keys t]
noncomputable def valN (aa:List NE) (k:NK):Option V:=(aa.find? λp=>decide (p.1=k)).map (·.2.2)
noncomputable def putN (aa:List NE) (k:NK) (y v:V):List NE:=if (aa.any λp=>decide (p.1=k))=true then aa.map λp=>if p.1=k then(p.1,p.2.1,v) else p else aa ++ [(k,y,v)]
theorem cN.val(k:NK):∀ {aa:List NE} {xs:List (NK×Value×Value)},cN aa xs->cX (valN aa k) ((atN xs k).map (·.2))/\(aa.any λp=>decide (p.1=k))=xs.any λx=>decide (x.1=k)
 | _,_,.nil=>⟨trivial,rfl⟩
 | p :: aa,x :: xs,.cons r t=>by
  obtain⟨i1,i2⟩:=cN.val k t;rw[Q8,Q8,i2,r.1];refine⟨?_,rfl⟩;unfold valN atN at i1 ⊢;rw[WT,WT,r.1];by_cases e:x.1=k
  ·rw[decide_eq_true e]; exact r.2.2
  ·rw[decide_eq_false e]; exact i1
theorem cN.st{k:NK}{v:V}{r:Value}(rv:RelV v r):∀ {aa:List NE} {xs:List (NK×Value×Value)},cN aa xs->cN (aa.map λp=>if p.1=k then(p.1,p.2.1,v) else p) (xs.map λx=>if x.1=k then(x.1,x.2.1,r) else x)
 | _,_,.nil=>.nil
 | p :: _,x :: _,.cons q t=>by
  rw[Wk,Wk];refine .cons ?_ (cN.st rv t);rw[q.1];by_cases e:x.1=k
  ·rw[if_pos e,if_pos e]; exact⟨rfl,q.2.1,rv⟩
  ·rw[if_neg e,if_neg e]; exact q
theorem cN.app{k:NK}{y v:V}{u r:Value}(ry:RelV y u)(rv:RelV v r):∀ {aa:List NE} {xs:List (NK×Value×Value)},cN aa xs->cN (aa ++ [(k,y,v)]) (xs ++ [(k,u,r)])
 | _,_,.nil=>.cons ⟨rfl,ry,rv⟩ .nil
 | p :: _,x :: _,.cons q t=>.cons q (cN.app ry rv t)
theorem cN.put{k:NK}{y v:V}{u r:Value}(ry:RelV y u)(rv:RelV v r){aa:List NE}{xs:List (NK×Value×Value)}(h:cN aa xs):cN (putN aa k y v) (stN xs k u r):=by
 unfold putN stN;rw[(cN.val k h).2];split
 ·exact h.st rv
 ·exact h.app ry rv
section
variable {P:Wg} {w:Wh} {H:Hp} {h:Heap} {a:Addr} {ep:Nat} {aa:List NE}
structure mC(w:Wh)(h:Heap)(a:Addr)(ep:Nat)(xs:List (NK×Value×Value))(o:Obj)(es:Array DictEntry):Prop where
 get:h.get? a=some o
 ex:o.ExactDict
 data:o.data = .dict es ep
 ents:es.toList=xs.map (ent w)
 sJ:(xs.map (·.1)).Nodup
theorem mE(ok:bW P w H h)(e:H a=some (.dN ep aa)):aa.length<=Wb/\(a == Qf)=false/\∃ xs o es,cN aa xs/\mC w h a ep xs o es:=by
 obtain⟨z,hS,o,es,h1,h2,h3,h4,h5⟩:=(show bz P w H h a (.dN ep aa) from ok a _ e)
 obtain⟨xs,q1,q2⟩:=Dp h4;exact⟨z,hS,xs,o,es,q1,h1,h2,h3,q2,by rw[<- q1.keys]; exact h5⟩
theorem N5{xs:List (NK×Value×Value)}{o:Obj}{es:Array DictEntry}(z:aa.length<=Wb)(hS:(a == Qf)=false)(r:cN aa xs)(d:mC w h a ep xs o es):bz P w H h a (.dN ep aa) :=
 ⟨z,hS,o,es,d.get,d.ex,d.data,by rw[d.ents]; exact Dq r,by rw[r.keys]; exact d.sJ⟩
theorem mC.typeIs {s:W1} {xs:List (NK×Value×Value)} {o:Obj} {es:Array DictEntry} (d:mC w s.heap a ep xs o es):s.TypeIs (.ref a) "dict":=⟨o,d.get,d.ex.1⟩
theorem mC.noDict{xs:List (NK×Value×Value)}{o:Obj}{es:Array DictEntry}(d:mC w h a ep xs o es):∀ b,Value.ref a = .ref b->∃ ob,h.get? b=some ob/\ob.dict=none:=λb e=>by cases e; exact⟨o,d.get,d.ex.2.1⟩
theorem Dr{xs:List (NK×Value×Value)}{m:Bool}(ok:bW P w H h)(r:cN aa xs)(hk:∀ p ∈ aa,kh H m p.1 p.2.1):∀ x ∈ xs,jw h m x.1 x.2.1:=by
 induction r with
 | nil=>intro x hx; simp at hx
 | cons q t ih =>
  intro x hx;rcases Wo.mp hx with rfl | hx
  ·rw[<- q.1]; exact(hk _ Wj).key ok q.2.1
  ·exact ih (λp hp=>hk p (Wd _ hp)) x hx
end
def ki(H:Hp)(a:Addr)(y:V)(r:Option V):Prop:=∃ m ep aa k,H a=some (.dN ep aa)/\(∀ p ∈ aa,kh H m p.1 p.2.1)/\kh H m k y/\r=valN aa k
section
variable {X:Cx} {pins:List (Addr×Obj)} {σ:St} {H:Hp} {s:W1} {a:Addr} {y v:V} {u r:Value} {o:Option V} {A:Wl} {E:Value->W1->Prop}
theorem wc{Q:Option Value->W1->Prop}(hu:A.units + 6 < Ww)(I:Inv X pins σ H s)(g:ki H a y o)(ry:RelV y u)(h:∀ w' s',Inv X pins σ H s'->cX o w'->Q w' s') :
  W4 (model X.prog X.w) A (dictGet a u) Q E s:=by
 obtain⟨m,ep,aa,k,e,hk,ky,rfl⟩:=g;obtain⟨z,hS,xs,ob,es,rx,d⟩:=mE I.ah e;exact N1 hu (ky.key I.ah ry) d.get d.data d.ents (Dr I.ah rx hk) d.sJ (h _ _ (I.tok _) (rx.val k).1)
theorem we (I:Inv X pins σ H s) (g:ki H a y o):s.TypeIs (.ref a) "dict"/\(∀ b,Value.ref a = .ref b->∃ ob,s.heap.get? b=some ob/\ob.dict=none)/\(a == Qf)=false:=by
 obtain⟨m,ep,aa,k,e,hk,ky,rfl⟩:=g;obtain⟨z,hS,xs,ob,es,rx,d⟩:=mE I.ah e;exact⟨d.typeIs,d.noDict,hS⟩
theorem TY{Q:Value->W1->Prop}(hu:A.units + 8 < Ww)(I:Inv X pins σ H s)(g:ki H a y (some v))(ry:RelV y u)(h:∀ w' s',Inv X pins σ H s'->RelV v w'->Q w' s') :
  W4 (model X.prog X.w) A (JB (.ref a) u) Q E s:=by
 obtain⟨hT,_,_⟩:=we I g;unfold JB;try with_reducible refine WK ?_
 refine W0 (JG hT (by decide) ?_);refine W0 (WI (name:=Str.ofString "__getitem__") hT slot_dict_getitem (WE slot_dict_getitem hT entry_dict_getitem ?_ (args_dict_getitem _ _)));show W4 _ _ (dictGet a u >>= _) _ _ s;refine W0 (wc (show A.units + 1 + 6 < Ww by omega) I g ry λw' s' I' rr=>?_);obtain⟨w2,rfl,r2⟩:=cX.some_of rr;exact W3 ⟨w2,rfl,W3 (h w2 s' I' r2)⟩
theorem N6{Q:Bool->W1->Prop}(hu:A.units + 8 < Ww)(I:Inv X pins σ H s)(g:ki H a y o)(ry:RelV y u)(h:∀ s',Inv X pins σ H s'->Q o.isSome s') :
  W4 (model X.prog X.w) A (contains (.ref a) u) Q E s:=by
 obtain⟨hT,_,hS⟩:=we I g;unfold contains;try with_reducible refine WK ?_
 refine W0 (wpAny_specialOf hT slot_dict_contains.lookup ?_);show W4 _ _ (if (some (Value.builtin "dict.__contains__") == some Value.none)=true then _ else _) _ E s;rw[if_neg (by rw[beq_builtin_none]; exact WC)];refine W0 (wpAny_callSpecialUnlessNone?_slot (name:=Str.ofString "__contains__") hT slot_dict_contains (WE slot_dict_contains hT entry_dict_contains ?_ (args_dict_contains _ _)));show W4 _ _ (dictGet a u >>= _) _ _ s;refine W0 (wc (show A.units + 1 + 6 < Ww by omega) I g ry λw' s' I' rr=>?_)
 cases o with
 | some x =>
  obtain⟨w2,rfl,r2⟩:=cX.some_of rr;show W4 _ _ (ret (.bool true)) _ _ _;exact W3 ⟨_,rfl,Qb (h s' I')⟩
 | none =>
  obtain rfl:=cX.none_of rr;show W4 _ _ (Builtin.Dict.pendingKey? a u >>= _) _ _ _;exact W0 (wpAny_pendingKey_other hS (W3 ⟨_,rfl,Qb (h s' I')⟩))
theorem N7{Q:Value->W1->Prop}(hu:A.units + 8 < Ww)(I:Inv X pins σ H s)(g:ki H a y o)(ry:RelV y u)(h:∀ s',Inv X pins σ H s'->Q (.bool o.isSome) s') :
  W4 (model X.prog X.w) A (WB .In u (.ref a)) Q E s:=by
 show W4 _ _ (do return .bool (<- contains (.ref a) u)) Q E s;exact W0 (N6 hu I g ry λs' I'=>W3 (h s' I'))
theorem N8{d:V}{Q:Value->W1->Prop}(hu:A.units + 8 < Ww)(I:Inv X pins σ H s)(g:ki H a y o)(ry:RelV y u)(rd:RelV d r)(h:∀ w' s',Inv X pins σ H s'->RelV (o.getD d) w'->Q w' s') :
  W4 (model X.prog X.w) A (call (.builtin "dict.get") [.ref a,u,r]) Q E s:=by
 obtain⟨hT,_,hS⟩:=we I g;refine WE Q3 hT QE ?_ (PySem.F.args_dict_get_3 _ _ _);show W4 _ _ (dictGet a u >>= _) _ _ s;refine W0 (wc (show A.units + 1 + 6 < Ww by omega) I g ry λw' s' I' rr=>?_)
 cases o with
 | some x =>
  obtain⟨w2,rfl,r2⟩:=cX.some_of rr;exact W3 ⟨_,rfl,h w2 s' I' r2⟩
 | none =>
  obtain rfl:=cX.none_of rr;show W4 _ _ (Builtin.Dict.missed a u >>= _) _ _ _;exact W0 (wpAny_missed_other hS (W3 ⟨_,rfl,h _ s' I' rd⟩))
def sL(H:Hp)(a:Addr)(y v:V)(R:Hp->Prop):Prop:=∃ m ep aa k,H a=some (.dN ep aa)/\(∀ p ∈ aa,kh H m p.1 p.2.1)/\kh H m k y/\aa.length < Wb/\∀ gf,R (upd H a (.dN gf (putN aa k y v)))
theorem N9(aa:List NE)(k:NK)(y v:V):(putN aa k y v).length<=aa.length + 1:=by
 unfold putN;split
 ·simp
 ·simp
theorem Ds{R:Hp->Prop}{Q:Unit->W1->Prop}(hu:A.units + 6 < Ww)(I:Inv X pins σ H s)(g:sL H a y v R)(ry:RelV y u)(rv:RelV v r)(h:∀ H' s',Inv X pins σ H' s'->R H'->Q () s') :
  W4 (model X.prog X.w) A (dictSet a u r) Q E s:=by
 obtain⟨m,ep,aa,k,e,hk,ky,hz,hR⟩:=g;obtain⟨z,hS,xs,ob,es,rx,d⟩:=mE I.ah e;have hl:xs.length<=Wb:=by rw[<- Paired.length rx]; exact z
 refine N3 hu (ky.key I.ah ry) d.get d.ex d.data d.ents (Dr I.ah rx hk) d.sJ hl λh' o' kD gf q1 q2 q3 q4 hs=>h _ _ ?_ (hR gf)
 have gC:(putN aa k y v).length<=Wb:=by have:=N9 aa k y v; omega
 exact Aa I (by rw[e]; exact True.intro) hs ⟨o',q1⟩ (N5 gC hS (rx.put ry rv) ⟨q1,q2,q3,q4,N2 d.sJ⟩)
theorem N_{R:Hp->Prop}{Q:Unit->W1->Prop}(hu:A.units + 8 < Ww)(I:Inv X pins σ H s)(g:sL H a y v R)(ry:RelV y u)(rv:RelV v r)(h:∀ H' s',Inv X pins σ H' s'->R H'->Q () s') :
  W4 (model X.prog X.w) A (setItem (.ref a) u r) Q E s:=by
 have hT:s.TypeIs (.ref a) "dict":=by
  obtain⟨m,ep,aa,k,e,_⟩:=g;obtain⟨z,hS,xs,ob,es,rx,d⟩:=mE I.ah e;exact d.typeIs
 unfold setItem;try with_reducible refine WK ?_
 refine W0 (JG hT (by decide) ?_);refine W0 (WI (name:=Str.ofString "__setitem__") hT slot_dict_setitem (WE slot_dict_setitem hT entry_dict_setitem ?_ (args_dict_setitem _ _ _)));show W4 _ _ (Builtin.Dict.notOrdered "__setitem__" ⟨[.ref a,u,r],[]⟩ >>= _) _ _ s;refine W0 (wpAny_notOrdered_dict hT ?_);show W4 _ _ (dictSet a u r >>= _) _ _ s;exact W0 (Ds (show A.units + 1 + 6 < Ww by omega) I g ry rv λH' s' I' hR=>W3 ⟨.none,rfl,W3 (h H' s' I' hR)⟩)
end
end L2
namespace DV
open PySem PySem.Spec PyProof.Rows L2
theorem Oa(n:Nat)(i:Int):cm n (.int i)=some (.i i):=by cases n <;> rfl
theorem Ob(n:Nat)(b:Bool):cm n (.bl b)=some (.i (if b then 1 else 0)):=by cases n <;> rfl
theorem Oc(n:Nat)(x:Tx):cm n (.str x)=some (.s (toS x)):=by cases n <;> rfl
theorem Od(n:Nat)(xs:List D):cm (n + 1) (.tup xs)=(gi n xs).map .t:=rfl
theorem sM{n:Nat}{d:D}{x:NK}(h:cm n d=some x):(∃ i,d = .int i/\x = .i i)\/(∃ b,d = .bl b/\x = .i (if b then 1 else 0))\/(∃ s,d = .str s/\x = .s (toS s))\/∃ m xs ks,n=m + 1/\d = .tup xs/\gi m xs=some ks/\x = .t ks:=by
 cases d with
 | int i=>rw[Oa] at h; exact .inl ⟨i,rfl,(Ws h).symm⟩
 | bl b=>rw[Ob] at h; exact .inr (.inl ⟨b,rfl,(Ws h).symm⟩)
 | str s=>rw[Oc] at h; exact .inr (.inr (.inl ⟨s,rfl,(Ws h).symm⟩))
 | tup xs =>
  cases n with
  | zero=>cases h
  | succ m =>
   rw[Od,WS] at h;obtain⟨ks,hk,e⟩:=h;exact .inr (.inr (.inr ⟨m,xs,ks,rfl,rfl,hk,e.symm⟩))
 | _=>cases n <;> cases h
theorem Dt{n:Nat}(ih:∀ (d e:D) (x y:NK),cm n d=some x->cm n e=some y->au d e=decide (x=y)):∀ (xs ys:List D) (ks ls:List NK),gi n xs=some ks->gi n ys=some ls->dU xs ys=decide (ks=ls)
 | [],[],ks,ls,h1,h2=>by
  simp[gi] at h1 h2;subst h1; subst h2
  simp[dU]
 | [],y :: ys,ks,ls,h1,h2=>by
  simp only[gi,Wa,QY,WS] at h1 h2;subst h1;obtain⟨k,_,l,_,rfl⟩:=h2;simp[dU]
 | x :: xs,[],ks,ls,h1,h2=>by
  simp only[gi,Wa,QY,WS] at h1 h2;subst h2;obtain⟨k,_,l,_,rfl⟩:=h1;simp[dU]
 | x :: xs,y :: ys,ks,ls,h1,h2=>by
  simp only[gi,QY,WS] at h1 h2;obtain⟨k,hk,k',lS,rfl⟩:=h1;obtain⟨l,hl,l',gC,rfl⟩:=h2;simp only[dU];rw[ih x y k l hk hl,Dt ih xs ys k' l' lS gC];by_cases e1:k=l
  ·by_cases e2:k'=l'
   ·rw[decide_eq_true e1,decide_eq_true e2,decide_eq_true (by rw[e1,e2])]; rfl
   ·rw[decide_eq_true e1,decide_eq_false e2,decide_eq_false λq=>e2 (List.cons.inj q).2]; rfl
  ·rw[decide_eq_false e1,decide_eq_false λq=>e1 (List.cons.inj q).1]; rfl
theorem Du:∀ (n:Nat) (d e:D) (x y:NK),cm n d=some x->cm n e=some y->au d e=decide (x=y):=by
 intro n;induction n with
 | zero =>
  intro d e x y h1 h2;rcases sM h1 with ⟨i,rfl,rfl⟩ | ⟨b,rfl,rfl⟩ | ⟨s,rfl,rfl⟩ | ⟨m,xs,ks,e,_⟩ <;> rcases sM h2 with ⟨i,rfl,rfl⟩ | ⟨b,rfl,rfl⟩ | ⟨s,rfl,rfl⟩ | ⟨m,xs,ks,e,_⟩ <;>
   first | (cases e; done) | (simp only[au]; first | (rw[decide_eq_false (λq=>nomatch q)]; done) | (rw[lC,<- wa]; done) | (rw[lC]; done) | (rw[v_,oE]; done))
 | succ n ih =>
  intro d e x y h1 h2;rcases sM h1 with ⟨i,rfl,rfl⟩ | ⟨b,rfl,rfl⟩ | ⟨s,rfl,rfl⟩ | ⟨m,xs,ks,e1,rfl,hk,rfl⟩ <;> rcases sM h2 with ⟨i,rfl,rfl⟩ | ⟨b,rfl,rfl⟩ | ⟨s,rfl,rfl⟩ | ⟨m,ys,ls,e2,rfl,hl,rfl⟩ <;>
   first | (simp only[au]; first | (rw[decide_eq_false (λq=>nomatch q)]; done) | (rw[lC,<- wa]; done) | (rw[lC]; done) | (rw[v_,oE]; done)) | skip
  cases e1
  cases e2;simp only[au];rw[Dt ih xs ys ks ls hk hl];by_cases e:ks=ls
  ·rw[decide_eq_true e,decide_eq_true (congrArg NK.t e)]
  ·rw[decide_eq_false e,decide_eq_false λq=>e (NK.t.inj q)]
theorem Dv{n:Nat}:∀ {xs:List D} {ks:List NK},gi n xs=some ks->ks.length=xs.length/\∀ (i:Nat) d k,xs[i]? = some d->ks[i]? = some k->cm n d=some k
 | [],ks,h=>by simp[gi] at h; subst h; exact⟨rfl,λi d k e=>by simp at e⟩
 | x :: xs,ks,h=>by
  simp only[gi,QY,WS] at h;obtain⟨k,hk,k',lS,rfl⟩:=h;obtain⟨h1,h2⟩:=Dv lS;refine⟨by simp[h1],λi d kk e1 e2=>?_⟩
  cases i with
  | zero=>simp at e1 e2; subst e1; subst e2; exact hk
  | succ i=>exact h2 i d kk (by simpa using e1) (by simpa using e2)
theorem Oe{H:Hp}{O:Addr->Prop}{v:V}{d:D}(r:Rep H O v d):∀ {n:Nat} {k:NK},cm n d=some k->kg H n k v:=by
 induction r with
 | int i=>intro n k h; cases n <;> (simp[cm] at h; subst h; exact .int i)
 | bl b=>intro n k h; cases n <;> (simp only[cm,Wa] at h; subst h; exact .bl b)
 | str x=>intro n k h; cases n <;> (simp[cm] at h; subst h; exact .str _)
 | @tup a vs ds h1 h2 h3 h4 ih =>
  intro n k h
  cases n with
  | zero=>simp[cm] at h
  | succ n =>
   simp only[cm,WS] at h;obtain⟨ks,hk,rfl⟩:=h;obtain⟨l,g⟩:=Dv hk;refine .tup h2 (by omega) λi k v e1 e2=>?_
   have hi:i < ds.length:=by have:=(We.mp e1).1; omega
   exact ih i v ds[i] e2 (W8 hi) (g i ds[i] k (W8 hi) e1)
 | _=>intro n k h; cases n <;> simp[cm] at h
def ib(m:Bool)(d:D):Bool:=match d with
 | .tup _=>m
 | .int _=>!m
 | .str _=>!m
 | _=>false
theorem sN{H:Hp}{O:Addr->Prop}{v:V}{d:D}{m:Bool}{k:NK}(hm:ib m d=true)(hk:cm 6 d=some k)(r:Rep H O v d):kh H m k v:=by
 cases m with
 | true =>
  have r':=Oe r hk
  cases r <;> simp[ib] at hm
  exact⟨⟨_,rfl⟩,r'⟩
 | false =>
  cases r <;> simp[ib] at hm
  ·simp[cm] at hk; subst hk; exact⟨.inl _,rfl,rfl⟩
  ·simp[cm] at hk; subst hk; exact⟨.inr _,rfl,rfl⟩
def jx(m:Bool)(ds:List (D×D))(k:D):Bool:=ib m k && (cm 6 k).isSome && ds.all λq=>ib m q.1
def kj(k:D):Bool:=ib true k
def iP(ds:List (D×D))(k:D):Option D:=(ds.find? λq=>au q.1 k).map (·.2)
def pX(ds:List (D×D))(k d:D):List (D×D):=if (ds.any λq=>au q.1 k)=true then ds.map λq=>if au q.1 k=true then(q.1,d) else q else ds ++ [(k,d)]
section
variable {H H':Hp} {O:Addr->Prop} {ws:List NE} {ds:List (D×D)} {p:NE} {q:D×D}
theorem DN.nil:DN H O [] []:=⟨rfl,λi p q e=>by simp at e,λi p q e=>by simp at e,λi p q e=>by simp at e⟩
theorem DN.cons(h1:Rep H O p.2.1 q.1)(h2:Rep H O p.2.2 q.2)(h3:cm 6 q.1=some p.1)(r:DN H O ws ds):DN H O (p :: ws) (q :: ds):=by
 refine⟨by simp[r.len],λi a b e1 e2=>?_,λi a b e1 e2=>?_,λi a b e1 e2=>?_⟩ <;> cases i <;> simp at e1 e2
 ·subst e1; subst e2; exact h1
 ·exact r.key _ a b e1 e2
 ·subst e1; subst e2; exact h2
 ·exact r.val _ a b e1 e2
 ·subst e1; subst e2; exact h3
 ·exact r.lU _ a b e1 e2
theorem DN.un(r:DN H O (p :: ws) (q :: ds)):Rep H O p.2.1 q.1/\Rep H O p.2.2 q.2/\cm 6 q.1=some p.1/\DN H O ws ds :=
 ⟨r.key 0 p q rfl rfl,r.val 0 p q rfl rfl,r.lU 0 p q rfl rfl,by simpa using r.len,λi a b e1 e2=>r.key (i + 1) a b (by simpa using e1) (by simpa using e2),λi a b e1 e2=>r.val (i + 1) a b (by simpa using e1) (by simpa using e2),λi a b e1 e2=>r.lU (i + 1) a b (by simpa using e1) (by simpa using e2)⟩
theorem DN.get{k:D}{kk:NK}(hk:cm 6 k=some kk):∀ {ws:List NE} {ds:List (D×D)},DN H O ws ds->((iP ds k=none/\valN ws kk=none)\/∃ v d,iP ds k=some d/\valN ws kk=some v/\Rep H O v d)/\(ds.any λq=>au q.1 k)=ws.any λp=>decide (p.1=kk)
 | [],[],_=>⟨.inl ⟨rfl,rfl⟩,rfl⟩
 | [],_ :: _,r=>by have:=r.len; simp at this
 | _ :: _,[],r=>by have:=r.len; simp at this
 | p :: ws,q :: ds,r=>by
  obtain⟨r1,r2,r3,r4⟩:=r.un;obtain⟨i1,i2⟩:=DN.get hk r4;have e:=Du 6 q.1 k p.1 kk r3 hk;refine⟨?_,by rw[Q8,Q8,i2,e]⟩;unfold iP valN at i1 ⊢;rw[WT,WT,e];by_cases z:p.1=kk
  ·rw[decide_eq_true z]; exact .inr ⟨_,_,rfl,rfl,r2⟩
  ·rw[decide_eq_false z]; exact i1
theorem DN.app{k d:D}{kk:NK}{y v:V}(hk:cm 6 k=some kk)(ry:Rep H O y k)(rv:Rep H O v d):∀ {ws:List NE} {ds:List (D×D)},DN H O ws ds->DN H O (ws ++ [(kk,y,v)]) (ds ++ [(k,d)])
 | [],[],_=>.cons ry rv hk .nil
 | [],_ :: _,r=>by have:=r.len; simp at this
 | _ :: _,[],r=>by have:=r.len; simp at this
 | p :: ws,q :: ds,r=>by
  obtain⟨r1,r2,r3,r4⟩:=r.un;exact .cons r1 r2 r3 (DN.app hk ry rv r4)
theorem DN.st{k d:D}{kk:NK}{v:V}(hk:cm 6 k=some kk)(rv:Rep H O v d):∀ {ws:List NE} {ds:List (D×D)},DN H O ws ds->DN H O (ws.map λp=>if p.1=kk then(p.1,p.2.1,v) else p) (ds.map λq=>if au q.1 k=true then(q.1,d) else q)
 | [],[],_=>.nil
 | [],_ :: _,r=>by have:=r.len; simp at this
 | _ :: _,[],r=>by have:=r.len; simp at this
 | p :: ws,q :: ds,r=>by
  obtain⟨r1,r2,r3,r4⟩:=r.un;have e:=Du 6 q.1 k p.1 kk r3 hk;rw[Wk,Wk,e];by_cases z:p.1=kk
  ·rw[decide_eq_true z,if_pos z,if_pos rfl]; exact .cons r1 rv r3 (DN.st hk rv r4)
  ·rw[decide_eq_false z,if_neg z,if_neg (by simp)]; exact .cons r1 r2 r3 (DN.st hk rv r4)
theorem DN.put{k d:D}{kk:NK}{y v:V}(hk:cm 6 k=some kk)(ry:Rep H O y k)(rv:Rep H O v d)(r:DN H O ws ds):DN H O (putN ws kk y v) (pX ds k d):=by
 unfold putN pX;rw[(DN.get hk r).2];split
 ·exact r.st hk rv
 ·exact r.app hk ry rv
theorem DN.Dw{m:Bool}(hm:(ds.all λq=>ib m q.1)=true)(r:DN H O ws ds):∀ p ∈ ws,kh H m p.1 p.2.1:=λp hp=>by
 obtain⟨i,e⟩:=List.mem_iff_getElem?.mp hp;have hi:i < ds.length:=by have:=(We.mp e).1; have:=r.len; omega
 exact sN (Qj.mp hm ds[i] (QW hi)) (r.lU i p ds[i] e (W8 hi)) (r.key i p ds[i] e (W8 hi))
end
theorem Dx{c:Fc}{σ:St}{δ:Dl}{H:Hp}{v:V}{ds:List (D×D)}(r:cg c σ δ H v (.dic ds)):∃ a ep ws,v = .ref a/\H a=some (.dN ep ws)/\DN H (Av c σ δ) ws ds:=by
 rcases r with r | ⟨a,rfl,ep,ws,h1,h2⟩
 ·cases r with
  | dic h1 h2 h3 h4 h5 h6=>exact⟨_,_,_,rfl,h2,h3,h4,h5,h6⟩
 ·exact⟨a,ep,ws,rfl,h1,h2⟩
theorem Of{c:Fc}{σ:St}{δ:Dl}{H:Hp}{v:V}{d:D}{m:Bool}(h:ib m d=true)(r:cg c σ δ H v d):Rep H (Av c σ δ) v d:=by
 rcases r with r | ⟨a,rfl,r⟩
 ·exact r
 ·cases d <;> first | exact r.elim | simp[ib] at h
theorem wg{m:Bool}{ds:List (D×D)}{k:D}(h:jx m ds k=true):ib m k=true/\(∃ kk,cm 6 k=some kk)/\(ds.all λq=>ib m q.1)=true:=by
 unfold jx at h;simp only[Wm] at h;exact⟨h.1.1,QB.mp h.1.2,h.2⟩
theorem Og{c:Fc}{σ:St}{δ:Dl}{H:Hp}{x y:V}{ds:List (D×D)}{k:D}{m:Bool}(rx:cg c σ δ H x (.dic ds))(ry:cg c σ δ H y k)(h:jx m ds k=true) :
  ∃ a o,x = .ref a/\ki H a y o/\((iP ds k=none/\o=none)\/∃ v d,iP ds k=some d/\o=some v/\Rep H (Av c σ δ) v d):=by
 obtain⟨a,ep,ws,e,ha,dn⟩:=Dx rx;obtain⟨h1,⟨kk,hk⟩,h2⟩:=wg h;exact⟨a,valN ws kk,e,⟨m,ep,ws,kk,ha,dn.Dw h2,sN h1 hk (Of h1 ry),rfl⟩,(dn.get hk).1⟩
def Oh(neg:Bool):R2:=λx y H Q=>∃ a o,y = .ref a/\ki H a x o/\Q (.bl (if neg then !o.isSome else o.isSome)) H
theorem TZ{X:Cx}(hu:X.A.units + 64 < Ww):bD X (WB .In) (Oh false):=by
 intro pins s σ H x y v u Q I rx ry h;obtain⟨a,o,rfl,g,q⟩:=h
 cases ry;exact N7 (by omega) I g rx λs' I'=>⟨.bl _,H,I',rfl,q⟩
def T2(neg:Bool)(x y:D):Option S:=match y with
 | .dic ds=>if jx (kj x) ds x then some (.pure (.bl (if neg then !(iP ds x).isSome else(iP ds x).isSome))) else none
 | _=>none
section
variable {X:Cx} {c:Fc} {e:Expr} {fe:DE} {pos:Pos}
theorem Ok.Oi{σ:St}{δ:Dl}{H:Hp}{i:Nat}{d0 d':D}{a:Addr}{o:HO}(k:Ok c σ δ H)(e:δ[i]? = some (some (.own d0)))(ea:σ[i]? = some (some (.ref a)))(r:fJ (upd H a o) (Av c σ δ) a d') :
  aE c σ δ H σ (δ.set i (some (.own d'))) (upd H a o):=by
 have hi:i < δ.length:=(We.mp e).1;obtain⟨a',eO,oa,ia,nb⟩:=k.own i _ e;rw[ea] at eO; cases eO
 have oQ:Own σ δ a:=⟨i,_,e,ea⟩
 have u4:Av c σ δ a:=.inr oQ;have oR:∀ b,Own σ (δ.set i (some (.own d'))) b ↔ Own σ δ b:=λb=>by
  constructor
  ·rintro ⟨j,d,e1,e2⟩;by_cases hj:i=j
   ·subst hj;exact⟨i,_,e,e2⟩
   ·rw[W5 hj] at e1;exact⟨j,d,e1,e2⟩
  ·rintro ⟨j,d,e1,e2⟩;by_cases hj:i=j
   ·subst hj;exact⟨i,_,by rw[Wq hi],e2⟩
   ·exact⟨j,d,by rw[W5 hj]; exact e1,e2⟩
 have mh:∀ b,Av c σ (δ.set i (some (.own d'))) b->Av c σ δ b:=λb z=>z.elim .inl λz=>.inr ((oR b).mp z)
 have kp:∀ b w,H b=some w->¬ Av c σ δ b->upd H a o b=some w:=λb w h n=>by rw[aV λz=>n (by rw[z]; exact u4)]; exact h
 have jl:∀ b w,H b=some w->∃ o',upd H a o b=some o':=λb w h=>by
  by_cases hb:b=a
  ·exact⟨_,by rw[hb]; exact cq⟩
  ·exact⟨w,by rw[aV hb]; exact h⟩
 refine⟨⟨λb w h n=>?_,λb z=>?_,λb z=>?_,by rw[Qo]; exact k.len,λj d h=>?_,λj d h=>?_,λj l b d d2 h1 h2 h3 h4=>?_,k.pinned⟩,λb w h n=>?_,λb z=>.inl ((oR b).mp z),jl⟩
 ·have hb:b≠a:=λz=>by
   subst z;rcases ia with z | z
   ·exact n z
   ·rw[z] at h; cases h
  rw[aV hb];exact k.keep b w h n
 ·obtain⟨w,h⟩:=k.bd b z;exact jl b w h
 ·obtain⟨w,h⟩:=k.cQ b z;exact jl b w h
 ·have hj:i≠j:=λz=>by subst z; rw[Wq hi] at h; cases h
  rw[W5 hj] at h;obtain⟨v,h1,h2⟩:=k.slot j d h;exact⟨v,h1,(h2.keep kp).aW λb z=>.inl (mh b z)⟩
 ·by_cases hj:i=j
  ·subst hj;rw[Wq hi] at h
   cases h;exact⟨a,ea,r.aW λb z=>.inl (mh b z),ia,nb⟩
  ·rw[W5 hj] at h;obtain⟨b,h1,h2,h3,h4⟩:=k.own j d h;have hb:b≠a:=λz=>by subst z; exact hj (k.inj i j b _ d e h ea h1)
   exact⟨b,h1,(h2.keep kp λw q=>by rw[aV hb]; exact q).aW λb z=>.inl (mh b z),h3,h4⟩
 ·have f1:∃ d,δ[j]? = some (some (.own d)):=by
   by_cases hj:i=j
   ·subst hj; exact⟨_,e⟩
   ·rw[W5 hj] at h1; exact⟨d,h1⟩
  have f2:∃ d,δ[l]? = some (some (.own d)):=by
   by_cases hj:i=l
   ·subst hj; exact⟨_,e⟩
   ·rw[W5 hj] at h2; exact⟨d2,h2⟩
  obtain⟨_,f1⟩:=f1;obtain⟨_,f2⟩:=f2;exact k.inj j l b _ _ f1 f2 h3 h4
 ·have hb:b≠a:=λz=>n (by rw[z]; exact oQ)
  rw[aV hb]; exact h
theorem Ok.Oj{σ:St}{δ:Dl}{H:Hp}{i:Nat}{ds dC:List (D×D)}{a:Addr}{ep:Nat}{ws:List NE}(k:Ok c σ δ H)(e:δ[i]? = some (some (.own (.dic ds))))(ea:σ[i]? = some (some (.ref a)))(r:DN H (Av c σ δ) ws dC) :
  aE c σ δ H σ (δ.set i (some (.own (.dic dC)))) (upd H a (.dN ep ws)) :=
 Ok.Oi k e ea ⟨ep,ws,cq,r.keep λb w h n=>by rw[aV λz=>n (by rw[z]; exact .inr ⟨i,_,e,ea⟩)]; exact h⟩
def sO(δ:Dl)(i:Nat):Bool:=match δ[i]? with
 | some (some (.own (.dic _)))=>true
 | _=>false
theorem Ol{δ:Dl}{i:Nat}(h:sO δ i=true):∃ ds,δ[i]? = some (some (.own (.dic ds))):=by
 unfold sO at h;split at h
 ·rename_i ds e; exact⟨ds,e⟩
 ·cases h
def pY(i:Nat)(fi fe:DE):DS:=λδ=>(fe δ).bind λr δ1=>if sO δ1 i then(fi δ1).bind λk δ2=>match δ2[i]? with
  | some (some (.own (.dic ds)))=>if jx (kj k.d) ds k.d && decide (ds.length < Wb) then .ok .next (δ2.set i (some (.own (.dic (pX ds k.d r.d))))) else .stuck
  | _=>.stuck else .stuck
end
end DV
namespace L2
open PySem PySem.Spec PyProof.Rows
def Om(td ty tv:TE):TS:=λD σ H=>tv σ H λv H1=>td σ H1 λx H2=>ty σ H2 λy H3=>∃ a,x = .ref a/\sL H3 a y v λH4=>D.nx σ H4
theorem Oo{X:Cx}{o i value:Expr}{pos pos':Pos}{td ty tv:TE}(hu:X.A.units + 8 < Ww)(ho:PE X o td)(hi:PE X i ty)(hv:PE X value tv)(hs:Ji value (some (.Subscript o i pos')) pos.line X.env=pure false) :
  PS X (.Assign [.Subscript o i pos'] value pos) (Om td ty tv):=by
 intro pins s σ H D I h;refine wpAny_Assign_Subscript (aM (hv pins s σ H _ I h) λr s1 ⟨v,H1,I1,rv,q1⟩=>aM (ho pins s1 σ H1 _ I1 q1) λu s2 ⟨x,H2,I2,rx,q2⟩=>aM (hi pins s2 σ H2 _ I2 q2) λiv s3 ⟨y,H3,I3,ry,a,ex,g⟩=>?_) hs;subst ex;obtain rfl:u=Value.ref a:=rx;exact N_ hu I3 g ry rv λH4 s4 I4 q4=>⟨σ,H4,I4,q4⟩
end L2
namespace DV
open PySem PySem.Spec PyProof.Rows L2
section
variable {X:Cx} {c:Fc} {e:Expr} {fe:DE} {pos:Pos}
theorem Oq{i:Nat}{o ix:Expr}{fi:DE}{sp:Pos}(hu:X.A.units + 64 < Ww)(ho:PE X o (da i))(hi:SE X c ix fi)(he:SE X c e fe)
  (hs:Ji e (some (.Subscript o ix sp)) pos.line X.env=pure false:=by rfl):SS X c (.Assign [.Subscript o ix sp] e pos) (pY i fi fe) :=
 PS.weak (Oo (by omega) ho hi he hs) λD σ H ⟨δ,k,q⟩=>by
  unfold pY dW at q;rw[bh] at q;refine⟨δ,k,aX q λr δ1 q1 v H1 a1 r1=>?_⟩;split at q1
  case isFalse=>exact q1.elim
  rename_i hown1;obtain⟨ds1,e1⟩:=Ol hown1;obtain⟨a,ea,_,_⟩:=a1.ok.own i _ e1;refine⟨.ref a,ea,δ1,a1.ok,?_⟩;rw[bh] at q1;refine aX q1 λkx δ2 q2 u H2 a2 r2=>?_
  split at q2
  ·rename_i ds e2;split at q2
   ·rename_i hz;simp only[Wm,decide_eq_true_eq] at hz;obtain⟨hg,hz⟩:=hz;obtain⟨a',eO,oa,_⟩:=a2.ok.own i _ e2;rw[ea] at eO; cases eO
    obtain⟨ep,ws,ha,dn⟩:=id oa;obtain⟨h1,⟨kk,hk⟩,h2⟩:=wg hg;have ry:Rep H2 (Av c σ δ2) u kx.d:=r2.rep;have rv:Rep H2 (Av c σ δ2) v r.d:=Rep.du r1.rep a2;refine⟨a,rfl,kj kx.d,ep,ws,kk,ha,dn.Dw h2,sN h1 hk ry,by rw[dn.len]; exact hz,λgf=>?_⟩;exact q2 σ _ (a1.trans (a2.trans (Ok.Oj a2.ok e2 ea (dn.put hk ry rv))))
   ·exact q2.elim
  ·exact q2.elim
end
end DV
namespace L2
open PySem PySem.Spec PyProof.Rows
section
variable {prog:Wg} {w:Wh} {A:Wl} {E:Value->W1->Prop} {s:W1}
theorem Ot {d:Addr} {Q:Value->W1->Prop} (hd:(d == Qf)=false) (hT:s.TypeIs (.ref d) "dict")
  (h:Q (.ref s.heap.objs.size) { s with heap:=s.heap.push { cls:=.type "dict_items",data:=.fields #[.ref d] } }):W4 (model prog w) A (call (.builtin "dict.items") [.ref d]) Q E s:=by
 refine WE F.slot_dict_items hT F.entry_dict_items ?_ (F.args_dict_items_1 _);unfold Builtin.«dict.items» Builtin.Dict.noArgs;refine W0 (W0 (wpAny_notOrdered_dict hT (show W4 _ _ (pure d) _ _ s from W3 ?_)));show W4 _ _ (Builtin.Dict.showsAll d >>= _) _ _ s;unfold Builtin.Dict.showsAll;rw[if_neg (by rw[hd]; exact WC)];exact W0 (W3 (W0 (WG (W3 ⟨_,rfl,h⟩))))
theorem Ou{v d:Addr}{o:Obj}{es:Array DictEntry}{ep:Nat}{Q:Value->W1->Prop}(hv:s.heap.IsItemsView v d)(ho:s.heap.get? d=some o)(ll:o.data = .dict es ep)
  (hQ:Q (.ref s.heap.objs.size) { s with heap:=s.heap.push { cls:=.type "dict_itemiterator",data:=.fields #[.none,.bool false,.ref d,.int 0 0,.int es.size 0,.int ep 0,.none,.none] } }):W4 (model prog w) A (pyIter (.ref v)) Q E s:=by
 obtain⟨ov,hov,Cz,hdv⟩:=id hv;refine wpAny_pyIter_slot hv.typeIs F.slot_dict_items_iter (WE F.slot_dict_items_iter hv.typeIs F.entry_dict_items_iter ?_ (F.args_dict_items_iter_1 _));unfold Builtin.«dict_items.__iter__»;refine W0 (W3 (W0 ?_));unfold Builtin.Dict_items.dictOf;refine W0 (WV hov hdv (x:=.ref d) rfl (W3 (W0 ?_)));unfold Builtin.Dict_items.newIterator;refine W0 (JK ho ll (W0 (wpAny_dictEpoch ho ll ?_)));have jZ:Builtin.Dict_items.ownsTuple "dict_itemiterator" = true:=by decide
 simp only[jZ,if_true];refine WG (W3 ⟨_,rfl,"dict_itemiterator",_,⟨_,Wn _ rfl,rfl⟩,F.slot_dict_itemiterator_next.lookup,?_⟩)
  (by simp only[sizeOk,Builtin.Dict_items.ownedTupleFields,Wp,Qi,Q7,Jp,QR]; omega)
 simpa[WR,Builtin.Dict_items.ownedTupleFields] using hQ
theorem Ov{it d:Addr}{i ep:Nat}{od:Obj}{es:Array DictEntry}{e:DictEntry}{ok ov:Value}{Q:Option Value->W1->Prop}(hit:IsItemIter s.heap it d i es.size ep ok ov)
  (pZ:s.heap.get? d=some od) (je:od.data = .dict es ep) (hx:es[i]? = some e)
  (hQ:∀ h',IsItemIterOut h' it d (i + 1) es.size ep e.key e.val s.heap.objs.size->h'.get? s.heap.objs.size=some { cls:=.type "tuple",data:=.seq #[e.key,e.val] }->h'.objs.size=s.heap.objs.size + 1 ->
   (∀ b o,b≠it->s.heap.get? b=some o->h'.get? b=some o)->Q (some (.ref s.heap.objs.size)) { s with heap:=h' }):W4 (model prog w) A (Qv (.ref it)) Q E s:=by
 obtain⟨hp,g,dr,tk,os⟩:=s;have hT:Shared.TypeIs ⟨hp,g,dr,tk,os⟩ (.ref it) "dict_itemiterator":=⟨_,hit,rfl⟩
 have T3:i < es.size:=by
  rcases Nat.lt_or_ge i es.size with h | h
  ·exact h
  ·simp[Array.getElem?_eq_none h] at hx
 unfold Qv;refine W0 (wpAny_attempt (WI (name:=Str.ofString "__next__") hT QD (WE QD hT F.entry_dict_itemiterator_next ?_ (F.args_dict_itemiterator_next_1 _))));refine W0 (W3 (W0 (W0 ?_)));first | refine W0 (QC hT (W3 ?_)) | refine W0 (QQ hT (W3 ?_))
 refine W0 (wpAny_fieldsOf hit rfl ?_);have jZ:Builtin.Dict_items.ownsTuple "dict_itemiterator" = true:=by decide
 simp only[jZ,if_true];show W4 _ _ (if (Value.ref d == Value.none)=true then _ else _) _ _ _;rw[if_neg (show ¬ ((Value.ref d == Value.none)=true) from WC)];refine W0 (W3 (W0 (JK pZ je ?_)));rw[if_neg (by simp)];refine W0 (W3 (W0 (wpAny_dictEpoch pZ je ?_)));rw[if_neg (by simp)];refine W3 ?_;simp only[show ¬ ((i:Int) < 0) from by omega,if_false,Qm,hx];refine W0 ?_;first | refine W0 (QC hT (W3 ?_)) | refine W0 (QQ hT (W3 ?_))
 refine W0 (wpAny_isOneOf_itemiter hT ?_);show W4 _ _ (setField (.ref it) 3 (WR ((i:Int) + 1)) >>= _) _ _ ⟨hp,g,dr,tk,os⟩;refine W0 (Ja hit (by simp) λh1 e1 s1=>?_);replace s1:Qh it hp h1:=s1;replace e1:IsItemIter h1 it d (i + 1) es.size ep ok ov:=by
  have z:((i + 1:Nat):Int)=(i:Int) + 1:=by omega
  unfold IsItemIter; rw[z]; simpa[WR] using e1
 have wj:Shared.TypeIs ⟨h1,g,dr,tk,os⟩ (.ref it) "dict_itemiterator":=⟨_,e1,rfl⟩
 refine W0 (WK (W0 (wpAny_isOneOf_itemiter wj (W0 (wpAny_isOneOf_itemiter wj ?_)))));show W4 _ _ (Builtin.Dict_items.pairFromOwner (.ref it) 6 e.key e.val) _ _ ⟨h1,g,dr,tk,os⟩;unfold Builtin.Dict_items.pairFromOwner;refine W0 (wpAny_newTuple ?_);have e2:IsItemIter (h1.push { cls:=.type "tuple",data:=.seq #[e.key,e.val] }) it d (i + 1) es.size ep ok ov:=W6 _ e1;generalize hh2:h1.push { cls:=.type "tuple",data:=.seq #[e.key,e.val] } = h2 at e2;have z1:h1.objs.size=hp.objs.size:=s1.1;have k8:it < hp.objs.size:=Wi hit;have t2:h2.get? hp.objs.size=some { cls:=.type "tuple",data:=.seq #[e.key,e.val] }:=by rw[<- hh2,<- z1]; exact Wn _ rfl
 have z2:h2.objs.size=hp.objs.size + 1:=by rw[<- hh2,QS,z1]
 have k2:∀ b o,b≠it->hp.get? b=some o->h2.get? b=some o:=λb o hb q=>by rw[<- hh2]; exact W6 _ (s1.extBut b o hb q)
 show W4 _ _ (Builtin.Dict_items.ownedTupleIsFree (.ref it) >>= _) _ _ ⟨h2,g,dr,tk,os⟩;rw[z1];clear hh2 e1 s1 wj z1 h1;refine W0 ?_;unfold Builtin.Dict_items.ownedTupleIsFree;refine W0 (WV e2 rfl (x:=.none) rfl (W3 ?_));simp only[if_true];refine W0 (WV e2 rfl (x:=ok) rfl (W0 (WV e2 rfl (x:=ov) rfl ?_)));refine W0 (Ja e2 (by simp) λh3 e3 s3=>?_);replace s3:Qh it h2 h3:=s3;replace e3:IsItemIter h3 it d (i + 1) es.size ep e.key ov:=e3;refine W0 (Ja e3 (by simp) λh4 e4 s4=>?_);replace s4:Qh it h3 h4:=s4;replace e4:IsItemIter h4 it d (i + 1) es.size ep e.key e.val:=e4;refine W0 (Ja e4 (by simp) λh5 e5 s5=>?_);replace s5:Qh it h4 h5:=s5;replace e5:IsItemIterOut h5 it d (i + 1) es.size ep e.key e.val hp.objs.size:=e5;refine W0 (Ja e5 (by simp) λh6 e6 s6=>?_);replace s6:Qh it h5 h6:=s6;replace e6:IsItemIterOut h6 it d (i + 1) es.size ep e.key e.val hp.objs.size:=e6;have up:∀ b o,b≠it->h2.get? b=some o->h6.get? b=some o:=λb o hb q=>s6.extBut b o hb (s5.extBut b o hb (s4.extBut b o hb (s3.extBut b o hb q)))
 refine W0 (wpAny_letGo (W3 (W3 ⟨_,rfl,W3 (hQ h6 e6 (up _ _ (QT k8) t2) ?_ λb o hb q=>up b o hb (k2 b o hb q))⟩)));show h6.objs.size=hp.objs.size + 1;rw[s6.1,s5.1,s4.1,s3.1,z2]
theorem Ow{it d:Addr}{i ep:Nat}{od:Obj}{es:Array DictEntry}{ok ov:Value}{Q:Option Value->W1->Prop}(hh:A.handled=none)(hit:IsItemIter s.heap it d i es.size ep ok ov)
  (pZ:s.heap.get? d=some od) (je:od.data = .dict es ep) (hx:es.size<=i) (hQ:∀ h',Heap.ExtBut it s.heap h'->Q none { s with heap:=h' }):W4 (model prog w) A (Qv (.ref it)) Q E s:=by
 have hT:s.TypeIs (.ref it) "dict_itemiterator":=⟨_,hit,rfl⟩
 unfold Qv;refine W0 (wpAny_attempt (WI (name:=Str.ofString "__next__") hT QD (WE QD hT F.entry_dict_itemiterator_next ?_ (F.args_dict_itemiterator_next_1 _))));refine W0 (W3 (W0 (W0 ?_)));first | refine W0 (QC hT (W3 ?_)) | refine W0 (QQ hT (W3 ?_))
 refine W0 (wpAny_fieldsOf hit rfl ?_);have jZ:Builtin.Dict_items.ownsTuple "dict_itemiterator" = true:=by decide
 simp only[jZ,if_true];show W4 _ _ (if (Value.ref d == Value.none)=true then _ else _) _ _ s;rw[if_neg (show ¬ ((Value.ref d == Value.none)=true) from WC)];refine W0 (W3 (W0 (JK pZ je ?_)));rw[if_neg (by simp)];refine W0 (W3 (W0 (wpAny_dictEpoch pZ je ?_)));rw[if_neg (by simp)];refine W3 ?_;simp only[show ¬ ((i:Int) < 0) from by omega,if_false,Qm,Array.getElem?_eq_none hx];refine W0 ?_;first | refine W0 (QC hT (W3 ?_)) | refine W0 (QQ hT (W3 ?_))
 show W4 _ _ (setField (.ref it) 2 .none >>= _) _ _ s;refine W0 (Qx hit rfl (by simp) ?_);show W4 _ _ (newExc (.type "StopIteration") [] >>= _) _ _ _;refine W0 ?_;simp only[newExc,newTuple];refine W0 (WG ?_ (by size_fits));refine W0 (m:=Jg _ _) (wpAny_of_eq (a:=Value.none) (by first | rfl | (simp only[Jg]; rfl)) ?_);refine WG ?_ (by size_fits);simp only[raiseNew];refine W0 (wpAny_handled ?_);rw[show A.in1.handled=none from hh];refine W0 (W3 (wpAny_throw ?_));refine W0 (wpAny_isInstance (T:="StopIteration") (b:=true) ⟨_,Wn _ rfl,rfl⟩ isSubtype_stop ?_);exact W3 (hQ _ (((Qr ..).extBut.push _).push _))
end
def wk(a:Addr)(ep:Nat)(aa:List NE):It :=
 ⟨λi H=>H a=some (.dN ep aa)/\i < aa.length,
  λi H v H'=>∃ p k y x,H p=none/\aa[i]? = some (k,y,x)/\H'=upd H p (.tup [y,x])/\v = .ref p,
  λi H=>H a=some (.dN ep aa)/\i=aa.length⟩
theorem cN.get{aa:List NE}{xs:List (NK×Value×Value)}(r:cN aa xs):∀ {i:Nat} {p:NE},aa[i]? = some p->∃ x,xs[i]? = some x/\RelV p.2.1 x.2.1/\RelV p.2.2 x.2.2:=by
 unfold cN at r;induction r with
 | nil=>intro i p e; simp at e
 | cons h t ih =>
  intro i p e
  cases i with
  | zero=>simp at e; subst e; exact⟨_,rfl,h.2⟩
  | succ i=>obtain⟨x,e1,e2⟩:=ih (i:=i) (by simpa using e); exact⟨x,by simpa using e1,e2⟩
theorem Ox{P:Wg}{w:Wh}{K:W2}{elts:List Expr}{ctx}{pos:Pos}(a it:Addr)(aa:List NE)(ep:Nat) :
  Turn P w K (.Tuple elts ctx pos) (wk a ep aa) [it] it (λi h=>∃ ok ov,IsItemIter h it a i aa.length ep ok ov):=by
 have at_:∀ {X:Cx} {pins s σ H},X.prog=P->X.w=w->Inv X pins σ H s->H a=some (.dN ep aa)->∃ xs o es,cN aa xs/\mC w s.heap a ep xs o es/\es.size=aa.length:=by
  intro X pins s σ H hP hw I e;subst hP hw;obtain⟨_,_,xs,o,es,r,d⟩:=mE I.ah e;exact⟨xs,o,es,r,d,by rw[<- Qd,d.ents,Wz]; exact(Paired.length r).symm⟩
 refine⟨by simp,?_,?_,?_,?_,?_⟩
 ·rintro i h ⟨ok,ov,q⟩ b hb;have e:b=it:=by simpa using hb
  subst e;exact⟨_,q,λv z=>by
   have z':Data.fields _=Data.cell v:=z
   cases z'⟩
 ·rintro i h h' ⟨ok,ov,q⟩ k;exact⟨ok,ov,k it (by simp) _ q⟩
 ·intro X hP hw hK hc i pins s σ H E I hf ⟨ok,ov,st⟩ ⟨hg,hi⟩;obtain⟨xs,o,es,r,d,hz⟩:=at_ hP hw I hg;subst hP hw hK;have hx:aa[i]? = some (aa[i].1,aa[i].2.1,aa[i].2.2):=by simp[hi]
  obtain⟨x,hu,ry,rv⟩:=r.get hx;have Oy:es[i]? = some (ent X.w x):=by rw[<- QH,d.ents,Wy,hu]; rfl
  have k8:it < s.heap.objs.size:=Wi st;rw[<- hz] at st;refine Ov st d.get d.data Oy λh' hit hT hsz kp=>⟨_,rfl,wpAny_letOwnedTupleGo_items hit λh2 Oz sb=>?_⟩
  have nz:s.heap.objs.size≠it:=QT k8;have aY:∀ b ∈ [it],b < s.heap.objs.size:=λb hb=>by
   have e:b=it:=by simpa using hb
   subst e;exact k8
  have I2:Inv X pins σ (upd H s.heap.objs.size (.tup [aa[i].2.1,aa[i].2.2])) { s with heap:=h2,toks:=s.toks } :=
   Inv.MQ (t':=s.toks) [it] I hf aY ry rv ((sb.2 _ nz).trans hT) λb o hb e=>by
    have g:b≠it:=λz=>hb (by simp[z])
    exact(sb.2 b g).trans (kp b o g e)
  refine⟨.ref s.heap.objs.size,_,I2,rfl,⟨s.heap.objs.size,_,_,_,I.ah.fresh (Wf _),hx,rfl,rfl⟩,⟨_,_,by rw[<- hz]; exact Oz⟩,λb hb=>?_⟩;have e:b=it:=by simpa using hb
  subst e;rw[aV (Ne.symm nz)];exact(hf _ hb).1
 ·intro X hP hw hK hc i pins s σ H E I hf ⟨ok,ov,st⟩ ⟨hg,hi⟩;obtain⟨xs,o,es,r,d,hz⟩:=at_ hP hw I hg;subst hP hw hK;rw[<- hz] at st;refine Ow (I.ok.hd hc) st d.get d.data (by omega) λh' eb=>⟨rfl,Inv.vz (t':=s.toks) [it] I (λb o hb e=>eb b o (λz=>hb (by simp[z])) e) hf⟩
 ·intro A i s Q E ⟨ok,ov,st⟩ h;exact NT st h
section
variable {X:Cx} {o:Expr} {apos aJ:Pos} {elts:List Expr} {ctx:Nat} {tp:Pos} {td:TE}
def OA(td:TE):TI:=λσ H R=>td σ H λv H1=>∃ a ep aa,v = .ref a/\H1 a=some (.dN ep aa)/\R (wk a ep aa) H1
theorem OB (ho:PE X o td) (hb:Q9 o "items" X.env (eval o X.env)=eval o X.env:=by rfl) (hl:(apos.endLine == aJ.line)=true:=by rfl) :
  PI X (.Tuple elts ctx tp) (.Call (.Attribute o "items" apos) [] [] aJ) (OA td):=by
 intro pins s σ H R I h;refine JH (T:="dict") (id:="dict.items") hb rfl hl F.plainAttrs_dict F.slot_dict_items F.type_dict_items (aM (ho pins s σ H _ I h) λu s1 ⟨x,H1,I1,rx,a,ep,aa,ex,ea,q⟩=>?_);subst ex;obtain rfl:u=Value.ref a:=rx;obtain⟨z,hS,xs,ob,es,r,d⟩:=mE I1.ah ea;have hz:es.size=aa.length:=by rw[<- Qd,d.ents,Wz]; exact(Paired.length r).symm
 refine⟨d.typeIs,d.noDict,?_⟩;refine Calls.callWith_builtin rfl (PySem.evalArgs_none (Ot hS d.typeIs ?_));have OC:∀ b u,s1.heap.get? b=some u->(s1.heap.push { cls:=.type "dict_items",data:=.fields #[.ref a] }).get? b=some u:=λb u e=>W6 _ e
 refine Ou (d:=a) ⟨_,Wn _ rfl,rfl,rfl⟩ (OC _ _ d.get) d.data ?_;generalize hh1:s1.heap.push { cls:=.type "dict_items",data:=.fields #[.ref a] } = h1;have up1:∀ b u,s1.heap.get? b=some u->h1.get? b=some u:=λb u e=>by rw[<- hh1]; exact W6 _ e
 have Dy:s1.heap.objs.size<=h1.objs.size:=by rw[<- hh1,QS]; exact Jm _
 generalize hh2:h1.push { cls:=.type "dict_itemiterator",data:=.fields #[.none,.bool false,.ref a,.int 0 0,.int es.size 0,.int ep 0,.none,.none] } = h2;have OE:∀ b u,s1.heap.get? b=some u->h2.get? b=some u:=λb u e=>by rw[<- hh2]; exact W6 _ (up1 b u e)
 have hit:IsItemIter h2 h1.objs.size a 0 aa.length ep .none .none:=by rw[<- hz,<- hh2]; exact Wn _ rfl
 have I2:Inv X pins σ H1 { s1 with heap:=h2,toks:=s1.toks }:=I1.kept (t':=s1.toks) OE;refine⟨h1.objs.size,[h1.objs.size],_,_,_,rfl,I2,Ox a h1.objs.size aa ep,⟨_,_,hit⟩,λb hb=>?_,q⟩;have e:b=h1.objs.size:=by simpa using hb
 subst e;exact I1.iA Dy (I1.ah.fresh Dy)
end
section
variable {X:Cx} {pos:Pos}
theorem Dz {P:Wg} {w:Wh} {H:Hp} (h:Heap) (hb:Qf < h.objs.size):bz P w H (h.push { cls:=.type "dict",data:=.dict #[] }) h.objs.size (.dN 0 []) :=
 ⟨Ql _,beq_eq_false_iff_ne.mpr (Ne.symm (Wv hb)),_,#[],Wn _ rfl,⟨rfl,rfl,rfl⟩,rfl,.nil,List.nodup_nil⟩
def OF:TE:=λ_ H Q=>∀ p,H p=none->Q (.ref p) (upd H p (.dN 0 []))
theorem OG:PE X (.Dict [] [] pos) OF:=by
 intro pins s σ H Q I h;exact wpAny_Dict_empty ⟨.ref s.heap.objs.size,_,I.laid (a:=s.heap.objs.size) (o:=.dN 0 []) (t':=s.toks) (λ_ _ q=>W6 _ q) (Wf _) (Dz s.heap I.big),rfl,h _ (I.ah.fresh (Wf _))⟩
end
end L2
namespace DV
open PySem PySem.Spec PyProof.Rows L2
theorem aZ.OH{c:Fc}{σ:St}{δ:Dl}{H:Hp}{p:Addr}{ep:Nat}{ws:List NE}{ds:List (D×D)}(k:Ok c σ δ H)(hp:H p=none)(r:DN H (Av c σ δ) ws ds):aZ c σ δ H (upd H p (.dN ep ws)) (.ref p) (.own (.dic ds)):=by
 refine⟨p,rfl,⟨ep,ws,cq,?_⟩,λz=>k.g7 hp (.inl z),k.jO hp,k.plus hp _,hp⟩;exact(r.aW λb z=>by
  rcases z with (z | z) | z
  ·exact .inl (.inl z)
  ·exact .inr (by rw[z]; exact hp)
  ·exact .inl (.inr z)).keep λb w e _=>by rw[aV (fD e hp)]; exact e
def wm:DE:=λδ=>.ok (.own (.dic [])) δ
theorem OI{X:Cx}{c:Fc}{pos:Pos}:SE X c (.Dict [] [] pos) wm:=PE.weak OG λσ H Q ⟨δ,k,q⟩=>λp hp=>q _ _ (.alloc k hp _) (aZ.OH k hp .nil)
def iQ(ds:List (D×D)):List D:=ds.map λp=>D.tup [p.1,p.2]
def km(fe:DE):DI:=λδ=>(fe δ).bind λr δ1=>match r.d with
 | .dic ds=>.ok (iQ ds) δ1
 | _=>.stuck
section
variable {X:Cx} {c:Fc} {o:Expr} {fe:DE} {apos aJ:Pos} {elts:List Expr} {ctx:Nat} {tp:Pos}
theorem OJ{σ:St}{δ:Dl}{H:Hp}{a:Addr}{ep:Nat}{ws:List NE}{ds:List (D×D)}(h:H a=some (.dN ep ws))(n:¬ Own σ δ a)(r:DN H (Av c σ δ) ws ds):mi c σ δ H (wk a ep ws) (iQ ds):=by
 intro H2 kp;have h2:=kp a _ h n;refine⟨⟨h2,by simp[iQ,r.len]⟩,λi d e=>?_⟩;unfold iQ at e;rw[Wy] at e
 cases ej:ds[i]? with
 | none=>rw[ej] at e; cases e
 | some q =>
  rw[ej] at e
  cases e;have hi:i < ws.length:=by rw[r.len]; exact(We.mp ej).1
  refine⟨⟨h2,hi⟩,λx H3 ⟨p,kk,y,xv,hp,hkv,e3,ex⟩=>.inr ⟨p,_,_,hp,e3,ex,rfl,?_⟩⟩;exact aA.two (r.key i _ q hkv ej) (r.val i _ q hkv ej)
theorem DB (ho:SE X c o fe) (hb:Q9 o "items" X.env (eval o X.env)=eval o X.env:=by rfl) (hl:(apos.endLine == aJ.line)=true:=by rfl) :
  SI X c (.Tuple elts ctx tp) (.Call (.Attribute o "items" apos) [] [] aJ) (km fe) :=
 PI.weak (OB ho hb hl) λσ H R ⟨δ,k,q⟩=>by
  unfold km at q;rw[bh] at q;refine⟨δ,k,aX q λr δ1 q1 v H1 a1 r1=>?_⟩;have rp:=r1.rep;generalize r.d=d at q1 rp
  cases d <;> first | exact q1.elim | skip
  rename_i ds
  cases rp with
  | dic h1 h2 h3 h4 h5 h6 =>
   exact⟨_,_,_,rfl,h2,q1 _ _ a1 (OJ h2 (λz=>h1 (.inr z)) ⟨h3,h4,h5,h6⟩)⟩
end
end DV
namespace L2
open PySem PySem.Spec PyProof.Rows
section
variable {X:Cx} {k v o e f:Expr} {pos apos aJ:Pos} {tk tv td ty tx:TE}
def OK(tk tv:TE):TE:=λσ H Q=>∀ p,H p=none->tk σ (upd H p (.dN 0 [])) λx H1=>tv σ H1 λy H2=>sL H2 p x y λH3=>Q (.ref p) H3
theorem OL(hu:X.A.units + 8 < Ww)(hk:PE X k tk)(hv:PE X v tv):PE X (.Dict [some k] [v] pos) (OK tk tv):=by
 intro pins s σ H Q I h;have hn:=I.ah.fresh (Wf s.heap.objs.size);have I1:=I.laid (a:=s.heap.objs.size) (o:=.dN 0 []) (h':=s.heap.push { cls:=.type "dict",data:=.dict #[] }) (t':=s.toks) (λ_ _ q=>W6 _ q) (Wf _) (Dz s.heap I.big);refine wpAny_Dict_any rfl rfl (by simp) (by simp) (pairTrees_cons_walk (aM (hk pins _ σ _ _ I1 (h _ hn)) λu s1 ⟨x,H1,J1,rx,q1⟩=>aM (hv pins s1 σ H1 _ J1 q1) λr s2 ⟨y,H2,J2,ry,g⟩=>pairTrees_nil_walk ?_));unfold storeAll;rw[List.forIn_cons];refine W0 (W0 (Ds (by omega) J2 g rx ry λH3 s3 J3 q3=>W3 ?_));show W4 _ _ (forIn ([]:List (Value×Value)) PUnit.unit _) _ _ s3;rw[List.forIn_nil];exact W3 ⟨.ref s.heap.objs.size,H3,J3,rfl,q3⟩
def wo(H:Hp)(a:Addr):Prop:=∃ ep aa,H a=some (.dN ep aa)
theorem OM {pins:List (Addr×Obj)} {σ:St} {H:Hp} {s:W1} {a:Addr} (I:Inv X pins σ H s) (d:wo H a):s.TypeIs (.ref a) "dict"/\(∀ b,Value.ref a = .ref b->∃ ob,s.heap.get? b=some ob/\ob.dict=none):=by
 obtain⟨ep,aa,e⟩:=d;obtain⟨_,_,xs,ob,es,_,d⟩:=mE I.ah e;exact⟨d.typeIs,d.noDict⟩
def ON(td ty tx:TE):TE:=λσ H Q=>td σ H λx H1=>∃ a,x = .ref a/\wo H1 a/\ty σ H1 λy H2=>tx σ H2 λz H3=>∃ r,ki H3 a y r/\Q (r.getD z) H3
theorem OO (hu:X.A.units + 8 < Ww) (ho:PE X o td) (he:PE X e ty) (hf:PE X f tx) (m:M2 X o "get" apos e f aJ):PE X (.Call (.Attribute o "get" apos) [e,f] [] aJ) (ON td ty tx):=by
 intro pins s σ H Q I h;refine JH m.base m.qT m.line PySem.F.plainAttrs_dict Q3 PySem.F.type_dict_get (aM (ho pins s σ H _ I h) λu s1 ⟨x,H1,I1,rx,a,ex,d,q1⟩=>?_);subst ex;obtain rfl:u=Value.ref a:=rx;obtain⟨t1,t2⟩:=OM I1 d;refine⟨t1,t2,?_⟩;rw[m.trees];refine Calls.callWith_builtin rfl (Calls.evalArgs_plain (Calls.spliced_cons (aM (he pins s1 σ H1 _ I1 q1) λiv s2 ⟨y,H2,I2,ry,q2⟩ =>
  Calls.spliced_cons (aM (hf pins s2 σ H2 _ I2 q2) λfv s3 ⟨z,H3,I3,rz,r,g,q3⟩=>Calls.spliced_nil ?_))))
 exact N8 hu I3 g ry rz λw' s4 I4 aC=>⟨_,H3,I4,aC,q3⟩
end
end L2
namespace DV
open PySem PySem.Spec PyProof.Rows L2
def sP(fk fv:DE):DE:=λδ=>(fk δ).bind λr δ1=>(fv δ1).bind λs δ2=>match r,s with
 | .pure dk,.pure d=>if jx (kj dk) [] dk then .ok (.own (.dic [(dk,d)])) δ2 else .stuck
 | _,_=>.stuck
theorem OP{X:Cx}{c:Fc}{k v:Expr}{fk fv:DE}{pos:Pos}(hu:X.A.units + 64 < Ww)(hk:∀ c',SE X c' k fk)(hv:∀ c',SE X c' v fv):SE X c (.Dict [some k] [v] pos) (sP fk fv):=by
 have PK:PE X k (λσ H Q=>∃ c',tD c' fk σ H Q):=λpins s σ H Q I ⟨c',h⟩=>hk c' pins s σ H Q I h
 have PV:PE X v (λσ H Q=>∃ c',tD c' fv σ H Q):=λpins s σ H Q I ⟨c',h⟩=>hv c' pins s σ H Q I h
 refine PE.weak (OL (by omega) PK PV) λσ H Q ⟨δ,kk,q⟩=>?_
 intro p hp;unfold sP at q;rw[bh] at q;refine⟨c.plus p,δ,kk.plus hp _,CO q λr δ1 q1 x H1 a1 rx=>?_⟩;rw[bh] at q1;refine⟨c.plus p,δ1,a1.ok,CO q1 λs δ2 q2 y H2 a2 ry=>?_⟩;have A:=a1.trans a2;have h0:=kk.jO hp;have nb:¬ c.B p:=λz=>kk.g7 hp (.inl z)
 have OQ:H2 p=some (.dN 0 []):=A.keep p _ cq λz=>kk.g7 hp (.inr z)
 cases r with
 | own d=>exact q2.elim
 | pure dk =>
  cases s with
  | own d=>exact q2.elim
  | pure d =>
   simp only at q2;split at q2
   case isFalse=>exact q2.elim
   rename_i hg;obtain⟨g1,⟨kd,g2⟩,g3⟩:=wg hg;have DC:Rep H2 (Av (c.plus p) σ δ2) x dk:=Rep.du (show Rep H1 (Av (c.plus p) σ δ1) x dk from rx) a2;refine⟨kj dk,0,[],kd,OQ,λ_ z=>by simp at z,sN g1 g2 DC,by rw[PySem.sizeLine_eq]; decide,λgf=>?_⟩;have em:putN [] kd x y=[(kd,x,y)]:=rfl;rw[em];have DH:=A.ok.Nh h0 (.dN gf [(kd,x,y)]);have ne:∀ {a w},H a=some w->a≠p:=λe z=>by rw[z,hp] at e; cases e
   have kp:∀ b w,H2 b=some w->¬ Av (c.plus p) σ δ2 b->upd H2 p (.dN gf [(kd,x,y)]) b=some w:=λb w e n=>by rw[aV (λz:b=p=>n (.inl (.inr z)))]; exact e
   refine q2 (.ref p) _ ⟨DH.less,λa w e n=>?_,λa z=>?_,λa w e=>?_⟩ ⟨p,rfl,⟨gf,[(kd,x,y)],cq,DN.cons (DC.keep kp) (Rep.keep (show Rep H2 (Av (c.plus p) σ δ2) y d from ry) kp) g2 .nil⟩,nb,h0,DH,hp⟩
   ·rw[aV (ne e)];exact A.keep a w (by rw[aV (ne e)]; exact e) n
   ·by_cases zp:a=p
    ·rw[zp]; exact .inr hp
    ·rcases A.own a z with z | z
     ·exact .inl z
     ·rw[aV zp] at z; exact .inr z
   ·obtain⟨w',e'⟩:=A.there a w (by rw[aV (ne e)]; exact e);exact⟨w',by rw[aV (ne e)]; exact e'⟩
section
variable {X:Cx} {c:Fc} {o e f:Expr} {fe ff:DE} {i:Nat} {apos aJ:Pos}
def sQ(δ:Dl)(i:Nat):Bool:=match δ[i]? with
 | some (some s)=>match s.d with
  | .dic _=>true
  | _=>false
 | _=>false
theorem OR{σ:St}{δ:Dl}{H:Hp}(k:Ok c σ δ H)(h:sQ δ i=true):∃ a,σ[i]? = some (some (.ref a))/\wo H a:=by
 unfold sQ at h;split at h
 ·rename_i s e;split at h
  ·rename_i ds hs;obtain⟨v,ev⟩:=nc k e;have rb:=ny k e ev;rw[hs] at rb;obtain⟨a,ep,ws,rfl,ha,_⟩:=Dx rb;exact⟨a,ev,ep,ws,ha⟩
  ·cases h
 ·cases h
def p_(i:Nat)(fe ff:DE):DE:=λδ=>if sQ δ i then(fe δ).bind λk δ1=>(ff δ1).bind λz δ2=>match δ2[i]? with
  | some (some s)=>match s.d with
   | .dic ds=>if jx (kj k.d) ds k.d then .ok (.pure ((iP ds k.d).getD z.d)) δ2 else .stuck
   | _=>.stuck
  | _=>.stuck else .stuck
theorem OS (hu:X.A.units + 64 < Ww) (ho:PE X o (da i)) (he:SE X c e fe) (hx:SE X c f ff) (hb:Q9 o "get" X.env (eval o X.env)=eval o X.env:=by rfl)
  (hf:((WN aJ (W7 [e,f] X.env)).all (λx=>!x.1) && (Jb aJ (QA [] X.env)).all (λx=>x.1.isSome)
   && decide (([e,f]:List Expr).length + ([]:List Keyword).length + (if ([]:List Keyword).isEmpty then 0 else 1) < 30))=true:=by rfl) (hl:(apos.endLine == aJ.line)=true:=by rfl)
  (ht:WN aJ (W7 [e,f] X.env)=[(false,eval e X.env),(false,eval f X.env)]:=by rfl):SE X c (.Call (.Attribute o "get" apos) [e,f] [] aJ) (p_ i fe ff) :=
 PE.weak (OO (by omega) ho he hx ⟨hb,hf,hl,ht⟩) λσ H Q ⟨δ,k,q⟩=>by
  unfold p_ at q;split at q
  case isFalse=>exact q.elim
  rename_i hd;obtain⟨a,e3,hn⟩:=OR k hd;rw[bh] at q;refine⟨.ref a,e3,a,rfl,hn,δ,k,aX q λkx δ1 q1 v H1 a1 r1=>⟨δ1,a1.ok,?_⟩⟩;rw[bh] at q1;refine aX q1 λzx δ2 q2 u H2 a2 r2=>?_
  split at q2
  ·rename_i s1 es1;split at q2
   ·rename_i ds1 hs1;split at q2
    ·rename_i hg;have rb:=ny a2.ok es1 e3;rw[hs1] at rb;obtain⟨a',r,ea,g,rr⟩:=Og rb (show cg c σ δ2 H2 v kx.d from .inl (Rep.du r1.rep a2)) hg
     cases ea;refine⟨r,g,?_⟩;rcases rr with ⟨z1,rfl⟩ | ⟨v',d,z1,rfl,z3⟩
     ·rw[z1] at q2; exact q2 _ H2 (a1.trans a2) r2.rep
     ·rw[z1] at q2; exact q2 _ H2 (a1.trans a2) z3
    ·exact q2.elim
   ·exact q2.elim
  ·exact q2.elim
end
end DV
namespace K19
open PySem.W (nsIn keepIn codeIn findIn mroIn kitOne mg_of)
open PySem PySem.Spec PyProof.Rows L2 DV
theorem ao{a b:Prop}(h:a\/b:=by first|exact Or.inl rfl|exact Or.inr rfl):a\/b:=h
def top(i:Nat):Stmt:=PySem.Challenge.pw_tilegrow_k19_parts_that_there_are_not.main.body.getD i (.Pass ⟨0,0,0,0⟩)
abbrev wq:Stmt:=top 24
abbrev wu:Stmt:=top 26
abbrev wx:Stmt:=top 25
abbrev wz:Stmt:=top 27
abbrev wA:Stmt:=top 29
abbrev wB:Stmt:=top 28
abbrev wF:Stmt:=top 30
abbrev wG:Stmt:=top 23
abbrev wH:Stmt:=top 15
abbrev wI:Stmt:=top 16
abbrev wJ:Stmt:=top 12
abbrev wK:Stmt:=top 13
abbrev wL:Stmt:=top 21
abbrev wM:Stmt:=top 17
abbrev wN:Stmt:=top 19
abbrev wO:Stmt:=top 20
abbrev wQ:Stmt:=top 31
abbrev wR:Stmt:=top 32
abbrev kn:Stmt:=top 33
abbrev qa:Stmt:=(Ng (top 7)).getD 0 (.Pass ⟨0,0,0,0⟩)
theorem OT:cu ["self","tile"] ["self","tile"] (bf qa):=scc
abbrev ys:List Tx:=[[78,111,84,105,108,101],[78,111,80,108,97,99,101]]
def iR(ce:Tx->Nat):Prop:=∀ x ∈ ys,∀ y ∈ ys,ce x=ce y->x=y
section
variable (ce:Tx->Nat)
structure Txt(K:W2)(mg:Str->Option Value):Prop where
 qb:mg "ValueError" = none
 qc:mg "bool" = none
 mF:mg "dict" = none
 nP:mg "enumerate" = none
 nQ:mg "int" = none
 fA:mg "isinstance" = none
 lD:mg "len" = none
 qd:mg "max" = none
 iS:mg "range" = none
 qe:mg "sorted" = none
 qf:mg "str" = none
 nR:mg "tuple" = none
 ty_bool:jW K "bool"
 ty_int:jW K "int"
 ty_str:jW K "str"
 OU:mg "FloorError" = some (.ref (ce [70,108,111,111,114,69,114,114,111,114]))
 OV:mg "NoFloor" = some (.ref (ce [78,111,70,108,111,111,114]))
 DJ:mg "NoPlace" = some (.ref (ce [78,111,80,108,97,99,101]))
 OW:mg "NoNumber" = some (.ref (ce [78,111,78,117,109,98,101,114]))
 OX:mg "NoRow" = some (.ref (ce [78,111,82,111,119]))
 OY:mg "Unlike" = some (.ref (ce [85,110,108,105,107,101]))
 DK:mg "NoTile" = some (.ref (ce [78,111,84,105,108,101]))
 OZ:mg "NoRule" = some (.ref (ce [78,111,82,117,108,101]))
 O0:mg "NoText" = some (.ref (ce [78,111,84,101,120,116]))
 O1:mg "TooGreat" = some (.ref (ce [84,111,111,71,114,101,97,116]))
 O2:jo K (ce [70,108,111,111,114,69,114,114,111,114])
 O3:jo K (ce [78,111,80,108,97,99,101])
 O4:IsT K ce ys (.ref (ce [78,111,70,108,111,111,114])) (λz=>z == [78,111,70,108,111,111,114])
 O5:IsT K ce ys (.ref (ce [78,111,80,108,97,99,101])) (λz=>z == [78,111,80,108,97,99,101])
 O6:IsT K ce ys (.ref (ce [78,111,78,117,109,98,101,114])) (λz=>z == [78,111,78,117,109,98,101,114])
 O7:IsT K ce ys (.ref (ce [78,111,82,111,119])) (λz=>z == [78,111,82,111,119])
 O8:IsT K ce ys (.ref (ce [85,110,108,105,107,101])) (λz=>z == [85,110,108,105,107,101])
 O9:IsT K ce ys (.ref (ce [78,111,84,105,108,101])) (λz=>z == [78,111,84,105,108,101])
 O_:IsT K ce ys (.ref (ce [78,111,82,117,108,101])) (λz=>z == [78,111,82,117,108,101])
 Pa:IsT K ce ys (.ref (ce [78,111,84,101,120,116])) (λz=>z == [78,111,84,101,120,116])
 Pb:IsT K ce ys (.ref (ce [84,111,111,71,114,101,97,116])) (λz=>z == [84,111,111,71,114,101,97,116])
 Pc:IsT K ce ys (.type "ValueError") (λ_=>true)
 Pd:∀ y ∈ ys,mg (toS y)=some (.ref (ce y))/\mroIn K (ce y) (.ref (ce [70,108,111,111,114,69,114,114,111,114]))=some true
end
def wU:DS:=(aN (df (aS (ag jh 1 (aj (bO eN (aq 0))))) (bY (ag ay 0 (aq 1))) dw) (bY (eD (.int 0))))
def mG:DF:=b9 [] 2 wU
theorem Pe:dF mG:=fu
theorem Pf:cu ["script","k"] ["script","k"] (bf wq):=scc
theorem Pg {K:W2} (F:bV K "_law_cell_at" "_law_cell_at" wq f fd) (hm:mg "_law_cell_at" = some (.ref f)) (hb:Binds K fd ["script","k"] []) (T:Txt ce K mg):b8 P w K mg base 1 "_law_cell_at" 2 mG :=
 fY (np:=[]) (fb:=wU) F hm hb Pf (λc aO A outer s H E hr aD=>by
  have hq:=eZ hr;refine(@bo _ _ _ _ _ _ ?_ ?_)
  ·refine(@fV _ _ _ _ _ _ _ _ _ ?_ ?_ ?_)
   ·exact(@nh _ _ _ _ _ _ _ _ _ _ uR uS (pv 1) (@aK _ _ _ _ (@rO _ _ _ _ _ _ rfl T.lD (@bF _ _ _ _ (pv 0)) (by rfl))) (de _))
   ·refine(@bE _ _ _ _ ?_);refine(@cG _ _ _ _ _ ?_);exact(@cA _ _ _ _ _ _ _ _ _ b_ cb (pv 0) (@bF _ _ _ _ (pv 1)) (λ_ _=>rfl))
   ·exact fU
  refine(@bE _ _ _ _ ?_);refine(@cG _ _ _ _ _ ?_);exact(@aL _ _ _ _ _)) λss y h=>eX h
def wV:DS:=(aN (az (rP (ae 0) (bb ni (eD (.int 0)) (aq 0))) (ak [] 1)) (bY (fq (aG (ae 1) (aG (bO nt (aj (ag A7 1 (aj (bb nj (eD (.int 10)) (aj (eD (.int 18)))))))) (aG (ag dI 1 (aj (eD (.int 1000003)))) cD))))))
def mH:DF:=b9 [] 2 wV
theorem Ph:dF mH:=fu
theorem DL:cu ["cell","left"] ["cell"] (bf wu):=scc
theorem Pj {K:W2} (F:bV K "_law_pen_of" "_law_pen_of" wu f fd) (hm:mg "_law_pen_of" = some (.ref f)) (hb:Binds K fd ["cell"] []) (T:Txt ce K mg):b8 P w K mg base 1 "_law_pen_of" 1 mH :=
 fY (np:=[]) (fb:=wV) F hm hb DL (λc aO A outer s H E hr aD=>by
  have hq:=eZ hr;refine(@bo _ _ _ _ _ _ ?_ ?_)
  ·exact(@bZ _ _ _ _ _ _ ([]) (1) _ aD DL.nd rfl ao (@Km _ _ _ _ _ _ _ _ rfl rfl T.qd (@aF _ _ _ _ (pv 0)) (@cZ _ _ _ _ _ _ _ _ _ _ zt A0 (@aL _ _ _ _ _) (@bF _ _ _ _ (pv 0))) (by rfl) (by rfl) (by rfl)) rfl ao)
  refine(@bE _ _ _ _ ?_);refine(@cG _ _ _ _ _ ?_);exact(@ji _ _ _ _ _ (@bB _ _ _ _ _ _ (@aF _ _ _ _ (pv 1)) (@bB _ _ _ _ _ _ (@Kk _ _ _ _ _ _ rfl T.nQ (@aK _ _ _ _ (@lY _ _ _ _ _ _ _ _ _ _ Ke md (pv 1) (@aK _ _ _ _ (@cZ _ _ _ _ _ _ _ _ _ _ zu A5 (@aL _ _ _ _ _) (@aK _ _ _ _ (@aL _ _ _ _ _)))) (de _))) (by rfl)) (@bB _ _ _ _ _ _ (@eU _ _ _ _ _ _ _ _ _ _ jG jV (pv 1) (@aK _ _ _ _ (@aL _ _ _ _ _))) (@eV _ _) (by rfl)) (by rfl)) (by rfl)) (by decide))) λss y h=>eX h
def wW:DS:=(aN (az (bb dI (ag bp 0 (aj (eD (.int 7919)))) (aj (eD (.int 2147483647)))) (ak [] 0)) (bY (bb dI (bb bp (bb bp (ag dX 0 (aq 0)) (aj (bb dX (eD (.int 48271)) (aq 0)))) (aj (eD (.int 12345)))) (aj (eD (.int 2147483629))))))
def mI:DF:=b9 [] 1 wW
theorem DM:dF mI:=fu
theorem DO:cu ["seed"] ["seed"] (bf wx):=scc
theorem Pk {K:W2} (F:bV K "_law_next" "_law_next" wx f fd) (hm:mg "_law_next" = some (.ref f)) (hb:Binds K fd ["seed"] []) (T:Txt ce K mg):b8 P w K mg base 1 "_law_next" 1 mI :=
 fY (np:=[]) (fb:=wW) F hm hb DO (λc aO A outer s H E hr aD=>by
  have hq:=eZ hr;refine(@bo _ _ _ _ _ _ ?_ ?_)
  ·exact(@bZ _ _ _ _ _ _ ([]) (0) _ aD DO.nd rfl ao (@cZ _ _ _ _ _ _ _ _ _ _ jG jV (@eU _ _ _ _ _ _ _ _ _ _ eG eJ (pv 0) (@aK _ _ _ _ (@aL _ _ _ _ _))) (@aK _ _ _ _ (@aL _ _ _ _ _))) rfl ao)
  refine(@bE _ _ _ _ ?_);refine(@cG _ _ _ _ _ ?_);exact(@cZ _ _ _ _ _ _ _ _ _ _ jG jV (@cZ _ _ _ _ _ _ _ _ _ _ eG eJ (@cZ _ _ _ _ _ _ _ _ _ _ eG eJ (@eU _ _ _ _ _ _ _ _ _ _ pf pj (pv 0) (@bF _ _ _ _ (pv 0))) (@aK _ _ _ _ (@cZ _ _ _ _ _ _ _ _ _ _ pf pj (@aL _ _ _ _ _) (@bF _ _ _ _ (pv 0))))) (@aK _ _ _ _ (@aL _ _ _ _ _))) (@aK _ _ _ _ (@aL _ _ _ _ _)))) λss y h=>eX h
def wX:DS:=(aN (df (aS (bb cK (ag ay 0 (aj (eD (.int 1)))) (aj (eD (.int 1))))) (aN (az (bb dI (ag ay 0 (aj (eD (.int 0)))) (aq 1)) (ak [0] 2)) (aN (nC 0 (eD (.int 0)) (bb lu (ag ay 0 (aj (eD (.int 0)))) (aq 1))) (bY (ae 2)))) dw) (aN (nC 0 (eD (.int 2)) (ax mI [.val (bb bp (ax mI [.val (ag ay 0 (aj (eD (.int 2))))]) (aj (eD (.int 7))))])) (bY (bb dI (bb jU (ag ay 0 (aj (eD (.int 2)))) (aj (eD (.int 64)))) (aq 1)))))
def cE:DF:=b9 [0] 3 wX
theorem fZ:dF cE:=fu
theorem DP:cu ["pen","many","found"] ["pen","many"] (bf wz):=scc
theorem Pl {K:W2} (F:bV K "_law_draw" "_law_draw" wz f fd) (hm:mg "_law_draw" = some (.ref f)) (hb:Binds K fd ["pen","many"] []) (T:Txt ce K mg) (sR:b8 P w K mg base 1 "_law_next" 1 mI):b8 P w K mg base 2 "_law_draw" 2 cE :=
 fY (np:=[0]) (fb:=wX) F hm hb DP (λc aO A outer s H E hr aD=>by
  have hq:=eZ hr;refine(@bo _ _ _ _ _ _ ?_ ?_)
  ·refine(@fV _ _ _ _ _ _ _ _ _ ?_ ?_ ?_)
   ·exact(@g9 _ _ _ _ _ _ _ _ _ _ (kU hq) kX (@cA _ _ _ _ _ _ _ _ _ b_ cb (pv 0) (@aK _ _ _ _ (@aL _ _ _ _ _)) (λ_ _=>rfl)) (@aK _ _ _ _ (@aL _ _ _ _ _)) (de _))
   ·refine(@bo _ _ _ _ _ _ ?_ ?_)
    ·exact(@bZ _ _ _ _ _ _ ([0]) (2) _ aD DP.nd rfl ao (@cZ _ _ _ _ _ _ _ _ _ _ jG jV (@cA _ _ _ _ _ _ _ _ _ b_ cb (pv 0) (@aK _ _ _ _ (@aL _ _ _ _ _)) (λ_ _=>rfl)) (@bF _ _ _ _ (pv 1))) rfl ao)
    refine(@bo _ _ _ _ _ _ ?_ ?_)
    ·exact(@Bo _ _ _ _ _ _ _ _ _ _ (pv 0) (@aL _ _ _ _ _) (@cZ _ _ _ _ _ _ _ _ _ _ vE vF (@cA _ _ _ _ _ _ _ _ _ b_ cb (pv 0) (@aK _ _ _ _ (@aL _ _ _ _ _)) (λ_ _=>rfl)) (@bF _ _ _ _ (pv 1))) (by intro _; rfl) (by rfl) (by rfl) (by rfl))
    refine(@bE _ _ _ _ ?_);refine(@cG _ _ _ _ _ ?_);exact(@aF _ _ _ _ (pv 2))
   ·exact fU
  refine(@bo _ _ _ _ _ _ ?_ ?_)
  ·exact(@Bo _ _ _ _ _ _ _ _ _ _ (pv 0) (@aL _ _ _ _ _) (@bU _ _ _ _ _ (1) _ _ _ _ _ sR DM (hr.mono (by decide)) rfl (@aH _ _ _ _ _ _ (@cZ _ _ _ _ _ _ _ _ _ _ eG eJ (@bU _ _ _ _ _ (1) _ _ _ _ _ sR DM (hr.mono (by decide)) rfl (@aH _ _ _ _ _ _ (@cA _ _ _ _ _ _ _ _ _ b_ cb (pv 0) (@aK _ _ _ _ (@aL _ _ _ _ _)) (λ_ _=>rfl)) (@bN _ _) (by rfl)) rfl (by decide) (by rfl) (by rfl)) (@aK _ _ _ _ (@aL _ _ _ _ _))) (@bN _ _) (by rfl)) rfl (by decide) (by rfl) (by rfl)) (by intro _; rfl) (by rfl) (by rfl) (by rfl))
  refine(@bE _ _ _ _ ?_);refine(@cG _ _ _ _ _ ?_);exact(@cZ _ _ _ _ _ _ _ _ _ _ jG jV (@cZ _ _ _ _ _ _ _ _ _ _ t4 uP (@cA _ _ _ _ _ _ _ _ _ b_ cb (pv 0) (@aK _ _ _ _ (@aL _ _ _ _ _)) (λ_ _=>rfl)) (@aK _ _ _ _ (@aL _ _ _ _ _))) (@bF _ _ _ _ (pv 1)))) λss y h=>eX h
def wY:DS:=(aN (az (bb bp (eD (.int 1)) (aj (ax cE [.io 0,.val (eD (.int 3))]))) (ak [0] 1)) (aN (az (bb bp (eD (.int 1)) (aj (ax cE [.io 0,.val (eD (.int 3))]))) (ak [0] 2)) (aN (df (aS (bb cK (ax cE [.io 0,.val (eD (.int 8))]) (aj (eD (.int 0))))) (az (bb ay (gM [.tup [.int 4,.int 1],.tup [.int 1,.int 4],.tup [.int 4,.int 4],.tup [.int 4,.int 3],.tup [.int 1,.int 2],.tup [.int 2,.int 1]]) (aj (ax cE [.io 0,.val (eD (.int 6))]))) (cL 2 (bH (ak [0] 1) (bH (ak [0] 2) c7)))) dw) (aN (df (aS (bb cK (ag bp 1 (aq 2)) (aj (eD (.int 2))))) (az (eD (.int 2)) (ak [0] 2)) dw) (bY (fS (aG (ae 1) (aG (ae 2) cD))))))))
def nS:DF:=b9 [0] 3 wY
theorem Pm:dF nS:=fu
theorem nU:cu ["pen","high","wide"] ["pen"] (bf wA):=scc
theorem Pn {K:W2} (F:bV K "_law_sizes_by" "_law_sizes_by" wA f fd) (hm:mg "_law_sizes_by" = some (.ref f)) (hb:Binds K fd ["pen"] []) (T:Txt ce K mg) (dA:b8 P w K mg base 2 "_law_draw" 2 cE):b8 P w K mg base 3 "_law_sizes_by" 1 nS :=
 fY (np:=[0]) (fb:=wY) F hm hb nU (λc aO A outer s H E hr aD=>by
  have hq:=eZ hr;refine(@bo _ _ _ _ _ _ ?_ ?_)
  ·exact(@bZ _ _ _ _ _ _ ([0]) (1) _ aD nU.nd rfl ao (@cZ _ _ _ _ _ _ _ _ _ _ eG eJ (@aL _ _ _ _ _) (@aK _ _ _ _ (@bU _ _ _ _ _ (2) _ _ _ _ _ dA fZ (hr.mono (by decide)) rfl (@e9 _ _ _ _ _ _ (pv 0) (@aH _ _ _ _ _ _ (@aL _ _ _ _ _) (@bN _ _) (by rfl)) (by rfl)) rfl (by decide) (by rfl) (by rfl)))) rfl ao)
  refine(@bo _ _ _ _ _ _ ?_ ?_)
  ·exact(@bZ _ _ _ _ _ _ ([0]) (2) _ aD nU.nd rfl ao (@cZ _ _ _ _ _ _ _ _ _ _ eG eJ (@aL _ _ _ _ _) (@aK _ _ _ _ (@bU _ _ _ _ _ (2) _ _ _ _ _ dA fZ (hr.mono (by decide)) rfl (@e9 _ _ _ _ _ _ (pv 0) (@aH _ _ _ _ _ _ (@aL _ _ _ _ _) (@bN _ _) (by rfl)) (by rfl)) rfl (by decide) (by rfl) (by rfl)))) rfl ao)
  refine(@bo _ _ _ _ _ _ ?_ ?_)
  ·refine(@fV _ _ _ _ _ _ _ _ _ ?_ ?_ ?_)
   ·exact(@g9 _ _ _ _ _ _ _ _ _ _ (kU hq) kX (@bU _ _ _ _ _ (2) _ _ _ _ _ dA fZ (hr.mono (by decide)) rfl (@e9 _ _ _ _ _ _ (pv 0) (@aH _ _ _ _ _ _ (@aL _ _ _ _ _) (@bN _ _) (by rfl)) (by rfl)) rfl (by decide) (by rfl) (by rfl)) (@aK _ _ _ _ (@aL _ _ _ _ _)) (de _))
   ·refine(@bE _ _ _ _ ?_);refine(@u0 _ _ _ _ _ _ _ ?_ ?_ (by rfl) (by rfl) (by rfl))
    ·exact(@rH _ _ _ _ _ _ _ _ _ b_ cb (@pe _ _ _ _ _ (by rfl) (by decide)) (@aK _ _ _ _ (@bU _ _ _ _ _ (2) _ _ _ _ _ dA fZ (hr.mono (by decide)) rfl (@e9 _ _ _ _ _ _ (pv 0) (@aH _ _ _ _ _ _ (@aL _ _ _ _ _) (@bN _ _) (by rfl)) (by rfl)) rfl (by decide) (by rfl) (by rfl))) (λ_ _=>rfl))
    ·exact(@nB _ _ _ _ _ _ _ rfl (@gJ _ _ _ _ _ _ (@dE _ _ _ ([0]) (1) _ aD nU.nd rfl ao ao) (@gJ _ _ _ _ _ _ (@dE _ _ _ ([0]) (2) _ aD nU.nd rfl ao ao) (@nA _ _) (by rfl)) (by rfl)) (by rfl) (by rfl))
   ·exact fU
  refine(@bo _ _ _ _ _ _ ?_ ?_)
  ·refine(@fV _ _ _ _ _ _ _ _ _ ?_ ?_ ?_)
   ·exact(@g9 _ _ _ _ _ _ _ _ _ _ (kU hq) kX (@eU _ _ _ _ _ _ _ _ _ _ eG eJ (pv 1) (@bF _ _ _ _ (pv 2))) (@aK _ _ _ _ (@aL _ _ _ _ _)) (de _))
   ·refine(@bE _ _ _ _ ?_);exact(@bZ _ _ _ _ _ _ ([0]) (2) _ aD nU.nd rfl ao (@aL _ _ _ _ _) rfl ao)
   ·exact fU
  refine(@bE _ _ _ _ ?_);refine(@cG _ _ _ _ _ ?_);exact(@kZ _ _ _ _ _ _ (@bB _ _ _ _ _ _ (@aF _ _ _ _ (pv 1)) (@bB _ _ _ _ _ _ (@aF _ _ _ _ (pv 2)) (@eV _ _) (by rfl)) (by rfl)) (by decide))) λss y h=>eX h
def wZ:DS:=(aN (df (aS (ag cK 3 (aj (eD (.int 1))))) (bY (ag ay 1 (aj (ax cE [.io 0,.val (ag bp 2 (aj (eD (.int 1))))])))) dw) (aN (df (aS (ag cK 3 (aj (eD (.int 2))))) (bY (ag ay 1 (aj (bb dI (ag bp 2 (aj (eD (.int 1)))) (aj (bO eN (aq 1))))))) dw) (aN (df (jR (aS (ag cK 3 (aj (eD (.int 3))))) (aS (bb rM (ax cE [.io 0,.val (eD (.int 4))]) (aj (eD (.int 0)))))) (bY (ag ay 1 (aq 2))) dw) (bY (ag ay 1 (aj (ax cE [.io 0,.val (bO eN (aq 1))])))))))
def ic:DF:=b9 [0] 4 wZ
theorem Po:dF ic:=fu
theorem Pp:cu ["pen","tiles","place","way"] ["pen","tiles","place","way"] (bf wB):=scc
theorem Pq {K:W2} (F:bV K "_law_pick" "_law_pick" wB f fd) (hm:mg "_law_pick" = some (.ref f)) (hb:Binds K fd ["pen","tiles","place","way"] []) (T:Txt ce K mg) (dA:b8 P w K mg base 2 "_law_draw" 2 cE):b8 P w K mg base 3 "_law_pick" 4 ic :=
 fY (np:=[0]) (fb:=wZ) F hm hb Pp (λc aO A outer s H E hr aD=>by
  have hq:=eZ hr;refine(@bo _ _ _ _ _ _ ?_ ?_)
  ·refine(@fV _ _ _ _ _ _ _ _ _ ?_ ?_ ?_)
   ·exact(@nh _ _ _ _ _ _ _ _ _ _ (kU hq) kX (pv 3) (@aK _ _ _ _ (@aL _ _ _ _ _)) (de _))
   ·refine(@bE _ _ _ _ ?_);refine(@cG _ _ _ _ _ ?_);exact(@cA _ _ _ _ _ _ _ _ _ b_ cb (pv 1) (@aK _ _ _ _ (@bU _ _ _ _ _ (2) _ _ _ _ _ dA fZ (hr.mono (by decide)) rfl (@e9 _ _ _ _ _ _ (pv 0) (@aH _ _ _ _ _ _ (@eU _ _ _ _ _ _ _ _ _ _ eG eJ (pv 2) (@aK _ _ _ _ (@aL _ _ _ _ _))) (@bN _ _) (by rfl)) (by rfl)) rfl (by decide) (by rfl) (by rfl))) (λ_ _=>rfl))
   ·exact fU
  refine(@bo _ _ _ _ _ _ ?_ ?_)
  ·refine(@fV _ _ _ _ _ _ _ _ _ ?_ ?_ ?_)
   ·exact(@nh _ _ _ _ _ _ _ _ _ _ (kU hq) kX (pv 3) (@aK _ _ _ _ (@aL _ _ _ _ _)) (de _))
   ·refine(@bE _ _ _ _ ?_);refine(@cG _ _ _ _ _ ?_);exact(@cA _ _ _ _ _ _ _ _ _ b_ cb (pv 1) (@aK _ _ _ _ (@cZ _ _ _ _ _ _ _ _ _ _ jG jV (@eU _ _ _ _ _ _ _ _ _ _ eG eJ (pv 2) (@aK _ _ _ _ (@aL _ _ _ _ _))) (@aK _ _ _ _ (@rO _ _ _ _ _ _ rfl T.lD (@bF _ _ _ _ (pv 1)) (by rfl))))) (λ_ _=>rfl))
   ·exact fU
  refine(@bo _ _ _ _ _ _ ?_ ?_)
  ·refine(@fV _ _ _ _ _ _ _ _ _ ?_ ?_ ?_)
   ·exact(@jf _ _ _ _ (@uN _ _ _ _ _ _ _ _ (@nh _ _ _ _ _ _ _ _ _ _ (kU hq) kX (pv 3) (@aK _ _ _ _ (@aL _ _ _ _ _)) (de _)) (@uM _ _ _ _ _ (@g9 _ _ _ _ _ _ _ _ _ _ Kd md (@bU _ _ _ _ _ (2) _ _ _ _ _ dA fZ (hr.mono (by decide)) rfl (@e9 _ _ _ _ _ _ (pv 0) (@aH _ _ _ _ _ _ (@aL _ _ _ _ _) (@bN _ _) (by rfl)) (by rfl)) rfl (by decide) (by rfl) (by rfl)) (@aK _ _ _ _ (@aL _ _ _ _ _)) (de _)))))
   ·refine(@bE _ _ _ _ ?_);refine(@cG _ _ _ _ _ ?_);exact(@cA _ _ _ _ _ _ _ _ _ b_ cb (pv 1) (@bF _ _ _ _ (pv 2)) (λ_ _=>rfl))
   ·exact fU
  refine(@bE _ _ _ _ ?_);refine(@cG _ _ _ _ _ ?_);exact(@cA _ _ _ _ _ _ _ _ _ b_ cb (pv 1) (@aK _ _ _ _ (@bU _ _ _ _ _ (2) _ _ _ _ _ dA fZ (hr.mono (by decide)) rfl (@e9 _ _ _ _ _ _ (pv 0) (@aH _ _ _ _ _ _ (@rO _ _ _ _ _ _ rfl T.lD (@bF _ _ _ _ (pv 1)) (by rfl)) (@bN _ _) (by rfl)) (by rfl)) rfl (by decide) (by rfl) (by rfl))) (λ_ _=>rfl))) λss y h=>eX h
def w6:DS:=(aN (az (ax nS [.io 0]) (cL 2 (bH (ak [0] 2) (bH (ak [0] 3) c7)))) (aN (az (bb bp (eD (.int 1)) (aj (ax cE [.io 0,.val (ae 1)]))) (ak [0] 4)) (aN (az (ax cE [.io 0,.val (eD (.int 26))]) (ak [0] 5)) (aN (az (eD (.str [97,98,99,100,101,102,103,104,105,106,107,108,109,110,111,112,113,114,115,116,117,118,119,120,121,122])) (ak [0] 6)) (aN (az (bO nu (aj (gq [13] (ft (ae 4)) (ak [0] 13) gr (ag ay 6 (aj (bb dI (ag bp 5 (aj (bb dX (eD (.int 5)) (aq 13)))) (aj (eD (.int 26))))))))) (ak [0] 7)) (aN (az (ax cE [.io 0,.val (eD (.int 5))]) (ak [0] 8)) (aN (az (fq cD) (ak [0] 9)) (aN (dz (ft (ae 4)) (ak [0] 10) (aN (az (fq cD) (ak [0] 11)) (aN (dz (ft (ae 2)) (ak [0] 12) (fW 11 (bO (jY []) (aj (gq [14] (ft (ae 3)) (ak [0] 14) gr (ax ic [.io 0,.val (ae 7),.val (ae 10),.val (ae 8)])))))) (fW 9 (fS (aG (ag ay 7 (aq 10)) (aG (bO iF (aq 11)) cD))))))) (bY (fS (aG (ae 2) (aG (ae 3) (aG (bO iF (aq 9)) cD)))))))))))))
def lE:DF:=b9 [0] 15 w6
theorem Pr:dF lE:=fu
theorem gu:cu ["pen","most","high","wide","size","first","letters","tiles","way","blocks","place","block","row","k","column"] ["pen","most"] (bf wF):=scc
theorem Pt {K:W2} (F:bV K "_law_rule_by" "_law_rule_by" wF f fd) (hm:mg "_law_rule_by" = some (.ref f)) (hb:Binds K fd ["pen","most"] []) (T:Txt ce K mg) (dA:b8 P w K mg base 2 "_law_draw" 2 cE) (w8:b8 P w K mg base 3 "_law_sizes_by" 1 nS) (w_:b8 P w K mg base 3 "_law_pick" 4 ic):b8 P w K mg base 4 "_law_rule_by" 2 lE :=
 fY (np:=[0]) (fb:=w6) F hm hb gu (λc aO A outer s H E hr aD=>by
  have hq:=eZ hr;refine(@bo _ _ _ _ _ _ ?_ ?_)
  ·refine(@u0 _ _ _ _ _ _ _ ?_ ?_ (by rfl) (by rfl) (by rfl))
   ·exact(@bU _ _ _ _ _ (3) _ _ _ _ _ w8 Pm (hr.mono (by decide)) rfl (@e9 _ _ _ _ _ _ (pv 0) (@bN _ _) (by rfl)) rfl (by decide) (by rfl) (by rfl))
   ·exact(@nB _ _ _ _ _ _ _ rfl (@gJ _ _ _ _ _ _ (@dE _ _ _ ([0]) (2) _ aD gu.nd rfl ao ao) (@gJ _ _ _ _ _ _ (@dE _ _ _ ([0]) (3) _ aD gu.nd rfl ao ao) (@nA _ _) (by rfl)) (by rfl)) (by rfl) (by rfl))
  refine(@bo _ _ _ _ _ _ ?_ ?_)
  ·exact(@bZ _ _ _ _ _ _ ([0]) (4) _ aD gu.nd rfl ao (@cZ _ _ _ _ _ _ _ _ _ _ eG eJ (@aL _ _ _ _ _) (@aK _ _ _ _ (@bU _ _ _ _ _ (2) _ _ _ _ _ dA fZ (hr.mono (by decide)) rfl (@e9 _ _ _ _ _ _ (pv 0) (@aH _ _ _ _ _ _ (@aF _ _ _ _ (pv 1)) (@bN _ _) (by rfl)) (by rfl)) rfl (by decide) (by rfl) (by rfl)))) rfl ao)
  refine(@bo _ _ _ _ _ _ ?_ ?_)
  ·exact(@bZ _ _ _ _ _ _ ([0]) (5) _ aD gu.nd rfl ao (@bU _ _ _ _ _ (2) _ _ _ _ _ dA fZ (hr.mono (by decide)) rfl (@e9 _ _ _ _ _ _ (pv 0) (@aH _ _ _ _ _ _ (@aL _ _ _ _ _) (@bN _ _) (by rfl)) (by rfl)) rfl (by decide) (by rfl) (by rfl)) rfl ao)
  refine(@bo _ _ _ _ _ _ ?_ ?_)
  ·exact(@bZ _ _ _ _ _ _ ([0]) (6) _ aD gu.nd rfl ao (@fQ _ _ _ _ _ [97,98,99,100,101,102,103,104,105,106,107,108,109,110,111,112,113,114,115,116,117,118,119,120,121,122] (by decide +kernel)) rfl ao)
  refine(@bo _ _ _ _ _ _ ?_ ?_)
  ·exact(@bZ _ _ _ _ _ _ ([0]) (7) _ aD gu.nd rfl ao (@Kl _ _ _ _ _ _ rfl T.qe (@aK _ _ _ _ (@oS _ _ ([13]) _ _ _ _ _ _ _ _ _ _ rfl (@o_ _ _ _ rfl rfl) (@mj _ _ _ _ _ _ _ rfl T.iS (@aF _ _ _ _ (pv 4)) (by rfl)) (λl s0 H0 ex=>(@mn _ _ _ _ ([0]) (13) _ aD gu.nd rfl ao ao (by decide))) (λl s0 H0 ex=>(@rS _ _)) (λl s0 H0 ex=>(@cA _ _ _ _ _ _ _ _ _ b_ cb (pv 6) (@aK _ _ _ _ (@cZ _ _ _ _ _ _ _ _ _ _ jG jV (@eU _ _ _ _ _ _ _ _ _ _ eG eJ (pv 5) (@aK _ _ _ _ (@cZ _ _ _ _ _ _ _ _ _ _ pf pj (@aL _ _ _ _ _) (@bF _ _ _ _ (pv 13))))) (@aK _ _ _ _ (@aL _ _ _ _ _)))) (λ_ _=>rfl))) (oZ aD rfl) (by intro _; rfl))) (by rfl)) rfl ao)
  refine(@bo _ _ _ _ _ _ ?_ ?_)
  ·exact(@bZ _ _ _ _ _ _ ([0]) (8) _ aD gu.nd rfl ao (@bU _ _ _ _ _ (2) _ _ _ _ _ dA fZ (hr.mono (by decide)) rfl (@e9 _ _ _ _ _ _ (pv 0) (@aH _ _ _ _ _ _ (@aL _ _ _ _ _) (@bN _ _) (by rfl)) (by rfl)) rfl (by decide) (by rfl) (by rfl)) rfl ao)
  refine(@bo _ _ _ _ _ _ ?_ ?_)
  ·exact(@bZ _ _ _ _ _ _ ([0]) (9) _ aD gu.nd rfl ao (@ji _ _ _ _ _ (@eV _ _) (by decide)) rfl ao)
  refine(@bo _ _ _ _ _ _ ?_ ?_)
  ·refine(@hJ _ _ _ _ _ _ _ _ _ PassesOwn.never rfl ?_ ?_ ?_ (by intro _; rfl))
   ·exact(@mj _ _ _ _ _ _ _ rfl T.iS (@aF _ _ _ _ (pv 4)) (by rfl))
   ·exact(@dE _ _ _ ([0]) (10) _ aD gu.nd rfl ao ao)
   ·refine(@bo _ _ _ _ _ _ ?_ ?_)
    ·exact(@bZ _ _ _ _ _ _ ([0]) (11) _ aD gu.nd rfl ao (@ji _ _ _ _ _ (@eV _ _) (by decide)) rfl ao)
    refine(@bo _ _ _ _ _ _ ?_ ?_)
    ·refine(@hJ _ _ _ _ _ _ _ _ _ PassesOwn.never rfl ?_ ?_ ?_ (by intro _; rfl))
     ·exact(@mj _ _ _ _ _ _ _ rfl T.iS (@aF _ _ _ _ (pv 2)) (by rfl))
     ·exact(@dE _ _ _ ([0]) (12) _ aD gu.nd rfl ao ao)
     ·refine(@bE _ _ _ _ ?_);exact(@vj _ _ _ _ _ _ _ _ _ (pv 11) (@Kz _ _ _ _ _ _ _ _ _ [] (@aK _ _ _ _ (@oS _ _ ([14]) _ _ _ _ _ _ _ _ _ _ rfl (@o_ _ _ _ rfl rfl) (@mj _ _ _ _ _ _ _ rfl T.iS (@aF _ _ _ _ (pv 3)) (by rfl)) (λl s0 H0 ex=>(@mn _ _ _ _ ([0]) (14) _ aD gu.nd rfl ao ao (by decide))) (λl s0 H0 ex=>(@rS _ _)) (λl s0 H0 ex=>(@bU _ _ _ _ _ (3) _ _ _ _ _ w_ Po (hr.mono (by decide)) rfl (@e9 _ _ _ _ _ _ (pv 0) (@aH _ _ _ _ _ _ (@aF _ _ _ _ (pv 7)) (@aH _ _ _ _ _ _ (@aF _ _ _ _ (pv 10)) (@aH _ _ _ _ _ _ (@aF _ _ _ _ (pv 8)) (@bN _ _) (by rfl)) (by rfl)) (by rfl)) (by rfl)) rfl (by decide) (by rfl) (by rfl))) (oZ aD rfl) (by intro _; rfl))) (by decide +kernel) (by rfl) (by rfl) (by rfl) (by rfl)) (by rfl) (by rfl) (by rfl) (by rfl) (by rfl))
    refine(@bE _ _ _ _ ?_);exact(@vj _ _ _ _ _ _ _ _ _ (pv 9) (@kZ _ _ _ _ _ _ (@bB _ _ _ _ _ _ (@cA _ _ _ _ _ _ _ _ _ b_ cb (pv 7) (@bF _ _ _ _ (pv 10)) (λ_ _=>rfl)) (@bB _ _ _ _ _ _ (@Bc _ _ _ _ _ _ rfl T.nR (@bF _ _ _ _ (pv 11)) (by rfl)) (@eV _ _) (by rfl)) (by rfl)) (by decide)) (by rfl) (by rfl) (by rfl) (by rfl) (by rfl))
  refine(@bE _ _ _ _ ?_);refine(@cG _ _ _ _ _ ?_);exact(@kZ _ _ _ _ _ _ (@bB _ _ _ _ _ _ (@aF _ _ _ _ (pv 2)) (@bB _ _ _ _ _ _ (@aF _ _ _ _ (pv 3)) (@bB _ _ _ _ _ _ (@Bc _ _ _ _ _ _ rfl T.nR (@bF _ _ _ _ (pv 9)) (by rfl)) (@eV _ _) (by rfl)) (by rfl)) (by rfl)) (by decide))) λss y h=>eX h
def xa:DS:=(aN (az (eD (.int 1)) (ak [] 2)) (aN (dz (ft (ae 1)) (ak [] 3) (az (ag dX 2 (aq 0)) (ak [] 2))) (bY (ae 2))))
def iT:DF:=b9 [] 4 xa
theorem DQ:dF iT:=fu
theorem sS:cu ["base","often","found","turn"] ["base","often"] (bf wG):=scc
theorem Pu {K:W2} (F:bV K "_law_power" "_law_power" wG f fd) (hm:mg "_law_power" = some (.ref f)) (hb:Binds K fd ["base","often"] []) (T:Txt ce K mg):b8 P w K mg base 1 "_law_power" 2 iT :=
 fY (np:=[]) (fb:=xa) F hm hb sS (λc aO A outer s H E hr aD=>by
  have hq:=eZ hr;refine(@bo _ _ _ _ _ _ ?_ ?_)
  ·exact(@bZ _ _ _ _ _ _ ([]) (2) _ aD sS.nd rfl ao (@aL _ _ _ _ _) rfl ao)
  refine(@bo _ _ _ _ _ _ ?_ ?_)
  ·refine(@hJ _ _ _ _ _ _ _ _ _ PassesOwn.never rfl ?_ ?_ ?_ (by intro _; rfl))
   ·exact(@mj _ _ _ _ _ _ _ rfl T.iS (@aF _ _ _ _ (pv 1)) (by rfl))
   ·exact(@dE _ _ _ ([]) (3) _ aD sS.nd rfl ao ao)
   ·refine(@bE _ _ _ _ ?_);exact(@bZ _ _ _ _ _ _ ([]) (2) _ aD sS.nd rfl ao (@eU _ _ _ _ _ _ _ _ _ _ pf pj (pv 2) (@bF _ _ _ _ (pv 0))) rfl ao)
  refine(@bE _ _ _ _ ?_);refine(@cG _ _ _ _ _ ?_);exact(@aF _ _ _ _ (pv 2))) λss y h=>eX h
def sU:DS:=(df (fR (jS (aS (jX "str" (aq 1)))) (aS (bb (j8 true) (ae 1) (aj (bO gN (aj (ag ay 0 (aj (eD (.int 2)))))))))) (nM [78,111,84,105,108,101] [[116,105,108,101]] (aG (ae 1) cD)) dw)
def ko:DX:=jr [] 2 sU
theorem Pw:pL ko:=Ct
theorem Px:cu ["rule","thing"] ["rule","thing"] (bf wH):=scc
theorem Py {K:W2} (F:bV K "refuse_no_tile" "refuse_no_tile" wH f fd) (hm:mg "refuse_no_tile" = some (.ref f)) (hb:Binds K fd ["rule","thing"] []) (T:Txt ce K mg) (xb:vV P w K mg base (ce [78,111,84,105,108,101]) ["tile"]):nL P w K mg base 3 "refuse_no_tile" 2 ko :=
 Cs (np:=[]) (fb:=sU) F hm hb Px (λc aO A outer s H E hr aD nV=>by
  have hq:=eZ hr;refine(@bE _ _ _ _ ?_);refine(@fV _ _ _ _ _ _ _ _ _ ?_ ?_ ?_)
  ·exact(@jf _ _ _ _ (@l8 _ _ _ _ _ _ _ _ (@rJ _ _ _ _ _ (@kW _ _ _ _ (@uW _ _ _ _ _ _ _ _ _ T.ty_str rfl T.fA rfl T.qf boot_str (@bF _ _ _ _ (pv 1)) (by decide) (by decide) (by rfl) (by rfl)) (by intro _; rfl))) (@lZ _ _ _ _ _ (@g9 _ _ _ _ _ _ _ _ _ _ (@LG _ hq) (@LH _ true) (@aF _ _ _ _ (pv 1)) (@aK _ _ _ _ (@vw _ _ _ _ _ _ rfl rfl T.mF (@aK _ _ _ _ (@cA _ _ _ _ _ _ _ _ _ b_ cb (pv 0) (@aK _ _ _ _ (@aL _ _ _ _ _)) (λ_ _=>rfl))) (by rfl))) rfl))))
  ·refine(@bE _ _ _ _ ?_);exact(@Nf _ _ _ _ _ _ _ _ _ _ _ [78,111,84,105,108,101] [[116,105,108,101]] xb (hr.mono (by decide)) rfl rfl T.DK (@bB _ _ _ _ _ _ (@aF _ _ _ _ (pv 1)) (@eV _ _) (by rfl)) nV (by decide) (by decide +kernel) (by decide) (by decide +kernel) (by decide) (by rfl) (by rfl) (by rfl))
  ·exact fU) λss y h=>vN h
def xf:DS:=(aN (dz (ft (ae 2)) (ak [] 3) (az (ag dX 0 (aq 1)) (ak [] 0))) (bY (ae 0)))
def iU:DF:=b9 [] 4 xf
theorem DU:dF iU:=fu
theorem xg:cu ["size","factor","often","growing"] ["size","factor","often"] (bf wI):=scc
theorem Pz {K:W2} (F:bV K "grown_size" "grown_size" wI f fd) (hm:mg "grown_size" = some (.ref f)) (hb:Binds K fd ["size","factor","often"] []) (T:Txt ce K mg):b8 P w K mg base 1 "grown_size" 3 iU :=
 fY (np:=[]) (fb:=xf) F hm hb xg (λc aO A outer s H E hr aD=>by
  have hq:=eZ hr;refine(@bo _ _ _ _ _ _ ?_ ?_)
  ·refine(@hJ _ _ _ _ _ _ _ _ _ PassesOwn.never rfl ?_ ?_ ?_ (by intro _; rfl))
   ·exact(@mj _ _ _ _ _ _ _ rfl T.iS (@aF _ _ _ _ (pv 2)) (by rfl))
   ·exact(@dE _ _ _ ([]) (3) _ aD xg.nd rfl ao ao)
   ·refine(@bE _ _ _ _ ?_);exact(@bZ _ _ _ _ _ _ ([]) (0) _ aD xg.nd rfl ao (@eU _ _ _ _ _ _ _ _ _ _ pf pj (pv 0) (@bF _ _ _ _ (pv 1))) rfl ao)
  refine(@bE _ _ _ _ ?_);refine(@cG _ _ _ _ _ ?_);exact(@aF _ _ _ _ (pv 0))) λss y h=>eX h
def xh:DS:=(bY (jT (jX "int" (aq 0)) (jT (rK (jX "bool" (aq 0))) (ag kY 1 (aq 0)))))
def nW:DF:=b9 [] 2 xh
theorem PB:dF nW:=fu
theorem PD:cu ["thing","least"] ["thing","least"] (bf wJ):=scc
theorem PF {K:W2} (F:bV K "whole_from" "whole_from" wJ f fd) (hm:mg "whole_from" = some (.ref f)) (hb:Binds K fd ["thing","least"] []) (T:Txt ce K mg):b8 P w K mg base 1 "whole_from" 2 nW :=
 fY (np:=[]) (fb:=xh) F hm hb PD (λc aO A outer s H E hr aD=>by
  have hq:=eZ hr;refine(@bE _ _ _ _ ?_);refine(@cG _ _ _ _ _ ?_);exact(@uO _ _ _ _ _ _ _ _ (@uW _ _ _ _ _ _ _ _ _ T.ty_int rfl T.fA rfl T.nQ boot_int (@bF _ _ _ _ (pv 0)) (by decide) (by decide) (by rfl) (by rfl)) (@uO _ _ _ _ _ _ _ _ (@J_ _ _ _ _ _ (@uW _ _ _ _ _ _ _ _ _ T.ty_bool rfl T.fA rfl T.qc boot_bool (@bF _ _ _ _ (pv 0)) (by decide) (by decide) (by rfl) (by rfl))) (@rL _ _ _ _ _ _ (@lY _ _ _ _ _ _ _ _ _ _ rN md (pv 1) (@bF _ _ _ _ (pv 0)) (de _)))))) λss y h=>eX h
def xi:DS:=(bY (jT (ax nW [.val (ae 0),.val (ae 1)]) (ag kY 0 (aq 2))))
def kq:DF:=b9 [] 3 xi
theorem DW:dF kq:=fu
theorem PH:cu ["thing","least","most"] ["thing","least","most"] (bf wK):=scc
theorem PJ {K:W2} (F:bV K "whole_within" "whole_within" wK f fd) (hm:mg "whole_within" = some (.ref f)) (hb:Binds K fd ["thing","least","most"] []) (T:Txt ce K mg) (xj:b8 P w K mg base 1 "whole_from" 2 nW):b8 P w K mg base 2 "whole_within" 3 kq :=
 fY (np:=[]) (fb:=xi) F hm hb PH (λc aO A outer s H E hr aD=>by
  have hq:=eZ hr;refine(@bE _ _ _ _ ?_);refine(@cG _ _ _ _ _ ?_);exact(@uO _ _ _ _ _ _ _ _ (@bU _ _ _ _ _ (1) _ _ _ _ _ xj PB (hr.mono (by decide)) rfl (@aH _ _ _ _ _ _ (@aF _ _ _ _ (pv 0)) (@aH _ _ _ _ _ _ (@aF _ _ _ _ (pv 1)) (@bN _ _) (by rfl)) (by rfl)) rfl (by decide) (by rfl) (by rfl)) (@rL _ _ _ _ _ _ (@lY _ _ _ _ _ _ _ _ _ _ rN md (pv 0) (@bF _ _ _ _ (pv 2)) (de _))))) λss y h=>eX h
def xk:DS:=(aN (az wm (ak [] 4)) (aN (dz (km (ae 1)) (cL 2 (bH (ak [] 5) (bH (ak [] 6) c7))) (aN (az (ae 5) (cL 3 (bH (ak [] 7) (bH (ak [] 8) (bH (ak [] 9) c7))))) (dz (pE (ag pA 0 (aq 9))) (cL 2 (bH (ak [] 10) (bH (ak [] 11) c7))) (dz (pR (ae 11)) (cL 2 (bH (ak [] 12) (bH (ak [] 13) c7))) (df (jR (fR (aS (ae 7)) (aS (ag kY 10 (aq 2)))) (fR (aS (ae 8)) (aS (ag kY 12 (aq 3))))) (aN (az (fS (aG (l9 (ae 7) (ag jh 10 (aq 2))) (aG (l9 (ae 8) (ag jh 12 (aq 3))) (aG (ae 13) cD)))) (ak [] 14)) (pY 4 (ae 14) (bb bp (p_ 4 (ae 14) (eD (.int 0))) (aq 6)))) dw))))) (so [] 4)))
def mJ:DF:=b9 [] 15 xk
theorem PM:dF mJ:=fu
theorem ie:cu ["block_of","held","down","right","grown","key","many","all_rows","all_columns","tile","i","tiles","j","part","place"] ["block_of","held","down","right"] (bf wL):=scc
theorem PN {K:W2} (F:bV K "held_grown" "held_grown" wL f fd) (hm:mg "held_grown" = some (.ref f)) (hb:Binds K fd ["block_of","held","down","right"] []) (T:Txt ce K mg):b8 P w K mg base 1 "held_grown" 4 mJ :=
 fY (np:=[]) (fb:=xk) F hm hb ie (λc aO A outer s H E hr aD=>by
  have hq:=eZ hr;refine(@bo _ _ _ _ _ _ ?_ ?_)
  ·exact(@bZ _ _ _ _ _ _ ([]) (4) _ aD ie.nd rfl ao OI rfl ao)
  refine(@bo _ _ _ _ _ _ ?_ ?_)
  ·refine(@hJ _ _ _ _ _ _ _ _ _ PassesOwn.never rfl ?_ ?_ ?_ (by intro _; rfl))
   ·exact(DB (@aF _ _ _ _ (pv 1)))
   ·exact(@nB _ _ _ _ _ _ _ rfl (@gJ _ _ _ _ _ _ (@dE _ _ _ ([]) (5) _ aD ie.nd rfl ao ao) (@gJ _ _ _ _ _ _ (@dE _ _ _ ([]) (6) _ aD ie.nd rfl ao ao) (@nA _ _) (by rfl)) (by rfl)) (by rfl) (by rfl))
   ·refine(@bo _ _ _ _ _ _ ?_ ?_)
    ·refine(@u0 _ _ _ _ _ _ _ ?_ ?_ (by rfl) (by rfl) (by rfl))
     ·exact(@aF _ _ _ _ (pv 5))
     ·exact(@nB _ _ _ _ _ _ _ rfl (@gJ _ _ _ _ _ _ (@dE _ _ _ ([]) (7) _ aD ie.nd rfl ao ao) (@gJ _ _ _ _ _ _ (@dE _ _ _ ([]) (8) _ aD ie.nd rfl ao ao) (@gJ _ _ _ _ _ _ (@dE _ _ _ ([]) (9) _ aD ie.nd rfl ao ao) (@nA _ _) (by rfl)) (by rfl)) (by rfl)) (by rfl) (by rfl))
    refine(@bE _ _ _ _ ?_);refine(@hJ _ _ _ _ _ _ _ _ _ PassesOwn.never rfl ?_ ?_ ?_ (by intro _; rfl))
    ·exact(@LU _ _ _ _ _ _ _ _ _ rfl T.nP (@cA _ _ _ _ _ _ _ _ _ (LX hq) LJ (pv 0) (@bF _ _ _ _ (pv 9)) (λ_ _=>rfl)) (by rfl))
    ·exact(@nB _ _ _ _ _ _ _ rfl (@gJ _ _ _ _ _ _ (@dE _ _ _ ([]) (10) _ aD ie.nd rfl ao ao) (@gJ _ _ _ _ _ _ (@dE _ _ _ ([]) (11) _ aD ie.nd rfl ao ao) (@nA _ _) (by rfl)) (by rfl)) (by rfl) (by rfl))
    ·refine(@bE _ _ _ _ ?_);refine(@hJ _ _ _ _ _ _ _ _ _ PassesOwn.never rfl ?_ ?_ ?_ (by intro _; rfl))
     ·exact(@Nm _ _ _ _ _ _ _ _ _ rfl T.nP (@aF _ _ _ _ (pv 11)) (by rfl))
     ·exact(@nB _ _ _ _ _ _ _ rfl (@gJ _ _ _ _ _ _ (@dE _ _ _ ([]) (12) _ aD ie.nd rfl ao ao) (@gJ _ _ _ _ _ _ (@dE _ _ _ ([]) (13) _ aD ie.nd rfl ao ao) (@nA _ _) (by rfl)) (by rfl)) (by rfl) (by rfl))
     ·refine(@bE _ _ _ _ ?_);refine(@fV _ _ _ _ _ _ _ _ _ ?_ ?_ ?_)
      ·exact(@jf _ _ _ _ (@uN _ _ _ _ _ _ _ _ (@jf _ _ _ _ (@l8 _ _ _ _ _ _ _ _ (@kW _ _ _ _ (@aF _ _ _ _ (pv 7)) (by intro _; rfl)) (@lZ _ _ _ _ _ (@nh _ _ _ _ _ _ _ _ _ _ rN md (pv 10) (@bF _ _ _ _ (pv 2)) (de _))))) (@uM _ _ _ _ _ (@jf _ _ _ _ (@l8 _ _ _ _ _ _ _ _ (@kW _ _ _ _ (@aF _ _ _ _ (pv 8)) (by intro _; rfl)) (@lZ _ _ _ _ _ (@nh _ _ _ _ _ _ _ _ _ _ rN md (pv 12) (@bF _ _ _ _ (pv 3)) (de _))))))))
      ·refine(@bo _ _ _ _ _ _ ?_ ?_)
       ·exact(@bZ _ _ _ _ _ _ ([]) (14) _ aD ie.nd rfl ao (@kZ _ _ _ _ _ _ (@bB _ _ _ _ _ _ (@AX _ _ _ _ _ _ _ _ (@aF _ _ _ _ (pv 7)) (@rL _ _ _ _ _ _ (@lY _ _ _ _ _ _ _ _ _ _ uR uS (pv 10) (@bF _ _ _ _ (pv 2)) (de _)))) (@bB _ _ _ _ _ _ (@AX _ _ _ _ _ _ _ _ (@aF _ _ _ _ (pv 8)) (@rL _ _ _ _ _ _ (@lY _ _ _ _ _ _ _ _ _ _ uR uS (pv 12) (@bF _ _ _ _ (pv 3)) (de _)))) (@bB _ _ _ _ _ _ (@aF _ _ _ _ (pv 13)) (@eV _ _) (by rfl)) (by rfl)) (by rfl)) (by decide)) rfl ao)
       refine(@bE _ _ _ _ ?_);exact(Oq hq (pv 4) (@aF _ _ _ _ (pv 14)) (@cZ _ _ _ _ _ _ _ _ _ _ eG eJ (OS hq (pv 4) (@aF _ _ _ _ (pv 14)) (@aL _ _ _ _ _)) (@bF _ _ _ _ (pv 6))))
      ·exact fU
  refine(@bE _ _ _ _ ?_);exact(@LW _ _ _ _ _ _ aD (pv 4))) λss y h=>eX h
def xl:DS:=(bY (gq [1,2] (fw (ag ay 0 (aj (eD (.int 2))))) (cL 2 (bH (ak [] 1) (bH (ak [] 2) c7))) gr (ae 1)))
def mK:DF:=b9 [] 3 xl
theorem PQ:dF mK:=fu
theorem xm:cu ["rule","tile","block"] ["rule"] (bf wM):=scc
theorem PR {K:W2} (F:bV K "rule_tiles" "rule_tiles" wM f fd) (hm:mg "rule_tiles" = some (.ref f)) (hb:Binds K fd ["rule"] []) (T:Txt ce K mg):b8 P w K mg base 1 "rule_tiles" 1 mK :=
 fY (np:=[]) (fb:=xl) F hm hb xm (λc aO A outer s H E hr aD=>by
  have hq:=eZ hr;refine(@bE _ _ _ _ ?_);refine(@cG _ _ _ _ _ ?_);exact(@oS _ _ ([1,2]) _ _ _ _ _ _ _ _ _ _ rfl (@o_ _ _ _ rfl rfl) (@nH _ _ _ _ _ (@cA _ _ _ _ _ _ _ _ _ b_ cb (pv 0) (@aK _ _ _ _ (@aL _ _ _ _ _)) (λ_ _=>rfl))) (λl s0 H0 ex=>(@Bs _ _ _ _ _ _ _ _ rfl (@rW _ _ _ _ _ _ _ (@mn _ _ _ _ ([]) (1) _ aD xm.nd rfl ao ao (by decide)) (@rW _ _ _ _ _ _ _ (@mn _ _ _ _ ([]) (2) _ aD xm.nd rfl ao ao (by decide)) (@Br _ _ _) (by rfl)) (by rfl)) (by rfl) (by rfl))) (λl s0 H0 ex=>(@rS _ _)) (λl s0 H0 ex=>(@aF _ _ _ _ (pv 1))) (oZ aD rfl) (by intro _; rfl))) λss y h=>eX h
def xn:DS:=(bY (gq [2] (fw (ax mK [.val (ae 0)])) (ak [] 2) gr (fS (aG (ae 2) (aG (pG 1 (ae 2) (eD (.int 0))) cD)))))
def nX:DF:=b9 [] 3 xn
theorem PU:dF nX:=fu
theorem DY:cu ["rule","many_of","tile"] ["rule","many_of"] (bf wN):=scc
theorem PX {K:W2} (F:bV K "counts_listed" "counts_listed" wN f fd) (hm:mg "counts_listed" = some (.ref f)) (hb:Binds K fd ["rule","many_of"] []) (T:Txt ce K mg) (xo:b8 P w K mg base 1 "rule_tiles" 1 mK):b8 P w K mg base 2 "counts_listed" 2 nX :=
 fY (np:=[]) (fb:=xn) F hm hb DY (λc aO A outer s H E hr aD=>by
  have hq:=eZ hr;refine(@bE _ _ _ _ ?_);refine(@cG _ _ _ _ _ ?_);exact(@oS _ _ ([2]) _ _ _ _ _ _ _ _ _ _ rfl (@o_ _ _ _ rfl rfl) (@nH _ _ _ _ _ (@bU _ _ _ _ _ (1) _ _ _ _ _ xo PQ (hr.mono (by decide)) rfl (@aH _ _ _ _ _ _ (@aF _ _ _ _ (pv 0)) (@bN _ _) (by rfl)) rfl (by decide) (by rfl) (by rfl))) (λl s0 H0 ex=>(@mn _ _ _ _ ([]) (2) _ aD DY.nd rfl ao ao (by decide))) (λl s0 H0 ex=>(@rS _ _)) (λl s0 H0 ex=>(@kZ _ _ _ _ _ _ (@bB _ _ _ _ _ _ (@aF _ _ _ _ (pv 2)) (@bB _ _ _ _ _ _ (@LY _ _ _ _ _ _ _ _ _ _ hq (pv 1) (@aF _ _ _ _ (pv 2)) (@aL _ _ _ _ _) (by rfl) (by rfl) (by rfl) (by rfl)) (@eV _ _) (by rfl)) (by rfl)) (by decide))) (oZ aD rfl) (by intro _; rfl))) λss y h=>eX h
def qg:DS:=(aN (iI (jt ko [.val (ae 0),.val (ae 1)])) (aN (az (ax iU [.val (eD (.int 1)),.val (ag ay 0 (aj (eD (.int 0)))),.val (ae 2)]) (ak [] 5)) (aN (az (ax iU [.val (eD (.int 1)),.val (ag ay 0 (aj (eD (.int 1)))),.val (ae 2)]) (ak [] 6)) (aN (df (fR (jS (aS (ax kq [.val (ae 3),.val (eD (.int 0)),.val (ae 5)]))) (jS (aS (ax kq [.val (ae 4),.val (eD (.int 0)),.val (ae 6)])))) (pK [78,111,80,108,97,99,101]) dw) (aN (az (bO gN (aj (ag ay 0 (aj (eD (.int 2)))))) (ak [] 7)) (aN (az (sP (fS (aG (ag cK 3 (aq 5)) (aG (ag cK 4 (aq 6)) (aG (ae 1) cD)))) (eD (.int 1))) (ak [] 8)) (aN (dz (ft (ae 2)) (ak [] 9) (aN (az (ag jU 5 (aj (ag ay 0 (aj (eD (.int 0)))))) (ak [] 5)) (aN (az (ag jU 6 (aj (ag ay 0 (aj (eD (.int 1)))))) (ak [] 6)) (az (ax mJ [.val (ae 7),.val (ae 8),.val (bb dI (ag lu 3 (aq 5)) (aj (ag ay 0 (aj (eD (.int 0)))))),.val (bb dI (ag lu 4 (aq 6)) (aj (ag ay 0 (aj (eD (.int 1))))))]) (ak [] 8))))) (bY (ax nX [.val (ae 0),.val (bO gN (aj (gq [10,11] (km (ae 8)) (cL 2 (bH (ak [] 10) (bH (ak [] 11) c7))) (jR (aS (ag ay 10 (aj (eD (.int 0))))) (aS (ag ay 10 (aj (eD (.int 1)))))) (fS (aG (ag ay 10 (aj (eD (.int 2)))) (aG (ae 11) cD))))))])))))))))
def jy:DX:=jr [] 12 qg
theorem PY:pL jy:=Ct
theorem iV:cu ["rule","tile","growings","rows","columns","tall","broad","block_of","held","growing","key","many"] ["rule","tile","growings","rows","columns"] (bf wO):=scc
theorem PZ {K:W2} (F:bV K "counts_within" "counts_within" wO f fd) (hm:mg "counts_within" = some (.ref f)) (hb:Binds K fd ["rule","tile","growings","rows","columns"] []) (T:Txt ce K mg) (xp:nL P w K mg base 3 "refuse_no_tile" 2 ko) (sV:b8 P w K mg base 1 "grown_size" 3 iU) (sW:b8 P w K mg base 2 "whole_within" 3 kq) (xq:b8 P w K mg base 1 "held_grown" 4 mJ) (xr:b8 P w K mg base 2 "counts_listed" 2 nX):nL P w K mg base 4 "counts_within" 5 jy :=
 Cs (np:=[]) (fb:=qg) F hm hb iV (λc aO A outer s H E hr aD nV=>by
  have hq:=eZ hr;refine(@bo _ _ _ _ _ _ ?_ ?_)
  ·exact(@BV _ _ _ _ _ (@Cu _ _ _ _ _ (3) _ _ _ _ _ xp Pw (hr.mono (by decide)) rfl nV rfl (@aH _ _ _ _ _ _ (@aF _ _ _ _ (pv 0)) (@aH _ _ _ _ _ _ (@aF _ _ _ _ (pv 1)) (@bN _ _) (by rfl)) (by rfl)) rfl (by decide) (by rfl) (by rfl)) (by rfl))
  refine(@bo _ _ _ _ _ _ ?_ ?_)
  ·exact(@bZ _ _ _ _ _ _ ([]) (5) _ aD iV.nd rfl ao (@bU _ _ _ _ _ (1) _ _ _ _ _ sV DU (hr.mono (by decide)) rfl (@aH _ _ _ _ _ _ (@aL _ _ _ _ _) (@aH _ _ _ _ _ _ (@cA _ _ _ _ _ _ _ _ _ b_ cb (pv 0) (@aK _ _ _ _ (@aL _ _ _ _ _)) (λ_ _=>rfl)) (@aH _ _ _ _ _ _ (@aF _ _ _ _ (pv 2)) (@bN _ _) (by rfl)) (by rfl)) (by rfl)) rfl (by decide) (by rfl) (by rfl)) rfl ao)
  refine(@bo _ _ _ _ _ _ ?_ ?_)
  ·exact(@bZ _ _ _ _ _ _ ([]) (6) _ aD iV.nd rfl ao (@bU _ _ _ _ _ (1) _ _ _ _ _ sV DU (hr.mono (by decide)) rfl (@aH _ _ _ _ _ _ (@aL _ _ _ _ _) (@aH _ _ _ _ _ _ (@cA _ _ _ _ _ _ _ _ _ b_ cb (pv 0) (@aK _ _ _ _ (@aL _ _ _ _ _)) (λ_ _=>rfl)) (@aH _ _ _ _ _ _ (@aF _ _ _ _ (pv 2)) (@bN _ _) (by rfl)) (by rfl)) (by rfl)) rfl (by decide) (by rfl) (by rfl)) rfl ao)
  refine(@bo _ _ _ _ _ _ ?_ ?_)
  ·refine(@fV _ _ _ _ _ _ _ _ _ ?_ ?_ ?_)
   ·exact(@jf _ _ _ _ (@l8 _ _ _ _ _ _ _ _ (@rJ _ _ _ _ _ (@kW _ _ _ _ (@bU _ _ _ _ _ (2) _ _ _ _ _ sW DW (hr.mono (by decide)) rfl (@aH _ _ _ _ _ _ (@aF _ _ _ _ (pv 3)) (@aH _ _ _ _ _ _ (@aL _ _ _ _ _) (@aH _ _ _ _ _ _ (@aF _ _ _ _ (pv 5)) (@bN _ _) (by rfl)) (by rfl)) (by rfl)) rfl (by decide) (by rfl) (by rfl)) (by intro _; rfl))) (@lZ _ _ _ _ _ (@rJ _ _ _ _ _ (@kW _ _ _ _ (@bU _ _ _ _ _ (2) _ _ _ _ _ sW DW (hr.mono (by decide)) rfl (@aH _ _ _ _ _ _ (@aF _ _ _ _ (pv 4)) (@aH _ _ _ _ _ _ (@aL _ _ _ _ _) (@aH _ _ _ _ _ _ (@aF _ _ _ _ (pv 6)) (@bN _ _) (by rfl)) (by rfl)) (by rfl)) rfl (by decide) (by rfl) (by rfl)) (by intro _; rfl))))))
   ·refine(@bE _ _ _ _ ?_);exact(@Mh _ _ _ _ _ _ _ [78,111,80,108,97,99,101] T.O3 rfl rfl T.DJ nV (by decide +kernel) (by decide) (by rfl))
   ·exact fU
  refine(@bo _ _ _ _ _ _ ?_ ?_)
  ·exact(@bZ _ _ _ _ _ _ ([]) (7) _ aD iV.nd rfl ao (@vw _ _ _ _ _ _ rfl rfl T.mF (@aK _ _ _ _ (@cA _ _ _ _ _ _ _ _ _ b_ cb (pv 0) (@aK _ _ _ _ (@aL _ _ _ _ _)) (λ_ _=>rfl))) (by rfl)) rfl ao)
  refine(@bo _ _ _ _ _ _ ?_ ?_)
  ·exact(@bZ _ _ _ _ _ _ ([]) (8) _ aD iV.nd rfl ao (OP hq (λc=>(@kZ _ _ _ _ _ _ (@bB _ _ _ _ _ _ (@lY _ _ _ _ _ _ _ _ _ _ (kU hq) kX (pv 3) (@bF _ _ _ _ (pv 5)) (de _)) (@bB _ _ _ _ _ _ (@lY _ _ _ _ _ _ _ _ _ _ (kU hq) kX (pv 4) (@bF _ _ _ _ (pv 6)) (de _)) (@bB _ _ _ _ _ _ (@aF _ _ _ _ (pv 1)) (@eV _ _) (by rfl)) (by rfl)) (by rfl)) (by decide))) (λc=>(@aL _ _ _ _ _))) rfl ao)
  refine(@bo _ _ _ _ _ _ ?_ ?_)
  ·refine SS.i5 ?_;refine(@hJ _ _ _ _ _ _ _ _ _ PassesOwn.never rfl ?_ ?_ ?_ (by intro _; rfl))
   ·exact(@mj _ _ _ _ _ _ _ rfl T.iS (@aF _ _ _ _ (pv 2)) (by rfl))
   ·exact(@dE _ _ _ ([]) (9) _ aD iV.nd rfl ao ao)
   ·refine(@bo _ _ _ _ _ _ ?_ ?_)
    ·exact(@bZ _ _ _ _ _ _ ([]) (5) _ aD iV.nd rfl ao (@eU _ _ _ _ _ _ _ _ _ _ t4 uP (pv 5) (@aK _ _ _ _ (@cA _ _ _ _ _ _ _ _ _ b_ cb (pv 0) (@aK _ _ _ _ (@aL _ _ _ _ _)) (λ_ _=>rfl)))) rfl ao)
    refine(@bo _ _ _ _ _ _ ?_ ?_)
    ·exact(@bZ _ _ _ _ _ _ ([]) (6) _ aD iV.nd rfl ao (@eU _ _ _ _ _ _ _ _ _ _ t4 uP (pv 6) (@aK _ _ _ _ (@cA _ _ _ _ _ _ _ _ _ b_ cb (pv 0) (@aK _ _ _ _ (@aL _ _ _ _ _)) (λ_ _=>rfl)))) rfl ao)
    refine(@bE _ _ _ _ ?_);exact(@bZ _ _ _ _ _ _ ([]) (8) _ aD iV.nd rfl ao (@bU _ _ _ _ _ (1) _ _ _ _ _ xq PM (hr.mono (by decide)) rfl (@aH _ _ _ _ _ _ (@aF _ _ _ _ (pv 7)) (@aH _ _ _ _ _ _ (@aF _ _ _ _ (pv 8)) (@aH _ _ _ _ _ _ (@cZ _ _ _ _ _ _ _ _ _ _ jG jV (@eU _ _ _ _ _ _ _ _ _ _ vE vF (pv 3) (@bF _ _ _ _ (pv 5))) (@aK _ _ _ _ (@cA _ _ _ _ _ _ _ _ _ b_ cb (pv 0) (@aK _ _ _ _ (@aL _ _ _ _ _)) (λ_ _=>rfl)))) (@aH _ _ _ _ _ _ (@cZ _ _ _ _ _ _ _ _ _ _ jG jV (@eU _ _ _ _ _ _ _ _ _ _ vE vF (pv 4) (@bF _ _ _ _ (pv 6))) (@aK _ _ _ _ (@cA _ _ _ _ _ _ _ _ _ b_ cb (pv 0) (@aK _ _ _ _ (@aL _ _ _ _ _)) (λ_ _=>rfl)))) (@bN _ _) (by rfl)) (by rfl)) (by rfl)) (by rfl)) rfl (by decide) (by rfl) (by rfl)) rfl ao)
  refine(@bE _ _ _ _ ?_);refine(@cG _ _ _ _ _ ?_);exact(@bU _ _ _ _ _ (2) _ _ _ _ _ xr PU (hr.mono (by decide)) rfl (@aH _ _ _ _ _ _ (@aF _ _ _ _ (pv 0)) (@aH _ _ _ _ _ _ (@vw _ _ _ _ _ _ rfl rfl T.mF (@aK _ _ _ _ (@oS _ _ ([10,11]) _ _ _ _ _ _ _ _ _ _ rfl (@o_ _ _ _ rfl rfl) (DB (@aF _ _ _ _ (pv 8))) (λl s0 H0 ex=>(@Bs _ _ _ _ _ _ _ _ rfl (@rW _ _ _ _ _ _ _ (@mn _ _ _ _ ([]) (10) _ aD iV.nd rfl ao ao (by decide)) (@rW _ _ _ _ _ _ _ (@mn _ _ _ _ ([]) (11) _ aD iV.nd rfl ao ao (by decide)) (@Br _ _ _) (by rfl)) (by rfl)) (by rfl) (by rfl))) (λl s0 H0 ex=>(@KR _ _ _ _ (@jf _ _ _ _ (@uN _ _ _ _ _ _ _ _ (@kW _ _ _ _ (@cA _ _ _ _ _ _ _ _ _ b_ cb (pv 10) (@aK _ _ _ _ (@aL _ _ _ _ _)) (λ_ _=>rfl)) (by intro _; rfl)) (@uM _ _ _ _ _ (@kW _ _ _ _ (@cA _ _ _ _ _ _ _ _ _ b_ cb (pv 10) (@aK _ _ _ _ (@aL _ _ _ _ _)) (λ_ _=>rfl)) (by intro _; rfl))))))) (λl s0 H0 ex=>(@kZ _ _ _ _ _ _ (@bB _ _ _ _ _ _ (@cA _ _ _ _ _ _ _ _ _ b_ cb (pv 10) (@aK _ _ _ _ (@aL _ _ _ _ _)) (λ_ _=>rfl)) (@bB _ _ _ _ _ _ (@aF _ _ _ _ (pv 11)) (@eV _ _) (by rfl)) (by rfl)) (by decide))) (oZ aD rfl) (by intro _; rfl))) (by rfl)) (@bN _ _) (by rfl)) (by rfl)) rfl (by decide) (by rfl) (by rfl))) λss y h=>vN h
def sX(ce:Tx->Nat):DS:=(aN (az (fq (aG (fN ce ys (λz=>z == [78,111,70,108,111,111,114]) (aq 0)) (aG (fN ce ys (λz=>z == [78,111,80,108,97,99,101]) (aq 0)) (aG (fN ce ys (λz=>z == [78,111,78,117,109,98,101,114]) (aq 0)) (aG (fN ce ys (λz=>z == [78,111,82,111,119]) (aq 0)) cD))))) (ak [] 1)) (aN (az (ag bp 1 (aj (fq (aG (fN ce ys (λz=>z == [85,110,108,105,107,101]) (aq 0)) (aG (fN ce ys (λz=>z == [78,111,84,105,108,101]) (aq 0)) (aG (fN ce ys (λz=>z == [78,111,82,117,108,101]) (aq 0)) (aG (fN ce ys (λz=>z == [78,111,84,101,120,116]) (aq 0)) cD))))))) (ak [] 1)) (aN (fW 1 (fN ce ys (λz=>z == [84,111,111,71,114,101,97,116]) (aq 0))) (aN (df (fR (jS (aS (fN ce ys (λ_=>true) (aq 0)))) (aS (bb eM (bO mz (aq 1)) (aj (eD (.int 1)))))) (bY (eD (.str [111,116,104,101,114]))) dw) (aN (az (gM [.str [102,108,111,111,114],.str [112,108,97,99,101],.str [110,117,109,98,101,114],.str [114,111,119],.str [117,110,108,105,107,101],.str [116,105,108,101],.str [114,117,108,101],.str [116,101,120,116],.str [103,114,101,97,116]]) (ak [] 2)) (bY (ag ay 2 (aj (bO mB (aq 1))))))))))
def lF(ce:Tx->Nat):DF:=b9 [] 3 (sX ce)
theorem P0{ce:Tx->Nat}:dF (lF ce):=fu
theorem sY:cu ["e","marks","words"] ["e"] (bf wQ):=scc
theorem P1 {K:W2} (F:bV K "_law_kind_of" "_law_kind_of" wQ f fd) (hm:mg "_law_kind_of" = some (.ref f)) (hb:Binds K fd ["e"] []) (T:Txt ce K mg):sv P w K mg base 1 "_law_kind_of" 1 (lF ce) :=
 MG (np:=[]) (fb:=(sX ce)) F hm hb sY (λc aO A outer s H E hr aD=>by
  have hq:=MF hr;refine(@bo _ _ _ _ _ _ ?_ ?_)
  ·exact(@bZ _ _ _ _ _ _ ([]) (1) _ aD sY.nd rfl ao (@ji _ _ _ _ _ (@bB _ _ _ _ _ _ (@ke _ _ _ _ _ _ _ _ _ _ _ _ T.O4 rfl T.fA rfl T.OV (@bF _ _ _ _ (pv 0)) (by decide) (by rfl) (by rfl)) (@bB _ _ _ _ _ _ (@ke _ _ _ _ _ _ _ _ _ _ _ _ T.O5 rfl T.fA rfl T.DJ (@bF _ _ _ _ (pv 0)) (by decide) (by rfl) (by rfl)) (@bB _ _ _ _ _ _ (@ke _ _ _ _ _ _ _ _ _ _ _ _ T.O6 rfl T.fA rfl T.OW (@bF _ _ _ _ (pv 0)) (by decide) (by rfl) (by rfl)) (@bB _ _ _ _ _ _ (@ke _ _ _ _ _ _ _ _ _ _ _ _ T.O7 rfl T.fA rfl T.OX (@bF _ _ _ _ (pv 0)) (by decide) (by rfl) (by rfl)) (@eV _ _) (by rfl)) (by rfl)) (by rfl)) (by rfl)) (by decide)) rfl ao)
  refine(@bo _ _ _ _ _ _ ?_ ?_)
  ·exact(@bZ _ _ _ _ _ _ ([]) (1) _ aD sY.nd rfl ao (@eU _ _ _ _ _ _ _ _ _ _ eG eJ (pv 1) (@aK _ _ _ _ (@ji _ _ _ _ _ (@bB _ _ _ _ _ _ (@ke _ _ _ _ _ _ _ _ _ _ _ _ T.O8 rfl T.fA rfl T.OY (@bF _ _ _ _ (pv 0)) (by decide) (by rfl) (by rfl)) (@bB _ _ _ _ _ _ (@ke _ _ _ _ _ _ _ _ _ _ _ _ T.O9 rfl T.fA rfl T.DK (@bF _ _ _ _ (pv 0)) (by decide) (by rfl) (by rfl)) (@bB _ _ _ _ _ _ (@ke _ _ _ _ _ _ _ _ _ _ _ _ T.O_ rfl T.fA rfl T.OZ (@bF _ _ _ _ (pv 0)) (by decide) (by rfl) (by rfl)) (@bB _ _ _ _ _ _ (@ke _ _ _ _ _ _ _ _ _ _ _ _ T.Pa rfl T.fA rfl T.O0 (@bF _ _ _ _ (pv 0)) (by decide) (by rfl) (by rfl)) (@eV _ _) (by rfl)) (by rfl)) (by rfl)) (by rfl)) (by decide)))) rfl ao)
  refine(@bo _ _ _ _ _ _ ?_ ?_)
  ·exact(@vj _ _ _ _ _ _ _ _ _ (pv 1) (@ke _ _ _ _ _ _ _ _ _ _ _ _ T.Pb rfl T.fA rfl T.O1 (@bF _ _ _ _ (pv 0)) (by decide) (by rfl) (by rfl)) (by rfl) (by rfl) (by rfl) (by rfl) (by rfl))
  refine(@bo _ _ _ _ _ _ ?_ ?_)
  ·refine(@fV _ _ _ _ _ _ _ _ _ ?_ ?_ ?_)
   ·exact(@jf _ _ _ _ (@l8 _ _ _ _ _ _ _ _ (@rJ _ _ _ _ _ (@kW _ _ _ _ (@ME _ _ _ _ _ _ _ _ _ _ _ _ T.Pc rfl T.fA rfl T.qb MP (@bF _ _ _ _ (pv 0)) (by decide) (by decide) (by rfl) (by rfl)) (by intro _; rfl))) (@lZ _ _ _ _ _ (@g9 _ _ _ _ _ _ _ _ _ _ (lX hq) ma (@MN _ _ _ _ _ _ _ _ (@bF _ _ _ _ (pv 1)) (by rfl) (by rfl) (by rfl) (by rfl)) (@aK _ _ _ _ (@aL _ _ _ _ _)) (de _)))))
   ·refine(@bE _ _ _ _ ?_);refine(@cG _ _ _ _ _ ?_);exact(@fQ _ _ _ _ _ [111,116,104,101,114] (by decide +kernel))
   ·exact fU
  refine(@bo _ _ _ _ _ _ ?_ ?_)
  ·exact(@bZ _ _ _ _ _ _ ([]) (2) _ aD sY.nd rfl ao (@pe _ _ _ _ _ (by rfl) (by decide)) rfl ao)
  refine(@bE _ _ _ _ ?_);refine(@cG _ _ _ _ _ ?_);exact(@cA _ _ _ _ _ _ _ _ _ b_ cb (pv 2) (@aK _ _ _ _ (@MO _ _ _ _ _ _ _ _ (@bF _ _ _ _ (pv 1)) (by rfl) (by rfl) (by rfl) (by rfl))) (λ_ _=>rfl))) λss y h=>eX h
abbrev qj(ce:Tx->Nat)(G0:DX)(G1:DF):DS:=(aN (pM ce ys 5 (iI (jt G0 [.val (ae 0),.val (ae 1),.val (ae 2),.val (ae 3),.val (ae 4)])) (bY (ax G1 [.val (ae 5)]))) (bY (eD (.str [116,111,108,100]))))
def qk(ce:Tx->Nat):DS:=qj ce jy (lF ce)
def cT(ce:Tx->Nat):DF:=b9 [] 6 (qk ce)
theorem nY{ce:Tx->Nat}:dF (cT ce):=fu
theorem DZ:cu ["rule","tile","growings","rows","columns","e"] ["rule","tile","growings","rows","columns"] (bf wR):=scc
theorem P2 {K:W2} (F:bV K "_law_said" "_law_said" wR f fd) (hm:mg "_law_said" = some (.ref f)) (hb:Binds K fd ["rule","tile","growings","rows","columns"] []) (T:Txt ce K mg) (xt:nL P w K mg base 4 "counts_within" 5 jy) (xu:sv P w K mg base 1 "_law_kind_of" 1 (lF ce)):b8 P w K mg base 5 "_law_said" 5 (cT ce) :=
 fY (np:=[]) (fb:=(qk ce)) F hm hb DZ (λc aO A outer s H E hr aD=>by
  have hq:=eZ hr;refine(@bo _ _ _ _ _ _ ?_ ?_)
  ·refine Mq (ce:=ce) (ys:=ys) (i:=5) rfl aD rfl rfl DZ.nd rfl rfl rfl T.OU T.O2 (λy hy=>T.Pd y hy) ?_ ?_
   ·intro c pn xe aD nV;refine(@bE _ _ _ _ ?_);exact(@BV _ _ _ _ _ (@Cu _ _ _ _ _ (4) _ _ _ _ _ xt PY (hr.mono (by decide)) rfl nV rfl (@aH _ _ _ _ _ _ (@aF _ _ _ _ (pv 0)) (@aH _ _ _ _ _ _ (@aF _ _ _ _ (pv 1)) (@aH _ _ _ _ _ _ (@aF _ _ _ _ (pv 2)) (@aH _ _ _ _ _ _ (@aF _ _ _ _ (pv 3)) (@aH _ _ _ _ _ _ (@aF _ _ _ _ (pv 4)) (@bN _ _) (by rfl)) (by rfl)) (by rfl)) (by rfl)) (by rfl)) rfl (by decide) (by rfl) (by rfl)) (by rfl))
   ·intro ea;refine(@bE _ _ _ _ ?_);refine(@cG _ _ _ _ _ ?_);exact(@MH _ _ _ _ _ (1) _ _ _ _ _ xu P0 ((hr.h.mono (by decide)).mark _) rfl (@aH _ _ _ _ _ _ (@aF _ _ _ _ (pv 5)) (@bN _ _) (by rfl)) rfl (by decide) (by rfl) (by rfl))
  refine(@bE _ _ _ _ ?_);refine(@cG _ _ _ _ _ ?_);exact(@fQ _ _ _ _ _ [116,111,108,100] (by decide +kernel))) λss y h=>eX h
def xw(ce:Tx->Nat):DS:=(aN (dz (fw (bb bp (fq (aG (ax mG [.val (ae 0),.val (eD (.int 0))]) cD)) (aj (oN 0 (me (eD (.int 1))) (me (eD (.int 4))))))) (ak [] 1) (aN (az (ax mH [.val (ae 1)]) (ak [] 2)) (aN (az (ax lE [.io 2,.val (eD (.int 6))]) (ak [] 3)) (aN (az (bb ay (bb ay (ag ay 3 (aj (eD (.int 2)))) (aj (ax cE [.io 2,.val (bO eN (aj (ag ay 3 (aj (eD (.int 2))))))]))) (aj (eD (.int 0)))) (ak [] 4)) (aN (az (ax cE [.io 2,.val (bb ay (gM [.int 4,.int 61]) (aj (ax cE [.io 2,.val (eD (.int 2))])))]) (ak [] 5)) (aN (az (ax iT [.val (ag ay 3 (aj (eD (.int 0)))),.val (ae 5)]) (ak [] 6)) (aN (az (ax iT [.val (ag ay 3 (aj (eD (.int 1)))),.val (ae 5)]) (ak [] 7)) (aN (az (fq (aG (ag bp 6 (aj (eD (.int 1)))) (aG (bb bp (ag bp 6 (aj (eD (.int 1)))) (aj (ax cE [.io 2,.val (bb nj (eD (.int 10)) (aj (eD (.int 9))))]))) (aG (bO j9 (aj (eD (.int 1)))) (aG (eD (.bl true)) (aG (eD .aw) (aG (eD (.str [48])) (aG (eD (.tup [.int 0])) (aG (gM [.int 1]) cD))))))))) (ak [] 8)) (aN (dz (fw (ae 8)) (ak [] 9) (df (fR (aS (bb eM (ax (cT ce) [.val (ae 3),.val (ae 4),.val (ae 5),.val (ae 9),.val (eD (.int 0))]) (aj (eD (.str [112,108,97,99,101]))))) (aS (bb eM (ax (cT ce) [.val (ae 3),.val (eD (.str [65])),.val (ae 5),.val (ae 9),.val (eD (.int 0))]) (aj (eD (.str [116,105,108,101])))))) (bY (eD (.bl false))) dw)) (aN (dz (fw (fq (aG (ag bp 7 (aj (eD (.int 1)))) (aG (bb ni (bO j9 (aj (eD (.int 1)))) (aj (ax cE [.io 2,.val (eD (.int 9))]))) (aG (eD (.bl false)) (aG (eD .aw) (aG (eD (.str [49])) (aG (eD (.tup [.int 1])) cD)))))))) (ak [] 10) (df (aS (bb eM (ax (cT ce) [.val (ae 3),.val (ae 4),.val (ae 5),.val (ae 6),.val (ae 10)]) (aj (eD (.str [112,108,97,99,101]))))) (bY (eD (.bl false))) dw)) (aN (dz (fw (fq (aG (eD .aw) (aG (eD (.str [])) (aG (ag bp 4 (aq 4)) (aG (gM [.str [97]]) (aG (eD (.int 7)) (aG (eD (.str [65])) cD)))))))) (ak [] 11) (df (aS (bb eM (ax (cT ce) [.val (ae 3),.val (ae 11),.val (ae 5),.val (eD .aw),.val (eD .aw)]) (aj (eD (.str [116,105,108,101]))))) (bY (eD (.bl false))) dw)) (df (fR (aS (bb eM (ax (cT ce) [.val (ae 3),.val (ae 4),.val (ae 5),.val (ae 6),.val (ae 7)]) (aj (eD (.str [116,111,108,100]))))) (aS (bb eM (ax (cT ce) [.val (ae 3),.val (ae 4),.val (ae 5),.val (eD (.int 0)),.val (ae 7)]) (aj (eD (.str [116,111,108,100])))))) (bY (eD (.bl false))) dw)))))))))))) (bY (eD (.bl true))))
def nZ(ce:Tx->Nat):DF:=b9 [] 12 (xw ce)
theorem T4{ce:Tx->Nat}:dF (nZ ce):=fu
theorem ig:cu ["script","cell","pen","rule","tile","growings","high","wide","odd","rows","columns","thing"] ["script"] (bf kn):=scc
theorem P4 {K:W2} (F:bV K "law" "law" kn f fd) (T:Txt ce K mg) (xx:b8 P w K mg base 1 "_law_cell_at" 2 mG) (xy:b8 P w K mg base 1 "_law_pen_of" 1 mH) (dA:b8 P w K mg base 2 "_law_draw" 2 cE) (xA:b8 P w K mg base 4 "_law_rule_by" 2 lE) (sZ:b8 P w K mg base 1 "_law_power" 2 iT) (lG:b8 P w K mg base 5 "_law_said" 5 (cT ce)) {Gt:DF} (xB:∀ ss y,Gt ss=some y->nZ ce ss=some y):eC P w K mg base dm 6 f fd ["script"] (j3 1 Gt) :=
 BF (np:=[]) (fb:=(xw ce)) F ig (λc aO A outer s H E hr aD=>by
  have hq:=eZ hr;refine(@bo _ _ _ _ _ _ ?_ ?_)
  ·refine(@hJ _ _ _ _ _ _ _ _ _ PassesOwn.never rfl ?_ ?_ ?_ (by intro _; rfl))
   ·exact(@nH _ _ _ _ _ (@cZ _ _ _ _ _ _ _ _ _ _ eG eJ (@ji _ _ _ _ _ (@bB _ _ _ _ _ _ (@bU _ _ _ _ _ (1) _ _ _ _ _ xx Pe (hr.mono (by decide)) rfl (@aH _ _ _ _ _ _ (@aF _ _ _ _ (pv 0)) (@aH _ _ _ _ _ _ (@aL _ _ _ _ _) (@bN _ _) (by rfl)) (by rfl)) rfl (by decide) (by rfl) (by rfl)) (@eV _ _) (by rfl)) (by decide)) (@aK _ _ _ _ (@Kw _ _ _ _ _ _ _ _ _ _ (pv 0) (@Bf _ _ _ _ (@aL _ _ _ _ _)) (@Bf _ _ _ _ (@aL _ _ _ _ _))))))
   ·exact(@dE _ _ _ ([]) (1) _ aD ig.nd rfl ao ao)
   ·refine(@bo _ _ _ _ _ _ ?_ ?_)
    ·exact(@bZ _ _ _ _ _ _ ([]) (2) _ aD ig.nd rfl ao (@bU _ _ _ _ _ (1) _ _ _ _ _ xy Ph (hr.mono (by decide)) rfl (@aH _ _ _ _ _ _ (@aF _ _ _ _ (pv 1)) (@bN _ _) (by rfl)) rfl (by decide) (by rfl) (by rfl)) rfl ao)
    refine(@bo _ _ _ _ _ _ ?_ ?_)
    ·exact(@bZ _ _ _ _ _ _ ([]) (3) _ aD ig.nd rfl ao (@bU _ _ _ _ _ (4) _ _ _ _ _ xA Pr (hr.mono (by decide)) rfl (@e9 _ _ _ _ _ _ (pv 2) (@aH _ _ _ _ _ _ (@aL _ _ _ _ _) (@bN _ _) (by rfl)) (by rfl)) rfl (by decide) (by rfl) (by rfl)) rfl ao)
    refine(@bo _ _ _ _ _ _ ?_ ?_)
    ·exact(@bZ _ _ _ _ _ _ ([]) (4) _ aD ig.nd rfl ao (@rH _ _ _ _ _ _ _ _ _ b_ cb (@rH _ _ _ _ _ _ _ _ _ b_ cb (@cA _ _ _ _ _ _ _ _ _ b_ cb (pv 3) (@aK _ _ _ _ (@aL _ _ _ _ _)) (λ_ _=>rfl)) (@aK _ _ _ _ (@bU _ _ _ _ _ (2) _ _ _ _ _ dA fZ (hr.mono (by decide)) rfl (@e9 _ _ _ _ _ _ (pv 2) (@aH _ _ _ _ _ _ (@rO _ _ _ _ _ _ rfl T.lD (@aK _ _ _ _ (@cA _ _ _ _ _ _ _ _ _ b_ cb (pv 3) (@aK _ _ _ _ (@aL _ _ _ _ _)) (λ_ _=>rfl))) (by rfl)) (@bN _ _) (by rfl)) (by rfl)) rfl (by decide) (by rfl) (by rfl))) (λ_ _=>rfl)) (@aK _ _ _ _ (@aL _ _ _ _ _)) (λ_ _=>rfl)) rfl ao)
    refine(@bo _ _ _ _ _ _ ?_ ?_)
    ·exact(@bZ _ _ _ _ _ _ ([]) (5) _ aD ig.nd rfl ao (@bU _ _ _ _ _ (2) _ _ _ _ _ dA fZ (hr.mono (by decide)) rfl (@e9 _ _ _ _ _ _ (pv 2) (@aH _ _ _ _ _ _ (@rH _ _ _ _ _ _ _ _ _ b_ cb (@pe _ _ _ _ _ (by rfl) (by decide)) (@aK _ _ _ _ (@bU _ _ _ _ _ (2) _ _ _ _ _ dA fZ (hr.mono (by decide)) rfl (@e9 _ _ _ _ _ _ (pv 2) (@aH _ _ _ _ _ _ (@aL _ _ _ _ _) (@bN _ _) (by rfl)) (by rfl)) rfl (by decide) (by rfl) (by rfl))) (λ_ _=>rfl)) (@bN _ _) (by rfl)) (by rfl)) rfl (by decide) (by rfl) (by rfl)) rfl ao)
    refine(@bo _ _ _ _ _ _ ?_ ?_)
    ·exact(@bZ _ _ _ _ _ _ ([]) (6) _ aD ig.nd rfl ao (@bU _ _ _ _ _ (1) _ _ _ _ _ sZ DQ (hr.mono (by decide)) rfl (@aH _ _ _ _ _ _ (@cA _ _ _ _ _ _ _ _ _ b_ cb (pv 3) (@aK _ _ _ _ (@aL _ _ _ _ _)) (λ_ _=>rfl)) (@aH _ _ _ _ _ _ (@aF _ _ _ _ (pv 5)) (@bN _ _) (by rfl)) (by rfl)) rfl (by decide) (by rfl) (by rfl)) rfl ao)
    refine(@bo _ _ _ _ _ _ ?_ ?_)
    ·exact(@bZ _ _ _ _ _ _ ([]) (7) _ aD ig.nd rfl ao (@bU _ _ _ _ _ (1) _ _ _ _ _ sZ DQ (hr.mono (by decide)) rfl (@aH _ _ _ _ _ _ (@cA _ _ _ _ _ _ _ _ _ b_ cb (pv 3) (@aK _ _ _ _ (@aL _ _ _ _ _)) (λ_ _=>rfl)) (@aH _ _ _ _ _ _ (@aF _ _ _ _ (pv 5)) (@bN _ _) (by rfl)) (by rfl)) rfl (by decide) (by rfl) (by rfl)) rfl ao)
    refine(@bo _ _ _ _ _ _ ?_ ?_)
    ·exact(@bZ _ _ _ _ _ _ ([]) (8) _ aD ig.nd rfl ao (@ji _ _ _ _ _ (@bB _ _ _ _ _ _ (@eU _ _ _ _ _ _ _ _ _ _ eG eJ (pv 6) (@aK _ _ _ _ (@aL _ _ _ _ _))) (@bB _ _ _ _ _ _ (@cZ _ _ _ _ _ _ _ _ _ _ eG eJ (@eU _ _ _ _ _ _ _ _ _ _ eG eJ (pv 6) (@aK _ _ _ _ (@aL _ _ _ _ _))) (@aK _ _ _ _ (@bU _ _ _ _ _ (2) _ _ _ _ _ dA fZ (hr.mono (by decide)) rfl (@e9 _ _ _ _ _ _ (pv 2) (@aH _ _ _ _ _ _ (@cZ _ _ _ _ _ _ _ _ _ _ zu A5 (@aL _ _ _ _ _) (@aK _ _ _ _ (@aL _ _ _ _ _))) (@bN _ _) (by rfl)) (by rfl)) rfl (by decide) (by rfl) (by rfl)))) (@bB _ _ _ _ _ _ (@Ci _ _ _ _ _ (@aK _ _ _ _ (@aL _ _ _ _ _))) (@bB _ _ _ _ _ _ (@kT _ _ _ _ _) (@bB _ _ _ _ _ _ (@mY _ _ _ _) (@bB _ _ _ _ _ _ (@fQ _ _ _ _ _ [48] (by decide +kernel)) (@bB _ _ _ _ _ _ (@BU _ _ _ _ (by rfl)) (@bB _ _ _ _ _ _ (@pe _ _ _ _ _ (by rfl) (by decide)) (@eV _ _) (by rfl)) (by rfl)) (by rfl)) (by rfl)) (by rfl)) (by rfl)) (by rfl)) (by rfl)) (by decide)) rfl ao)
    refine(@bo _ _ _ _ _ _ ?_ ?_)
    ·refine(@hJ _ _ _ _ _ _ _ _ _ PassesOwn.never rfl ?_ ?_ ?_ (by intro _; rfl))
     ·exact(@nH _ _ _ _ _ (@aF _ _ _ _ (pv 8)))
     ·exact(@dE _ _ _ ([]) (9) _ aD ig.nd rfl ao ao)
     ·refine(@bE _ _ _ _ ?_);refine(@fV _ _ _ _ _ _ _ _ _ ?_ ?_ ?_)
      ·exact(@jf _ _ _ _ (@l8 _ _ _ _ _ _ _ _ (@g9 _ _ _ _ _ _ _ _ _ _ (lX hq) ma (@bU _ _ _ _ _ (5) _ _ _ _ _ lG nY (hr.mono (by decide)) rfl (@aH _ _ _ _ _ _ (@aF _ _ _ _ (pv 3)) (@aH _ _ _ _ _ _ (@aF _ _ _ _ (pv 4)) (@aH _ _ _ _ _ _ (@aF _ _ _ _ (pv 5)) (@aH _ _ _ _ _ _ (@aF _ _ _ _ (pv 9)) (@aH _ _ _ _ _ _ (@aL _ _ _ _ _) (@bN _ _) (by rfl)) (by rfl)) (by rfl)) (by rfl)) (by rfl)) rfl (by decide) (by rfl) (by rfl)) (@aK _ _ _ _ (@fQ _ _ _ _ _ [112,108,97,99,101] (by decide +kernel))) (de _)) (@lZ _ _ _ _ _ (@g9 _ _ _ _ _ _ _ _ _ _ (lX hq) ma (@bU _ _ _ _ _ (5) _ _ _ _ _ lG nY (hr.mono (by decide)) rfl (@aH _ _ _ _ _ _ (@aF _ _ _ _ (pv 3)) (@aH _ _ _ _ _ _ (@fQ _ _ _ _ _ [65] (by decide +kernel)) (@aH _ _ _ _ _ _ (@aF _ _ _ _ (pv 5)) (@aH _ _ _ _ _ _ (@aF _ _ _ _ (pv 9)) (@aH _ _ _ _ _ _ (@aL _ _ _ _ _) (@bN _ _) (by rfl)) (by rfl)) (by rfl)) (by rfl)) (by rfl)) rfl (by decide) (by rfl) (by rfl)) (@aK _ _ _ _ (@fQ _ _ _ _ _ [116,105,108,101] (by decide +kernel))) (de _)))))
      ·refine(@bE _ _ _ _ ?_);refine(@cG _ _ _ _ _ ?_);exact(@kT _ _ _ _ _)
      ·exact fU
    refine(@bo _ _ _ _ _ _ ?_ ?_)
    ·refine(@hJ _ _ _ _ _ _ _ _ _ PassesOwn.never rfl ?_ ?_ ?_ (by intro _; rfl))
     ·exact(@nH _ _ _ _ _ (@ji _ _ _ _ _ (@bB _ _ _ _ _ _ (@eU _ _ _ _ _ _ _ _ _ _ eG eJ (pv 7) (@aK _ _ _ _ (@aL _ _ _ _ _))) (@bB _ _ _ _ _ _ (@cZ _ _ _ _ _ _ _ _ _ _ zt A0 (@Ci _ _ _ _ _ (@aK _ _ _ _ (@aL _ _ _ _ _))) (@aK _ _ _ _ (@bU _ _ _ _ _ (2) _ _ _ _ _ dA fZ (hr.mono (by decide)) rfl (@e9 _ _ _ _ _ _ (pv 2) (@aH _ _ _ _ _ _ (@aL _ _ _ _ _) (@bN _ _) (by rfl)) (by rfl)) rfl (by decide) (by rfl) (by rfl)))) (@bB _ _ _ _ _ _ (@kT _ _ _ _ _) (@bB _ _ _ _ _ _ (@mY _ _ _ _) (@bB _ _ _ _ _ _ (@fQ _ _ _ _ _ [49] (by decide +kernel)) (@bB _ _ _ _ _ _ (@BU _ _ _ _ (by rfl)) (@eV _ _) (by rfl)) (by rfl)) (by rfl)) (by rfl)) (by rfl)) (by rfl)) (by decide)))
     ·exact(@dE _ _ _ ([]) (10) _ aD ig.nd rfl ao ao)
     ·refine(@bE _ _ _ _ ?_);refine(@fV _ _ _ _ _ _ _ _ _ ?_ ?_ ?_)
      ·exact(@g9 _ _ _ _ _ _ _ _ _ _ (lX hq) ma (@bU _ _ _ _ _ (5) _ _ _ _ _ lG nY (hr.mono (by decide)) rfl (@aH _ _ _ _ _ _ (@aF _ _ _ _ (pv 3)) (@aH _ _ _ _ _ _ (@aF _ _ _ _ (pv 4)) (@aH _ _ _ _ _ _ (@aF _ _ _ _ (pv 5)) (@aH _ _ _ _ _ _ (@aF _ _ _ _ (pv 6)) (@aH _ _ _ _ _ _ (@aF _ _ _ _ (pv 10)) (@bN _ _) (by rfl)) (by rfl)) (by rfl)) (by rfl)) (by rfl)) rfl (by decide) (by rfl) (by rfl)) (@aK _ _ _ _ (@fQ _ _ _ _ _ [112,108,97,99,101] (by decide +kernel))) (de _))
      ·refine(@bE _ _ _ _ ?_);refine(@cG _ _ _ _ _ ?_);exact(@kT _ _ _ _ _)
      ·exact fU
    refine(@bo _ _ _ _ _ _ ?_ ?_)
    ·refine(@hJ _ _ _ _ _ _ _ _ _ PassesOwn.never rfl ?_ ?_ ?_ (by intro _; rfl))
     ·exact(@nH _ _ _ _ _ (@ji _ _ _ _ _ (@bB _ _ _ _ _ _ (@mY _ _ _ _) (@bB _ _ _ _ _ _ (@fQ _ _ _ _ _ [] (by decide +kernel)) (@bB _ _ _ _ _ _ (@eU _ _ _ _ _ _ _ _ _ _ eG eJ (pv 4) (@bF _ _ _ _ (pv 4))) (@bB _ _ _ _ _ _ (@pe _ _ _ _ _ (by rfl) (by decide)) (@bB _ _ _ _ _ _ (@aL _ _ _ _ _) (@bB _ _ _ _ _ _ (@fQ _ _ _ _ _ [65] (by decide +kernel)) (@eV _ _) (by rfl)) (by rfl)) (by rfl)) (by rfl)) (by rfl)) (by rfl)) (by decide)))
     ·exact(@dE _ _ _ ([]) (11) _ aD ig.nd rfl ao ao)
     ·refine(@bE _ _ _ _ ?_);refine(@fV _ _ _ _ _ _ _ _ _ ?_ ?_ ?_)
      ·exact(@g9 _ _ _ _ _ _ _ _ _ _ (lX hq) ma (@bU _ _ _ _ _ (5) _ _ _ _ _ lG nY (hr.mono (by decide)) rfl (@aH _ _ _ _ _ _ (@aF _ _ _ _ (pv 3)) (@aH _ _ _ _ _ _ (@aF _ _ _ _ (pv 11)) (@aH _ _ _ _ _ _ (@aF _ _ _ _ (pv 5)) (@aH _ _ _ _ _ _ (@mY _ _ _ _) (@aH _ _ _ _ _ _ (@mY _ _ _ _) (@bN _ _) (by rfl)) (by rfl)) (by rfl)) (by rfl)) (by rfl)) rfl (by decide) (by rfl) (by rfl)) (@aK _ _ _ _ (@fQ _ _ _ _ _ [116,105,108,101] (by decide +kernel))) (de _))
      ·refine(@bE _ _ _ _ ?_);refine(@cG _ _ _ _ _ ?_);exact(@kT _ _ _ _ _)
      ·exact fU
    refine(@bE _ _ _ _ ?_);refine(@fV _ _ _ _ _ _ _ _ _ ?_ ?_ ?_)
    ·exact(@jf _ _ _ _ (@l8 _ _ _ _ _ _ _ _ (@g9 _ _ _ _ _ _ _ _ _ _ (lX hq) ma (@bU _ _ _ _ _ (5) _ _ _ _ _ lG nY (hr.mono (by decide)) rfl (@aH _ _ _ _ _ _ (@aF _ _ _ _ (pv 3)) (@aH _ _ _ _ _ _ (@aF _ _ _ _ (pv 4)) (@aH _ _ _ _ _ _ (@aF _ _ _ _ (pv 5)) (@aH _ _ _ _ _ _ (@aF _ _ _ _ (pv 6)) (@aH _ _ _ _ _ _ (@aF _ _ _ _ (pv 7)) (@bN _ _) (by rfl)) (by rfl)) (by rfl)) (by rfl)) (by rfl)) rfl (by decide) (by rfl) (by rfl)) (@aK _ _ _ _ (@fQ _ _ _ _ _ [116,111,108,100] (by decide +kernel))) (de _)) (@lZ _ _ _ _ _ (@g9 _ _ _ _ _ _ _ _ _ _ (lX hq) ma (@bU _ _ _ _ _ (5) _ _ _ _ _ lG nY (hr.mono (by decide)) rfl (@aH _ _ _ _ _ _ (@aF _ _ _ _ (pv 3)) (@aH _ _ _ _ _ _ (@aF _ _ _ _ (pv 4)) (@aH _ _ _ _ _ _ (@aF _ _ _ _ (pv 5)) (@aH _ _ _ _ _ _ (@aL _ _ _ _ _) (@aH _ _ _ _ _ _ (@aF _ _ _ _ (pv 7)) (@bN _ _) (by rfl)) (by rfl)) (by rfl)) (by rfl)) (by rfl)) rfl (by decide) (by rfl) (by rfl)) (@aK _ _ _ _ (@fQ _ _ _ _ _ [116,111,108,100] (by decide +kernel))) (de _)))))
    ·refine(@bE _ _ _ _ ?_);refine(@cG _ _ _ _ _ ?_);exact(@kT _ _ _ _ _)
    ·exact fU
  refine(@bE _ _ _ _ ?_);refine(@cG _ _ _ _ _ ?_);exact(@kT _ _ _ _ _)) λss y h=>eX (xB ss y h)
theorem all_mk {l:PySem.W.OpenLaw} {w:Wh} {K:W2} {h:Heap} {mg:Str->Option Value} {fa:Addr} {Gt:DF} (xB:∀ ce,iR ce->∀ ss y,Gt ss=some y->nZ ce ss=some y) (X:K.In h) (G:h.Ns Wr mg) (P5:mg "law" = some (.ref fa))
  (d0:eR K "_law_cell_at" wq)
  (d1:eR K "_law_pen_of" wu)
  (d2:eR K "_law_next" wx)
  (d3:eR K "_law_draw" wz)
  (d4:eR K "_law_sizes_by" wA)
  (d5:eR K "_law_pick" wB)
  (d6:eR K "_law_rule_by" wF)
  (d7:eR K "_law_power" wG)
  (d8:eR K "refuse_no_tile" wH)
  (d9:eR K "grown_size" wI)
  (xC:eR K "whole_from" wJ)
  (xD:eR K "whole_within" wK)
  (xE:eR K "held_grown" wL)
  (xF:eR K "rule_tiles" wM)
  (xG:eR K "counts_listed" wN)
  (xH:eR K "counts_within" wO)
  (xI:eR K "_law_kind_of" wQ)
  (xJ:eR K "_law_said" wR)
  (xK:nsIn K Wr "law" = some (some (.ref f18)))
  (xM:K.lookup f18=some ⟨oc18,od18,.func (Qs "law" "law" (jL kn) (fm kn) (bf kn) .none kV18 dc18 pm18 an18 cd18 ct18),sl18⟩)
  (xO:codeIn K cd18 "law" = true)
  (xQ:keepIn K (.ref f18)=true)
  (qb:nsIn K Wr "ValueError" = some none)
  (qc:nsIn K Wr "bool" = some none)
  (mF:nsIn K Wr "dict" = some none)
  (nP:nsIn K Wr "enumerate" = some none)
  (nQ:nsIn K Wr "int" = some none)
  (fA:nsIn K Wr "isinstance" = some none)
  (lD:nsIn K Wr "len" = some none)
  (qd:nsIn K Wr "max" = some none)
  (iS:nsIn K Wr "range" = some none)
  (qe:nsIn K Wr "sorted" = some none)
  (qf:nsIn K Wr "str" = some none)
  (nR:nsIn K Wr "tuple" = some none)
  (xR:nsIn K Wr "FloorError" = some (some (.ref C_j)))
  (xS:nsIn K Wr "NoFloor" = some (some (.ref C_a)))
  (s_:nsIn K Wr "NoPlace" = some (some (.ref C_b)))
  (xT:nsIn K Wr "NoNumber" = some (some (.ref C_c)))
  (xU:nsIn K Wr "NoRow" = some (some (.ref C_d)))
  (xV:nsIn K Wr "Unlike" = some (some (.ref C_e)))
  (tf:nsIn K Wr "NoTile" = some (some (.ref C_f)))
  (xW:nsIn K Wr "NoRule" = some (some (.ref C_g)))
  (xX:nsIn K Wr "NoText" = some (some (.ref C_h)))
  (xY:nsIn K Wr "TooGreat" = some (some (.ref C_i)))
  (D0:Jh K (.ref C_f) "__init__" = some (some (.ref fi_f)))
  (xZ:K.lookup fi_f=some ⟨oci_f,odi_f,.func (Qs "__init__" "NoTile.__init__" (jL qa) (fm qa) (bf qa) .none kVi_f dci_f pmi_f ani_f cdi_f cti_f),sli_f⟩)
  (x4:codeIn K cdi_f "NoTile.__init__" = true)
  (x5:keepIn K (.ref fi_f)=true)
  (x6:lA K C_f fi_f=true)
  (x8:PySem.W.isFn K (.ref fi_f)=true)
  (x9:keepIn K (.ref C_f)=true)
  (x_:Jh K (.ref C_f) "__setattr__" = some (some (.builtin "object.__setattr__")))
  (ya:sA K C_f=true)
  (yb:PySem.W.hasDictIn K C_f=true)
  (yc:PySem.W.takerIn K C_f "tile" = some none)
  (yd:PySem.W.excIn K C_j iN "ValueError.__new__" = true)
  (ye:PySem.W.excIn K C_b iN "ValueError.__new__" = true)
  (tj:PySem.W.specialIn K (.builtin "object.__class__") "__get__" = some (some (.builtin "getset_descriptor.__get__")))
  (tm:PySem.W.takesIn K (.builtin "object.__class__")=some true)
  (yf:Jh K (.ref C_f) "__getattribute__" = some (some (.builtin "BaseException.__getattribute__")))
  (yg:Jh K (.ref C_f) "__getattr__" = some none)
  (yh:Jh K (.ref C_f) "__class__" = some (some (.builtin "object.__class__")))
  (yi:mroIn K C_f (.type "object")=some true)
  (yj:mroIn K C_f (.type "BaseException")=some true)
  (ij:PySem.W.isClsIn K C_f=true)
  (yk:Qy K (.ref C_f) (.type "ValueError")=some true)
  (yl:Qy K (.ref C_f) (.ref C_a)=some false)
  (ql:Qy K (.ref C_f) (.ref C_b)=some false)
  (ym:Qy K (.ref C_f) (.ref C_c)=some false)
  (yn:Qy K (.ref C_f) (.ref C_d)=some false)
  (yo:Qy K (.ref C_f) (.ref C_e)=some false)
  (tu:Qy K (.ref C_f) (.ref C_f)=some true)
  (yp:Qy K (.ref C_f) (.ref C_g)=some false)
  (yq:Qy K (.ref C_f) (.ref C_h)=some false)
  (yr:Qy K (.ref C_f) (.ref C_i)=some false)
  (yt:mroIn K C_f (.ref C_j)=some true)
  (yu:Jh K (.ref C_b) "__getattribute__" = some (some (.builtin "BaseException.__getattribute__")))
  (yv:Jh K (.ref C_b) "__getattr__" = some none)
  (yw:Jh K (.ref C_b) "__class__" = some (some (.builtin "object.__class__")))
  (yx:mroIn K C_b (.type "object")=some true)
  (yy:mroIn K C_b (.type "BaseException")=some true)
  (ik:PySem.W.isClsIn K C_b=true)
  (yz:Qy K (.ref C_b) (.type "ValueError")=some true)
  (yA:Qy K (.ref C_b) (.ref C_a)=some false)
  (tw:Qy K (.ref C_b) (.ref C_b)=some true)
  (yB:Qy K (.ref C_b) (.ref C_c)=some false)
  (yC:Qy K (.ref C_b) (.ref C_d)=some false)
  (yD:Qy K (.ref C_b) (.ref C_e)=some false)
  (qo:Qy K (.ref C_b) (.ref C_f)=some false)
  (yE:Qy K (.ref C_b) (.ref C_g)=some false)
  (yF:Qy K (.ref C_b) (.ref C_h)=some false)
  (yG:Qy K (.ref C_b) (.ref C_i)=some false)
  (yH:mroIn K C_b (.ref C_j)=some true)
  : ∃ fd:WD,(∀ (s:W1) (v:Value),BindsTo s fd ⟨[v],[]⟩ [("script",v)])/\∀ base:Heap,K.In base->base.Ns Wr mg->eC l.prog w K mg base dm 6 fa fd ["script"] (j3 1 Gt):=by
 have e:=P5.symm.trans (mg_of X G xK)
 cases e;have jz:kc K C_f:=⟨yf,yg,yh,tj,tm,yi,yj⟩
 have jA:kc K C_b:=⟨yu,yv,yw,tj,tm,yx,yy⟩
 have T:Txt (vR [([70,108,111,111,114,69,114,114,111,114],C_j),([78,111,70,108,111,111,114],C_a),([78,111,80,108,97,99,101],C_b),([78,111,78,117,109,98,101,114],C_c),([78,111,82,111,119],C_d),([85,110,108,105,107,101],C_e),([78,111,84,105,108,101],C_f),([78,111,82,117,108,101],C_g),([78,111,84,101,120,116],C_h),([84,111,111,71,114,101,97,116],C_i)]) K mg:=⟨WO X G qb,WO X G qc,WO X G mF,WO X G nP,WO X G nQ,WO X G fA,WO X G lD,WO X G qd,WO X G iS,WO X G qe,WO X G qf,WO X G nR,Lb,La,Lc,mg_of X G xR,mg_of X G xS,mg_of X G s_,mg_of X G xT,mg_of X G xU,mg_of X G xV,mg_of X G tf,mg_of X G xW,mg_of X G xX,mg_of X G xY,yd,ye,⟨(cw jz jA),(cw ij ik),(cw yl yA)⟩,⟨(cw jz jA),(cw ij ik),(cw ql tw)⟩,⟨(cw jz jA),(cw ij ik),(cw ym yB)⟩,⟨(cw jz jA),(cw ij ik),(cw yn yC)⟩,⟨(cw jz jA),(cw ij ik),(cw yo yD)⟩,⟨(cw jz jA),(cw ij ik),(cw tu qo)⟩,⟨(cw jz jA),(cw ij ik),(cw yp yE)⟩,⟨(cw jz jA),(cw ij ik),(cw yq yF)⟩,⟨(cw jz jA),(cw ij ik),(cw yr yG)⟩,⟨(cw jz jA),(cw ij ik),(cw yk yz)⟩,(cw ⟨(by rw[show toS [78,111,84,105,108,101]=("NoTile" : Str) from by decide +kernel]; exact mg_of X G tf),yt⟩ ⟨(by rw[show toS [78,111,80,108,97,99,101]=("NoPlace" : Str) from by decide +kernel]; exact mg_of X G s_),yH⟩)⟩
 have P6:C_f≠C_b:=λq=>by rw[q] at ql; cases ql.symm.trans tw
 have P7:C_b≠C_f:=λq=>by rw[q] at qo; cases qo.symm.trans tu
 have P8:iR (vR [([70,108,111,111,114,69,114,114,111,114],C_j),([78,111,70,108,111,111,114],C_a),([78,111,80,108,97,99,101],C_b),([78,111,78,117,109,98,101,114],C_c),([78,111,82,111,119],C_d),([85,110,108,105,107,101],C_e),([78,111,84,105,108,101],C_f),([78,111,82,117,108,101],C_g),([78,111,84,101,120,116],C_h),([84,111,111,71,114,101,97,116],C_i)]):=by
  intro x hx y hy e;simp only[ys,Wo,JN,or_false] at hx hy;rcases hx with rfl | rfl <;> rcases hy with rfl | rfl <;> first | rfl | exact absurd e P6 | exact absurd e P7
 obtain⟨f0,fd0,F0,m0⟩:=e_ X G d0;obtain⟨f1,fd1,F1,m1⟩:=e_ X G d1;obtain⟨f2,fd2,F2,m2⟩:=e_ X G d2;obtain⟨f3,fd3,F3,m3⟩:=e_ X G d3;obtain⟨f4,fd4,F4,m4⟩:=e_ X G d4;obtain⟨f5,fd5,F5,m5⟩:=e_ X G d5;obtain⟨f6,fd6,F6,m6⟩:=e_ X G d6;obtain⟨f7,fd7,F7,m7⟩:=e_ X G d7;obtain⟨f8,fd8,F8,m8⟩:=e_ X G d8;obtain⟨f9,fd9,F9,m9⟩:=e_ X G d9;obtain⟨f10,fd10,F10,n4⟩:=e_ X G xC;obtain⟨f11,fd11,F11,qp⟩:=e_ X G xD;obtain⟨f12,fd12,F12,m12⟩:=e_ X G xE;obtain⟨f13,fd13,F13,m13⟩:=e_ X G xF;obtain⟨f14,fd14,F14,m14⟩:=e_ X G xG;obtain⟨f15,fd15,F15,m15⟩:=e_ X G xH;obtain⟨f16,fd16,F16,m16⟩:=e_ X G xI;obtain⟨f17,fd17,F17,m17⟩:=e_ X G xJ;have P9:=uu (st:=kn) xM xO xQ;have D1:=uu (st:=qa) xZ x4 x5;have P_:Binds K _ ["self","tile"] []:=lB D1 λ_ _ _ _ _ _ _ _=>rfl
 refine⟨Qs "law" "law" (jL kn) (fm kn) (bf kn) .none kV18 dc18 pm18 an18 cd18 ct18,λs v=>.of_eq rfl,λbase _ _=>?_⟩;have xb:vV l.prog w K mg base C_f ["tile"]:=⟨fi_f,_,["self","tile"],x6,x8,x9,(List.forall_mem_cons.mpr ⟨⟨x_,ya,yb,yc⟩,(λ_ h=>nomatch h)⟩),P_,M8 D1 OT rfl (λvs h=>by unfold L2.start; simp[h]) λaO A outer s H E hr=>y_ (M3 rfl (pv 0) (pv 1) rfl)⟩
 have xx:=Pg (P:=l.prog) (w:=w) (base:=base) F0 m0 (lB F0 λ_ _ _ _ _ _ _ _=>rfl) T;have xy:=Pj (P:=l.prog) (w:=w) (base:=base) F1 m1 (pS F1 λ_ _ _ _ _ _ _=>rfl) T;have sR:=Pk (P:=l.prog) (w:=w) (base:=base) F2 m2 (pS F2 λ_ _ _ _ _ _ _=>rfl) T;have dA:=Pl F3 m3 (lB F3 λ_ _ _ _ _ _ _ _=>rfl) T sR;have w8:=Pn F4 m4 (pS F4 λ_ _ _ _ _ _ _=>rfl) T dA;have w_:=Pq F5 m5 (CS F5 λ_ _ _ _ _ _ _ _ _ _=>rfl) T dA;have xA:=Pt F6 m6 (lB F6 λ_ _ _ _ _ _ _ _=>rfl) T dA w8 w_;have sZ:=Pu (P:=l.prog) (w:=w) (base:=base) F7 m7 (lB F7 λ_ _ _ _ _ _ _ _=>rfl) T;have xp:=Py F8 m8 (lB F8 λ_ _ _ _ _ _ _ _=>rfl) T xb;have sV:=Pz (P:=l.prog) (w:=w) (base:=base) F9 m9 (CQ F9 λ_ _ _ _ _ _ _ _ _=>rfl) T;have xj:=PF (P:=l.prog) (w:=w) (base:=base) F10 n4 (lB F10 λ_ _ _ _ _ _ _ _=>rfl) T;have sW:=PJ F11 qp (CQ F11 λ_ _ _ _ _ _ _ _ _=>rfl) T xj;have xq:=PN (P:=l.prog) (w:=w) (base:=base) F12 m12 (CS F12 λ_ _ _ _ _ _ _ _ _ _=>rfl) T;have xo:=PR (P:=l.prog) (w:=w) (base:=base) F13 m13 (pS F13 λ_ _ _ _ _ _ _=>rfl) T;have xr:=PX F14 m14 (lB F14 λ_ _ _ _ _ _ _ _=>rfl) T xo;have xt:=PZ F15 m15 (CU F15 λ_ _ _ _ _ _ _ _ _ _ _=>rfl) T xp sV sW xq xr;have xu:=P1 (P:=l.prog) (w:=w) (base:=base) F16 m16 (pS F16 λ_ _ _ _ _ _ _=>rfl) T;have lG:=P2 F17 m17 (CU F17 λ_ _ _ _ _ _ _ _ _ _ _=>rfl) T xt xu;exact P4 P9 T xx xy dA xA sZ lG (xB _ P8)
open PySem (sizeLine)
def gQ(bs:List (Nat×List Tx))(n:Nat):List Tx:=((bs.find? λb=>decide (b.1=n)).map (·.2)).getD []
theorem yI(h:n ∈ bs.map (·.1)):∃ b ∈ bs,b.1=n/\(bs.find? λb=>decide (b.1=n))=some b/\gQ bs n=b.2:=by
 cases e:bs.find? λb=>decide (b.1=n) with
 | none =>
  obtain⟨b,hb,rfl⟩:=Qt.mp h;have:=List.find?_eq_none.mp e b hb;simp at this
 | some b =>
  have h1:=List.mem_of_find?_eq_some e;have h2:=List.find?_some e;refine⟨b,h1,by simpa using h2,rfl,?_⟩;unfold gQ;rw[e];rfl
structure T5(bs:List (Nat×List Tx))(R C:Nat)(fl:List Tx):Prop where
 rows:fl.length=R
 cols:∀ r ∈ fl,r.length=C
 tl:∀ r ∈ fl,∀ n ∈ r,n ∈ bs.map (·.1)
abbrev HK:=Bool×Bool×Nat
abbrev HV:=List (HK×Nat)
def bL(k:HK):D:=.tup [.bl k.1,.bl k.2.1,.str [k.2.2]]
def hD(aa:HV):List (D×D):=aa.map λp=>(bL p.1,D.int (p.2:Nat))
def fB(aa:HV)(k:HK):Nat:=((aa.find? λp=>decide (p.1=k)).map (·.2)).getD 0
def mL(aa:HV)(k:HK)(m:Nat):HV:=if (aa.any λp=>decide (p.1=k))=true then aa.map λp=>if p.1=k then(p.1,fB aa k + m) else p else aa ++ [(k,m)]
theorem yJ(a b:HK):au (bL a) (bL b)=decide (a=b):=by
 obtain⟨a1,a2,a3⟩:=a;obtain⟨b1,b2,b3⟩:=b;unfold bL;simp only[au,dU];by_cases h1:a1=b1
 ·by_cases h2:a2=b2
  ·by_cases h3:a3=b3 <;> simp[h1,h2,h3]
  ·simp[h2]
 ·simp[h1]
theorem D2(aa:HV)(k:HK):jx (kj (bL k)) (hD aa) (bL k)=true:=by
 unfold jx kj hD bL;simp[ib,cm,gi]
theorem Q_(aa:HV)(k:HK):iP (hD aa) (bL k)=(aa.find? λp=>decide (p.1=k)).map λp=>D.int (p.2:Nat):=by
 unfold iP hD;rw[List.find?_map];have:((λq:D×D=>au q.1 (bL k)) ∘ λp:HK×Nat=>(bL p.1,D.int (p.2:Nat)))=λp=>decide (p.1=k):=by
  funext p
  exact yJ p.1 k
 rw[this,Option.map_map];rfl
theorem Ra(aa:HV)(k:HK):(iP (hD aa) (bL k)).getD (.int 0) = .int (fB aa k:Nat):=by
 rw[Q_];unfold fB
 cases aa.find? λp=>decide (p.1=k) <;> rfl
theorem Rb(aa:HV)(k:HK):((hD aa).any λq=>au q.1 (bL k))=aa.any λp=>decide (p.1=k):=by
 unfold hD;rw[List.any_map];congr 1
 funext p
 exact yJ p.1 k
theorem Rc{aa:HV}{k:HK}(h:(aa.any λp=>decide (p.1=k))=false):fB aa k=0:=by
 unfold fB;rw[List.find?_eq_none.mpr λp hp=>by
  have:=List.any_eq_false.mp h p hp;exact this]
 rfl
theorem Rf(aa:HV)(k:HK)(m:Nat):pX (hD aa) (bL k) (.int ((fB aa k:Nat) + (m:Nat):Int))=hD (mL aa k m):=by
 unfold pX mL;rw[Rb];split
 ·unfold hD;rw[WF,WF];refine QX λp hp=>?_
  simp only[Function.comp,yJ];by_cases h:p.1=k
  ·simp[h]
  ·simp[h]
 ·rename_i h;rw[Rc (Bool.eq_false_iff.mpr h)];unfold hD;simp
structure eh(ts:List Nat)(aa:HV):Prop where
 nd:(aa.map (·.1)).Nodup
 ts:∀ p ∈ aa,p.1.2.2 ∈ ts
theorem D3(aa:HV)(k:HK)(m:Nat):(mL aa k m).map (·.1)=if (aa.any λp=>decide (p.1=k))=true then aa.map (·.1) else aa.map (·.1) ++ [k]:=by
 unfold mL;split
 ·rw[WF];refine QX λp hp=>?_
  simp only[Function.comp];split <;> rfl
 ·simp
theorem Rg{ts:List Nat}{aa:HV}{k:HK}{m:Nat}(h:eh ts aa)(hk:k.2.2 ∈ ts):eh ts (mL aa k m):=by
 have hm:∀ q ∈ (mL aa k m).map (·.1),q.2.2 ∈ ts:=λq hq=>by
  rw[D3] at hq;split at hq
  ·obtain⟨p,hp,rfl⟩:=Qt.mp hq;exact h.ts p hp
  ·rcases Jn.mp hq with hq | hq
   ·obtain⟨p,hp,rfl⟩:=Qt.mp hq;exact h.ts p hp
   ·have:q=k:=by simpa using hq
    rw[this]; exact hk
 refine⟨?_,λp hp=>hm p.1 (Q0 hp)⟩;rw[D3];split
 ·exact h.nd
 ·rename_i q;refine List.nodup_append.mpr ⟨h.nd,by simp,λx hx y hy e=>q ?_⟩;have pO:y=k:=by simpa using hy
  obtain⟨p,hp,e2⟩:=Qt.mp hx;exact List.any_eq_true.mpr ⟨p,hp,decide_eq_true (by rw[e2,e,pO])⟩
theorem D4{α:Type}[DecidableEq α]:∀ {l ts:List α},l.Nodup->(∀ x ∈ l,x ∈ ts)->l.length<=ts.length
 | [],_,_,_=>Ql _
 | a :: r,ts,nd,h=>by
  obtain⟨n1,n2⟩:=Q4.mp nd;have ha:=h a Wj;have:=D4 (l:=r) (ts:=ts.erase a) n2 λx hx=>by
   have:x≠a:=λe=>n1 (by rw[<- e]; exact hx)
   exact(List.mem_erase_of_ne this).mpr (h x (Wd _ hx))
  rw[List.length_erase_of_mem ha] at this;have:=List.length_pos_of_mem ha;simp;omega
theorem eh.len{ts:List Nat}{aa:HV}(h:eh ts aa):aa.length<=4 * ts.length:=by
 have:=D4 h.nd (ts:=ts.flatMap λn=>[(true,true,n),(true,false,n),(false,true,n),(false,false,n)]) λq hq=>by
  obtain⟨p,hp,rfl⟩:=Qt.mp hq;have:=h.ts p hp;rw[List.mem_flatMap];refine⟨p.1.2.2,this,?_⟩;obtain⟨⟨a,b,c⟩,m⟩:=p
  cases a <;> cases b <;> simp
 rw[Wz] at this;have e:∀ l:List Nat,(l.flatMap λn=>[((true,true,n):HK),(true,false,n),(false,true,n),(false,false,n)]).length=4 * l.length:=λl=>by
  induction l with
  | nil=>rfl
  | cons a r ih=>rw[List.flatMap_cons,Qi,ih]; simp; omega
 rw[e] at this;exact this
def mM(dn rt:Nat)(key:HK)(m i j n:Nat)(acc:HV):HV:=if ((key.1 || decide (i<=dn)) && (key.2.1 || decide (j<=rt)))=true then mL acc (key.1 || decide (i < dn),key.2.1 || decide (j < rt),n) m else acc
def qq(dn rt:Nat)(key:HK)(m i:Nat):Nat->Tx->HV->HV
 | _,[],acc=>acc
 | j,n :: r,acc=>qq dn rt key m i (j + 1) r (mM dn rt key m i j n acc)
def qr(dn rt:Nat)(key:HK)(m:Nat):Nat->List Tx->HV->HV
 | _,[],acc=>acc
 | i,row :: r,acc=>qr dn rt key m (i + 1) r (qq dn rt key m i 0 row acc)
def iW(bs:List (Nat×List Tx))(dn rt:Nat):HV->HV->HV
 | [],acc=>acc
 | p :: r,acc=>iW bs dn rt r (qr dn rt p.1 p.2 0 (gQ bs p.1.2.2) acc)
theorem D5{ts:List Nat}{dn rt:Nat}{key:HK}{m i j n:Nat}{acc:HV}(h:eh ts acc)(hn:n ∈ ts):eh ts (mM dn rt key m i j n acc):=by
 unfold mM;split
 ·exact Rg h hn
 ·exact h
theorem yK{ts:List Nat}{dn rt:Nat}{key:HK}{m i:Nat}:∀ {j:Nat} {row:Tx} {acc:HV},eh ts acc->(∀ n ∈ row,n ∈ ts)->eh ts (qq dn rt key m i j row acc)
 | _,[],_,h,_=>h
 | j,n :: r,acc,h,q=>by
  unfold qq;exact yK (D5 h (q n Wj)) λx hx=>q x (Wd _ hx)
theorem yL{ts:List Nat}{dn rt:Nat}{key:HK}{m:Nat}:∀ {i:Nat} {B:List Tx} {acc:HV},eh ts acc->(∀ row ∈ B,∀ n ∈ row,n ∈ ts)->eh ts (qr dn rt key m i B acc)
 | _,[],_,h,_=>h
 | i,row :: r,acc,h,q=>by
  unfold qr;exact yL (yK h (q row Wj)) λx hx=>q x (Wd _ hx)
theorem D6(R:dG h w bs)(hn:n ∈ bs.map (·.1)):(gQ bs n).length=h/\∀ row ∈ gQ bs n,row.length=w/\∀ x ∈ row,x ∈ bs.map (·.1):=by
 obtain⟨b,hb,_,_,e⟩:=yI hn;rw[e];exact R.gQ b hb
theorem D7{h w dn rt:Nat}{bs:List (Nat×List Tx)}(R:dG h w bs):∀ {l acc:HV},(∀ p ∈ l,p.1.2.2 ∈ bs.map (·.1))->eh (bs.map (·.1)) acc->eh (bs.map (·.1)) (iW bs dn rt l acc)
 | [],_,_,h=>h
 | p :: r,acc,q,h=>by
  unfold iW;exact D7 R (λx hx=>q x (Wd _ hx)) (yL h λrow hr n hn=>((D6 R (q p Wj)).2 row hr).2 n hn)
def dM(bs:List (Nat×List Tx))(h w g R C:Nat)(t:Nat):Nat->HV
 | 0=>[((decide (R=h ^ g),decide (C=w ^ g),t),1)]
 | k + 1=>iW bs (R / h ^ (g - (k + 1)) % h) (C / w ^ (g - (k + 1)) % w) (dM bs h w g R C t k) []
theorem yM{h w g R C t:Nat}{bs:List (Nat×List Tx)}(Ru:dG h w bs)(ht:t ∈ bs.map (·.1)):∀ k,eh (bs.map (·.1)) (dM bs h w g R C t k)
 | 0=>⟨by simp[dM],λp hp=>by simp[dM] at hp; rw[hp]; exact ht⟩
 | k + 1=>D7 Ru (yM Ru ht k).ts ⟨by simp,λp hp=>by simp at hp⟩
theorem n5(f:DE)(δ:Dl):fw f δ=(f δ).bind λr δ1=>match r.d with
 | .lst ds=>.ok ds δ1
 | .tup ds=>.ok ds δ1
 | .str x=>.ok (x.map λn=>.str [n]) δ1
 | _=>.stuck:=id rfl
theorem T6(neg:Bool)(fa f g:DE)(δ:Dl):Ls neg fa f g δ=(fa δ).bind λv δ1=>(f δ1).bind λlo δ2=>(g δ2).bind λhi δ3=>match v.d,lo.d,hi.d with
 | .int i,.int l,.int h=>.ok (.pure (.bl (if neg then !(decide (l<=i) && decide (i < h)) else(decide (l<=i) && decide (i < h))))) δ3
 | _,_,_=>.stuck:=id rfl
theorem yN(f F:A->D)(p:A->Bool)(δ:Dl):∀ (as:List A) (acc:List D),acc.length + as.length<=Wb ->
  (∀ a ∈ as,∃ δ1 δ2 x δ3,g (.pure (f a)) δ=some δ1/\t δ1 = .ok (p a) δ2/\bG cs δ2=δ/\el δ2 = .ok x δ3/\bG cs δ3=δ/\x.d=F a)->dg cs g t el (as.map f) δ acc = .ok (acc ++ (as.filter p).map F) δ
 | [],acc,_,_=>by simp[dg]
 | a :: r,acc,hl,hs=>by
  obtain⟨δ1,δ2,x,δ3,e1,e2,e2',e3,e4,e5⟩:=hs a Wj;have gC:acc.length < Wb:=by simp at hl; omega
  rw[Wk];unfold dg;rw[e1]
  cases hp:p a with
  | true =>
   have ih:=yN (cs:=cs) (g:=g) (t:=t) (el:=el) f F p δ r (acc ++ [x.d]) (by simp at hl ⊢; omega) (λa ha=>hs a (Wd _ ha));rw[e5] at ih;rw[hp] at e2;simp only[e2,ju,if_true,e3,if_pos gC,e4,e5,ih,List.filter_cons,hp];simp
  | false =>
   have ih:=yN (cs:=cs) (g:=g) (t:=t) (el:=el) f F p δ r acc (by simp at hl ⊢; omega) (λa ha=>hs a (Wd _ ha));rw[hp] at e2;simp only[e2,ju,e2',ih,List.filter_cons,hp];simp
def nx(s:Int):Int:=(((s + 7919) % 2147483647) * ((s + 7919) % 2147483647) + 48271 * ((s + 7919) % 2147483647) + 12345) % 2147483629
theorem Rh(s:Int):mI [.pure (.int s)]=some (.pure (.int (nx s)),[.pure (.int s)]):=by
 unfold mI b9 wW fL;have h1:=Int.emod_nonneg (s + 7919) (b:=2147483647) (by decide);have h2:=Int.emod_lt_of_pos (s + 7919) (b:=2147483647) (by decide);have c1:jg ((s + 7919) % 2147483647) ((s + 7919) % 2147483647)=true:=by unfold jg; simp; omega
 have c2:jg 48271 ((s + 7919) % 2147483647)=true:=by unfold jg; simp
 simp[bR,bc,az,ag,bq,aq,bp,dI,eL,dX,oG,c1,c2,cf,bA];rfl
def cU(d:D):Prop:=∃ l f s:Int,d = .lst [.int l,.int f,.int s]/\0<=l
theorem tE(hp:cU d)(m:Nat)(h0:0 < m)(h1:m < 10000000000000):∃ (r:Nat) (d':D),cE [.own d,.pure (.int m)]=some (.pure (.int r),[.own d',.pure (.int m)])/\r < m/\cU d':=by
 obtain⟨l,f,s,rfl,hl⟩:=hp;have hm:(0:Int) < (m:Int):=by omega
 have hB:(10000000000000:Int)<=j_:=by decide +kernel
 have hd:=Cn l m hm (by omega);unfold cE b9 wX fL;by_cases hf:f=1
 ·subst hf;have e1:=Int.emod_nonneg l (b:=(m:Int)) (by omega);have e2:=Int.emod_lt_of_pos l hm;refine⟨(l % (m:Int)).toNat,.lst [.int (l / m),.int 1,.int s],?_,by omega,⟨_,_,_,rfl,Int.ediv_nonneg hl (by omega)⟩⟩;simp[bR,bc,az,ag,bq,aq,ae,ay,cK,au,flat,nN,sH,sG,aS,dI,jU,eL,h0,hd,l_,nC,iJ,putL,cf,bA,eF];omega
 ·have e1:=Int.emod_nonneg (nx (nx s + 7) / 64) (b:=(m:Int)) (by omega);have e2:=Int.emod_lt_of_pos (nx (nx s + 7) / 64) hm;refine⟨(nx (nx s + 7) / 64 % (m:Int)).toNat,.lst [.int l,.int f,.int (nx (nx s + 7))],?_,by omega,⟨_,_,_,rfl,hl⟩⟩;simp[bR,bc,az,ag,bq,aq,ae,ay,cK,au,flat,nN,sH,sG,aS,dI,jU,eL,h0,hd,l_,nC,iJ,putL,cf,bA,eF,hf,ax,a_,bT,bC,bx,bj,Rh,bp,aP,l_];omega
theorem Ri(c:Int):∃ d,mH [.pure (.int c)]=some (.own d,[.pure (.int c)])/\cU d:=by
 unfold mH b9 wV fL;refine⟨.lst [.int (if 0 - c > c then 0 - c else c),.int (if decide (1000000000000000000<=(if 0 - c > c then 0 - c else c)) then 1 else 0),.int ((if 0 - c > c then 0 - c else c) % 1000003)],?_,⟨_,_,_,rfl,by split <;> omega⟩⟩;simp[bR,bc,az,ag,bq,aq,ae,uV,ni,eL,nt,A7,gI,nj,oH,dI,cf,bA]
theorem Rj(ns:List Int):∃ c:Int,mG [.pure (.lst (ns.map .int)),.pure (.int 0)]=some (.pure (.int c),[.pure (.lst (ns.map .int)),.pure (.int 0)]):=by
 unfold mG b9 wU fL
 cases ns with
 | nil=>exact⟨0,by simp[bR,bc,ag,bq,aq,jh,gI,aS,eN,cf,bA]⟩
 | cons n r=>exact⟨n,by
   have:(0:Int) < (r.length:Int) + 1:=by omega
   simp[bR,bc,ag,bq,aq,jh,gI,aS,eN,cf,bA,ay,nN,this]⟩
theorem gU(hp:cU d)(m:Nat)(i:Int)(hi:i=m)(h0:0 < m)(h1:m < 10000000000000):∃ (r:Nat) (d':D),cE [.own d,.pure (.int i)]=some (.pure (.int r),[.own d',.pure (.int i)])/\r < m/\cU d':=by
 subst hi;exact tE hp m h0 h1
def lH:Tx:=[97,98,99,100,101,102,103,104,105,106,107,108,109,110,111,112,113,114,115,116,117,118,119,120,121,122]
theorem Rk(hp:cU d):∃ (h w:Nat) (d':D),nS [.own d]=some (.pure (.tup [.int h,.int w]),[.own d'])/\0 < h/\h<=4/\0 < w/\w<=4/\2 < h + w/\cU d':=by
 obtain⟨r1,d1,e1,l1,p1⟩:=gU hp 3 3 rfl (by decide) (by decide);obtain⟨r2,d2,e2,l2,p2⟩:=gU p1 3 3 rfl (by decide) (by decide);obtain⟨r3,d3,e3,l3,p3⟩:=gU p2 8 8 rfl (by decide) (by decide);obtain⟨r4,d4,e4,l4,p4⟩:=gU p3 6 6 rfl (by decide) (by decide);unfold nS b9 wY fL;by_cases h3:r3=0
 ·subst h3;have:r4=0\/r4=1\/r4=2\/r4=3\/r4=4\/r4=5:=by omega
  rcases this with rfl | rfl | rfl | rfl | rfl | rfl
  ·exact⟨4,1,d4,by simp[bR,bc,az,ax,a_,bC,bT,bx,bj,e1,e2,e3,e4,aP,bp,cK,au,flat,aS,ay,cH,eF,cL,bH,c7,ag,bq,aq,ae,cf,bA],by decide,by decide,by decide,by decide,by decide,p4⟩
  ·exact⟨1,4,d4,by simp[bR,bc,az,ax,a_,bC,bT,bx,bj,e1,e2,e3,e4,aP,bp,cK,au,flat,aS,ay,cH,eF,cL,bH,c7,ag,bq,aq,ae,cf,bA],by decide,by decide,by decide,by decide,by decide,p4⟩
  ·exact⟨4,4,d4,by simp[bR,bc,az,ax,a_,bC,bT,bx,bj,e1,e2,e3,e4,aP,bp,cK,au,flat,aS,ay,cH,eF,cL,bH,c7,ag,bq,aq,ae,cf,bA],by decide,by decide,by decide,by decide,by decide,p4⟩
  ·exact⟨4,3,d4,by simp[bR,bc,az,ax,a_,bC,bT,bx,bj,e1,e2,e3,e4,aP,bp,cK,au,flat,aS,ay,cH,eF,cL,bH,c7,ag,bq,aq,ae,cf,bA],by decide,by decide,by decide,by decide,by decide,p4⟩
  ·exact⟨1,2,d4,by simp[bR,bc,az,ax,a_,bC,bT,bx,bj,e1,e2,e3,e4,aP,bp,cK,au,flat,aS,ay,cH,eF,cL,bH,c7,ag,bq,aq,ae,cf,bA],by decide,by decide,by decide,by decide,by decide,p4⟩
  ·exact⟨2,1,d4,by simp[bR,bc,az,ax,a_,bC,bT,bx,bj,e1,e2,e3,e4,aP,bp,cK,au,flat,aS,ay,cH,eF,cL,bH,c7,ag,bq,aq,ae,cf,bA],by decide,by decide,by decide,by decide,by decide,p4⟩
 ·by_cases hs:r1=0/\r2=0
  ·obtain⟨rfl,rfl⟩:=hs;refine⟨1,2,d3,?_,by decide,by decide,by decide,by decide,by decide,p3⟩;simp[bR,bc,az,ax,a_,bC,bT,bx,bj,e1,e2,e3,aP,bp,cK,au,flat,aS,h3,ag,bq,aq,ae,cf,bA]
  ·have hn:¬ (1 + (r1:Int) + (1 + (r2:Int))=2):=by omega
   refine⟨1 + r1,1 + r2,d3,?_,by omega,by omega,by omega,by omega,by omega,p3⟩;simp[bR,bc,az,ax,a_,bC,bT,bx,bj,e1,e2,e3,aP,bp,cK,au,flat,aS,h3,hn,ag,bq,aq,ae,cf,bA]
theorem D8(ts:List Nat)(r:Nat)(h:r < ts.length):ay (.lst (ts.map λn=>.str [n])) (.int r)=some (.pure (.str [ts.getD r 0])):=by
 simp[ay,jv,h]
theorem Rl(hp:cU d)(ts:List Nat)(place way:Nat)(h1:place < ts.length)(h2:ts.length<=64):∃ (n:Nat) (d':D),
  ic [.own d,.pure (.lst (ts.map λn=>.str [n])),.pure (.int place),.pure (.int way)]=some (.pure (.str [n]),[.own d',.pure (.lst (ts.map λn=>.str [n])),.pure (.int place),.pure (.int way)])/\n ∈ ts/\cU d':=by
 have mem:∀ r,r < ts.length->ts.getD r 0 ∈ ts:=λr h=>by simp[h]
 unfold ic b9 wZ fL;by_cases w1:way=1
 ·subst w1;obtain⟨r,d1,e1,l1,p1⟩:=gU hp (place + 1) ((place:Int) + 1) (by omega) (by omega) (by omega);refine⟨ts.getD r 0,d1,?_,mem r (by omega),p1⟩;simp[bR,bc,ag,bq,aq,cK,au,flat,aS,ax,a_,bC,bT,bx,bp,bj,e1,aP,ay,jv,cf,bA,show r < ts.length by omega]
 ·by_cases w2:way=2
  ·subst w2;have hr:(place + 1) % ts.length < ts.length:=Nat.mod_lt _ (by omega);refine⟨ts.getD ((place + 1) % ts.length) 0,d,?_,mem _ hr,hp⟩;have hm:dI (.int ((place:Int) + 1)) (.int ts.length)=some (.pure (.int (((place + 1) % ts.length:Nat):Int))):=by
    simp only[dI,eL];rw[if_pos (by simp; omega)];simp
   simp[bR,bc,ag,bq,aq,cK,au,flat,aS,bp,eN,hm,cf,bA];have hx:=D8 ts ((place + 1) % ts.length) hr;simp at hx;simp[hx]
  ·by_cases w3:way=3
   ·subst w3;obtain⟨r,d1,e1,l1,p1⟩:=gU hp 4 4 rfl (by decide) (by decide);by_cases hr:0 < r
    ·refine⟨ts.getD place 0,d1,?_,mem place h1,p1⟩;simp[bR,bc,ag,bq,aq,cK,au,flat,aS,ax,a_,bC,bT,bx,bj,e1,aP,rM,gI,hr,ay,jv,h1,cf,bA]
    ·obtain⟨r',d2,e2,l2,p2⟩:=tE p1 ts.length (by omega) (by omega);refine⟨ts.getD r' 0,d2,?_,mem r' l2,p2⟩;simp[bR,bc,ag,bq,aq,cK,au,flat,aS,ax,a_,bC,bT,bx,bj,e1,aP,rM,gI,hr,eN,e2,ay,jv,l2,cf,bA]
   ·obtain⟨r',d2,e2,l2,p2⟩:=tE hp ts.length (by omega) (by omega);refine⟨ts.getD r' 0,d2,?_,mem r' l2,p2⟩;have c1:¬ (way:Int)=1:=by omega
    have c2:¬ (way:Int)=2:=by omega
    have c3:¬ (way:Int)=3:=by omega
    simp[bR,bc,ag,bq,aq,cK,au,flat,aS,ax,a_,bC,bT,bx,bj,aP,c1,c2,c3,eN,e2,ay,jv,l2,cf,bA]
theorem Rm:∀ k,k < 26->lH.getD k 0=97 + k:=by decide
theorem Rn(xs:List Nat)(h:xs.length < 64):nu (.lst (xs.map λn=>.str [n]))=some (.own (.lst ((gP xs).map λn=>.str [n]))):=by
 have e:(xs.map λn=>D.str [n])=(xs.map λn=>[n]).map D.str:=by simp
 unfold nu;simp only[e,C1];rw[if_pos (by simpa using h),C6];simp
def iX(f n:Nat):List Nat:=(Q1 n).map λk=>97 + (f + 5 * k) % 26
theorem Ro(f n:Nat)(hn:n<=26):(iX f n).Nodup:=by
 unfold iX;rw[QK,Jd];refine(List.pairwise_lt_range (n:=n)).imp_of_mem ?_;intro a b ha hb mZ e;simp at ha hb;omega
def rb(pd:D)(m h w n f:Nat)(s7:S)(wy:Nat)(blocks:List D)(a b c:Option S):Dl :=
 [some (.own pd),some (.pure (.int m)),some (.pure (.int h)),some (.pure (.int w)),some (.pure (.int (1 + (n:Int)))),some (.pure (.int f)),some (.pure (.str lH)),some s7,some (.pure (.int wy)),some (.own (.lst blocks)),a,b,c,none,none]
def tD(ts:List Nat):D:=.lst (ts.map λn=>.str [n])
def sT(ts:List Nat)(s:S):Prop:=s = .own (tD ts)\/s = .pure (tD ts)
theorem Rp(dZ:ts.length<=64)(hw:w<=4)(iY:cU pd)(h7:sT ts s7)(blocks:List D)(place:Nat)(bM:place < ts.length)(block:List D)(row:Nat) :
  ∃ (x:Tx) (f_:D) (gb:S),dg [14] (ak [0] 14) gr (ax ic [.io 0,.val (ae 7),.val (ae 10),.val (ae 8)]) (bS 0 w) (rb pd m h w n f s7 wy blocks (some (.pure (.int place))) (some (.own (.lst block))) (some (.pure (.int row)))) []
   = .ok (x.map λn=>.str [n]) (rb f_ m h w n f gb wy blocks (some (.pure (.int place))) (some (.own (.lst block))) (some (.pure (.int row))))/\x.length=w/\(∀ n ∈ x,n ∈ ts)/\cU f_/\sT ts gb:=by
 obtain⟨xs,δ',e,⟨f_,gb,hpd',h7',rfl⟩,hn,hf⟩:=vY (cs:=[14]) (g:=ak [0] 14) (t:=gr) (el:=ax ic [.io 0,.val (ae 7),.val (ae 10),.val (ae 8)]) (λδ=>∃ pd s7,cU pd/\sT ts s7/\δ=rb pd m h w n f s7 wy blocks (some (.pure (.int place))) (some (.own (.lst block))) (some (.pure (.int row))))
  (λ_ x=>∃ n,n ∈ ts/\x = .str [n]) (bS 0 w) _ [] ⟨pd,s7,iY,h7,rfl⟩ (by rw[gO]; simp; omega) (λd hd δ ⟨pd,s7,iY,h7,e⟩=>by
   subst e;obtain⟨i,hi,rfl⟩:=C3 hd;obtain⟨k,d',e,hk,p⟩:=Rl iY ts place wy bM dZ;have e':ic [.own pd,.pure (tD ts),.pure (.int place),.pure (.int wy)]=some (.pure (.str [k]),[.own d',.pure (tD ts),.pure (.int place),.pure (.int wy)]):=e;refine⟨_,_,.pure (.str [k]),(rb d' m h w n f (.pure (tD ts)) wy blocks (some (.pure (.int place))) (some (.own (.lst block))) (some (.pure (.int row)))).set 14 (some (.pure (.int i))),rfl,rfl,?_,⟨d',_,p,.inr rfl,rfl⟩,⟨_,hk,rfl⟩⟩;rcases h7 with rfl | rfl
   ·simp[rb,ax,a_,bC,bT,bx,ae,bj,e',aP]
   ·simp[rb,ax,a_,bC,bT,bx,ae,bj,e',aP])
 obtain⟨x,rfl,hx⟩:=Dc (P:=λn=>n ∈ ts) (NQ hn hf λd x _ h=>h);exact⟨x,f_,gb,by simpa using e,by simpa using hn,hx,hpd',h7'⟩
theorem Rq(dZ:ts.length<=64)(hw:w<=4)(hh:h<=4)(iY:cU pd)(h7:sT ts s7)(blocks:List D)(place:Nat)(bM:place < ts.length)(rs:Option S) :
  ∃ (fl:List Tx) (f_:D) (gb:S) (qt:Option S),forL (ak [0] 12) (fW 11 (bO (jY []) (aj (gq [14] (ft (ae 3)) (ak [0] 14) gr (ax ic [.io 0,.val (ae 7),.val (ae 10),.val (ae 8)]))))) (bS 0 h) (rb pd m h w n f s7 wy blocks (some (.pure (.int place))) (some (.own (.lst []))) rs)
   = .ok .next (rb f_ m h w n f gb wy blocks (some (.pure (.int place))) (some (.own (.lst (fl.map .str)))) qt)/\fl.length=h/\(∀ r ∈ fl,r.length=w/\∀ n ∈ r,n ∈ ts)/\cU f_/\sT ts gb:=by
 obtain⟨δ',e3,f_,gb,fl,qt,hpd',h7',iC,hall,rfl⟩:=sI (g:=ak [0] 12) (b:=fW 11 (bO (jY []) (aj (gq [14] (ft (ae 3)) (ak [0] 14) gr (ax ic [.io 0,.val (ae 7),.val (ae 10),.val (ae 8)]))))) (λk δ=>∃ (pd:D) (s7:S) (fl:List Tx) (rs:Option S),cU pd/\sT ts s7/\fl.length=k/\(∀ r ∈ fl,r.length=w/\∀ n ∈ r,n ∈ ts)/\δ=rb pd m h w n f s7 wy blocks (some (.pure (.int place))) (some (.own (.lst (fl.map .str)))) rs)
  (bS 0 h) 0 _ ⟨pd,s7,[],rs,iY,h7,rfl,by simp,rfl⟩ (λi d δ hd ⟨pd,s7,fl,rs,iY,h7,iC,hall,e⟩=>by
   subst e;obtain⟨hi,rfl⟩:=vZ hd;obtain⟨x,f_,gb,e,hx,hxt,hpd',h7'⟩:=Rp (m:=m) (h:=h) (n:=n) (f:=f) (wy:=wy) dZ hw iY h7 blocks place bM (fl.map .str) i;have hz:fl.length < Wb:=by rw[gO]; omega
   have ej:=NM x (by omega);refine⟨_,rb f_ m h w n f gb wy blocks (some (.pure (.int place))) (some (.own (.lst ((fl ++ [x]).map .str)))) (some (.pure (.int i))),rfl,?_,⟨f_,gb,fl ++ [x],_,hpd',h7',by simp[iC],?_,rfl⟩⟩
   ·unfold rb at e ⊢;simp[fW,iJ,ae,nO w (by omega),bT,bG];rw[e];simp[ej,dJ,putL,hz]
   ·intro r hr;rcases Jn.mp hr with hr | hr
    ·exact hall r hr
    ·simp at hr; subst hr; exact⟨hx,hxt⟩)
 exact⟨fl,f_,gb,qt,e3,by simpa using iC,hall,hpd',h7'⟩
theorem Rr(hp:cU d)(m:Nat)(Rt:0 < m)(T7:m<=26):∃ (h w:Nat) (bs:List (Nat×List Tx)) (d':D),
  lE [.own d,.pure (.int m)]=some (.pure (aI h w bs),[.own d',.pure (.int m)])/\dG h w bs/\bs.length<=m/\cU d':=by
 obtain⟨h,w,d1,e1,h0,h1,w0,w1,hw,p1⟩:=Rk hp;obtain⟨r,d2,e2,l2,p2⟩:=tE p1 m Rt (by omega);obtain⟨f,d3,e3,l3,p3⟩:=gU p2 26 26 rfl (by decide) (by decide);obtain⟨wy,d4,e4,l4,p4⟩:=gU p3 5 5 rfl (by decide) (by decide);-- the tiles
 have ec:=NI (cs:=[13]) (g:=ak [0] 13) (t:=gr) (el:=ag ay 6 (aj (bb dI (ag bp 5 (aj (bb dX (eD (.int 5)) (aq 13)))) (aj (eD (.int 26)))))) (λd=>match d with | .int k=>.str [97 + (f + 5 * k.toNat) % 26] | _=>.aw)
  [some (.own d3),some (.pure (.int m)),some (.pure (.int h)),some (.pure (.int w)),some (.pure (.int (1 + (r:Int)))),some (.pure (.int f)),some (.pure (.str lH)),none,none,none,none,none,none,none,none] (bS 0 (1 + r)) [] (by rw[gO]; simp; omega) (λd hd=>by
   obtain⟨i,hi,rfl⟩:=C3 hd;refine⟨_,_,.pure (.str [97 + (f + 5 * i) % 26]),[some (.own d3),some (.pure (.int m)),some (.pure (.int h)),some (.pure (.int w)),some (.pure (.int (1 + (r:Int)))),some (.pure (.int f)),some (.pure (.str lH)),none,none,none,none,none,none,some (.pure (.int i)),none],rfl,rfl,?_,rfl,rfl⟩;have hk:(f + 5 * i) % 26 < 26:=Nat.mod_lt _ (by decide);have hx:=NN lH ((f + 5 * i) % 26) hk (by decide);rw[Rm _ hk] at hx;have hc:((f:Int) + 5 * (i:Int)) % 26=(((f + 5 * i) % 26:Nat):Int):=by omega
   have hmul:dX (.int 5) (.int i)=some (.pure (.int (5 * (i:Int)))):=by
    unfold dX oG eL;have:jg 5 i=true:=by unfold jg; simp
    simp only[this,if_true]
   have Rv:dI (.int ((f:Int) + 5 * (i:Int))) (.int 26)=some (.pure (.int (((f + 5 * i) % 26:Nat):Int))):=by
    rw[<- hc]; rfl
   generalize lH=lt at hx ⊢;simp only[ag,bq,aq,NF,NG,ND,ju,NH,List.set_cons_succ,List.set_cons_zero,List.getElem?_cons_succ,List.getElem?_cons_zero,NC,hmul,bp,Rv,hx])
 have Rw:List.map (λ(d:D)=>match d with | .int k=>D.str [97 + (f + 5 * k.toNat) % 26] | _=>.aw) (bS 0 (1 + r))=(iX f (1 + r)).map λn=>.str [n]:=by
  simp[bS,iX]
 rw[Rw] at ec;simp only[J9] at ec;have D9:(iX f (1 + r)).length=1 + r:=by simp[iX]
 have es:=Rn (iX f (1 + r)) (by rw[D9]; omega);have dZ:(gP (iX f (1 + r))).length=1 + r:=by rw[C8,D9]
 have aY:=C_ (Ro f (1 + r) (by omega));have hle:∀ t ∈ gP (iX f (1 + r)),97<=t/\t<=122:=λt ht=>by
  rw[v5] at ht;simp[iX] at ht;obtain⟨k,_,rfl⟩:=ht;omega
 generalize gP (iX f (1 + r))=ts at es dZ aY hle;-- the blocks
 obtain⟨δ',e5,pd,s7,bs,a,b,c,iY,h7,hbl,hbt,hall,rfl⟩:=sI (g:=ak [0] 10) (b:=(aN (az (fq cD) (ak [0] 11)) (aN (dz (ft (ae 2)) (ak [0] 12) (fW 11 (bO (jY []) (aj (gq [14] (ft (ae 3)) (ak [0] 14) gr (ax ic [.io 0,.val (ae 7),.val (ae 10),.val (ae 8)])))))) (fW 9 (fS (aG (ag ay 7 (aq 10)) (aG (bO iF (aq 11)) cD)))))))
  (λk δ=>∃ (pd:D) (s7:S) (bs:List (Nat×List Tx)) (a b c:Option S),cU pd/\sT ts s7/\bs.length=k/\bs.map (·.1)=ts.take k/\(∀ b ∈ bs,b.2.length=h/\∀ r ∈ b.2,r.length=w/\∀ n ∈ r,n ∈ ts)/\δ=rb pd m h w r f s7 wy (bs.map d_) a b c)
  (bS 0 (1 + r)) 0 (rb d4 m h w r f (.own (tD ts)) wy [] none none none) ⟨d4,_,[],none,none,none,p4,.inl rfl,rfl,rfl,by simp,rfl⟩ (λi d δ hd ⟨pd,s7,bs,a,b,c,iY,h7,hbl,hbt,hall,e⟩=>by
   subst e;obtain⟨hi,rfl⟩:=vZ hd;rw[Jw] at hbl hbt;obtain⟨fl,f_,gb,qt,e,iC,hflt,hpd',h7'⟩:=Rq (m:=m) (n:=r) (f:=f) (wy:=wy) (ts:=ts) (by omega) w1 h1 iY h7 (bs.map d_) i (by omega) c;have hz:bs.length < Wb:=by rw[gO]; omega
   have hx:=D8 ts i (by omega);refine⟨_,rb f_ m h w r f gb wy ((bs ++ [(ts.getD i 0,fl)]).map d_) (some (.pure (.int i))) (some (.own (.lst (fl.map .str)))) qt,rfl,?_,⟨f_,gb,bs ++ [(ts.getD i 0,fl)],_,_,_,hpd',h7',by simp[hbl],?_,?_,rfl⟩⟩
   ·unfold rb at e ⊢;simp[az,ae,nO h (by omega)];rw[e];rcases h7' with rfl | rfl
    ·simp[fW,iJ,ag,bq,aq,tD,hx,iF,putL,hz,d_]
    ·simp[fW,iJ,ag,bq,aq,tD,hx,iF,putL,hz,d_]
   ·rw[Jw,Jr,hbt,List.take_add_one];simp[show i < ts.length by omega]
   ·intro b hb;rcases Jn.mp hb with hb | hb
    ·exact hall b hb
    ·simp at hb; subst hb; exact⟨iC,hflt⟩)
 have T8:bs.length=1 + r:=by simpa using hbl
 have yO:bs.map (·.1)=ts:=by
  rw[hbt,List.take_of_length_le];simp[dZ]
 refine⟨h,w,bs,pd,?_,⟨h0,h1,w0,w1,hw,by omega,by omega,by rw[yO]; exact aY,λb hb=>hle _ (by rw[<- yO]; exact Q0 hb),λb hb=>by rw[yO]; exact hall b hb⟩,by omega,iY⟩;unfold lE b9 w6 fL;unfold lH at ec;simp[bR,bc,az,ax,a_,bC,bT,bx,bj,e1,aP,cL,bH,c7,ae,e2,bp,e3,Dd r (by omega),bG];rw[ec];simp[dJ,es,e4,aP,ae,Dd r (by omega)];unfold rb lH tD at e5;rw[e5];simp[aq,iF,cf,bA,ae]
theorem le_int(i j:Int):kY (.int i) (.int j)=some (.pure (.bl (decide (i<=j)))):=rfl
theorem gt_int(i j:Int):rM (.int i) (.int j)=some (.pure (.bl (decide (j < i)))):=rfl
theorem Rx(i j:Int):cK (.int i) (.int j)=some (.pure (.bl (i == j))):=rfl
theorem add_int(i j:Int):bp (.int i) (.int j)=some (.pure (.int (i + j))):=rfl
theorem iZ(h w:Nat)(bs:List (Nat×List Tx)):ay (aI h w bs) (.int 0)=some (.pure (.int h))/\ay (aI h w bs) (.int 1)=some (.pure (.int w))/\ay (aI h w bs) (.int 2)=some (.pure (.tup (bs.map d_))):=by
 refine⟨?_,?_,?_⟩
 ·simp[ay,nN]
 ·simp[ay,sH]
 ·simp[ay,sG]
theorem mO(np:List Nat)(n:Nat)(b:DS)(ss:List S):b9 np n b ss=if bR np 0 ss then(match b (bc n ss) with
 | .ok fl δ=>(cf fl).bind λr=>(bA 0 ss δ).map λaB=>(r,aB)
 | _=>none) else none:=rfl
def cn(bs:List (Nat×List Tx)):D:=.ba (bs.map λb=>(Sum.inr [b.1],fO b.2))
theorem yP:∀ (kps acc:List (bI×D)),((acc ++ kps).map (·.1)).Nodup->mr kps acc=acc ++ kps
 | [],acc,_=>by simp[mr]
 | p :: r,acc,h=>by
  have hn:(acc.any λkv=>decide (kv.1=p.1))=false:=by
   rw[List.any_eq_false];intro kv hkv;simp only[decide_eq_true_eq];intro e;rw[Jr,List.nodup_append] at h;exact h.2.2 kv.1 (Q0 hkv) p.1 (Q0 Wj) e
  have hp:putD acc p.1 p.2=acc ++ [p]:=by
   unfold putD;rw[hn];simp
  show mr r (putD acc p.1 p.2)=_;rw[hp,yP r (acc ++ [p]) (by simpa using h)];simp
theorem D_:∀ bs:List (Nat×List Tx),hV (bs.map d_)=some (bs.map λb=>(Sum.inr [b.1],fO b.2))
 | []=>rfl
 | b :: r=>by
  have:=D_ r;simp only[Wk];simp[hV,dY,this]
theorem yQ(R:dG h w bs):gN (.tup (bs.map d_))=some (.own (cn bs)):=by
 unfold gN;simp only[D_,WA,Wz];have hz:Wb=16777216:=rfl;rw[if_pos (by have:=R.n1; omega),yP]
 ·rfl
 ·simp only[J9,WF];rw[QK,Jd];have:=R.up;rw[Jd] at this;exact this.imp λ{a b} mZ=>by simp; omega
theorem Ea(bs:List (Nat×List Tx))(n:Nat):dh (bs.map λb=>((Sum.inr [b.1]:bI),fO b.2)) (.inr [n])=(bs.find? λb=>decide (b.1=n)).map λb=>fO b.2:=by
 unfold dh;rw[List.find?_map];simp[Function.comp_def]
theorem Ry(h:n ∈ bs.map (·.1)):pA (cn bs) (.str [n])=some (.pure (fO (gQ bs n))):=by
 obtain⟨b,hb,_,e,e2⟩:=yI h;show((dY (.str [n])).bind λk=>(dh (bs.map λb=>((Sum.inr [b.1]:bI),fO b.2)) k).map S.pure)=_;simp only[dY,WA,Ea,e,WJ,e2]
theorem Rz(h:n ∈ bs.map (·.1)):j8 true (.str [n]) (cn bs)=some (.pure (.bl false)):=by
 obtain⟨b,hb,_,e,e2⟩:=yI h;show((dY (.str [n])).map λk=>S.pure (.bl (if true then !(dh (bs.map λb=>((Sum.inr [b.1]:bI),fO b.2)) k).isSome else(dh (bs.map λb=>((Sum.inr [b.1]:bI),fO b.2)) k).isSome)))=_;simp only[dY,WJ,Ea,e,WJ];rfl
theorem mul_int(i j:Int)(h0:0<=j)(h1:j<=1000):dX (.int i) (.int j)=some (.pure (.int (i * j))):=by
 unfold dX oG eL;have:jg i j=true:=by unfold jg; simp; omega
 simp only[this,if_true]
theorem yR(e:b (bc n [.pure x,.pure y]) = .ok (.ret v) δ1):b9 [] n b [.pure x,.pure y]=some (v,[.pure x,.pure y]):=by
 rw[mO,e]; rfl
theorem Eb(e:b (bc n [.pure x,.pure y,.pure z]) = .ok (.ret v) δ1):b9 [] n b [.pure x,.pure y,.pure z]=some (v,[.pure x,.pure y,.pure z]):=by
 rw[mO,e]; rfl
theorem Ec(e:b (bc n [.pure x]) = .ok (.ret v) δ1):b9 [] n b [.pure x]=some (v,[.pure x]):=by
 rw[mO,e]; rfl
theorem cx(h:a δ = .ok .next δ1):aN a b δ=b δ1:=by unfold aN; rw[h]; rfl
theorem RA(h:a δ = .ok (.ret v) δ1):aN a b δ = .ok (.ret v) δ1:=by unfold aN; rw[h]; rfl
theorem jB(h:it δ = .ok ds δ1):dz it g b δ=forL g b ds δ1:=by unfold dz; rw[h]; rfl
theorem RB(ds:List D):eN (.tup ds)=some (.pure (.int ds.length)):=rfl
theorem tF(np:List Nat)(n:Nat)(b:DS)(ss:List S):jr np n b ss=if bR np 0 ss then(match b (bc n ss) with
 | .ok fl δ=>(cf fl).bind λr=>(bA 0 ss δ).map λaB=>.inl (r,aB)
 | .exc x δ=>(bA 0 ss δ).map λaB=>.inr (x,aB)
 | .stuck=>none) else none:=rfl
@[simp] theorem T9 {α β:Type} (x:Xc) (δ:Dl) (f:α->Dl->Rs β):(Rs.exc x δ:Rs α).bind f = .exc x δ:=id rfl
theorem Ed(h:a δ = .exc v δ1):aN a b δ = .exc v δ1:=by unfold aN; rw[h]; rfl
theorem yS(k t:Nat):bS (k:Int) (t + 1) = .int (k:Int) :: bS ((k + 1:Nat):Int) t:=by
 unfold bS;rw[List.range_succ_eq_map,Wk,WF];simp only[Function.comp_def,List.cons.injEq,D.int.injEq];refine⟨by simp,QX λi _=>?_⟩;simp only[D.int.injEq];push_cast;omega
theorem kr(h1:g (.pure d) δ=some δ1)(h2:b δ1 = .ok .next δ2):forL g b (d :: r) δ=forL g b r δ2:=by
 conv=>lhs; unfold forL
 rw[h1];simp only[h2,ju]
abbrev xN(d:D):Xc:=⟨[78,111,84,105,108,101],.xd [([116,105,108,101],d)]⟩
theorem RC(e:b (bc n [.pure x,.pure y]) = .ok .next δ1):jr [] n b [.pure x,.pure y]=some (.inl (.pure .aw,[.pure x,.pure y])):=by
 rw[tF,e]; rfl
theorem Ee(e:b (bc n [.pure x,.pure y]) = .exc v δ1):jr [] n b [.pure x,.pure y]=some (.inr (v,[.pure x,.pure y])):=by
 rw[tF,e]; rfl
def qu (bs:List (Nat×List Tx)) (d:D):Prop:=cj "str" d=some false\/∃ z,d = .str z/\∀ n ∈ bs.map (·.1),z≠[n]
theorem RE(h:∀ n ∈ bs.map (·.1),z≠[n]):j8 true (.str z) (cn bs)=some (.pure (.bl true)):=by
 have hv:dh (bs.map λb=>((Sum.inr [b.1]:bI),fO b.2)) (.inr z)=none:=by
  unfold dh;have:(bs.map λb=>((Sum.inr [b.1]:bI),fO b.2)).find? (λkv=>decide (kv.1 = .inr z))=none:=List.find?_eq_none.mpr λkv hk e=>by
   obtain⟨b,hb,rfl⟩:=Qt.mp hk;simp at e;exact h b.1 (Q0 hb) e.symm
  rw[this];rfl
 show((dY (.str z)).map λk=>S.pure (.bl (if true then !(dh (bs.map λb=>((Sum.inr [b.1]:bI),fO b.2)) k).isSome else(dh (bs.map λb=>((Sum.inr [b.1]:bI),fO b.2)) k).isSome)))=_;simp[dY,hv]
theorem RF(R:dG h w bs)(ht:t0 ∈ bs.map (·.1)):ko [.pure (aI h w bs),.pure (.str [t0])]=some (.inl (.pure .aw,[.pure (aI h w bs),.pure (.str [t0])])):=by
 have x2:=(iZ h w bs).2.2;have hd:=yQ R;have hi:=Rz ht;rw[ko,sU];generalize aI h w bs=ru at *;generalize D.tup (bs.map d_)=bd at *;generalize cn bs=dd at *;refine RC (δ1:=[some (.pure ru),some (.pure (.str [t0]))]) ?_;simp[bc,aS,jX,cj,aq,ae,ag,bq,x2,hd,hi]
theorem RG(R:dG h w bs)(hb:qu bs d):ko [.pure (aI h w bs),.pure d]=some (.inr (xN d,[.pure (aI h w bs),.pure d])):=by
 have x2:=(iZ h w bs).2.2;have hd:=yQ R;rw[ko,sU];rcases hb with hb | ⟨z,rfl,hz⟩
 ·generalize aI h w bs=ru at *;refine Ee (δ1:=[some (.pure ru),some (.pure d)]) ?_;simp[bc,aS,jX,hb,aq,ae,nM]
 ·have hi:=RE hz;generalize aI h w bs=ru at *;generalize D.tup (bs.map d_)=bd at *;generalize cn bs=dd at *;refine Ee (δ1:=[some (.pure ru),some (.pure (.str z))]) ?_;simp[bc,aS,jX,cj,aq,ae,ag,bq,x2,hd,hi,nM]
theorem RH{h w:Nat}{bs:List (Nat×List Tx)}(R:dG h w bs):mK [.pure (aI h w bs)]=some (.own (tD (bs.map (·.1))),[.pure (aI h w bs)]):=by
 have n1:=R.n1;have x2:=(iZ h w bs).2.2;have c:=v7 (cs:=[1,2]) (g:=cL 2 (bH (ak [] 1) (bH (ak [] 2) c7))) (t:=gr) (el:=ae 1) d_ (λb=>D.str [b.1]) [some (.pure (aI h w bs)),none,none] bs [] (by rw[gO]; simp; omega) (λb hb=>⟨[some (.pure (aI h w bs)),some (.pure (.str [b.1])),some (.pure (fO b.2))],_,.pure (.str [b.1]),[some (.pure (aI h w bs)),some (.pure (.str [b.1])),some (.pure (fO b.2))],rfl,rfl,by simp[ae],rfl,rfl⟩);have et:tD (bs.map (·.1)) = .lst (bs.map λb=>D.str [b.1]):=by unfold tD; rw[WF]; rfl
 rw[mK,xl,et];generalize aI h w bs=ru at *;generalize hB:bs.map d_=B at *;generalize (bs.map λb=>D.str [b.1])=Y at *;refine Ec (δ1:=[some (.pure ru),none,none]) ?_;have i:fw (ag ay 0 (aj (eD (.int 2)))) [some (.pure ru),none,none] = .ok B [some (.pure ru),none,none]:=by
  simp[n5,ag,bq,aq,x2]
 simp only[bc];simp[i,bT,bG];rw[c];simp[dJ]
abbrev cW(bd hd:D)(dn rt:Nat)(acc:HV)(o5 o6 o7 o8 o9 aR aQ dO dP cC:Option D):Dl :=
 [some (.pure bd),some (.pure hd),some (.pure (.int (dn:Nat))),some (.pure (.int (rt:Nat))),some (.own (.dic (hD acc))),o5.map .pure,o6.map .pure,o7.map .pure,o8.map .pure,o9.map .pure,aR.map .pure,aQ.map .pure,dO.map .pure,dP.map .pure,cC.map .pure]
abbrev cI:DT:=(jR (fR (aS (ae 7)) (aS (ag kY 10 (aq 2)))) (fR (aS (ae 8)) (aS (ag kY 12 (aq 3)))))
abbrev cP:DE:=(fS (aG (l9 (ae 7) (ag jh 10 (aq 2))) (aG (l9 (ae 8) (ag jh 12 (aq 3))) (aG (ae 13) cD))))
abbrev cS:DS:=(pY 4 (ae 14) (bb bp (p_ 4 (ae 14) (eD (.int 0))) (aq 6)))
abbrev cB:DS:=(df cI (aN (az cP (ak [] 14)) cS) dw)
theorem Ef(i j:Nat):kY (.int (i:Nat)) (.int (j:Nat))=some (.pure (.bl (decide (i<=j)))):=by
 rw[le_int];congr 3
 rw[JQ];simp
theorem Eg(i j:Nat):jh (.int (i:Nat)) (.int (j:Nat))=some (.pure (.bl (decide (i < j)))):=by
 have:jh (.int (i:Nat)) (.int (j:Nat))=some (.pure (.bl (decide ((i:Int) < (j:Int))))):=rfl;rw[this];congr 3
 rw[JQ];simp
theorem RI(bd hd:D)(dn rt:Nat)(acc:HV)(ts:List Nat)(dZ:ts.length<=26)(ha:eh ts acc)(kd:D)(ar ac:Bool)(td:D)(m i j n:Nat)(sd:D)(cC:Option D) :
  ∃ o14',cB (cW bd hd dn rt acc (some kd) (some (.int (m:Nat))) (some (.bl ar)) (some (.bl ac)) (some td) (some (.int (i:Nat))) (some sd) (some (.int (j:Nat))) (some (.str [n])) cC) =
   .ok .next (cW bd hd dn rt (mM dn rt (ar,ac,0) m i j n acc) (some kd) (some (.int (m:Nat))) (some (.bl ar)) (some (.bl ac)) (some td) (some (.int (i:Nat))) (some sd) (some (.int (j:Nat))) (some (.str [n])) o14'):=by
 have l1:=Ef i dn;have l2:=Ef j rt;have l3:=Eg i dn;have l4:=Eg j rt;have hl:=ha.len;have hz:(hD acc).length < Wb:=by unfold hD; rw[Wz,gO]; omega
 generalize vS:D.int (m:Nat)=mD at *;generalize hN2:D.int (i:Nat)=iD at *;generalize hN3:D.int (j:Nat)=jD at *;generalize hN4:D.int (dn:Nat)=dD at *;generalize hN5:D.int (rt:Nat)=rD at *;have tI:cI (cW bd hd dn rt acc (some kd) (some mD) (some (.bl ar)) (some (.bl ac)) (some td) (some iD) (some sd) (some jD) (some (.str [n])) cC) = .ok ((ar || decide (i<=dn)) && (ac || decide (j<=rt))) (cW bd hd dn rt acc (some kd) (some mD) (some (.bl ar)) (some (.bl ac)) (some td) (some iD) (some sd) (some jD) (some (.str [n])) cC):=by
  unfold cW cI;rw[hN4,hN5];generalize decide (i<=dn)=b1 at *;generalize decide (j<=rt)=b2 at *
  cases ar <;> cases ac <;> cases b1 <;> simp[aS,ae,aq,ag,bq,l1,l2]
 have tP:cP (cW bd hd dn rt acc (some kd) (some mD) (some (.bl ar)) (some (.bl ac)) (some td) (some iD) (some sd) (some jD) (some (.str [n])) cC) = .ok (.pure (bL (ar || decide (i < dn),ac || decide (j < rt),n))) (cW bd hd dn rt acc (some kd) (some mD) (some (.bl ar)) (some (.bl ac)) (some td) (some iD) (some sd) (some jD) (some (.str [n])) cC):=by
  unfold cW cP bL;rw[hN4,hN5];generalize decide (i < dn)=b1 at *;generalize decide (j < rt)=b2 at *
  cases ar <;> cases ac <;> simp[l9,ae,aq,ag,bq,l3,l4]
 unfold mM;by_cases hc:((ar || decide (i<=dn)) && (ac || decide (j<=rt)))=true
 ·rw[if_pos hc];rw[hc] at tI;refine⟨some (bL (ar || decide (i < dn),ac || decide (j < rt),n)),?_⟩;generalize (ar || decide (i < dn),ac || decide (j < rt),n)=K at *;have g:=D2 acc K;have v:=Ra acc K;have p:=Rf acc K m;have ad:bp (.int (fB acc K:Nat)) mD=some (.pure (.int ((fB acc K:Nat) + (m:Nat):Int))):=by rw[<- vS]; rfl
  rw[cB];show((cI _).bind _)=_;rw[tI];simp only[ju,if_true];rw[cx (δ1:=cW bd hd dn rt acc (some kd) (some mD) (some (.bl ar)) (some (.bl ac)) (some td) (some iD) (some sd) (some jD) (some (.str [n])) (some (bL K))) (by
   unfold az;rw[tP];simp)]
  unfold cW;rw[<- p];clear tI tP p;generalize ((fB acc K:Nat) + (m:Nat):Int)=sm at *;generalize hD acc=ds at *;generalize bL K=kk at *;generalize D.int (fB acc K:Nat)=gg at *;simp[cS,pY,p_,sQ,sO,ae,aq,S.d,g,v,ad,hz]
 ·rw[if_neg hc];rw[Bool.eq_false_iff.mpr hc] at tI;refine⟨cC,?_⟩;rw[cB];show((cI _).bind _)=_;rw[tI];simp
def lI(k:Nat)(ds:List D):List D:=ds.mapIdx λi d=>D.tup [.int ((i + k:Nat):Int),d]
theorem Eh(ds:List D):jm ds=lI 0 ds:=rfl
theorem Ei(k:Nat)(d:D)(r:List D):lI k (d :: r) = .tup [.int (k:Nat),d] :: lI (k + 1) r:=by
 unfold lI;rw[List.mapIdx_cons];congr 1
 ·rw[Jw]
 ·congr 1
  funext i d
  rw[show i + 1 + k=i + (k + 1) by omega]
abbrev gB:DG:=(cL 2 (bH (ak [] 12) (bH (ak [] 13) c7)))
theorem Ej(bd hd:D)(dn rt:Nat)(ts:List Nat)(dZ:ts.length<=26)(kd:D)(ar ac:Bool)(td:D)(m i t:Nat)(sd:D):∀ (row:Tx) (j:Nat) (acc:HV) (dO dP cC:Option D),eh ts acc->(∀ n ∈ row,n ∈ ts) ->
  ∃ o12' o13' o14',forL gB cB (lI j (row.map λn=>D.str [n])) (cW bd hd dn rt acc (some kd) (some (.int (m:Nat))) (some (.bl ar)) (some (.bl ac)) (some td) (some (.int (i:Nat))) (some sd) dO dP cC) =
   .ok .next (cW bd hd dn rt (qq dn rt (ar,ac,t) m i j row acc) (some kd) (some (.int (m:Nat))) (some (.bl ar)) (some (.bl ac)) (some td) (some (.int (i:Nat))) (some sd) o12' o13' o14')
 | [],j,acc,dO,dP,cC,_,_=>⟨dO,dP,cC,rfl⟩
 | n :: r,j,acc,dO,dP,cC,ha,hr=>by
  obtain⟨q14,e1⟩:=RI bd hd dn rt acc ts dZ ha kd ar ac td m i j n sd cC;have ec:mM dn rt (ar,ac,0) m i j n acc=mM dn rt (ar,ac,t) m i j n acc:=rfl;rw[ec] at e1;obtain⟨p12,p13,p14,e2⟩:=Ej bd hd dn rt ts dZ kd ar ac td m i t sd r (j + 1) _ (some (.int (j:Nat))) (some (.str [n])) q14 (D5 (dn:=dn) (rt:=rt) (key:=(ar,ac,t)) (m:=m) (i:=i) (j:=j) ha (hr n Wj)) λx hx=>hr x (Wd _ hx)
  refine⟨p12,p13,p14,?_⟩;rw[Wk,Ei,kr (δ1:=cW bd hd dn rt acc (some kd) (some (.int (m:Nat))) (some (.bl ar)) (some (.bl ac)) (some td) (some (.int (i:Nat))) (some sd) (some (.int (j:Nat))) (some (.str [n])) cC) rfl e1];exact e2
abbrev gA:DG:=(cL 2 (bH (ak [] 10) (bH (ak [] 11) c7)))
abbrev rB:DS:=(dz (pR (ae 11)) gB cB)
theorem Ek(bd hd:D)(dn rt:Nat)(ts:List Nat)(dZ:ts.length<=26)(kd:D)(ar ac:Bool)(td:D)(m t:Nat):∀ (B:List Tx) (i:Nat) (acc:HV) (aR aQ dO dP cC:Option D),eh ts acc->(∀ row ∈ B,∀ n ∈ row,n ∈ ts) ->
  ∃ o10' o11' o12' o13' o14',forL gA rB (lI i (B.map .str)) (cW bd hd dn rt acc (some kd) (some (.int (m:Nat))) (some (.bl ar)) (some (.bl ac)) (some td) aR aQ dO dP cC) =
   .ok .next (cW bd hd dn rt (qr dn rt (ar,ac,t) m i B acc) (some kd) (some (.int (m:Nat))) (some (.bl ar)) (some (.bl ac)) (some td) o10' o11' o12' o13' o14')
 | [],i,acc,aR,aQ,dO,dP,cC,_,_=>⟨aR,aQ,dO,dP,cC,rfl⟩
 | row :: r,i,acc,aR,aQ,dO,dP,cC,ha,hr=>by
  obtain⟨er,q13,q14,e1⟩:=Ej bd hd dn rt ts dZ kd ar ac td m i t (.str row) row 0 acc dO dP cC ha (hr row Wj);obtain⟨p10,p11,p12,p13,p14,e2⟩:=Ek bd hd dn rt ts dZ kd ar ac td m t r (i + 1) _ (some (.int (i:Nat))) (some (.str row)) er q13 q14 (yK (dn:=dn) (rt:=rt) (key:=(ar,ac,t)) (m:=m) (i:=i) (j:=0) ha (hr row Wj)) λx hx=>hr x (Wd _ hx)
  refine⟨p10,p11,p12,p13,p14,?_⟩;rw[Wk,Ei,kr (δ1:=cW bd hd dn rt acc (some kd) (some (.int (m:Nat))) (some (.bl ar)) (some (.bl ac)) (some td) (some (.int (i:Nat))) (some (.str row)) dO dP cC) rfl]
  ·exact e2
  ·refine(jB (ds:=lI 0 (row.map λn=>D.str [n])) ?_).trans e1;rw[<- Eh];simp[pR,ae,S.d]
abbrev kB:DS:=(aN (az (ae 5) (cL 3 (bH (ak [] 7) (bH (ak [] 8) (bH (ak [] 9) c7))))) (dz (pE (ag pA 0 (aq 9))) gA rB))
abbrev gK:DG:=(cL 2 (bH (ak [] 5) (bH (ak [] 6) c7)))
theorem El{h w:Nat}{bs:List (Nat×List Tx)}(R:dG h w bs)(hd:D)(dn rt:Nat):∀ (aa acc:HV) (o5 o6 o7 o8 o9 aR aQ dO dP cC:Option D),(∀ p ∈ aa,p.1.2.2 ∈ bs.map (·.1))->eh (bs.map (·.1)) acc ->
  ∃ o5' o6' o7' o8' o9' o10' o11' o12' o13' o14',forL gK kB (iQ (hD aa)) (cW (cn bs) hd dn rt acc o5 o6 o7 o8 o9 aR aQ dO dP cC) =
   .ok .next (cW (cn bs) hd dn rt (iW bs dn rt aa acc) o5' o6' o7' o8' o9' o10' o11' o12' o13' o14')
 | [],acc,o5,o6,o7,o8,o9,aR,aQ,dO,dP,cC,_,_=>⟨o5,o6,o7,o8,o9,aR,aQ,dO,dP,cC,rfl⟩
 | ((ar,ac,t),m) :: r,acc,o5,o6,o7,o8,o9,aR,aQ,dO,dP,cC,hk,ha=>by
  have n1:=R.n1;have ht:t ∈ bs.map (·.1):=hk _ Wj;have Em:=λrow hr n hn=>((D6 R ht).2 row hr).2 n hn
  obtain⟨ku,mP,er,q13,q14,e1⟩:=Ek (cn bs) hd dn rt (bs.map (·.1)) (by simpa using n1) (bL (ar,ac,t)) ar ac (.str [t]) m t (gQ bs t) 0 acc aR aQ dO dP cC ha Em;obtain⟨p5,p6,p7,p8,p9,p10,p11,p12,p13,p14,e2⟩:=El R hd dn rt r _ (some (bL (ar,ac,t))) (some (.int (m:Nat))) (some (.bl ar)) (some (.bl ac)) (some (.str [t])) ku mP er q13 q14 (λp hp=>hk p (Wd _ hp)) (yL (dn:=dn) (rt:=rt) (key:=(ar,ac,t)) (m:=m) (i:=0) ha Em);refine⟨p5,p6,p7,p8,p9,p10,p11,p12,p13,p14,?_⟩;have ei:iQ (hD (((ar,ac,t),m) :: r)) = .tup [bL (ar,ac,t),.int (m:Nat)] :: iQ (hD r):=rfl;rw[ei,kr (δ1:=cW (cn bs) hd dn rt acc (some (bL (ar,ac,t))) (some (.int (m:Nat))) o7 o8 o9 aR aQ dO dP cC) rfl]
  ·exact e2
  ·have x:=Ry ht;rw[kB,cx (δ1:=cW (cn bs) hd dn rt acc (some (bL (ar,ac,t))) (some (.int (m:Nat))) (some (.bl ar)) (some (.bl ac)) (some (.str [t])) aR aQ dO dP cC) (by
    unfold bL;simp[az,ae,cL,bH,c7,S.d])]
   refine(jB (ds:=lI 0 ((gQ bs t).map .str)) ?_).trans e1;rw[<- Eh];have ef:fO (gQ bs t) = .tup ((gQ bs t).map .str):=rfl;rw[ef] at x;generalize (gQ bs t).map D.str=BS at *;generalize cn bs=DD at *;simp[pE,ae,aq,ag,bq,x,S.d]
theorem RJ{b:DS}{n:Nat}{x y z u:D}{v:S}{δ1:Dl}(e:b (bc n [.pure x,.pure y,.pure z,.pure u]) = .ok (.ret v) δ1):b9 [] n b [.pure x,.pure y,.pure z,.pure u]=some (v,[.pure x,.pure y,.pure z,.pure u]):=by
 rw[mO,e]; rfl
theorem RK{h w:Nat}{bs:List (Nat×List Tx)}(R:dG h w bs)(aa:HV)(hk:∀ p ∈ aa,p.1.2.2 ∈ bs.map (·.1))(dn rt:Nat) :
  mJ [.pure (cn bs),.pure (.dic (hD aa)),.pure (.int (dn:Nat)),.pure (.int (rt:Nat))]=some (.own (.dic (hD (iW bs dn rt aa []))),[.pure (cn bs),.pure (.dic (hD aa)),.pure (.int (dn:Nat)),.pure (.int (rt:Nat))]):=by
 obtain⟨p5,p6,p7,p8,p9,p10,p11,p12,p13,p14,e⟩:=El R (.dic (hD aa)) dn rt aa [] none none none none none none none none none none hk ⟨by simp,λp hp=>by simp at hp⟩;rw[mJ,xk];generalize iW bs dn rt aa []=RS at *;generalize cn bs=DD at *;have i:km (ae 1) (cW DD (.dic (hD aa)) dn rt [] none none none none none none none none none none) = .ok (iQ (hD aa)) (cW DD (.dic (hD aa)) dn rt [] none none none none none none none none none none):=by
  generalize hD aa=HH at *;simp[km,ae,S.d]
 generalize iQ (hD aa)=IT at *;generalize D.dic (hD aa)=HH at *;refine RJ (δ1:=(cW DD HH dn rt RS p5 p6 p7 p8 p9 p10 p11 p12 p13 p14).set 4 none) ?_;rw[cx (δ1:=cW DD HH dn rt [] none none none none none none none none none none) (by
  simp[bc,az,wm,cW,hD])]
 rw[cx ((jB i).trans e)];unfold cW;generalize hD RS=RD at *;simp[so]
theorem En(a b:Nat)(h:b<=1000):dX (.int (a:Nat)) (.int (b:Nat))=some (.pure (.int ((a * b:Nat):Int))):=by
 rw[mul_int _ _ (by omega) (by omega)];rw[Int.natCast_mul]
theorem Eo(h:Nat)(hh:h<=1000)(o2:Option S):∀ (n k a:Nat) (o3:Option S),∃ o3',forL (ak [] 3) (az (ag dX 0 (aq 1)) (ak [] 0)) (bS (k:Nat) n) [some (.pure (.int (a:Nat))),some (.pure (.int (h:Nat))),o2,o3] = .ok .next [some (.pure (.int ((a * h ^ n:Nat):Int))),some (.pure (.int (h:Nat))),o2,o3']
 | 0,k,a,o3=>⟨o3,by simp[bS]⟩
 | n + 1,k,a,o3=>by
  have m:=En a h hh;obtain⟨o3',ih⟩:=Eo h hh o2 n (k + 1) (a * h) (some (.pure (.int (k:Nat))));refine⟨o3',?_⟩;rw[yS,kr (δ1:=[some (.pure (.int (a:Nat))),some (.pure (.int (h:Nat))),o2,some (.pure (.int (k:Nat)))]) (δ2:=[some (.pure (.int ((a * h:Nat):Int))),some (.pure (.int (h:Nat))),o2,some (.pure (.int (k:Nat)))]) rfl (by
   generalize D.int (a:Nat)=A at *;generalize D.int (h:Nat)=B at *;generalize ((a * h:Nat):Int)=C at *;simp[az,ag,bq,aq,m]),ih]
  rw[JA,JR (h ^ n) h,Nat.mul_assoc]
theorem Ep(h g:Nat)(hh:h<=1000)(hg:g<=1000):iU [.pure (.int 1),.pure (.int (h:Nat)),.pure (.int (g:Nat))]=some (.pure (.int ((h ^ g:Nat):Int)),[.pure (.int 1),.pure (.int (h:Nat)),.pure (.int (g:Nat))]):=by
 obtain⟨o3,e⟩:=Eo h hh (some (.pure (.int (g:Nat)))) g 0 1 none;rw[Nat.one_mul] at e;have e':forL (ak [] 3) (az (ag dX 0 (aq 1)) (ak [] 0)) (bS 0 g) [some (.pure (.int 1)),some (.pure (.int (h:Nat))),some (.pure (.int (g:Nat))),none] = .ok .next [some (.pure (.int ((h ^ g:Nat):Int))),some (.pure (.int (h:Nat))),some (.pure (.int (g:Nat))),o3]:=e;rw[iU,xf];have i:ft (ae 2) [some (.pure (.int 1)),some (.pure (.int (h:Nat))),some (.pure (.int (g:Nat))),none] = .ok (bS 0 g) [some (.pure (.int 1)),some (.pure (.int (h:Nat))),some (.pure (.int (g:Nat))),none]:=by
  have:=nO g (by omega);simp[ae,this]
 generalize ((h ^ g:Nat):Int)=P at *;refine Eb (δ1:=[some (.pure (.int P)),some (.pure (.int (h:Nat))),some (.pure (.int (g:Nat))),o3]) ?_;refine(cx ((jB i).trans e')).trans ?_;simp[ae]
theorem Er(h:Nat)(hh:h<=1000)(o1:Option S):∀ (n k a:Nat) (o3:Option S),∃ o3',forL (ak [] 3) (az (ag dX 2 (aq 0)) (ak [] 2)) (bS (k:Nat) n) [some (.pure (.int (h:Nat))),o1,some (.pure (.int (a:Nat))),o3] = .ok .next [some (.pure (.int (h:Nat))),o1,some (.pure (.int ((a * h ^ n:Nat):Int))),o3']
 | 0,k,a,o3=>⟨o3,by simp[bS]⟩
 | n + 1,k,a,o3=>by
  have m:=En a h hh;obtain⟨o3',ih⟩:=Er h hh o1 n (k + 1) (a * h) (some (.pure (.int (k:Nat))));refine⟨o3',?_⟩;rw[yS,kr (δ1:=[some (.pure (.int (h:Nat))),o1,some (.pure (.int (a:Nat))),some (.pure (.int (k:Nat)))]) (δ2:=[some (.pure (.int (h:Nat))),o1,some (.pure (.int ((a * h:Nat):Int))),some (.pure (.int (k:Nat)))]) rfl (by
   generalize D.int (a:Nat)=A at *;generalize D.int (h:Nat)=B at *;generalize ((a * h:Nat):Int)=C at *;simp[az,ag,bq,aq,m]),ih]
  rw[JA,JR (h ^ n) h,Nat.mul_assoc]
theorem Es(h g:Nat)(hh:h<=1000)(hg:g<=1000):iT [.pure (.int (h:Nat)),.pure (.int (g:Nat))]=some (.pure (.int ((h ^ g:Nat):Int)),[.pure (.int (h:Nat)),.pure (.int (g:Nat))]):=by
 obtain⟨o3,e⟩:=Er h hh (some (.pure (.int (g:Nat)))) g 0 1 none;rw[Nat.one_mul] at e;have e':forL (ak [] 3) (az (ag dX 2 (aq 0)) (ak [] 2)) (bS 0 g) [some (.pure (.int (h:Nat))),some (.pure (.int (g:Nat))),some (.pure (.int 1)),none] = .ok .next [some (.pure (.int (h:Nat))),some (.pure (.int (g:Nat))),some (.pure (.int ((h ^ g:Nat):Int))),o3]:=e;rw[iT,xa];have i:ft (ae 1) [some (.pure (.int (h:Nat))),some (.pure (.int (g:Nat))),some (.pure (.int 1)),none] = .ok (bS 0 g) [some (.pure (.int (h:Nat))),some (.pure (.int (g:Nat))),some (.pure (.int 1)),none]:=by
  have:=nO g (by omega);simp[ae,this]
 generalize ((h ^ g:Nat):Int)=P at *;refine yR (δ1:=[some (.pure (.int (h:Nat))),some (.pure (.int (g:Nat))),some (.pure (.int P)),o3]) ?_;rw[cx (δ1:=[some (.pure (.int (h:Nat))),some (.pure (.int (g:Nat))),some (.pure (.int 1)),none]) (by simp[bc,az])];rw[cx ((jB i).trans e')];simp[ae]
def gc(d:D)(M:Nat):Bool:=match d with
 | .int i=>decide (0<=i) && decide (i<=(M:Int))
 | _=>false
theorem tG (d:D) (M:Nat) (hd:cj "int" d≠none):kq [.pure d,.pure (.int 0),.pure (.int (M:Nat))]=some (.pure (.bl (gc d M)),[.pure d,.pure (.int 0),.pure (.int (M:Nat))]):=by
 have f:nW [.pure d,.pure (.int 0)]=some (.pure (.bl (match d with | .int i=>decide (0<=i) | _=>false)),[.pure d,.pure (.int 0)]):=by
  rw[nW,xh];refine yR (δ1:=[some (.pure d),some (.pure (.int 0))]) ?_
  cases d <;> first | (exact absurd rfl hd) | simp[bc,jT,rK,jX,cj,aq,ag,bq,le_int,S.d]
 rw[kq,xi];refine Eb (δ1:=[some (.pure d),some (.pure (.int 0)),some (.pure (.int (M:Nat)))]) ?_
 cases d with
 | int i =>
  have l:=le_int i (M:Nat);simp only at f;generalize D.int (M:Nat)=MM at *;have ew:gc (.int i) M=(decide (0<=i) && decide (i<=(M:Int))):=rfl;rw[ew];by_cases h0:0<=i
  ·rw[decide_eq_true h0] at f ⊢;simp[bc,jT,ax,a_,bC,bx,ae,bj,f,aP,ag,bq,aq,l,S.d]
  ·rw[decide_eq_false h0] at f ⊢;simp[bc,jT,ax,a_,bC,bx,ae,bj,f,aP,S.d]
 | _ =>
  first
   | exact absurd rfl hd
   | (simp only at f; unfold gc; simp[bc,jT,ax,a_,bC,bx,ae,bj,f,aP,S.d])
abbrev fc(ru tt:D)(g R C tl br:Nat)(b7:S)(hv:HV)(o9:Option S):Dl :=
 [some (.pure ru),some (.pure tt),some (.pure (.int (g:Nat))),some (.pure (.int (R:Nat))),some (.pure (.int (C:Nat))),some (.pure (.int (tl:Nat))),some (.pure (.int (br:Nat))),some b7,some (.own (.dic (hD hv))),o9,none,none]
abbrev vB:DS:=(aN (az (ag jU 5 (aj (ag ay 0 (aj (eD (.int 0)))))) (ak [] 5)) (aN (az (ag jU 6 (aj (ag ay 0 (aj (eD (.int 1)))))) (ak [] 6)) (az (ax mJ [.val (ae 7),.val (ae 8),.val (bb dI (ag lu 3 (aq 5)) (aj (ag ay 0 (aj (eD (.int 0)))))),.val (bb dI (ag lu 4 (aq 6)) (aj (ag ay 0 (aj (eD (.int 1))))))]) (ak [] 8))))
theorem Et(a b:Nat)(h0:0 < b)(h1:b<=1000):jU (.int (a:Nat)) (.int (b:Nat))=some (.pure (.int ((a / b:Nat):Int))):=by
 show(if l_ (a:Int) (b:Int) then some (S.pure (.int ((a:Int) / (b:Int)))) else none)=_;rw[if_pos (by unfold l_; simp; omega)];rfl
theorem Eu(a b:Nat)(h0:0 < b):dI (.int (a:Nat)) (.int (b:Nat))=some (.pure (.int ((a % b:Nat):Int))):=by
 show(if decide (0 < (b:Int)) then some (S.pure (.int ((a:Int) % (b:Int)))) else none)=_;rw[if_pos (by simp; omega)];rfl
theorem Ew(a b:Nat)(h0:0 < b)(h1:(b:Int) < j_):lu (.int (a:Nat)) (.int (b:Nat))=some (.pure (.int ((a / b:Nat):Int))):=by
 rw[Cn _ _ (by omega) h1];rfl
theorem Ex{h n:Nat}(hh:h<=4)(hn:n<=60):((h ^ n:Nat):Int) < j_:=by
 have h1:h ^ n<=4 ^ 60:=Q2 (Nat.pow_le_pow_left hh n) (Nat.pow_le_pow_right (by decide) hn);have h2:((4 ^ 60:Nat):Int) < j_:=by decide +kernel
 omega
theorem RL{h w:Nat}{bs:List (Nat×List Tx)}(Ru:dG h w bs)(h0:0 < h)(h4:h<=4)(w0:0 < w)(w4:w<=4)(tt:D)(g R C m:Nat)(hm:m < 60)(b7:S)(hb:b7 = .own (cn bs)\/b7 = .pure (cn bs))(hv:HV)(hk:∀ p ∈ hv,p.1.2.2 ∈ bs.map (·.1))(o9:Option S) :
  vB (fc (aI h w bs) tt g R C (h ^ (m + 1)) (w ^ (m + 1)) b7 hv o9) = .ok .next (fc (aI h w bs) tt g R C (h ^ m) (w ^ m) (.pure (cn bs)) (iW bs (R / h ^ m % h) (C / w ^ m % w) hv []) o9):=by
 have x0:=(iZ h w bs).1;have x1:=(iZ h w bs).2.1;have ph:0 < h ^ m:=Nat.pow_pos h0;have pw:0 < w ^ m:=Nat.pow_pos w0;have d1:=Et (h ^ (m + 1)) h h0 (by omega);rw[JA,Nat.mul_div_cancel _ h0] at d1;have d2:=Et (w ^ (m + 1)) w w0 (by omega);rw[JA,Nat.mul_div_cancel _ w0] at d2;have d3:=Ew R (h ^ m) ph (Ex h4 (by omega));have d4:=Ew C (w ^ m) pw (Ex w4 (by omega));have d5:=Eu (R / h ^ m) h h0;have d6:=Eu (C / w ^ m) w w0;have gh:=RK Ru hv hk (R / h ^ m % h) (C / w ^ m % w);rw[JA h,JA w];generalize D.int ((R / h ^ m % h:Nat):Int)=e1 at *;generalize D.int ((C / w ^ m % w:Nat):Int)=e2 at *;generalize D.int ((R / h ^ m:Nat):Int)=e3 at *;generalize D.int ((C / w ^ m:Nat):Int)=e4 at *;unfold fc;generalize hD (iW bs (R / h ^ m % h) (C / w ^ m % w) hv [])=HN at *;generalize hD hv=HO at *;generalize D.int ((h ^ m:Nat):Int)=e5 at *;generalize D.int ((w ^ m:Nat):Int)=e6 at *;generalize D.int ((h ^ m * h:Nat):Int)=e7 at *;generalize D.int ((w ^ m * w:Nat):Int)=e8 at *;generalize D.int (R:Nat)=RD at *;generalize D.int (C:Nat)=CD at *;generalize D.int (h:Nat)=hd at *;generalize D.int (w:Nat)=wd at *;generalize aI h w bs=ru at *;generalize cn bs=DD at *;rw[vB,cx (δ1:=[some (.pure ru),some (.pure tt),some (.pure (.int (g:Nat))),some (.pure RD),some (.pure CD),some (.pure e5),some (.pure e8),some b7,some (.own (.dic HO)),o9,none,none]) (by simp[az,ag,bq,aq,x0,d1])];rw[cx (δ1:=[some (.pure ru),some (.pure tt),some (.pure (.int (g:Nat))),some (.pure RD),some (.pure CD),some (.pure e5),some (.pure e6),some b7,some (.own (.dic HO)),o9,none,none]) (by simp[az,ag,bq,aq,x1,d2])];rcases hb with rfl | rfl <;> simp[az,ax,a_,bC,bx,ae,aq,bj,ag,bq,x0,x1,d3,d4,d5,d6,gh,aP,S.d]
theorem Ey{h w t:Nat}{bs:List (Nat×List Tx)}(Ru:dG h w bs)(h0:0 < h)(h4:h<=4)(w0:0 < w)(w4:w<=4)(ht:t ∈ bs.map (·.1))(tt:D)(g R C:Nat)(hg:g<=60):∀ (n k:Nat),k + n=g->∀ (b7:S) (o9:Option S),(b7 = .own (cn bs)\/b7 = .pure (cn bs)) ->
  ∃ b7' o9',(b7' = .own (cn bs)\/b7' = .pure (cn bs))/\forL (ak [] 9) vB (bS (k:Nat) n) (fc (aI h w bs) tt g R C (h ^ n) (w ^ n) b7 (dM bs h w g R C t k) o9) = .ok .next (fc (aI h w bs) tt g R C 1 1 b7' (dM bs h w g R C t g) o9')
 | 0,k,e,b7,o9,hb=>⟨b7,o9,hb,by
   have:k=g:=by omega
   subst this;simp[bS]⟩
 | n + 1,k,e,b7,o9,hb=>by
  have s1:=RL Ru h0 h4 w0 w4 tt g R C n (by omega) b7 hb (dM bs h w g R C t k) (yM Ru ht k).ts (some (.pure (.int (k:Nat))));have en:iW bs (R / h ^ n % h) (C / w ^ n % w) (dM bs h w g R C t k) []=dM bs h w g R C t (k + 1):=by
   show _=iW bs (R / h ^ (g - (k + 1)) % h) (C / w ^ (g - (k + 1)) % w) (dM bs h w g R C t k) [];rw[show g - (k + 1)=n by omega]
  rw[en] at s1;obtain⟨b7',o9',pV,ih⟩:=Ey Ru h0 h4 w0 w4 ht tt g R C hg n (k + 1) (by omega) (.pure (cn bs)) (some (.pure (.int (k:Nat)))) (.inr rfl);refine⟨b7',o9',pV,?_⟩;rw[yS,kr (δ1:=fc (aI h w bs) tt g R C (h ^ (n + 1)) (w ^ (n + 1)) b7 (dM bs h w g R C t k) (some (.pure (.int (k:Nat))))) rfl s1];exact ih
def il(p:HK×Nat):Bool:=p.1.1 && p.1.2.1
def gv(aa:HV):List (bI×D):=(aa.filter il).map λp=>(.inr [p.1.2.2],D.int (p.2:Nat))
theorem Ez:∀ l:HV,hV (l.map λp=>D.tup [.str [p.1.2.2],.int (p.2:Nat)])=some (l.map λp=>((.inr [p.1.2.2]:bI),D.int (p.2:Nat)))
 | []=>rfl
 | p :: r=>by
  have:=Ez r;simp only[Wk];simp[hV,dY,this]
theorem RM{ts:List Nat}{aa:HV}(h:eh ts aa):((gv aa).map (·.1)).Nodup:=by
 unfold gv;rw[WF,QK,Jd];have h1:=h.nd;rw[QK,Jd] at h1;have h2:=h1.filter il;refine(List.pairwise_of_forall_mem_list (l:=aa.filter il) (r:=λa b=>a.1≠b.1->(Sum.inr [a.1.2.2]:bI)≠Sum.inr [b.1.2.2]) ?_).imp₂ ?_ h2
 ·intro a ha b hb c_ e;have a2:=(List.mem_filter.mp ha).2;have b2:=(List.mem_filter.mp hb).2;unfold il at a2 b2;simp only[Wm] at a2 b2;apply c_;obtain⟨⟨x1,x2,x3⟩,_⟩:=a;obtain⟨⟨y1,y2,y3⟩,_⟩:=b;simp at a2 b2 e;simp[a2,b2,e]
 ·intro a b q1 q2;exact q1 q2
theorem RN{ts:List Nat}{aa:HV}(h:eh ts aa)(dZ:ts.length<=26):gN (.lst ((aa.filter il).map λp=>D.tup [.str [p.1.2.2],.int (p.2:Nat)]))=some (.own (.ba (gv aa))):=by
 have hl:=h.len;have hf:=List.length_filter_le il aa;unfold gN;simp only[Ez,WA,Wz];rw[if_pos (by rw[gO]; omega),yP]
 ·rfl
 ·exact RM h
theorem RO(aa:HV)(n:Nat):(dh (gv aa) (.inr [n])).getD (.int 0) = .int (fB aa (true,true,n):Nat):=by
 have:dh (gv aa) (.inr [n])=(aa.find? λp=>decide (p.1=(true,true,n))).map λp=>D.int (p.2:Nat):=by
  unfold dh gv;rw[List.find?_map,List.find?_filter,Option.map_map];have e:(λa:HK×Nat=>decide (il a=true/\((λkv:bI×D=>decide (kv.1=Sum.inr [n])) ∘ λp:HK×Nat=>((Sum.inr [p.1.2.2]:bI),D.int (p.2:Nat))) a=true))=λp=>decide (p.1=(true,true,n)):=by
   funext p
   obtain⟨⟨a,b,c⟩,m⟩:=p;unfold il
   cases a <;> cases b <;> simp
  rw[e];rfl
 rw[this];unfold fB
 cases aa.find? λp=>decide (p.1=(true,true,n)) <;> rfl
def tH(bs:List (Nat×List Tx))(aa:HV):List D:=bs.map λb=>D.tup [.str [b.1],.int (fB aa (true,true,b.1):Nat)]
theorem RP(R:dG h w bs)(aa:HV):nX [.pure (aI h w bs),.pure (.ba (gv aa))]=some (.own (.lst (tH bs aa)),[.pure (aI h w bs),.pure (.ba (gv aa))]):=by
 have n1:=R.n1;have gt:=RH R;have c:=v7 (cs:=[2]) (g:=ak [] 2) (t:=gr) (el:=fS (aG (ae 2) (aG (pG 1 (ae 2) (eD (.int 0))) cD))) (λb:Nat×List Tx=>D.str [b.1]) (λb=>D.tup [.str [b.1],.int (fB aa (true,true,b.1):Nat)]) [some (.pure (aI h w bs)),some (.pure (.ba (gv aa))),none] bs [] (by rw[gO]; simp; omega) (λb hb=>by
  have q:=RO aa b.1;refine⟨[some (.pure (aI h w bs)),some (.pure (.ba (gv aa))),some (.pure (.str [b.1]))],_,.pure (.tup [.str [b.1],.int (fB aa (true,true,b.1):Nat)]),[some (.pure (aI h w bs)),some (.pure (.ba (gv aa))),some (.pure (.str [b.1]))],rfl,rfl,?_,rfl,rfl⟩;rw[<- q];generalize gv aa=CC at *;generalize aI h w bs=ru at *;simp[ae,pG,pF,S.d,dY])
 have et:tD (bs.map (·.1)) = .lst (bs.map λb=>D.str [b.1]):=by unfold tD; rw[WF]; rfl
 have eY:tH bs aa=bs.map λb=>D.tup [.str [b.1],.int (fB aa (true,true,b.1):Nat)]:=rfl
 rw[nX,xn,eY];generalize (bs.map λb=>D.tup [.str [b.1],.int (fB aa (true,true,b.1):Nat)])=Y at *;generalize hT:tD (bs.map (·.1))=T at *;generalize (bs.map λb:Nat×List Tx=>D.str [b.1])=TS at *;generalize D.ba (gv aa)=CD at *;generalize aI h w bs=ru at *;refine yR (δ1:=[some (.pure ru),some (.pure CD),none]) ?_;have i:fw (ax mK [.val (ae 0)]) [some (.pure ru),some (.pure CD),none] = .ok TS [some (.pure ru),some (.pure CD),none]:=by
  simp[n5,ax,a_,bC,bx,ae,bj,gt,aP,S.d,et]
 simp only[bc];show((gq _ _ _ _ _ _).bind _)=_;have cO:(([S.pure ru,S.pure CD].map some) ++ Wc (3 - [S.pure ru,S.pure CD].length) none:Dl)=[some (.pure ru),some (.pure CD),none]:=rfl;rw[cO,C0,i];simp only[ju];have eT:([2]:List Nat).any (bT [some (.pure ru),some (.pure CD),none])=false:=rfl;have yT:bG [2] [some (.pure ru),some (.pure CD),none]=[some (.pure ru),some (.pure CD),none]:=rfl;rw[eT,yT,c];rfl
theorem RQ{b:DS}{n:Nat}{x y z u v:D}{r:S}{δ1:Dl}(e:b (bc n [.pure x,.pure y,.pure z,.pure u,.pure v]) = .ok (.ret r) δ1):jr [] n b [.pure x,.pure y,.pure z,.pure u,.pure v]=some (.inl (r,[.pure x,.pure y,.pure z,.pure u,.pure v])):=by
 rw[tF,e]; rfl
theorem EA{b:DS}{n:Nat}{x y z u v:D}{r:Xc}{δ1:Dl}(e:b (bc n [.pure x,.pure y,.pure z,.pure u,.pure v]) = .exc r δ1):jr [] n b [.pure x,.pure y,.pure z,.pure u,.pure v]=some (.inr (r,[.pure x,.pure y,.pure z,.pure u,.pure v])):=by
 rw[tF,e]; rfl
abbrev wC:DE:=(gq [10,11] (km (ae 8)) (cL 2 (bH (ak [] 10) (bH (ak [] 11) c7))) (jR (aS (ag ay 10 (aj (eD (.int 0))))) (aS (ag ay 10 (aj (eD (.int 1)))))) (fS (aG (ag ay 10 (aj (eD (.int 2)))) (aG (ae 11) cD))))
abbrev ip(ru tt:D)(g R C tl br:Nat)(b7:S)(hd:D)(o9:Option S):Dl :=
 [some (.pure ru),some (.pure tt),some (.pure (.int (g:Nat))),some (.pure (.int (R:Nat))),some (.pure (.int (C:Nat))),some (.pure (.int (tl:Nat))),some (.pure (.int (br:Nat))),some b7,some (.pure hd),o9,none,none]
theorem RT{ts:List Nat}{aa:HV}(h:eh ts aa)(dZ:ts.length<=26)(ru tt:D)(g R C tl br:Nat)(b7:S)(o9:Option S):wC (fc ru tt g R C tl br b7 aa o9) = .ok (.own (.lst ((aa.filter il).map λp=>D.tup [.str [p.1.2.2],.int (p.2:Nat)]))) (ip ru tt g R C tl br b7 (.dic (hD aa)) o9):=by
 have hl:=h.len;have c:=yN (cs:=[10,11]) (g:=cL 2 (bH (ak [] 10) (bH (ak [] 11) c7))) (t:=jR (aS (ag ay 10 (aj (eD (.int 0))))) (aS (ag ay 10 (aj (eD (.int 1)))))) (el:=fS (aG (ag ay 10 (aj (eD (.int 2)))) (aG (ae 11) cD)))
  (λp:HK×Nat=>D.tup [bL p.1,.int (p.2:Nat)]) (λp=>D.tup [.str [p.1.2.2],.int (p.2:Nat)]) il (ip ru tt g R C tl br b7 (.dic (hD aa)) o9) aa [] (by rw[gO]; simp; omega) (λp hp=>by
   obtain⟨⟨a,b,n⟩,m⟩:=p;have y0:ay (bL (a,b,n)) (.int 0)=some (.pure (.bl a)):=by unfold bL; simp[ay,nN]
   have y1:ay (bL (a,b,n)) (.int 1)=some (.pure (.bl b)):=by unfold bL; simp[ay,sH]
   have y2:ay (bL (a,b,n)) (.int 2)=some (.pure (.str [n])):=by unfold bL; simp[ay,sG]
   unfold ip;generalize D.dic (hD aa)=HH at *;refine⟨[some (.pure ru),some (.pure tt),some (.pure (.int (g:Nat))),some (.pure (.int (R:Nat))),some (.pure (.int (C:Nat))),some (.pure (.int (tl:Nat))),some (.pure (.int (br:Nat))),some b7,some (.pure HH),o9,some (.pure (bL (a,b,n))),some (.pure (.int (m:Nat)))],
    [some (.pure ru),some (.pure tt),some (.pure (.int (g:Nat))),some (.pure (.int (R:Nat))),some (.pure (.int (C:Nat))),some (.pure (.int (tl:Nat))),some (.pure (.int (br:Nat))),some b7,some (.pure HH),o9,some (.pure (bL (a,b,n))),some (.pure (.int (m:Nat)))],.pure (.tup [.str [n],.int (m:Nat)]),
    [some (.pure ru),some (.pure tt),some (.pure (.int (g:Nat))),some (.pure (.int (R:Nat))),some (.pure (.int (C:Nat))),some (.pure (.int (tl:Nat))),some (.pure (.int (br:Nat))),some b7,some (.pure HH),o9,some (.pure (bL (a,b,n))),some (.pure (.int (m:Nat)))],rfl,?_,rfl,?_,rfl,rfl⟩
   ·generalize bL (a,b,n)=KK at *
    cases a <;> cases b <;> simp[il,aS,ag,bq,aq,y0,y1]
   ·generalize bL (a,b,n)=KK at *;simp[ag,bq,aq,y2,ae])
 have eI:iQ (hD aa)=aa.map λp=>D.tup [bL p.1,.int (p.2:Nat)]:=by unfold iQ hD; rw[WF]; rfl
 have i:km (ae 8) (fc ru tt g R C tl br b7 aa o9) = .ok (aa.map λp=>D.tup [bL p.1,.int (p.2:Nat)]) (ip ru tt g R C tl br b7 (.dic (hD aa)) o9):=by
  rw[<- eI];unfold fc ip;generalize hD aa=HH at *;simp[km,ae,S.d]
 unfold wC;rw[C0,i];simp only[ju];have eT:([10,11]:List Nat).any (bT (ip ru tt g R C tl br b7 (.dic (hD aa)) o9))=false:=rfl;have yT:bG [10,11] (ip ru tt g R C tl br b7 (.dic (hD aa)) o9)=ip ru tt g R C tl br b7 (.dic (hD aa)) o9:=rfl;rw[eT,yT,c];rfl
abbrev er(ru tt:D)(gd:D)(rd cd:D)(o5 o6:Option S):Dl:=[some (.pure ru),some (.pure tt),some (.pure gd),some (.pure rd),some (.pure cd),o5,o6,none,none,none,none,none]
abbrev k1:DS:=(iI (jt ko [.val (ae 0),.val (ae 1)]))
abbrev k2:DS:=(az (ax iU [.val (eD (.int 1)),.val (ag ay 0 (aj (eD (.int 0)))),.val (ae 2)]) (ak [] 5))
abbrev k3:DS:=(az (ax iU [.val (eD (.int 1)),.val (ag ay 0 (aj (eD (.int 1)))),.val (ae 2)]) (ak [] 6))
abbrev k4:DS:=(df (fR (jS (aS (ax kq [.val (ae 3),.val (eD (.int 0)),.val (ae 5)]))) (jS (aS (ax kq [.val (ae 4),.val (eD (.int 0)),.val (ae 6)])))) (pK [78,111,80,108,97,99,101]) dw)
theorem EB{h w t g:Nat}{bs:List (Nat×List Tx)}(R:dG h w bs)(ht:t ∈ bs.map (·.1))(rd cd:D):k1 (er (aI h w bs) (.str [t]) (.int (g:Nat)) rd cd none none) = .ok .next (er (aI h w bs) (.str [t]) (.int (g:Nat)) rd cd none none):=by
 have g0:=RF R ht;generalize aI h w bs=ru at *;simp[k1,iI,jt,a_,bC,bx,ae,bj,g0,aP]
theorem RU(GS:DF){ru hh gg PP:D}(x0:ay ru (.int 0)=some (.pure hh))(s:GS [.pure (.int 1),.pure hh,.pure gg]=some (.pure PP,[.pure (.int 1),.pure hh,.pure gg]))(tt rd cd:D):(az (ax GS [.val (eD (.int 1)),.val (ag ay 0 (aj (eD (.int 0)))),.val (ae 2)]) (ak [] 5)) (er ru tt gg rd cd none none) = .ok .next (er ru tt gg rd cd (some (.pure PP)) none):=by
 simp[az,ax,a_,bC,bx,ae,bj,ag,bq,aq,x0,s,aP]
theorem RV(GS:DF){ru hh gg PP:D}(x0:ay ru (.int 1)=some (.pure hh))(s:GS [.pure (.int 1),.pure hh,.pure gg]=some (.pure PP,[.pure (.int 1),.pure hh,.pure gg]))(tt rd cd:D)(o5:Option S):(az (ax GS [.val (eD (.int 1)),.val (ag ay 0 (aj (eD (.int 1)))),.val (ae 2)]) (ak [] 6)) (er ru tt gg rd cd o5 none) = .ok .next (er ru tt gg rd cd o5 (some (.pure PP))):=by
 simp[az,ax,a_,bC,bx,ae,bj,ag,bq,aq,x0,s,aP]
theorem ED{h w g:Nat}{bs:List (Nat×List Tx)}(h4:h<=4)(hg:g<=60)(tt rd cd:D):k2 (er (aI h w bs) tt (.int (g:Nat)) rd cd none none) = .ok .next (er (aI h w bs) tt (.int (g:Nat)) rd cd (some (.pure (.int ((h ^ g:Nat):Int)))) none) :=
 RU iU (iZ h w bs).1 (Ep h g (by omega) (by omega)) tt rd cd
theorem EE{h w g:Nat}{bs:List (Nat×List Tx)}(w4:w<=4)(hg:g<=60)(tt rd cd:D)(o5:Option S):k3 (er (aI h w bs) tt (.int (g:Nat)) rd cd o5 none) = .ok .next (er (aI h w bs) tt (.int (g:Nat)) rd cd o5 (some (.pure (.int ((w ^ g:Nat):Int))))) :=
 RV iU (iZ h w bs).2.1 (Ep w g (by omega) (by omega)) tt rd cd o5
theorem EF(a b:Nat):cK (.int (a:Nat)) (.int (b:Nat))=some (.pure (.bl (decide (a=b)))):=by
 rw[Rx];have:((a:Int) == (b:Int))=decide (a=b):=by
  rw[JQ];simp only[beq_iff_eq,decide_eq_true_eq];omega
 rw[this]
abbrev xP:Xc:=⟨[78,111,80,108,97,99,101],.aw⟩
theorem RW (ru tt rd cd:D) (g A B:Nat) (hr:cj "int" rd≠none) (hc:cj "int" cd≠none) (h1:gc rd A=true) (h2:gc cd B=true):k4 (er ru tt (.int (g:Nat)) rd cd (some (.pure (.int (A:Nat)))) (some (.pure (.int (B:Nat))))) = .ok .next (er ru tt (.int (g:Nat)) rd cd (some (.pure (.int (A:Nat)))) (some (.pure (.int (B:Nat))))):=by
 have e1:=tG rd A hr;have e2:=tG cd B hc;rw[h1] at e1;rw[h2] at e2;generalize D.int (A:Nat)=AA at *;generalize D.int (B:Nat)=BB at *;simp[k4,aS,ax,a_,bC,bx,ae,bj,e1,e2,aP]
theorem RX (ru tt rd cd:D) (g A B:Nat) (hr:cj "int" rd≠none) (hc:cj "int" cd≠none) (h:gc rd A=false\/gc cd B=false):k4 (er ru tt (.int (g:Nat)) rd cd (some (.pure (.int (A:Nat)))) (some (.pure (.int (B:Nat))))) = .exc xP (er ru tt (.int (g:Nat)) rd cd (some (.pure (.int (A:Nat)))) (some (.pure (.int (B:Nat))))):=by
 have e1:=tG rd A hr;have e2:=tG cd B hc;generalize D.int (A:Nat)=AA at *;generalize D.int (B:Nat)=BB at *
 cases h1:gc rd A with
 | false =>
  rw[h1] at e1;simp[k4,aS,ax,a_,bC,bx,ae,bj,e1,aP,pK]
 | true =>
  rw[h1] at e1 h;have h2:gc cd B=false:=by simpa using h
  rw[h2] at e2;simp[k4,aS,ax,a_,bC,bx,ae,bj,e1,e2,aP,pK]
theorem EG{a b:Nat}(h:a<=b):gc (.int (a:Nat)) b=true:=by
 show(decide (0<=(a:Int)) && decide ((a:Int)<=(b:Int)))=true;simp only[Wm,decide_eq_true_eq];omega
theorem RY{h w t:Nat}{bs:List (Nat×List Tx)}(Ru:dG h w bs)(h0:0 < h)(h4:h<=4)(w0:0 < w)(w4:w<=4)(ht:t ∈ bs.map (·.1))(g R C:Nat)(hg:g<=60)(hR:R<=h ^ g)(hC:C<=w ^ g) :
  jy [.pure (aI h w bs),.pure (.str [t]),.pure (.int (g:Nat)),.pure (.int (R:Nat)),.pure (.int (C:Nat))]=some (.inl (.own (.lst (tH bs (dM bs h w g R C t g))),[.pure (aI h w bs),.pure (.str [t]),.pure (.int (g:Nat)),.pure (.int (R:Nat)),.pure (.int (C:Nat))])):=by
 have n1:=Ru.n1;have dZ:(bs.map (·.1)).length<=26:=by simpa using n1
 have x2:=(iZ h w bs).2.2;have hd:=yQ Ru;have ah:=yM (g:=g) (R:=R) (C:=C) Ru ht g;have s1:=EB (g:=g) Ru ht (.int (R:Nat)) (.int (C:Nat));have s2:=ED (bs:=bs) (w:=w) h4 hg (.str [t]) (.int (R:Nat)) (.int (C:Nat));have s3:=EE (bs:=bs) (h:=h) w4 hg (.str [t]) (.int (R:Nat)) (.int (C:Nat)) (some (.pure (.int ((h ^ g:Nat):Int))));have s4:=RW (aI h w bs) (.str [t]) (.int (R:Nat)) (.int (C:Nat)) g (h ^ g) (w ^ g) (by simp[cj]) (by simp[cj]) (EG hR) (EG hC);obtain⟨b7,o9,hb7,lp⟩:=Ey Ru h0 h4 w0 w4 ht (.str [t]) g R C hg g 0 (by omega) (.own (cn bs)) none (.inl rfl);have c:=RT ah dZ (aI h w bs) (.str [t]) g R C 1 1 b7 o9;have dc:=RN ah dZ;have gl:=RP Ru (dM bs h w g R C t g);have e1:=EF R (h ^ g);have e2:=EF C (w ^ g);have EH:=D2 [] (decide (R=h ^ g),decide (C=w ^ g),t);have z0:[(bL (decide (R=h ^ g),decide (C=w ^ g),t),D.int 1)]=hD (dM bs h w g R C t 0):=rfl;have EI:forL (ak [] 9) vB (bS 0 g) (fc (aI h w bs) (.str [t]) g R C (h ^ g) (w ^ g) (.own (cn bs)) (dM bs h w g R C t 0) none) = .ok .next (fc (aI h w bs) (.str [t]) g R C 1 1 b7 (dM bs h w g R C t g) o9):=lp;rw[jy,qg];refine RQ (δ1:=ip (aI h w bs) (.str [t]) g R C 1 1 b7 (.dic (hD (dM bs h w g R C t g))) o9) ?_;refine(cx s1).trans ?_;refine(cx s2).trans ?_;refine(cx s3).trans ?_;refine(cx s4).trans ?_;clear s1 s2 s3 s4 lp hR hC ah;rw[cx (δ1:=[some (.pure (aI h w bs)),some (.pure (.str [t])),some (.pure (.int (g:Nat))),some (.pure (.int (R:Nat))),some (.pure (.int (C:Nat))),some (.pure (.int ((h ^ g:Nat):Int))),some (.pure (.int ((w ^ g:Nat):Int))),some (.own (cn bs)),none,none,none,none]) (by
  generalize aI h w bs=ru at *;generalize D.tup (bs.map d_)=bd at *;generalize cn bs=DD at *;simp[az,ag,bq,aq,x2,hd])]
 rw[cx (δ1:=fc (aI h w bs) (.str [t]) g R C (h ^ g) (w ^ g) (.own (cn bs)) (dM bs h w g R C t 0) none) (by
  unfold fc;rw[<- z0];have EJ:jx (kj (bL (decide (R=h ^ g),decide (C=w ^ g),t))) [] (bL (decide (R=h ^ g),decide (C=w ^ g),t))=true:=EH;have eK:bL (decide (R=h ^ g),decide (C=w ^ g),t) = .tup [.bl (decide (R=h ^ g)),.bl (decide (C=w ^ g)),.str [t]]:=rfl;rw[eK] at EJ ⊢;generalize decide (R=h ^ g)=B1 at *;generalize decide (C=w ^ g)=B2 at *;generalize D.int ((h ^ g:Nat):Int)=I1 at *;generalize D.int ((w ^ g:Nat):Int)=I2 at *;generalize aI h w bs=ru at *;generalize cn bs=DD at *;simp[az,sP,ag,bq,aq,e1,e2,ae,EJ])]
 have i:ft (ae 2) (fc (aI h w bs) (.str [t]) g R C (h ^ g) (w ^ g) (.own (cn bs)) (dM bs h w g R C t 0) none) = .ok (bS 0 g) (fc (aI h w bs) (.str [t]) g R C (h ^ g) (w ^ g) (.own (cn bs)) (dM bs h w g R C t 0) none):=by
  have:=nO g (by omega);simp[ae,this]
 rw[cx ((jB i).trans EI)];clear EI i e1 e2 EH z0;generalize dM bs h w g R C t g=HN at *;generalize ((HN.filter il).map λp=>D.tup [.str [p.1.2.2],.int (p.2:Nat)])=PL at *;generalize hCT:D.ba (gv HN)=CT at *;have c':bO gN (aj wC) (fc (aI h w bs) (.str [t]) g R C 1 1 b7 HN o9) = .ok (.own CT) (ip (aI h w bs) (.str [t]) g R C 1 1 b7 (.dic (hD HN)) o9):=by
  unfold bO aj;rw[c];simp[S.d,dc]
 generalize bO gN (aj wC)=EC at *;unfold fc at c';unfold fc ip;unfold ip at c';generalize D.int ((1:Nat):Int)=ONE at *;generalize aI h w bs=ru at *;generalize tH bs HN=Y at *;simp[ax,a_,bC,bx,ae,bj,c',gl,aP,S.d]
theorem RZ{h w:Nat}{bs:List (Nat×List Tx)}(Ru:dG h w bs){d:D}(hb:qu bs d)(g:Nat)(rd cd:D) :
  jy [.pure (aI h w bs),.pure d,.pure (.int (g:Nat)),.pure rd,.pure cd]=some (.inr (xN d,[.pure (aI h w bs),.pure d,.pure (.int (g:Nat)),.pure rd,.pure cd])):=by
 have g0:=RG Ru hb;rw[jy,qg];generalize aI h w bs=ru at *;refine EA (δ1:=er ru d (.int (g:Nat)) rd cd none none) (Ed ?_);simp[bc,iI,jt,a_,bC,bx,ae,bj,g0,aP]
theorem R0 {h w t:Nat} {bs:List (Nat×List Tx)} (Ru:dG h w bs) (h4:h<=4) (w4:w<=4) (ht:t ∈ bs.map (·.1)) (g:Nat) (hg:g<=60) (rd cd:D) (hr:cj "int" rd≠none) (hc:cj "int" cd≠none) (hw:gc rd (h ^ g)=false\/gc cd (w ^ g)=false) :
  jy [.pure (aI h w bs),.pure (.str [t]),.pure (.int (g:Nat)),.pure rd,.pure cd]=some (.inr (xP,[.pure (aI h w bs),.pure (.str [t]),.pure (.int (g:Nat)),.pure rd,.pure cd])):=by
 have s1:=EB (g:=g) Ru ht rd cd;have s2:=ED (bs:=bs) (w:=w) h4 hg (.str [t]) rd cd;have s3:=EE (bs:=bs) (h:=h) w4 hg (.str [t]) rd cd (some (.pure (.int ((h ^ g:Nat):Int))));have s4:=RX (aI h w bs) (.str [t]) rd cd g (h ^ g) (w ^ g) hr hc hw;rw[jy,qg];refine EA (δ1:=er (aI h w bs) (.str [t]) (.int (g:Nat)) rd cd (some (.pure (.int ((h ^ g:Nat):Int)))) (some (.pure (.int ((w ^ g:Nat):Int))))) ?_;refine(cx s1).trans ?_;refine(cx s2).trans ?_;refine(cx s3).trans ?_;exact Ed s4
section
variable {ce:Tx->Nat}
theorem R1(hi:iR ce)(hz:z ∈ ys):ys.find? (λx=>ce x == ce z)=some z:=by
 cases h:ys.find? (λx=>ce x == ce z) with
 | none =>
  have:=List.find?_eq_none.mp h z hz;simp at this
 | some y =>
  have h1:=List.find?_some h;have h2:=List.mem_of_find?_eq_some h;simp at h1;rw[hi y h2 z hz h1]
theorem EK(hi:iR ce)(hz:z ∈ ys)(fl:D)(tab:Tx->Bool)(rest:Dl):fN ce ys tab (aq 0) (some (.pure (.exc (ce z) fl)) :: rest) = .ok (.pure (.bl (tab z))) (some (.pure (.exc (ce z) fl)) :: rest):=by
 simp[fN,aq,R1 hi hz]
theorem R3(hi:iR ce)(fl:D):lF ce [.pure (.exc (ce [78,111,84,105,108,101]) fl)]=some (.pure (.str [116,105,108,101]),[.pure (.exc (ce [78,111,84,105,108,101]) fl)]):=by
 have i0:=EK hi (z:=[78,111,84,105,108,101]) (by simp[ys]) fl;have c1:mz (.lst [.bl false,.bl false,.bl false,.bl false,.bl false,.bl true,.bl false,.bl false,.bl false])=some (.pure (.int 1)):=by rfl
 have c2:mB (.lst [.bl false,.bl false,.bl false,.bl false,.bl false,.bl true,.bl false,.bl false,.bl false])=some (.pure (.int 5)):=by rfl
 rw[lF,mO,sX];generalize ce [78,111,84,105,108,101]=n at *;simp[bR,bc,az,i0,ag,bq,aq,bp,gO,fW,iJ,putL,aS,c1,c2,eM,flat,au,ay,cH,eF,cf,bA]
theorem R4(hi:iR ce)(fl:D):lF ce [.pure (.exc (ce [78,111,80,108,97,99,101]) fl)]=some (.pure (.str [112,108,97,99,101]),[.pure (.exc (ce [78,111,80,108,97,99,101]) fl)]):=by
 have i0:=EK hi (z:=[78,111,80,108,97,99,101]) (by simp[ys]) fl;have c1:mz (.lst [.bl false,.bl true,.bl false,.bl false,.bl false,.bl false,.bl false,.bl false,.bl false])=some (.pure (.int 1)):=by rfl
 have c2:mB (.lst [.bl false,.bl true,.bl false,.bl false,.bl false,.bl false,.bl false,.bl false,.bl false])=some (.pure (.int 1)):=by rfl
 rw[lF,mO,sX];generalize ce [78,111,80,108,97,99,101]=n at *;simp[bR,bc,az,i0,ag,bq,aq,bp,gO,fW,iJ,putL,aS,c1,c2,eM,flat,au,ay,cH,eF,cf,bA]
theorem EL{b:DS}{n:Nat}{x y z u v:D}{r:S}{δ1:Dl}(e:b (bc n [.pure x,.pure y,.pure z,.pure u,.pure v]) = .ok (.ret r) δ1):b9 [] n b [.pure x,.pure y,.pure z,.pure u,.pure v]=some (r,[.pure x,.pure y,.pure z,.pure u,.pure v]):=by
 rw[mO,e]; rfl
theorem R5(GC:DX)(GK:DF)(r:S)(x y z u v:D)(g:GC [.pure x,.pure y,.pure z,.pure u,.pure v]=some (.inl (r,[.pure x,.pure y,.pure z,.pure u,.pure v]))) :
  b9 [] 6 (qj ce GC GK) [.pure x,.pure y,.pure z,.pure u,.pure v]=some (.pure (.str [116,111,108,100]),[.pure x,.pure y,.pure z,.pure u,.pure v]):=by
 unfold qj;refine EL (δ1:=[some (.pure x),some (.pure y),some (.pure z),some (.pure u),some (.pure v),none]) ?_;rw[cx (δ1:=[some (.pure x),some (.pure y),some (.pure z),some (.pure u),some (.pure v),none]) (by
  simp[bc,pM,su,iI,jt,a_,bC,bx,ae,bj,g,aP])]
 simp
theorem EM(GC:DX)(GK:DF)(xc:Xc)(k:D)(hx:xc.cls=[78,111,84,105,108,101]\/xc.cls=[78,111,80,108,97,99,101])(gk:GK [.pure (.exc (ce xc.cls) xc.iE)]=some (.pure k,[.pure (.exc (ce xc.cls) xc.iE)]))(x y z u v:D)(g:GC [.pure x,.pure y,.pure z,.pure u,.pure v]=some (.inr (xc,[.pure x,.pure y,.pure z,.pure u,.pure v]))) :
  b9 [] 6 (qj ce GC GK) [.pure x,.pure y,.pure z,.pure u,.pure v]=some (.pure k,[.pure x,.pure y,.pure z,.pure u,.pure v]):=by
 unfold qj;refine EL (δ1:=[some (.pure x),some (.pure y),some (.pure z),some (.pure u),some (.pure v),none]) ?_;refine RA ?_;simp[bc,pM,su,iI,jt,a_,bC,bx,ae,bj,g,aP,hx,ax,gk,unset,S.d]
abbrev yU:D:=.str [116,111,108,100]
abbrev n8:D:=.str [116,105,108,101]
abbrev mQ:D:=.str [112,108,97,99,101]
theorem EN{h w t:Nat}{bs:List (Nat×List Tx)}(Ru:dG h w bs)(ht:t ∈ bs.map (·.1))(g R C:Nat)(hg:g<=60)(hR:R<=h ^ g)(hC:C<=w ^ g):cT ce [.pure (aI h w bs),.pure (.str [t]),.pure (.int (g:Nat)),.pure (.int (R:Nat)),.pure (.int (C:Nat))]=some (.pure yU,[.pure (aI h w bs),.pure (.str [t]),.pure (.int (g:Nat)),.pure (.int (R:Nat)),.pure (.int (C:Nat))]):=by
 rw[cT,qk];exact R5 _ _ _ _ _ _ _ _ (RY Ru Ru.h0 Ru.h1 Ru.w0 Ru.w1 ht g R C hg hR hC)
theorem EO(hi:iR ce){h w:Nat}{bs:List (Nat×List Tx)}(Ru:dG h w bs){d:D}(hb:qu bs d)(g:Nat)(rd cd:D):cT ce [.pure (aI h w bs),.pure d,.pure (.int (g:Nat)),.pure rd,.pure cd]=some (.pure n8,[.pure (aI h w bs),.pure d,.pure (.int (g:Nat)),.pure rd,.pure cd]):=by
 rw[cT,qk];exact EM _ _ (xN d) _ (.inl rfl) (R3 hi _) _ _ _ _ _ (RZ Ru hb g rd cd)
theorem ER (hi:iR ce) {h w t:Nat} {bs:List (Nat×List Tx)} (Ru:dG h w bs) (ht:t ∈ bs.map (·.1)) (g:Nat) (hg:g<=60) (rd cd:D) (hr:cj "int" rd≠none) (hc:cj "int" cd≠none) (hw:gc rd (h ^ g)=false\/gc cd (w ^ g)=false):cT ce [.pure (aI h w bs),.pure (.str [t]),.pure (.int (g:Nat)),.pure rd,.pure cd]=some (.pure mQ,[.pure (aI h w bs),.pure (.str [t]),.pure (.int (g:Nat)),.pure rd,.pure cd]):=by
 rw[cT,qk];exact EM _ _ xP _ (.inr rfl) (R4 hi _) _ _ _ _ _ (R0 Ru Ru.h1 Ru.w1 ht g hg rd cd hr hc hw)
end
abbrev bP(aU:D)(a1 a2 a3 a4 a5 a6 a7 a8 a9 qZ q0:Option S):Dl:=[some (.pure aU),a1,a2,a3,a4,a5,a6,a7,a8,a9,qZ,q0]
abbrev l1:DS:=(az (ax mH [.val (ae 1)]) (ak [] 2))
abbrev l2:DS:=(az (ax lE [.io 2,.val (eD (.int 6))]) (ak [] 3))
abbrev l3:DS:=(az (bb ay (bb ay (ag ay 3 (aj (eD (.int 2)))) (aj (ax cE [.io 2,.val (bO eN (aj (ag ay 3 (aj (eD (.int 2))))))]))) (aj (eD (.int 0)))) (ak [] 4))
abbrev l4:DS:=(az (ax cE [.io 2,.val (bb ay (gM [.int 4,.int 61]) (aj (ax cE [.io 2,.val (eD (.int 2))])))]) (ak [] 5))
abbrev l5:DS:=(az (ax iT [.val (ag ay 3 (aj (eD (.int 0)))),.val (ae 5)]) (ak [] 6))
abbrev l6:DS:=(az (ax iT [.val (ag ay 3 (aj (eD (.int 1)))),.val (ae 5)]) (ak [] 7))
abbrev l7:DS:=(az (fq (aG (ag bp 6 (aj (eD (.int 1)))) (aG (bb bp (ag bp 6 (aj (eD (.int 1)))) (aj (ax cE [.io 2,.val (bb nj (eD (.int 10)) (aj (eD (.int 9))))]))) (aG (bO j9 (aj (eD (.int 1)))) (aG (eD (.bl true)) (aG (eD .aw) (aG (eD (.str [48])) (aG (eD (.tup [.int 0])) (aG (gM [.int 1]) cD))))))))) (ak [] 8))
abbrev m8(GS:DF):DS:=(df (fR (aS (bb eM (ax GS [.val (ae 3),.val (ae 4),.val (ae 5),.val (ae 9),.val (eD (.int 0))]) (aj (eD (.str [112,108,97,99,101]))))) (aS (bb eM (ax GS [.val (ae 3),.val (eD (.str [65])),.val (ae 5),.val (ae 9),.val (eD (.int 0))]) (aj (eD (.str [116,105,108,101])))))) (bY (eD (.bl false))) dw)
abbrev m9(GS:DF):DS:=(df (aS (bb eM (ax GS [.val (ae 3),.val (ae 4),.val (ae 5),.val (ae 6),.val (ae 10)]) (aj (eD (.str [112,108,97,99,101]))))) (bY (eD (.bl false))) dw)
abbrev n4(GS:DF):DS:=(df (aS (bb eM (ax GS [.val (ae 3),.val (ae 11),.val (ae 5),.val (eD .aw),.val (eD .aw)]) (aj (eD (.str [116,105,108,101]))))) (bY (eD (.bl false))) dw)
abbrev i9:DI:=(fw (fq (aG (ag bp 7 (aj (eD (.int 1)))) (aG (bb ni (bO j9 (aj (eD (.int 1)))) (aj (ax cE [.io 2,.val (eD (.int 9))]))) (aG (eD (.bl false)) (aG (eD .aw) (aG (eD (.str [49])) (aG (eD (.tup [.int 1])) cD))))))))
abbrev yV:DI:=(fw (fq (aG (eD .aw) (aG (eD (.str [])) (aG (ag bp 4 (aq 4)) (aG (gM [.str [97]]) (aG (eD (.int 7)) (aG (eD (.str [65])) cD))))))))
abbrev qp(GS:DF):DS:=(df (fR (aS (bb eM (ax GS [.val (ae 3),.val (ae 4),.val (ae 5),.val (ae 6),.val (ae 7)]) (aj (eD (.str [116,111,108,100]))))) (aS (bb eM (ax GS [.val (ae 3),.val (ae 4),.val (ae 5),.val (eD (.int 0)),.val (ae 7)]) (aj (eD (.str [116,111,108,100])))))) (bY (eD (.bl false))) dw)
theorem qv(x:Tx):eM (.str x) (.str x)=some (.pure (.bl false)):=by
 unfold eM;rw[show(flat 50 (D.str x) && flat 50 (D.str x))=true from rfl,if_pos rfl];simp[au]
def tJ (M:Nat) (d:D):Prop:=cj "int" d≠none/\gc d M=false
theorem R6(GS:DF)(aU a1:D)(p ru tt gd hd wd od d:D)(aR aQ:Option S)(h1:GS [.pure ru,.pure tt,.pure gd,.pure d,.pure (.int 0)]=some (.pure mQ,[.pure ru,.pure tt,.pure gd,.pure d,.pure (.int 0)]))(h2:GS [.pure ru,.pure (.str [65]),.pure gd,.pure d,.pure (.int 0)]=some (.pure n8,[.pure ru,.pure (.str [65]),.pure gd,.pure d,.pure (.int 0)])) :
  m8 GS (bP aU (some (.pure a1)) (some (.own p)) (some (.pure ru)) (some (.pure tt)) (some (.pure gd)) (some (.pure hd)) (some (.pure wd)) (some (.pure od)) (some (.pure d)) aR aQ) = .ok .next (bP aU (some (.pure a1)) (some (.own p)) (some (.pure ru)) (some (.pure tt)) (some (.pure gd)) (some (.pure hd)) (some (.pure wd)) (some (.pure od)) (some (.pure d)) aR aQ):=by
 have n1:=qv [112,108,97,99,101];have n2:=qv [116,105,108,101];simp[m8,aS,ax,a_,bC,bx,ae,bj,h1,h2,aP,n1,n2]
theorem R7(GS:DF)(aU a1:D)(p ru tt gd hd wd od d:D)(o9 aQ:Option S)(h1:GS [.pure ru,.pure tt,.pure gd,.pure hd,.pure d]=some (.pure mQ,[.pure ru,.pure tt,.pure gd,.pure hd,.pure d])) :
  m9 GS (bP aU (some (.pure a1)) (some (.own p)) (some (.pure ru)) (some (.pure tt)) (some (.pure gd)) (some (.pure hd)) (some (.pure wd)) (some (.pure od)) o9 (some (.pure d)) aQ) = .ok .next (bP aU (some (.pure a1)) (some (.own p)) (some (.pure ru)) (some (.pure tt)) (some (.pure gd)) (some (.pure hd)) (some (.pure wd)) (some (.pure od)) o9 (some (.pure d)) aQ):=by
 have n1:=qv [112,108,97,99,101];simp[m9,aS,ax,a_,bC,bx,ae,bj,h1,aP,n1]
theorem R8(GS:DF)(aU a1:D)(p ru tt gd hd wd od d:D)(o9 aR:Option S)(h1:GS [.pure ru,.pure d,.pure gd,.pure .aw,.pure .aw]=some (.pure n8,[.pure ru,.pure d,.pure gd,.pure .aw,.pure .aw])) :
  n4 GS (bP aU (some (.pure a1)) (some (.own p)) (some (.pure ru)) (some (.pure tt)) (some (.pure gd)) (some (.pure hd)) (some (.pure wd)) (some (.pure od)) o9 aR (some (.pure d))) = .ok .next (bP aU (some (.pure a1)) (some (.own p)) (some (.pure ru)) (some (.pure tt)) (some (.pure gd)) (some (.pure hd)) (some (.pure wd)) (some (.pure od)) o9 aR (some (.pure d))):=by
 have n1:=qv [116,105,108,101];simp[n4,aS,ax,a_,bC,bx,ae,bj,h1,aP,n1]
theorem R9(GS:DF)(aU a1:D)(p ru tt gd hd wd od:D)(o9 aR aQ:Option S)(h1:GS [.pure ru,.pure tt,.pure gd,.pure hd,.pure wd]=some (.pure yU,[.pure ru,.pure tt,.pure gd,.pure hd,.pure wd]))(h2:GS [.pure ru,.pure tt,.pure gd,.pure (.int 0),.pure wd]=some (.pure yU,[.pure ru,.pure tt,.pure gd,.pure (.int 0),.pure wd])) :
  qp GS (bP aU (some (.pure a1)) (some (.own p)) (some (.pure ru)) (some (.pure tt)) (some (.pure gd)) (some (.pure hd)) (some (.pure wd)) (some (.pure od)) o9 aR aQ) = .ok .next (bP aU (some (.pure a1)) (some (.own p)) (some (.pure ru)) (some (.pure tt)) (some (.pure gd)) (some (.pure hd)) (some (.pure wd)) (some (.pure od)) o9 aR aQ):=by
 have n1:=qv [116,111,108,100];simp[qp,aS,ax,a_,bC,bx,ae,bj,h1,h2,aP,n1]
theorem R_{h w:Nat}{bs:List (Nat×List Tx)}(R:dG h w bs){d:D}(hp:cU d)(aU:D)(a1:Option S)(o4 o5 o6 o7 o8 o9 aR aQ:Option S):∃ (t:Nat) (d':D),t ∈ bs.map (·.1)/\cU d' /\
  l3 (bP aU a1 (some (.own d)) (some (.pure (aI h w bs))) o4 o5 o6 o7 o8 o9 aR aQ) = .ok .next (bP aU a1 (some (.own d')) (some (.pure (aI h w bs))) (some (.pure (.str [t]))) o5 o6 o7 o8 o9 aR aQ):=by
 have x2:=(iZ h w bs).2.2;have n0:=R.n0;have n1:=R.n1;obtain⟨r,d1,e1,lr,p1⟩:=gU hp bs.length (bs.length:Nat) rfl n0 (by omega);have hl:eN (.tup (bs.map d_))=some (.pure (.int (bs.length:Nat))):=by rw[RB]; simp
 have hb:bs[r] ∈ bs:=QW lr;have y1:ay (.tup (bs.map d_)) (.int (r:Nat))=some (.pure (d_ bs[r])):=by
  simp[ay,jv,lr]
 have y2:ay (d_ bs[r]) (.int 0)=some (.pure (.str [bs[r].1])):=by simp[ay,nN]
 refine⟨bs[r].1,d1,Q0 hb,p1,?_⟩;generalize d_ bs[r]=BR at *;generalize D.tup (bs.map d_)=BD at *;generalize aI h w bs=ru at *;simp[l3,az,ax,a_,bC,bT,bx,ae,bj,ag,bq,aq,x2,hl,e1,aP,y1,y2]
theorem Sa{d:D}(hp:cU d)(aU:D)(a1 a3 a4:Option S)(o5 o6 o7 o8 o9 aR aQ:Option S):∃ (g:Nat) (d':D),g<=60/\cU d' /\
  l4 (bP aU a1 (some (.own d)) a3 a4 o5 o6 o7 o8 o9 aR aQ) = .ok .next (bP aU a1 (some (.own d')) a3 a4 (some (.pure (.int (g:Nat)))) o6 o7 o8 o9 aR aQ):=by
 obtain⟨r,d1,e1,lr,p1⟩:=gU hp 2 2 rfl (by decide) (by decide);have hx:∃ m:Nat,ay (.lst [.int 4,.int 61]) (.int (r:Nat))=some (.pure (.int (m:Nat)))/\0 < m/\m<=61:=by
  rcases (by omega:r=0\/r=1) with rfl | rfl
  ·exact⟨4,rfl,by decide,by decide⟩
  ·exact⟨61,rfl,by decide,by decide⟩
 obtain⟨m,y,m0,m1⟩:=hx;obtain⟨g,d2,e2,lg,p2⟩:=gU p1 m (m:Nat) rfl m0 (by omega);refine⟨g,d2,by omega,p2,?_⟩;generalize D.int (r:Nat)=RD at *;generalize D.int (m:Nat)=MD at *;simp[l4,az,ax,a_,bC,bT,bx,ae,bj,e1,aP,gM,y,e2]
theorem Sb(GP:DF){ru hh gg PP:D}(x0:ay ru (.int 0)=some (.pure hh))(s:GP [.pure hh,.pure gg]=some (.pure PP,[.pure hh,.pure gg]))(aU:D)(a1 a2 a4 o6 o7 o8 o9 aR aQ:Option S):(az (ax GP [.val (ag ay 3 (aj (eD (.int 0)))),.val (ae 5)]) (ak [] 6)) (bP aU a1 a2 (some (.pure ru)) a4 (some (.pure gg)) o6 o7 o8 o9 aR aQ) = .ok .next (bP aU a1 a2 (some (.pure ru)) a4 (some (.pure gg)) (some (.pure PP)) o7 o8 o9 aR aQ):=by
 simp[az,ax,a_,bC,bx,ae,bj,ag,bq,aq,x0,s,aP]
theorem Sd(GP:DF){ru hh gg PP:D}(x0:ay ru (.int 1)=some (.pure hh))(s:GP [.pure hh,.pure gg]=some (.pure PP,[.pure hh,.pure gg]))(aU:D)(a1 a2 a4 o6 o7 o8 o9 aR aQ:Option S):(az (ax GP [.val (ag ay 3 (aj (eD (.int 1)))),.val (ae 5)]) (ak [] 7)) (bP aU a1 a2 (some (.pure ru)) a4 (some (.pure gg)) o6 o7 o8 o9 aR aQ) = .ok .next (bP aU a1 a2 (some (.pure ru)) a4 (some (.pure gg)) o6 (some (.pure PP)) o8 o9 aR aQ):=by
 simp[az,ax,a_,bC,bx,ae,bj,ag,bq,aq,x0,s,aP]
theorem Se{d:D}(hp:cU d)(aU:D)(A:Nat)(a1 a3 a4 a5 o7 o8 o9 aR aQ:Option S):∃ (r:Nat) (d':D),cU d' /\
  l7 (bP aU a1 (some (.own d)) a3 a4 a5 (some (.pure (.int (A:Nat)))) o7 o8 o9 aR aQ) = .ok .next (bP aU a1 (some (.own d')) a3 a4 a5 (some (.pure (.int (A:Nat)))) o7 (some (.own (.lst [.int ((A:Nat) + 1),.int ((A:Nat) + 1 + (r:Nat)),.int (-1),.bl true,.aw,.str [48],.tup [.int 0],.lst [.int 1]]))) o9 aR aQ):=by
 obtain⟨r,d1,e1,lr,p1⟩:=gU hp 1000000000 1000000000 rfl (by decide) (by decide);have pw:nj (.int 10) (.int 9)=some (.pure (.int 1000000000)):=by
  have hc:oH 10 9=true:=by decide +kernel
  show(if oH 10 9 then some (S.pure (.int (10 ^ (9:Int).toNat))) else none)=_;rw[if_pos hc];rfl
 have y1:=add_int (A:Nat) 1;have y2:=add_int ((A:Nat) + 1) (r:Nat);refine⟨r,d1,p1,?_⟩;generalize ((A:Nat):Int) + 1 + ((r:Nat):Int)=S2 at *;generalize ((A:Nat):Int) + 1=S1 at *;generalize D.int (r:Nat)=RD at *;generalize D.int (A:Nat)=AD at *;have ng:j9 (.int 1)=some (.pure (.int (-1))):=rfl;simp[l7,az,ax,a_,bC,bT,bx,ae,bj,ag,bq,aq,y1,y2,pw,e1,aP,ng,gM]
section
variable {ce:Tx->Nat}
theorem ES{h w t:Nat}{bs:List (Nat×List Tx)}(R:dG h w bs):∀ x ∈ [D.aw,.str [],.str ([t] ++ [t]),.lst [.str [97]],.int 7,.str [65]],qu bs x:=λx hx=>by
 simp only[Wo,JN,or_false] at hx;rcases hx with rfl | rfl | rfl | rfl | rfl | rfl
 ·exact .inl rfl
 ·exact .inr ⟨[],rfl,λn _ q=>by cases q⟩
 ·exact .inr ⟨_,rfl,λn _ q=>by cases q⟩
 ·exact .inl rfl
 ·exact .inl rfl
 ·refine .inr ⟨[65],rfl,λn hn q=>?_⟩;obtain⟨b,hb,rfl⟩:=Qt.mp hn;have:=R.NR b hb;injection q with q
  omega
theorem Sf(A r:Nat):∀ x ∈ [D.int ((A:Nat) + 1),.int ((A:Nat) + 1 + (r:Nat)),.int (-1),.bl true,.aw,.str [48],.tup [.int 0],.lst [.int 1]],tJ A x:=λx hx=>by
 have ii:∀ i:Int,(i < 0\/(A:Int) < i)->tJ A (.int i):=λi hi=>⟨by simp[cj],by
  show(decide (0<=i) && decide (i<=(A:Int)))=false;rcases hi with hi | hi
  ·rw[decide_eq_false (by omega)]; rfl
  ·rw[decide_eq_false (p:=i<=(A:Int)) (by omega)]; simp⟩
 simp only[Wo,JN,or_false] at hx;rcases hx with rfl | rfl | rfl | rfl | rfl | rfl | rfl | rfl
 ·exact ii _ (.inr (by omega))
 ·exact ii _ (.inr (by omega))
 ·exact ii _ (.inl (by omega))
 ·exact⟨by simp[cj],rfl⟩
 ·exact⟨by simp[cj],rfl⟩
 ·exact⟨by simp[cj],rfl⟩
 ·exact⟨by simp[cj],rfl⟩
 ·exact⟨by simp[cj],rfl⟩
theorem Sg(B r:Nat):∀ x ∈ [D.int ((B:Nat) + 1),.int (-1 - (r:Nat)),.bl false,.aw,.str [49],.tup [.int 1]],tJ B x:=λx hx=>by
 have ii:∀ i:Int,(i < 0\/(B:Int) < i)->tJ B (.int i):=λi hi=>⟨by simp[cj],by
  show(decide (0<=i) && decide (i<=(B:Int)))=false;rcases hi with hi | hi
  ·rw[decide_eq_false (by omega)]; rfl
  ·rw[decide_eq_false (p:=i<=(B:Int)) (by omega)]; simp⟩
 simp only[Wo,JN,or_false] at hx;rcases hx with rfl | rfl | rfl | rfl | rfl | rfl
 ·exact ii _ (.inr (by omega))
 ·exact ii _ (.inl (by omega))
 ·exact⟨by simp[cj],rfl⟩
 ·exact⟨by simp[cj],rfl⟩
 ·exact⟨by simp[cj],rfl⟩
 ·exact⟨by simp[cj],rfl⟩
theorem ET(GS:DF)(aU a1 p ru tt gd hd wd od:D)(aR aQ:Option S):∀ (ds:List D) (o9:Option S),(∀ d ∈ ds,GS [.pure ru,.pure tt,.pure gd,.pure d,.pure (.int 0)]=some (.pure mQ,[.pure ru,.pure tt,.pure gd,.pure d,.pure (.int 0)])/\GS [.pure ru,.pure (.str [65]),.pure gd,.pure d,.pure (.int 0)]=some (.pure n8,[.pure ru,.pure (.str [65]),.pure gd,.pure d,.pure (.int 0)])) ->
  ∃ o9',forL (ak [] 9) (m8 GS) ds (bP aU (some (.pure a1)) (some (.own p)) (some (.pure ru)) (some (.pure tt)) (some (.pure gd)) (some (.pure hd)) (some (.pure wd)) (some (.pure od)) o9 aR aQ) = .ok .next (bP aU (some (.pure a1)) (some (.own p)) (some (.pure ru)) (some (.pure tt)) (some (.pure gd)) (some (.pure hd)) (some (.pure wd)) (some (.pure od)) o9' aR aQ)
 | [],o9,_=>⟨o9,rfl⟩
 | d :: r,o9,h=>by
  obtain⟨o9',e⟩:=ET GS aU a1 p ru tt gd hd wd od aR aQ r (some (.pure d)) λx hx=>h x (Wd _ hx)
  obtain⟨h1,h2⟩:=h d Wj;exact⟨o9',by rw[kr (δ1:=bP aU (some (.pure a1)) (some (.own p)) (some (.pure ru)) (some (.pure tt)) (some (.pure gd)) (some (.pure hd)) (some (.pure wd)) (some (.pure od)) (some (.pure d)) aR aQ) rfl (R6 GS aU a1 p ru tt gd hd wd od d aR aQ h1 h2),e]⟩
theorem EU(GS:DF)(aU a1 p ru tt gd hd wd od:D)(o9 aQ:Option S):∀ (ds:List D) (aR:Option S),(∀ d ∈ ds,GS [.pure ru,.pure tt,.pure gd,.pure hd,.pure d]=some (.pure mQ,[.pure ru,.pure tt,.pure gd,.pure hd,.pure d])) ->
  ∃ o10',forL (ak [] 10) (m9 GS) ds (bP aU (some (.pure a1)) (some (.own p)) (some (.pure ru)) (some (.pure tt)) (some (.pure gd)) (some (.pure hd)) (some (.pure wd)) (some (.pure od)) o9 aR aQ) = .ok .next (bP aU (some (.pure a1)) (some (.own p)) (some (.pure ru)) (some (.pure tt)) (some (.pure gd)) (some (.pure hd)) (some (.pure wd)) (some (.pure od)) o9 o10' aQ)
 | [],aR,_=>⟨aR,rfl⟩
 | d :: r,aR,h=>by
  obtain⟨o10',e⟩:=EU GS aU a1 p ru tt gd hd wd od o9 aQ r (some (.pure d)) λx hx=>h x (Wd _ hx)
  exact⟨o10',by rw[kr (δ1:=bP aU (some (.pure a1)) (some (.own p)) (some (.pure ru)) (some (.pure tt)) (some (.pure gd)) (some (.pure hd)) (some (.pure wd)) (some (.pure od)) o9 (some (.pure d)) aQ) rfl (R7 GS aU a1 p ru tt gd hd wd od d o9 aQ (h d Wj)),e]⟩
theorem EV(GS:DF)(aU a1 p ru tt gd hd wd od:D)(o9 aR:Option S):∀ (ds:List D) (aQ:Option S),(∀ d ∈ ds,GS [.pure ru,.pure d,.pure gd,.pure .aw,.pure .aw]=some (.pure n8,[.pure ru,.pure d,.pure gd,.pure .aw,.pure .aw])) ->
  ∃ o11',forL (ak [] 11) (n4 GS) ds (bP aU (some (.pure a1)) (some (.own p)) (some (.pure ru)) (some (.pure tt)) (some (.pure gd)) (some (.pure hd)) (some (.pure wd)) (some (.pure od)) o9 aR aQ) = .ok .next (bP aU (some (.pure a1)) (some (.own p)) (some (.pure ru)) (some (.pure tt)) (some (.pure gd)) (some (.pure hd)) (some (.pure wd)) (some (.pure od)) o9 aR o11')
 | [],aQ,_=>⟨aQ,rfl⟩
 | d :: r,aQ,h=>by
  obtain⟨o11',e⟩:=EV GS aU a1 p ru tt gd hd wd od o9 aR r (some (.pure d)) λx hx=>h x (Wd _ hx)
  exact⟨o11',by rw[kr (δ1:=bP aU (some (.pure a1)) (some (.own p)) (some (.pure ru)) (some (.pure tt)) (some (.pure gd)) (some (.pure hd)) (some (.pure wd)) (some (.pure od)) o9 aR (some (.pure d))) rfl (R8 GS aU a1 p ru tt gd hd wd od d o9 aR (h d Wj)),e]⟩
theorem Sh{d:D}(hp:cU d)(aU:D)(B:Nat)(a1 a3 a4 a5 a6 o8 o9 aR aQ:Option S):∃ (r:Nat) (d':D),cU d' /\
  i9 (bP aU a1 (some (.own d)) a3 a4 a5 a6 (some (.pure (.int (B:Nat)))) o8 o9 aR aQ) = .ok [.int ((B:Nat) + 1),.int (-1 - (r:Nat)),.bl false,.aw,.str [49],.tup [.int 1]] (bP aU a1 (some (.own d')) a3 a4 a5 a6 (some (.pure (.int (B:Nat)))) o8 o9 aR aQ):=by
 obtain⟨r,d1,e1,lr,p1⟩:=gU hp 9 9 rfl (by decide) (by decide);have y1:=add_int (B:Nat) 1;have y2:ni (.int (-1)) (.int (r:Nat))=some (.pure (.int (-1 - (r:Nat)))):=rfl;refine⟨r,d1,p1,?_⟩;generalize ((-1:Int) - ((r:Nat):Int))=S2 at *;generalize ((B:Nat):Int) + 1=S1 at *;generalize D.int (r:Nat)=RD at *;generalize D.int (B:Nat)=BD at *;have ng:j9 (.int 1)=some (.pure (.int (-1))):=rfl;simp[i9,n5,ax,a_,bC,bT,bx,ae,bj,ag,bq,aq,y1,y2,e1,aP,ng,S.d]
theorem Si(aU:D)(t:Nat)(a1 a2 a3 a5 a6 a7 o8 o9 aR aQ:Option S) :
  yV (bP aU a1 a2 a3 (some (.pure (.str [t]))) a5 a6 a7 o8 o9 aR aQ) = .ok [.aw,.str [],.str ([t] ++ [t]),.lst [.str [97]],.int 7,.str [65]] (bP aU a1 a2 a3 (some (.pure (.str [t]))) a5 a6 a7 o8 o9 aR aQ):=by
 have y:bp (.str [t]) (.str [t])=some (.pure (.str ([t] ++ [t]))):=by
  simp only[bp];rw[if_pos (by rw[gO]; simp)]
 simp only[yV,n5];simp[ag,bq,aq,y,gM,S.d]
abbrev yW(ce:Tx->Nat):DS:=(aN l1 (aN l2 (aN l3 (aN l4 (aN l5 (aN l6 (aN l7 (aN (dz (fw (ae 8)) (ak [] 9) (m8 (cT ce))) (aN (dz i9 (ak [] 10) (m9 (cT ce))) (aN (dz yV (ak [] 11) (n4 (cT ce))) (qp (cT ce))))))))))))
theorem Sj(hi:iR ce)(aU:D)(c:Int)(o2 o3 o4 o5 o6 o7 o8 o9 aR aQ:Option S):∃ (q2 q3 q4 q5 q6 q7 q8 q9 ku mP:Option S),yW ce (bP aU (some (.pure (.int c))) o2 o3 o4 o5 o6 o7 o8 o9 aR aQ) = .ok .next (bP aU (some (.pure (.int c))) q2 q3 q4 q5 q6 q7 q8 q9 ku mP):=by
 obtain⟨d0,e0,p0⟩:=Ri c;obtain⟨h,w,bs,d1,e1,R,n6,p1⟩:=Rr p0 6 (by decide) (by decide);have e1:lE [.own d0,.pure (.int 6)]=some (.pure (aI h w bs),[.own d1,.pure (.int 6)]):=e1;obtain⟨t,d2,ht,p2,s3⟩:=R_ R p1 aU (some (.pure (.int c))) o4 o5 o6 o7 o8 o9 aR aQ;obtain⟨g,d3,hg,p3,s4⟩:=Sa p2 aU (some (.pure (.int c))) (some (.pure (aI h w bs))) (some (.pure (.str [t]))) o5 o6 o7 o8 o9 aR aQ;have s5:=Sb iT (iZ h w bs).1 (Es h g (by have:=R.h1; omega) (by omega)) aU (some (.pure (.int c))) (some (.own d3)) (some (.pure (.str [t]))) o6 o7 o8 o9 aR aQ;have s6:=Sd iT (iZ h w bs).2.1 (Es w g (by have:=R.w1; omega) (by omega)) aU (some (.pure (.int c))) (some (.own d3)) (some (.pure (.str [t]))) (some (.pure (.int ((h ^ g:Nat):Int)))) o7 o8 o9 aR aQ;obtain⟨r,d4,p4,s7⟩:=Se p3 aU (h ^ g) (some (.pure (.int c))) (some (.pure (aI h w bs))) (some (.pure (.str [t]))) (some (.pure (.int (g:Nat)))) (some (.pure (.int ((w ^ g:Nat):Int)))) o8 o9 aR aQ;have Sk:qu bs (.str [65]):=ES (t:=t) R _ (by simp);have c8:∀ d ∈ [D.int (((h ^ g:Nat):Int) + 1),.int (((h ^ g:Nat):Int) + 1 + (r:Nat)),.int (-1),.bl true,.aw,.str [48],.tup [.int 0],.lst [.int 1]],cT ce [.pure (aI h w bs),.pure (.str [t]),.pure (.int (g:Nat)),.pure d,.pure (.int 0)]=some (.pure mQ,[.pure (aI h w bs),.pure (.str [t]),.pure (.int (g:Nat)),.pure d,.pure (.int 0)])/\cT ce [.pure (aI h w bs),.pure (.str [65]),.pure (.int (g:Nat)),.pure d,.pure (.int 0)]=some (.pure n8,[.pure (aI h w bs),.pure (.str [65]),.pure (.int (g:Nat)),.pure d,.pure (.int 0)]):=λd hd=>by
  obtain⟨q1,q2⟩:=Sf (h ^ g) r d hd;exact⟨ER hi R ht g hg d (.int 0) q1 (by simp[cj]) (.inl q2),EO hi R Sk g d (.int 0)⟩
 have f8:=λo9=>ET (cT ce) aU (.int c) d4 (aI h w bs) (.str [t]) (.int (g:Nat)) (.int ((h ^ g:Nat):Int)) (.int ((w ^ g:Nat):Int)) (.lst [.int (((h ^ g:Nat):Int) + 1),.int (((h ^ g:Nat):Int) + 1 + (r:Nat)),.int (-1),.bl true,.aw,.str [48],.tup [.int 0],.lst [.int 1]]) aR aQ _ o9 c8
 obtain⟨q9,s8⟩:=f8 o9;generalize hOD:D.lst [.int (((h ^ g:Nat):Int) + 1),.int (((h ^ g:Nat):Int) + 1 + (r:Nat)),.int (-1),.bl true,.aw,.str [48],.tup [.int 0],.lst [.int 1]]=OD at *;obtain⟨r2,d5,p5,s9⟩:=Sh p4 aU (w ^ g) (some (.pure (.int c))) (some (.pure (aI h w bs))) (some (.pure (.str [t]))) (some (.pure (.int (g:Nat)))) (some (.pure (.int ((h ^ g:Nat):Int)))) (some (.pure OD)) q9 aR aQ;have c9:∀ d ∈ [D.int (((w ^ g:Nat):Int) + 1),.int (-1 - (r2:Nat)),.bl false,.aw,.str [49],.tup [.int 1]],cT ce [.pure (aI h w bs),.pure (.str [t]),.pure (.int (g:Nat)),.pure (.int ((h ^ g:Nat):Int)),.pure d]=some (.pure mQ,[.pure (aI h w bs),.pure (.str [t]),.pure (.int (g:Nat)),.pure (.int ((h ^ g:Nat):Int)),.pure d]):=λd hd=>by
  obtain⟨q1,q2⟩:=Sg (w ^ g) r2 d hd;exact ER hi R ht g hg _ d (by simp[cj]) q1 (.inr q2)
 obtain⟨ku,s10⟩:=EU (cT ce) aU (.int c) d5 (aI h w bs) (.str [t]) (.int (g:Nat)) (.int ((h ^ g:Nat):Int)) (.int ((w ^ g:Nat):Int)) OD q9 aQ _ aR c9;have Aw:=Si aU t (some (.pure (.int c))) (some (.own d5)) (some (.pure (aI h w bs))) (some (.pure (.int (g:Nat)))) (some (.pure (.int ((h ^ g:Nat):Int)))) (some (.pure (.int ((w ^ g:Nat):Int)))) (some (.pure OD)) q9 ku aQ;obtain⟨mP,s12⟩:=EV (cT ce) aU (.int c) d5 (aI h w bs) (.str [t]) (.int (g:Nat)) (.int ((h ^ g:Nat):Int)) (.int ((w ^ g:Nat):Int)) OD q9 ku _ aQ λd hd=>EO hi R (ES (t:=t) R d hd) g .aw .aw
 have Sl:=R9 (cT ce) aU (.int c) d5 (aI h w bs) (.str [t]) (.int (g:Nat)) (.int ((h ^ g:Nat):Int)) (.int ((w ^ g:Nat):Int)) OD q9 ku mP (EN R ht g (h ^ g) (w ^ g) hg (Wf _) (Wf _)) (EN R ht g 0 (w ^ g) hg (Ql _) (Wf _));refine⟨some (.own d5),some (.pure (aI h w bs)),some (.pure (.str [t])),some (.pure (.int (g:Nat))),some (.pure (.int ((h ^ g:Nat):Int))),some (.pure (.int ((w ^ g:Nat):Int))),some (.pure OD),q9,ku,mP,?_⟩;unfold yW;rw[cx (δ1:=bP aU (some (.pure (.int c))) (some (.own d0)) o3 o4 o5 o6 o7 o8 o9 aR aQ) (by simp[az,ax,a_,bC,bT,bx,ae,bj,aP,e0])];rw[cx (δ1:=bP aU (some (.pure (.int c))) (some (.own d1)) (some (.pure (aI h w bs))) o4 o5 o6 o7 o8 o9 aR aQ) (by
  generalize aI h w bs=ru at *;simp[az,ax,a_,bC,bT,bx,ae,bj,aP,e1])]
 refine(cx s3).trans ?_;refine(cx s4).trans ?_;refine(cx s5).trans ?_;refine(cx s6).trans ?_;refine(cx s7).trans ?_;clear s3 s4 s5 s6 s7 e0 e1 f8 c8 c9;have i8:∀ δ:Dl,δ[8]? = some (some (.own OD))->fw (ae 8) δ = .ok [.int (((h ^ g:Nat):Int) + 1),.int (((h ^ g:Nat):Int) + 1 + (r:Nat)),.int (-1),.bl true,.aw,.str [48],.tup [.int 0],.lst [.int 1]] (δ.set 8 (some (.pure OD))):=λδ hδ=>by
  have hz:∀ L:List D,D.lst L=OD->fw (ae 8) δ = .ok L (δ.set 8 (some (.pure OD))):=λL hL=>by
   simp[n5,ae,hδ,S.d,<- hL]
  exact hz _ hOD
 refine(cx ((jB (i8 _ rfl)).trans s8)).trans ?_;refine(cx ((jB s9).trans s10)).trans ?_;refine(cx ((jB Aw).trans s12)).trans ?_;exact Sl
theorem Sm(hi:iR ce)(ns:List Int)(hn:ns.length<=63):nZ ce [.pure (.lst (ns.map .int))]=some (.pure (.bl true),[.pure (.lst (ns.map .int))]):=by
 obtain⟨c0,e0⟩:=Rj ns;have Sn:∀ (ns:List Int) (lo hi:Option Int),cJ (ns.map D.int) lo hi=(cJ ns lo hi).map D.int:=λns lo hi=>by
  unfold cJ;simp[List.map_take,List.map_drop]
 have ha:bp (.lst [.int c0]) (.lst (cJ (ns.map .int) (some 1) (some 4)))=some (.own (.lst ((c0 :: cJ ns (some 1) (some 4)).map .int))):=by
  rw[Sn];have hl:(cJ ns (some 1) (some 4)).length<=63:=by
   unfold cJ;simp;omega
  simp only[bp];rw[if_pos (by rw[gO]; simp; omega)];simp
 have hs:jk (some 1) (some 4) (.lst (ns.map .int))=some (.own (.lst (cJ (ns.map .int) (some 1) (some 4)))):=rfl;generalize D.lst (ns.map .int)=aU at *;obtain⟨δ',e,o1,o2,o3,o4,o5,o6,o7,o8,o9,aR,aQ,rfl⟩:=sI (g:=ak [] 1) (b:=yW ce)
  (λ_ δ=>∃ (o1 o2 o3 o4 o5 o6 o7 o8 o9 aR aQ:Option S),δ=bP aU o1 o2 o3 o4 o5 o6 o7 o8 o9 aR aQ) ((c0 :: cJ ns (some 1) (some 4)).map .int) 0 (bP aU none none none none none none none none none none none) ⟨none,none,none,none,none,none,none,none,none,none,none,rfl⟩ (λi d δ hd ⟨o1,o2,o3,o4,o5,o6,o7,o8,o9,aR,aQ,e⟩=>by
   subst e;simp only[Wy,WS] at hd;obtain⟨k,_,rfl⟩:=hd;obtain⟨q2,q3,q4,q5,q6,q7,q8,q9,ku,mP,e⟩:=Sj hi aU k o2 o3 o4 o5 o6 o7 o8 o9 aR aQ;exact⟨_,_,rfl,e,_,_,_,_,_,_,_,_,_,_,_,rfl⟩)
 generalize ((c0 :: cJ ns (some 1) (some 4)).map D.int)=cs at *;generalize D.lst (cJ (ns.map .int) (some 1) (some 4))=cl at *;rw[nZ];refine Ec (δ1:=bP aU o1 o2 o3 o4 o5 o6 o7 o8 o9 aR aQ) ?_;rw[xw];have qi:fw (bb bp (fq (aG (ax mG [.val (ae 0),.val (eD (.int 0))]) cD)) (aj (oN 0 (me (eD (.int 1))) (me (eD (.int 4)))))) (bP aU none none none none none none none none none none none) = .ok cs (bP aU none none none none none none none none none none none):=by
  simp[n5,ax,a_,bC,bx,ae,bj,e0,aP,oN,me,aq,hs,ha]
 refine(cx ((jB qi).trans e)).trans ?_;rfl
end
def Gt:DF:=λss=>match ss with
 | [.pure (.lst ds)]=>match jn ds with
  | some ns=>if ns.length<=63 then some (.pure (.bl true),ss) else none
  | none=>none
 | _=>none
theorem So(ns:List Int)(h:ns.length<=63):∃ aB,Gt [.pure (.lst (ns.map .int))]=some (.pure (.bl true),aB):=by
 unfold Gt;simp only[DV.ints_map,h,if_true];exact⟨_,rfl⟩
theorem EW:∀ {ds:List D} {ns:List Int},jn ds=some ns->ds=ns.map .int
 | [],ns,h=>by simp[jn] at h; subst h; rfl
 | d :: r,ns,h=>by
  cases d with
  | int i =>
   simp only[jn] at h
   cases e:jn r with
   | none=>rw[e] at h; cases h
   | some m =>
    rw[e] at h
    cases h;rw[EW e];rfl
  | _=>simp[jn] at h
theorem Sq:∀ ce,iR ce->∀ ss y,Gt ss=some y->nZ ce ss=some y:=by
 intro ce hj ss y h;unfold Gt at h;split at h
 ·rename_i ds
  cases hi:jn ds with
  | none=>rw[hi] at h; cases h
  | some ns =>
   rw[hi] at h;by_cases hn:ns.length<=63
   ·simp only[hn,if_true] at h
    cases h;have e:=EW hi;subst e;exact Sm hj ns hn
   ·simp only[hn,if_false] at h
    cases h
 ·cases h
end K19
open PySem PySem.W PyProof.Rows
namespace PySem.W.Fast
def tw730745435555705771:=0
def tw11413694166970751118:=0
def tw5753008196925596426:=0
def tw16905032406448054579:=0
def tw11075483008389140867:=0
def tw1678224801221062210:=0
def tw5086288520844939006:=0
def tw14326147240474042609:=0
def tw17415618184412541054:=0
def tw17786850273924833218:=0
def tw13125390182767634614:=0
def tw323034296334386952:=0
def tw4464745911551353743:=0
def tw15462585176064028446:=0
def tw8934528224753176324:=0
def tw8757094532681600659:=0
def tw8970086823458569858:=0
def tw9882572177729869932:=0
def tw10074949620927173123:=0
def tw6453198402371766345:=0
def tw9408446705892381794:=0
def tw8046991268824047321:=0
def tw8907511144559634491:=0
def tw8220867510415610954:=0
def tw12103046790924498193:=0
def tw2436451678598935472:=0
def tw17135534464216792050:=0
def tw13399985242752053366:=0
end PySem.W.Fast
set_option maxRecDepth 100000 in
set_option maxHeartbeats 0 in
theorem PySem.Challenge.cw_tilegrow_k19_parts_that_there_are_not_holds : PySem.Challenge.rw_tilegrow_k19_parts_that_there_are_not.Holds := by
 w_on; o_law; k_head; (case hw=>w_witness2)
 k_fill
 refine DV.BX (l:=PySem.Challenge.rw_tilegrow_k19_parts_that_there_are_not) (k:=6) (G:=K19.Gt) rfl rfl ⟨rfl,by decide,by decide⟩ (λw h Y=>PySem.W.kIn_of Y) ?L K19.So ?F
 case L=>intro p; exact Eq.refl true
 case F =>
  intro w mg fa h KX G oy;refine' K19.all_mk K19.Sq KX G oy ?d0 ?d1 ?d2 ?d3 ?d4 ?d5 ?d6 ?d7 ?d8 ?d9 ?xC ?xD ?xE ?xF ?xG ?xH ?xI ?xJ ?xK ?xM ?xO ?xQ ?qb ?qc ?mF ?nP ?nQ ?fA ?lD ?qd ?iS ?qe ?qf ?nR ?xR ?xS ?s_ ?xT ?xU ?xV ?tf ?xW ?xX ?xY ?D0 ?xZ ?x4 ?x5 ?x6 ?x8 ?x9 ?x_ ?ya ?yb ?yc ?yd ?ye ?tj ?tm ?yf ?yg ?yh ?yi ?yj ?ij ?yk ?yl ?ql ?ym ?yn ?yo ?tu ?yp ?yq ?yr ?yt ?yu ?yv ?yw ?yx ?yy ?ik ?yz ?yA ?tw ?yB ?yC ?yD ?qo ?yE ?yF ?yG ?yH
  (case d0|d1|d2|d3|d4|d5|d6|d7|d8|d9|xC|xD|xE|xF|xG|xH|xI|xJ=>exact⟨_,_,_,_,_,_,_,_,_,_,by k_is,by k_is,by k_is,by k_is⟩)
  (case xK|xM|xO|xQ|qb|qc|mF|nP|nQ|fA|lD|qd|iS|qe|qf|nR|xR|xS|s_|xT|xU|xV|tf|xW|xX|xY|D0|xZ|x4|x5|x8|x9|x_|yb|yc|tj|tm|yf|yg|yh|yi|yj|ij|yt|yu|yv|yw|yx|yy|ik|yH=>k_is)
  (case x6|ya|yd|ye=>kernel_rfl)
  (case yk|yl|ql|ym|yn|yo|tu|yp|yq|yr|yz|yA|tw|yB|yC|yD|qo|yE|yF|yG=>kit_is)
