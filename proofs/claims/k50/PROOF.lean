import PyProof.Rows.All
import Wide.All
import OpenK.AllK
import Wide.FinOn
import Lean
import PyProof.EqAt
import PyProof.EqKinds
import PyProof.TupleCall
import PyProof.NeKinds
import PyProof.StrWalks
import PyProof.ListStr
import PyProof.StrOps2
import PyProof.StrLawsIn
import KE.KDictOf
import PyProof.AttrMissHeap
import PyProof.Draws
import PyProof.EnumMake
import PyProof.Rows.EnumRows
import PyProof.LongRange
import PyProof.NoPylong
import PyProof.SeqI3
import PyProof.Rows.SeqCalls
import PyProof.StrLawsChain
import PyProof.StrCalls2
import KE.KIntText
import PyProof.Rows.CallKwBuiltin
import OpenK.KOwn
import OpenK.KRaise
import PyProof.ExcBaseAll.ValueError
import PyProof.Rows.CatchOwn
import KE.KIsAll
import PyProof.ExcArgsOwn
import PyProof.ExcAttrAll.ValueError
import PyProof.Rows.SeqMore2
import PyProof.ListMulAny
import PyProof.ListMulRoad
import PyProof.ZipIter
import PyProof.Rows.FactsT2
import PyProof.ExcInit
import PyProof.InstStoreFacts
import PyProof.StrCalls
import PyProof.FactsAll.dict_1
import PyProof.FactsAll.subtypes_3
import PyProof.FactsAll.subtypes_4
import PyProof.Dict
import PyProof.MinMaxWalk
import PyProof.WalkInts
import PyProof.WalksMore
import PyProof.FactsAll.tuple_2
import KE.KSortTup
import PyProof.Rows.SortWalk
import PyProof.Rows.SetFrom
import PyProof.DictKinds
import PyProof.DictStraight
import PyProof.SetRoads
import PyProof.CollectWalk
import PyProof.CollectStr
import PyProof.DictIter
import PyProof.Rows.SortShell
import KE.KItemsList
import PyProof.Rows.SortStr
import PyProof.DictItemsLoops
import PyProof.ListNew
import PyProof.Rows.SumAny
import KE.IntBitsLaws
import KE.KLam
import KE.KDictList
import KE.KNestM
import PyProof.DictRoadsH
import PySem.Challenge.RW_tilegrow_k50_groups_of_tiles
open PySem renaming wpAny_bind→W0,Shared→W1,wpAny_pure→W3,wpAny→W6,sizeLine→W8,Spec→Wd,starEach→We,Program→Wj,World→Wm,Around→Wn,mainGlobals→Wt,mem_of_lookup→Ww,wpAny_newObj_type→WD,compareOp→WE,wpAny_call_entry→WF,cLine→WI,wpAny_callSpecial?_slot→WJ,wpAny_holding→WK,wpAny_mono→WN,FuncData→WQ,wpAny_loadPart'→Qf,backTo→Qg,pyNext→Qh,codeAny→Qi,sysModules→Qj,assignEach→Qk,binaryOp→Qo,codeAny_builtin→Qq,bootBuiltins→Qs,rawInt→Qu,cellsFrom→Qv,behindInMarks→Qy,wpAny_rule→Qz,sizeLine_eq→QF,wpAny_field→QG,wpAny_typeNameOfWhole_itemiter→QJ,wpAny_truthy_bool→QK,plainId_quiet→QM,wpAny_setEntries_of→QP,wpAny_setField→QS,codeAny_mono→QU,wpAny_passesOwn→QV,attributeBase→QY,wpAny_setState_of→J0,wpAny_typeNameOf_itemiter→J5,swapsWith→J7,wpAny_typeOf→J9,wpAny_askSetting→Jc,wpAny_Call_Name_kw→Jj,tupleKind_room_in1→Jk,wpAny_pyIter_tuple→Jl,wpAny_setField_rec→Jm,builtinLookup_eq_fast→Ju,firstArgMember→Jv,wpAny_fieldsOf→Jw,wpAny_attempt→JA,keywordEach→JB,sliceBounds→JC,wpAny_ite_split→JG,wpAny_updateSeq→JI,pushCells→JK,getattributeRaised→JM,scanBound→JN,getItem→JP,typeIs_int→JQ,wpAny_seqItems→JR,foldedSetIterable→JT,wpAny_sequenceKey→JV,wpAny_pyIter_enum→JX,wpAny_dictEntries→JZ
open PySem.W renaming Frag→W2,mg_none_of→WR,fnOf→Q4,kia_one→Qe,keepIn→QA,kitOne→QB,codeHdIn→Jd,cellsFrom_some→Jn,findIn→Jt,envX→Jx,kla_obj→JJ,OpenLaw→U7
open PySem.Heap renaming get?_push_of_some→W4,get?_push_size→Wh,lt_size→Wk,get?_update_self→WC,get?_update_other→Q0,SameBut→Q6,size_push→Qt
open List renaming getElem?_eq_some_iff→W5,getElem?_eq_getElem→W7,getElem?_set_ne→W9,map_cons→Wc,replicate→Wf,mem_cons_of_mem→Wg,mem_cons_self→Wi,mem_cons→Wl,size_toArray→Wo,getElem?_set_self→Wp,length_map→Wq,range→Wu,map_map→Wv,getElem?_map→Wy,mem_of_getElem?→WB,mem_map→WG,find?_cons→WH,length_cons→WO,mem_append_right→WS,mem_map_of_mem→WU,map_append→WV,length_append→WW,getElem?_eq_none→WX,replicate_succ→WY,any_cons→WZ,pairwise_cons→Q1,nodup_cons→Q2,nil_append→Q3,getElem?_set→Q5,append_nil→Q7,all_eq_true→Q8,append_assoc→Qb,lookup_cons→Ql,length_set→Qp,length→Qx,mem_filter→QH,flatten_cons→QL,eq_nil_of_length_eq_zero→QN,mem_range→QQ,getElem_mem→QR,foldl_cons→QW,length_filter_le→QX,getElem?_append_left→J1,drop_eq_getElem_cons→J3,map_congr_left→Je,getElem?_cons_succ→Jg,mem_append→Ji,range_succ_eq_map→Jo,nodup_append→Jq,pairwise_map→Jr,mem_append_left→Jy,getElem?_of_mem→Jz,length_nil→JE,range_succ→JH,all_map→JL,find?_eq_none→JO,nodup_nil→JS,any_eq_false→JU,all_cons→U0,length_take→U1,ext_getElem→U3,cons_append→U4,of_mem_zip→U5,map_nil→U6
open Option.some renaming injEq→Wa,inj→Wx
open Nat renaming le_refl→Wb,ne_of_lt→Wr,lt_of_lt_of_le→WA,le_trans→WP,lt_irrefl→Qd,zero_le→Qm,lt_succ_of_lt→Qn,ne_of_gt→QI,zero_add→Jb,le_of_lt→Js,le_succ→JD,lt_succ_self→U2
open Bool renaming and_eq_true→Ws,false_ne_true→WM,false_eq_true→QC,eq_iff_iff→JF
open Option renaming map_some→Wz,bind_some→WL,map_eq_some_iff→Q9,bind_eq_some_iff→Jh,isSome_map→JW
open Array renaming length_toList→WT,getElem?_toList→Qr,getElem?_eq_none→Jp,toList_push→JY
open PySem.Heap.SameBut renaming update→Qa
open Int renaming toNat_natCast→Qc
open PySem.Builtin.Str renaming strSliceIndices→Qw,occurrences→Jf
open PySem.F renaming plain_extend_loop→QD,slot_dict_itemiterator_next→QO,slot_tuple_iterator_next→QZ
open PyProof.Rows renaming slot_tuple_getitem→QE,callWith_type1→QT,envOfC→J8
open PySem.Builtin.Slice renaming slicePlaces→J2
open PySem.Builtin.SmallTypes renaming nextOf→J4
open PySem.Builtin.Tuple renaming tupleExact→Ja
set_option Elab.async false
set_option linter.all false
set_option maxRecDepth 100000
namespace L2
open PySem PySem.Spec PyProof.Rows
abbrev Key:=Sum Int Str
def gv:Key->Value->Bool
 | .inl k,v=>Value.isInt k v
 | .inr x,v=>Value.isStrOf x v
def tm(w:Wm):Key->Int
 | .inl k=>hashInt k
 | .inr x=>hashStr w x
theorem g9:∀ {k:Key} {v:Value},gv k v=true->(∃ i t,k=Sum.inl i/\v=Value.int i t)\/(∃ x t,k=Sum.inr x/\v=Value.str x t)
 | .inl i,v,h=>by
  obtain⟨t,e⟩:=Value.isInt_shape (k:=i) (v:=v) h;exact .inl ⟨i,t,rfl,e⟩
 | .inr x,v,h=>by
  obtain⟨t,e⟩:=Value.isStrOf_shape (x:=x) (v:=v) h;exact .inr ⟨x,t,rfl,e⟩
theorem En(i:Int)(t:Tok):gv (.inl i) (.int i t)=true:=by simp[gv,Value.isInt]
theorem Eo(x:Str)(t:Tok):gv (.inr x) (.str x t)=true:=by simp[gv,Value.isStrOf]
theorem Ep(a b:Int):decide ((Sum.inl a:Key)=Sum.inl b)=(a == b):=by
 by_cases e:a=b
 ·subst e; simp
 ·have h:¬ (Sum.inl a:Key)=Sum.inl b:=λq=>e (Sum.inl.inj q)
  rw[decide_eq_false h];exact(beq_eq_false_iff_ne.mpr e).symm
theorem Er(a b:Str):decide ((Sum.inr a:Key)=Sum.inr b)=decide (a=b):=by
 by_cases e:a=b
 ·subst e; simp
 ·have h:¬ (Sum.inr a:Key)=Sum.inr b:=λq=>e (Sum.inr.inj q)
  rw[decide_eq_false h,decide_eq_false e]
theorem Es(a:Int)(b:Str):decide ((Sum.inl a:Key)=Sum.inr b)=false:=decide_eq_false (λq=>nomatch q)
theorem Et(a:Str)(b:Int):decide ((Sum.inr a:Key)=Sum.inl b)=false:=decide_eq_false (λq=>nomatch q)
def cM(prog:Wj)(w:Wm):PySem.KeyKind prog w Key where
 is:=gv
 hash:=tm w
 inj:=λv a b ha hb=>by
  rcases g9 ha with ⟨i,t,rfl,rfl⟩ | ⟨x,t,rfl,rfl⟩
  ·rcases g9 hb with ⟨j,u,rfl,e⟩ | ⟨y,u,rfl,e⟩
   ·injection e with e1 _; rw[e1]
   ·exact nomatch e
  ·rcases g9 hb with ⟨j,u,rfl,e⟩ | ⟨y,u,rfl,e⟩
   ·exact nomatch e
   ·injection e with e1 _; rw[e1]
 byValue:=λk v h=>by
  rcases g9 h with ⟨i,t,rfl,rfl⟩ | ⟨x,t,rfl,rfl⟩ <;> rfl
 pyHash:=λhv h=>by
  rcases g9 hv with ⟨i,t,rfl,rfl⟩ | ⟨x,t,rfl,rfl⟩
  ·exact wpAny_pyHash_int h
  ·exact wpAny_pyHash_str h
 eqBool:=λhu hv h=>by
  rcases g9 hu with ⟨i,t,rfl,rfl⟩ | ⟨x,t,rfl,rfl⟩
  ·rcases g9 hv with ⟨j,u,rfl,rfl⟩ | ⟨y,u,rfl,rfl⟩
   ·rw[Ep] at h; exact wpAny_eqBool_int h
   ·rw[Es] at h; exact SeqAt.EqAt.int_str i t y u _ _ _ _ h
  ·rcases g9 hv with ⟨j,u,rfl,rfl⟩ | ⟨y,u,rfl,rfl⟩
   ·rw[Et] at h; exact SeqAt.EqAt.str_int x t j u _ _ _ _ h
   ·rw[Er] at h; exact wpAny_eqBool_str h
 «strs»:=λk x t v h=>by
  rcases g9 h with ⟨i,u,rfl,e⟩ | ⟨y,u,rfl,e⟩
  ·exact nomatch e
  ·injection e with e1 _
   subst e1
   cases v <;> rfl
theorem yE(prog:Wj)(w:Wm)(k:Key)(v:Value):(cM prog w).is k v=gv k v:=rfl
theorem Eu(prog:Wj)(w:Wm)(i:Int)(t:Tok):(cM prog w).is (.inl i) (.int i t)=true:=En i t
theorem Ew(prog:Wj)(w:Wm)(x:Str)(t:Tok):(cM prog w).is (.inr x) (.str x t)=true:=Eo x t
inductive V where
 | ay | bl (b:Bool) | int (i:Int) | str (x:Str) | byt (b:Array UInt8) | flt (b:UInt64) | ref (a:Addr) | ty (n:String)
 deriving DecidableEq
def RelV:V->Value->Prop
 | .ay,u=>u=Value.none
 | .bl b,u=>u=Value.bool b
 | .int i,u=>∃ t,u=Value.int i t
 | .str x,u=>∃ t,u=Value.str x t
 | .byt b,u=>∃ t,u=Value.bytes b t
 | .flt b,u=>∃ t,u=Value.float b t
 | .ref a,u=>u=Value.ref a
 | .ty n,u=>u=Value.type n
abbrev Vals:List V->List Value->Prop:=Paired RelV
theorem Vals.length(r:Vals xs us):xs.length=us.length:=Paired.length r
theorem Vals.get:∀ {xs:List V} {us:List Value} {i:Nat} {x:V},Vals xs us->xs[i]? = some x->∃ u,us[i]? = some u/\RelV x u
 | _,_,_,_,.nil,e=>by simp at e
 | _,_,0,_,.cons r _,e=>by simp at e; subst e; exact⟨_,rfl,r⟩
 | _,_,i + 1,x,.cons _ t,e=>by
  obtain⟨u,h1,h2⟩:=Vals.get (i:=i) (x:=x) t (by simpa using e);exact⟨u,by simpa using h1,h2⟩
theorem Vals.set(r:RelV x u):∀ {xs:List V} {us:List Value} (i:Nat),Vals xs us->Vals (xs.set i x) (us.set i u)
 | _,_,_,.nil=>.nil
 | _,_,0,.cons _ t=>.cons r t
 | _,_,i + 1,.cons q t=>.cons q (Vals.set r i t)
theorem Vals.append:∀ {xs ys:List V} {us ws:List Value},Vals xs us->Vals ys ws->Vals (xs ++ ys) (us ++ ws)
 | _,_,_,_,.nil,s=>s
 | _,_,_,_,.cons r t,s=>.cons r (Vals.append t s)
theorem Vals.take:∀ {xs:List V} {us:List Value} (n:Nat),Vals xs us->Vals (xs.take n) (us.take n)
 | _,_,0,_=>.nil
 | _,_,_ + 1,.nil=>.nil
 | _,_,n + 1,.cons r t=>.cons r (Vals.take n t)
theorem Vals.drop:∀ {xs:List V} {us:List Value} (n:Nat),Vals xs us->Vals (xs.drop n) (us.drop n)
 | _,_,0,r=>r
 | _,_,_ + 1,.nil=>.nil
 | _,_,n + 1,.cons _ t=>Vals.drop n t
def cY:Option V->Option Value->Prop
 | some v,some u=>RelV v u
 | none,none=>True
 | _,_=>False
def KV{κ:Type}:List (κ×V)->List (κ×Value)->Prop:=Paired λ(p:κ×V) (q:κ×Value)=>p.1=q.1/\RelV p.2 q.2
def kV:Key->V
 | .inl i=>.int i
 | .inr x=>.str x
inductive NK where
 | i (z:Int) | s (x:Str) | t (ks:List NK)
noncomputable instance nkDec:DecidableEq NK:=λa b=>Classical.propDecidable (a=b)
mutual
def eS(w:Wm):NK->Int
 | .i z=>tm w (.inl z)
 | .s x=>tm w (.inr x)
 | .t ks=>reduceHash (Builtin.Tuple.tupleHashOf (ql w ks))
def ql(w:Wm):List NK->List Int
 | []=>[]
 | k :: ks=>eS w k :: ql w ks
end
inductive HO where
  | lst (xs:List V)
  | tup (xs:List V)
  | dK (kvs:List (Key×V)) | dT (kvs:List (List Key×V))
  | set (S:Int->Bool) (n:Nat)
  | ins (C dx:Addr) (fs:List (Str×V))
  | own (x:Addr)
  | xd (fs:List (Str×V))
  | met (f x:Addr)
  | jH (lo hi:Int)
  | frz (o:Obj) (u:HO)
  | tbl (ps:Array Value)
  | ctab (pos:Pos) (q:Str)
  | dN (ep:Nat) (kvs:List (NK×V×V))
  | ext (φ:Heap->Prop)
abbrev Hp:=Addr->Option HO
def upd(H:Hp)(a:Addr)(o:HO):Hp:=λb=>if b=a then some o else H b
theorem cA:upd H a o a=some o:=by unfold upd; rw[if_pos rfl]
theorem aP(h:b≠a):upd H a o b=H b:=by unfold upd; rw[if_neg h]
theorem Ex:upd (upd H a o) a u=upd H a u:=by
 funext b; unfold upd; split <;> rfl
theorem Ey{H:Hp}{a b:Addr}{o u:HO}(h:H a=some o)(h':H b=some u)(d:o≠u):a≠b:=by
 intro e; subst e; rw[h] at h'; exact d (Wx h')
theorem eU{H:Hp}{a b:Addr}{o:HO}(h:H a=some o)(h':H b=none):a≠b:=by
 intro e; subst e; rw[h] at h'; cases h'
def gx (h:Heap) (a:Addr) (ae:Array Value):Prop:=∃ n,h.get? a=some { cls:=.type "tuple",dict:=none,data:=.seq ae n,slots:=#[] }
theorem gx.tup(x:gx h a ae):IsTup h a ae:=let ⟨n,e⟩:=x; ⟨_,e,rfl,n,rfl⟩
theorem gx.new (h:Heap) (ae:Array Value):gx (h.push { cls:=.type "tuple",data:=.seq ae }) h.objs.size ae:=⟨_,Wh _ rfl⟩
theorem gx.lt(x:gx h a ae):a < h.objs.size:=let ⟨_,e⟩:=x; Wk e
section
variable (P:Wj) (w:Wm)
def bw(H:Hp)(h:Heap)(a:Addr):HO->Prop
 | .lst xs=>xs.length<=W8/\∃ (ae:List Value) (n:Nat),Vals xs ae/\h.get? a=some { cls:=.type "list",data:=.seq ae.toArray n }
 | .tup xs=>xs.length<=W8/\∃ ae:List Value,Vals xs ae/\gx h a ae.toArray
 | .dK kvs=>kvs.length<=W8/\(a == Qj)=false/\∃ vs,KV kvs vs/\h.DictOf (cM P w) a vs
 | .dT kvs=>kvs.length<=W8/\(a == Qj)=false/\∃ xs:List (List Key×Addr×Value),
   Paired (λ(p:List Key×V) (q:List Key×Addr×Value)=>p.1=q.1/\H q.2.1=some (.tup (p.1.map kV))/\RelV p.2 q.2.2) kvs xs /\
   ∃ o es ep,h.get? a=some o/\o.ExactDict/\o.data = .dict es ep/\es.toList=xs.map (entryOfKey (tupleKind (cM P w)))/\(xs.map (·.1)).Nodup
 | .set S n=>h.SetOf (intKind P w) a S n
 | .ins C dx fs=>H dx=some (.own a)/\fs.length<=1000/\dx≠a/\h.get? a=some (PySem.W.instObj C dx) /\
   ∃ mA,h.Ns1 dx mA/\(∀ f,cY (fs.lookup f) (mA f))/\PySem.Within mA (fs.map (·.1))
 | .own _=>∃ o,h.get? a=some o
 | .xd fs=>∃ mA,h.Ns1 a mA/\∀ f,cY (fs.lookup f) (mA f)
 | .jH lo hi=>∃ t u v,h.get? a=some { cls:=.type "range",data:=.fields #[.int lo t,.int hi u,.int 1 v] }
 | .frz o u=>h.get? a=some o/\bw H h a u
 | .tbl ps=>h.get? a=some { cls:=.none,data:=.fields ps }
 | .dN ep kvs=>kvs.length<=W8/\(a == Qj)=false/\∃ o es,h.get? a=some o/\o.ExactDict/\o.data = .dict es ep/\Paired (λ(p:NK×V×V) (e:DictEntry)=>e.hash=eS w p.1/\RelV p.2.1 e.key/\RelV p.2.2 e.val) kvs es.toList/\(kvs.map (·.1)).Nodup
 | .ctab pos q=>∃ ps,h.get? a=some { cls:=.none,data:=.fields ps }/\TriplesOk ps.toList/\∀ cv,codeAmong pos ps.toList=some cv->∃ c' oc,cv = .ref c'/\H c'=some (.frz oc (.ext λ_=>True))/\∃ vs tq,oc.data = .fields vs/\vs[1]? = some (.str q tq)
 | .met f x=>h.get? a=some (PySem.W.methodObj (.ref f) (.ref x))
 | .ext φ=>φ h/\(∃ o,h.get? a=some o)/\∀ h1 h2:Heap,φ h1->(∀ o,h1.get? a=some o->h2.get? a=some o)->φ h2
def bK(H:Hp)(h:Heap):Prop:=∀ a o,H a=some o->bw P w H h a o
end
section
variable {P:Wj} {w:Wm} {H H':Hp} {h h':Heap} {a:Addr} {o:HO}
theorem bw.lt(x:bw P w H h a o):a < h.objs.size:=by
 cases o with
 | lst xs=>obtain⟨_,_,_,_,e⟩:=x; exact Wk e
 | tup xs=>obtain⟨_,_,_,p⟩:=x; exact p.lt
 | dK kvs=>obtain⟨_,_,_,_,o,_,_,e,_⟩:=x; exact Wk e
 | dT kvs=>obtain⟨_,_,_,_,o,_,_,e,_⟩:=x; exact Wk e
 | set S n=>obtain⟨o,_,_,_,e,_⟩:=x; exact Wk e
 | ins C dx fs=>obtain⟨_,_,_,e,_⟩:=x; exact Wk e
 | own y=>obtain⟨_,e⟩:=x; exact Wk e
 | xd fs=>obtain⟨_,⟨_,_,_,e,_⟩,_⟩:=x; exact Wk e
 | jH lo hi=>obtain⟨_,_,_,e⟩:=x; exact Wk e
 | frz ob u=>obtain⟨e,_⟩:=x; exact Wk e
 | tbl ps=>exact Wk (show h.get? a=some _ from x)
 | ctab pos q=>obtain⟨_,e,_⟩:=x; exact Wk e
 | dN ep kvs=>obtain⟨_,_,_,_,e,_⟩:=x; exact Wk e
 | met f y=>exact Wk (show h.get? a=some _ from x)
 | ext φ=>obtain⟨_,⟨_,e⟩,_⟩:=x; exact Wk e
theorem Paired.tu:∀ {l₁:List α} {l₂:List β},Paired F l₁ l₂->(∀ a b,F a b->G a b)->Paired G l₁ l₂
 | _,_,.nil,_=>.nil
 | _,_,.cons r t,f=>.cons (f _ _ r) (Paired.tu t f)
theorem bw.lr(x:bw P w H h a o)(k:∀ b u,(b=a\/H b=some (.own a))->h.get? b=some u->h'.get? b=some u)
  (ho:∀ b,H b=some (.own a)->H' b=some (.own a)) (ht:∀ b xs,H b=some (.tup xs)->H' b=some (.tup xs)) (hf:∀ b o u,H b=some (.frz o u)->H' b=some (.frz o u)):bw P w H' h' a o:=by
 induction o with
 | lst xs=>obtain⟨z,ae,n,r,e⟩:=x; exact⟨z,ae,n,r,k _ _ (.inl rfl) e⟩
 | tup xs=>obtain⟨z,ae,r,n,e⟩:=x; exact⟨z,ae,r,n,k _ _ (.inl rfl) e⟩
 | dK kvs=>obtain⟨z,y,vs,r,ob,es,ep,e,c⟩:=x; exact⟨z,y,vs,r,ob,es,ep,k _ _ (.inl rfl) e,c⟩
 | dT kvs =>
  obtain⟨z,y,xs,r,ob,es,ep,e,c⟩:=x;exact⟨z,y,xs,Paired.tu r λp q z=>⟨z.1,ht _ _ z.2.1,z.2.2⟩,ob,es,ep,k _ _ (.inl rfl) e,c⟩
 | set S n=>obtain⟨ob,es,ep,t,e,c⟩:=x; exact⟨ob,es,ep,t,k _ _ (.inl rfl) e,c⟩
 | ins C dx fs =>
  obtain⟨d,z,ne,e,mA,⟨od,es,ep,e2,c⟩,r⟩:=x;exact⟨ho _ d,z,ne,k _ _ (.inl rfl) e,mA,⟨od,es,ep,k _ _ (.inr d) e2,c⟩,r⟩
 | own y=>obtain⟨ob,e⟩:=x; exact⟨ob,k _ _ (.inl rfl) e⟩
 | xd fs=>obtain⟨mA,⟨od,es,ep,e,c⟩,r⟩:=x; exact⟨mA,⟨od,es,ep,k _ _ (.inl rfl) e,c⟩,r⟩
 | jH lo hi=>obtain⟨t,u,v,e⟩:=x; exact⟨t,u,v,k _ _ (.inl rfl) e⟩
 | frz ob u ih=>obtain⟨e,q⟩:=x; exact⟨k _ _ (.inl rfl) e,ih q⟩
 | dN ep kvs=>obtain⟨z,y,ob,es,e,c⟩:=x; exact⟨z,y,ob,es,k _ _ (.inl rfl) e,c⟩
 | ctab pos q=>obtain⟨ps,e,t,r⟩:=x; exact⟨ps,k _ _ (.inl rfl) e,t,λcv z=>let ⟨c',oc,z1,z2,z3⟩:=r cv z; ⟨c',oc,z1,hf _ _ _ z2,z3⟩⟩
 | tbl ps =>
  have e:h.get? a=some { cls:=.none,data:=.fields ps }:=x;show h'.get? a=some { cls:=.none,data:=.fields ps };exact k a _ (.inl rfl) e
 | met f y =>
  have e:h.get? a=some (PySem.W.methodObj (.ref f) (.ref y)):=x;show h'.get? a=some (PySem.W.methodObj (.ref f) (.ref y));exact k a _ (.inl rfl) e
 | ext φ=>obtain⟨p,⟨o,e⟩,st⟩:=x; exact⟨st _ _ p λo q=>k _ _ (.inl rfl) q,⟨o,k _ _ (.inl rfl) e⟩,st⟩
theorem bK.lt(x:bK P w H h)(e:H a=some o):a < h.objs.size:=(x a o e).lt
theorem bK.fresh(x:bK P w H h)(e:h.objs.size<=a):H a=none:=by
 cases q:H a with
 | none=>rfl
 | some u=>exact absurd (WA (x.lt q) e) (Qd _)
theorem bK.kept(x:bK P w H h)(k:∀ b u,h.get? b=some u->h'.get? b=some u):bK P w H h':=λa o e =>
 (x a o e).lr (λb u _ q=>k b u q) (λ_ q=>q) (λ_ _ q=>q) λ_ _ _ q=>q
theorem bK.laid(x:bK P w H h)(k:∀ b u,h.get? b=some u->h'.get? b=some u)(hp:h.objs.size<=a)(new:bw P w (upd H a o) h' a o):bK P w (upd H a o) h':=λb u e=>by
 have hn:=x.fresh hp;by_cases hb:b=a
 ·subst hb; rw[cA] at e; cases e; exact new
 ·rw[aP hb] at e;exact(x b u e).lr (λc v _ q=>k c v q) (λc q=>by rw[aP (eU q hn)]; exact q) (λc xs q=>by rw[aP (eU q hn)]; exact q) λc o u q=>by rw[aP (eU q hn)]; exact q
end
def Rd(H:Hp)(a:Addr)(u:HO):Prop:=H a=some u\/∃ o,H a=some (.frz o u)
theorem Rd.of(h:H a=some u):Rd H a u:=.inl h
theorem Rd.ok(r:Rd H a u)(x:bK P w H h):bw P w H h a u:=by
 rcases r with r | ⟨o,r⟩
 ·exact x a u r
 ·obtain⟨_,q⟩:=x a _ r;exact q
def oh:Option HO->Prop
 | some (.lst _)=>True
 | some (.dK _)=>True
 | some (.dT _)=>True
 | some (.dN _ _)=>True
 | some (.set _ _)=>True
 | some (.ins _ _ _)=>True
 | some (.ext _)=>True
 | _=>False
section
variable {P:Wj} {w:Wm} {H:Hp} {h h':Heap} {x e:Addr} {o':HO}
theorem bK.write(ok:bK P w H h)(mu:oh (H x))(he:e=x\/H e=some (.own x))(k:∀ b u,b≠e->h.get? b=some u->h'.get? b=some u)(mJ:∃ u,h'.get? e=some u)
  (new:bw P w (upd H x o') h' x o'):bK P w (upd H x o') h':=λb u q=>by
 have gy:∀ c y,H c=some (.own y)->c≠x:=λc y r z=>by subst z; rw[r] at mu; exact mu
 have Ez:∀ c xs,H c=some (.tup xs)->c≠x:=λc xs r z=>by subst z; rw[r] at mu; exact mu
 have EA:∀ c o u,H c=some (.frz o u)->c≠x:=λc o u r z=>by subst z; rw[r] at mu; exact mu
 by_cases hb:b=x
 ·subst hb; rw[cA] at q; cases q; exact new
 ·rw[aP hb] at q;by_cases hbe:b=e
  ·have q':H b=some (.own x):=by
    rcases he with z | z
    ·exact absurd (hbe.trans z) hb
    ·rw[hbe]; exact z
   rw[q] at q'; cases q'
   obtain⟨v,hv⟩:=mJ;exact⟨v,by rw[hbe]; exact hv⟩
  ·refine(ok b u q).lr (λc v hc r=>k c v ?_ r) (λc r=>by rw[aP (gy c b r)]; exact r) (λc xs r=>by rw[aP (Ez c xs r)]; exact r) λc o u r=>by rw[aP (EA c o u r)]; exact r
   rcases hc with rfl | hc
   ·exact hbe
   ·rintro rfl;rcases he with z | z
    ·exact gy c b hc z
    ·rw[hc] at z; cases z; exact hb rfl
end
structure Un(fs ex:List Addr)(H H':Hp)(h h':Heap):Prop where
 keep:∀ b o,h.get? b=some o->H b=none->b ∉ fs->b ∉ ex->h'.get? b=some o
 slot:∀ b o,h.get? b=some o->H b=none->b ∈ fs->b ∉ ex->∃ sl,h'.get? b=some { o with slots:=sl }
 free:∀ b o,h.get? b=some o->H b=none->b ∉ ex->H' b=none
 there:∀ b o,h.get? b=some o->b ∉ ex->∃ o',h'.get? b=some o'
 kh:∀ b xs,H b=some (.tup xs)->H' b=some (.tup xs)
 iI:∀ b o u,H b=some (.frz o u)->H' b=some (.frz o u)
 ki:∀ b ps,H b=some (.tbl ps)->∃ more,H' b=some (.tbl (ps ++ more))
section
variable {fs EB ex RW:List Addr} {H H1 H2:Hp} {h h1 h2 h':Heap} {a x e:Addr} {o:HO}
theorem Un.any(u:Un fs ex H H1 h h1)(q:h.get? b=some ob)(n:H b=none)(hx:b ∉ ex):∃ sl,h1.get? b=some { ob with slots:=sl }:=by
 by_cases hb:b ∈ fs
 ·exact u.slot b ob q n hb hx
 ·exact⟨ob.slots,u.keep b ob q n hb hx⟩
theorem Un.kept(k:∀ b u,h.get? b=some u->h'.get? b=some u):Un fs ex H H h h' :=
 ⟨λb ob q _ _ _=>k b ob q,λb ob q _ _ _=>⟨ob.slots,k b ob q⟩,λ_ _ _ n _=>n,λb ob q _=>⟨ob,k b ob q⟩,λ_ _ q=>q,λ_ _ _ q=>q,λ_ ps q=>⟨#[],by rw[q]; simp⟩⟩
theorem Un.refl:Un fs ex H H h h:=Un.kept λ_ _ q=>q
theorem Un.laid(k:∀ b u,h.get? b=some u->h'.get? b=some u)(hp:h.objs.size<=a)(hn:H a=none):Un fs ex H (upd H a o) h h' where
 keep:=λb u q _ _ _=>k b u q
 slot:=λb u q _ _ _=>⟨u.slots,k b u q⟩
 free:=λb u q n _=>by rw[aP (Wr (WA (Wk q) hp))]; exact n
 there:=λb u q _=>⟨u,k b u q⟩
 kh:=λb xs q=>by rw[aP (eU q hn)]; exact q
 iI:=λb u xs q=>by rw[aP (eU q hn)]; exact q
 ki:=λb ps q=>⟨#[],by rw[aP (eU q hn),q]; simp⟩
theorem Un.write(mu:oh (H x))(he:e=x\/H e=some (.own x))(k:∀ b u,b≠e->h.get? b=some u->h'.get? b=some u)(mJ:∃ u,h'.get? e=some u):Un fs ex H (upd H x o) h h':=by
 have hx:∀ b,H b=none->b≠x:=λb n z=>by subst z; rw[n] at mu; exact mu
 have hb:∀ b,H b=none->b≠e:=λb n z=>by
  subst z;rcases he with r | r
  ·exact hx b n r
  ·rw[n] at r; cases r
 have hm:∀ b u,H b=some u->¬ oh (some u)->b≠x:=λb u q nm z=>by subst z; rw[q] at mu; exact nm mu
 refine⟨λb u q n _ _=>k b u (hb b n) q,λb u q n _ _=>⟨u.slots,k b u (hb b n) q⟩,λb u q n _=>by rw[aP (hx b n)]; exact n,λb u q _=>?_,
  λb xs q=>by rw[aP (hm b _ q λz=>z)]; exact q,λb u xs q=>by rw[aP (hm b _ q λz=>z)]; exact q,λb ps q=>⟨#[],by rw[aP (hm b _ q λz=>z),q]; simp⟩⟩
 by_cases hbe:b=e
 ·subst hbe; exact mJ
 ·exact⟨u,k b u hbe q⟩
end
def qm(h:Heap)(H:Hp):List Addr:=(Wu h.objs.size).filter λa=>(H a).isSome
def fF(h:Heap)(H:Hp):Heap:=PySem.W.hideAll h (qm h H)
theorem yF(h:Heap)(H:Hp):(fF h H).objs.size=h.objs.size:=PySem.W.hideAll_size _ _
theorem yG(e:h.get? b=some o)(n:H b=none):(fF h H).get? b=some o :=
 PySem.W.hideAll_get _ e λhm=>by
  have q:(H b).isSome=true:=(QH.mp hm).2;rw[n] at q; simp at q
theorem yH(e:(fF h H).get? b=some o):h.get? b=some o/\H b=none:=by
 have e':h.get? b=some o:=PySem.W.of_hideAll (qm h H) e;refine⟨e',?_⟩
 cases q:H b with
 | none=>rfl
 | some x =>
  have hm:b ∈ qm h H:=List.mem_filter.mpr ⟨QQ.mpr (Wk e'),by simp[q]⟩;have z:(fF h H).get? b=none:=PySem.W.hideAll_none (qm h H) hm;rw[z] at e; cases e
def ED(g h:Heap)(L:Addr):List (Addr×Obj):=(Wu h.objs.size).filterMap λa=>if a=L\/(g.get? a).isSome=true then none else(h.get? a).map λo=>(a,o)
def rest(g h:Heap)(L d:Addr):List (Addr×Obj):=(ED g h L).filter λp=>decide (p.1≠d)
structure Mod(K:W2)(mg:Str->Option Value)(base:Heap):Prop where
 oi:K.In base
 glob:base.Ns Wt mg
 blt:∃ mb,base.Ns builtinsNs mb/\∀ x:Str,x≠"__name__"->mb x=Qs x
 nolimit:base.NoLimit
structure Cx where
 prog:Wj
 w:Wm
 K:W2
 mg:Str->Option Value
 base:Heap
 A:Wn
 N:List Str
 s₀:W1
 H₀:Hp
 env:Env
 outer:List Env
 stack:List Env
 ex:List Addr
 fn:Str->Bool
 calm:Bool
 pn:List (Addr×Obj)
 xe:Value->W1->Prop
def fq(l:List Env):List Addr:=l.filterMap (·.frame)
abbrev Cx.fs(X:Cx):List Addr:=fq X.outer
def qo(sc:Scope)(x:Str):Prop:=sc.names.lookup x=some .local\/sc.names.lookup x=some .cell\/sc.names.lookup x=some .free
def Loc(sc:Scope)(x:Str):Prop:=sc.names.lookup x=some .local\/sc.names.lookup x=some .cell
def Look(env:Env)(h:Heap)(m:Str->Option Value)(x:Str)(u:Value):Prop :=
 (env.kindOf x=some .local/\m x=some u)\/((env.kindOf x=some .cell\/env.kindOf x=some .free)/\∃ c,env.cells.lookup x=some c/\h.IsCell c (some u))
structure Cx.Ok(X:Cx):Prop where
 mod:Mod X.K X.mg X.base
 kind:X.env.scope.kind = .function
 glob:X.env.globals=Wt
 blt:X.env.builtins=builtinsNs
 above:X.s₀.heap.objs.size<=X.env.locals
 inj:∀ x y c,X.env.cells.lookup x=some c->X.env.cells.lookup y=some c->x=y
 has:∀ x,(X.env.kindOf x=some .cell\/X.env.kindOf x=some .free)->∃ c,X.env.cells.lookup x=some c
 mK:∀ x c,X.fn x=true->X.env.cells.lookup x=some c->X.s₀.heap.objs.size<=c
 hd:X.calm=true->X.A.handled=none
 frames:X.A.frames=some X.stack
 qp:X.stack=X.outer\/(X.stack=X.env :: X.outer/\X.env.frame=some X.env.locals)
 qq:∀ b ∈ X.ex,b≠X.env.locals/\∀ x c,X.env.cells.lookup x=some c->c≠b
 bs:∀ b o,X.base.get? b=some o->X.s₀.heap.get? b=some o/\X.H₀ b=none
 jI:X.base.objs.size<=X.s₀.heap.objs.size
 oj:∀ b o,X.base.get? b=some o->b ∉ X.ex
 om:∀ b ∈ X.ex,b ∉ X.fs
 gz:X.s₀.heap.FunFrames X.base X.outer
 lu:∀ b ∈ X.fs,X.H₀ b=none
structure Inv(X:Cx)(pins:List (Addr×Obj))(σ:List (Option V))(H:Hp)(s:W1):Prop where
 ok:X.Ok
 os:s.os=X.s₀.os
 bare:AllBare s.gens
 base:Un X.fs X.ex X.H₀ H X.s₀.heap s.heap
 loc:∃ m,s.heap.Ns X.env.locals m/\∀ (i:Nat) (x:Str) (v:V),X.N[i]? = some x->σ[i]? = some (some v)->qo X.env.scope x->∃ u,RelV v u/\Look X.env s.heap m x u
 cell:∀ x c,X.env.cells.lookup x=some c->∃ v,s.heap.IsCell c v
 free:H X.env.locals=none
 gA:∀ x c,X.env.cells.lookup x=some c->H c=none
 pin:∀ p ∈ X.pn ++ pins,s.heap.get? p.1=some p.2/\H p.1=none/\p.1≠X.env.locals/\p.1 ∉ X.fs/\∀ v,p.2.data≠.cell v
 aj:bK X.prog X.w H s.heap
 len:σ.length=X.N.length
section
variable {X:Cx} {pins:List (Addr×Obj)} {σ:List (Option V)} {H H':Hp} {s:W1} {h':Heap}
theorem Cx.Ok.EE(ok:X.Ok)(e:X.base.get? b=some o):b ∉ X.fs:=λhb=>by
 have:=(ok.gz.mem hb).1;rw[e] at this; cases this
theorem Inv.bs(I:Inv X pins σ H s):∀ b o,X.base.get? b=some o->s.heap.get? b=some o/\H b=none:=λb o e =>
 ⟨I.base.keep b o (I.ok.bs b o e).1 (I.ok.bs b o e).2 (I.ok.EE e) (I.ok.oj b o e),I.base.free b o (I.ok.bs b o e).1 (I.ok.bs b o e).2 (I.ok.oj b o e)⟩
theorem Inv.bk(I:Inv X pins σ H s):∀ b o,X.base.get? b=some o->s.heap.get? b=some o:=λb o e=>(I.bs b o e).1
theorem Inv.mod(I:Inv X pins σ H s):Mod X.K X.mg X.base:=I.ok.mod
theorem Inv.dM(I:Inv X pins σ H s):X.K.In s.heap:=I.ok.mod.oi.keeps I.bk
theorem Inv.fr(I:Inv X pins σ H s):∃ m,Fr X.base X.env.locals s.heap m :=
 let ⟨m,hn,_⟩:=I.loc
 ⟨m,hn,I.bk,WP I.ok.jI I.ok.above⟩
theorem Inv.lt(I:Inv X pins σ H s):X.env.locals < s.heap.objs.size:=let ⟨_,hn,_⟩:=I.loc; hn.lt
theorem Inv.sz(I:Inv X pins σ H s):X.s₀.heap.objs.size<=s.heap.objs.size:=WP I.ok.above (Js I.lt)
theorem Inv.yI(I:Inv X pins σ H s)(h:s.heap.objs.size<=a):a ∉ X.fs:=λhb=>by
 obtain⟨_,o,ho,_⟩:=I.ok.gz.mem hb;exact absurd (WA (Wk ho) (WP I.sz h)) (Qd _)
theorem Inv.kj(I:Inv X pins σ H s):∀ x c,X.env.cells.lookup x=some c->c≠X.env.locals:=λx c e z=>by
 obtain⟨v,o,ho,hd⟩:=I.cell x c e;obtain⟨m,⟨o',es,ep,ho',hd',_⟩,_⟩:=I.loc;rw[z,ho'] at ho; cases ho; rw[hd'] at hd; cases hd
theorem Inv.gz(I:Inv X pins σ H s):s.heap.FunFrames X.base X.outer:=by
 have all:∀ (l:List Env),(∀ b ∈ fq l,b ∈ X.fs)->X.s₀.heap.FunFrames X.base l->s.heap.FunFrames X.base l:=by
  intro l;induction l with
  | nil=>intro _ _; trivial
  | cons env r ih =>
   intro hs hl;obtain⟨hk,⟨L,o,hf,hn,ho,hd⟩,hr⟩:=hl;have hL:L ∈ X.fs:=hs L (by unfold fq; rw[List.filterMap_cons,hf]; exact Wi);obtain⟨sl,e⟩:=I.base.slot L o ho (I.ok.lu L hL) hL λz=>I.ok.om L z hL
   exact⟨hk,⟨L,_,hf,hn,e,hd⟩,ih (λb hb=>hs b (by unfold fq; rw[List.filterMap_cons,hf]; exact Wg _ hb)) hr⟩
 exact all X.outer (λ_ hb=>hb) I.ok.gz
theorem Inv.stack(I:Inv X pins σ H s):s.heap.FunFrames X.base X.stack:=by
 rcases I.ok.qp with e | ⟨e,hf⟩
 ·rw[e]; exact I.gz
 ·rw[e];obtain⟨m,hn,_⟩:=I.loc;refine .cons (by rw[I.ok.kind]; decide) hf hn ?_ I.gz;exact Heap.get?_none_of_le (WP I.ok.jI I.ok.above)
theorem Inv.oq(I:Inv X pins σ H s):∀ b ∈ fq X.stack,b ∈ X.env.locals :: X.fs:=λb hb=>by
 rcases I.ok.qp with e | ⟨e,hf⟩
 ·rw[e] at hb; exact Wg _ hb
 ·rw[e] at hb;unfold fq at hb;rw[List.filterMap_cons,hf] at hb;exact hb
theorem Inv.yJ(I:Inv X pins σ H s):∀ b ∈ fq X.stack,H b=none:=λb hb=>by
 rcases Wl.mp (I.oq b hb) with e | hb
 ·rw[e]; exact I.free
 ·obtain⟨_,o,ho,_⟩:=I.ok.gz.mem hb;exact I.base.free b o ho (I.ok.lu b hb) λz=>I.ok.om b z hb
theorem Inv.step{g':Array GenState}{t':Nat}{d':Drawn}{ch:List Addr}(I:Inv X pins σ H s)
  (i9:∀ b ∈ ch,(b ∈ X.ex\/X.s₀.heap.objs.size<=b)/\b≠X.env.locals/\(∀ x c,X.env.cells.lookup x=some c->c≠b)/\∀ p ∈ X.pn ++ pins,p.1≠b)
  (keep:∀ b o,b≠X.env.locals->b ∉ X.fs->b ∉ ch->s.heap.get? b=some o->H b=none->h'.get? b=some o)
  (slot:∀ b o,b≠X.env.locals->b ∈ X.fs->b ∉ ch->s.heap.get? b=some o->H b=none->∃ sl,h'.get? b=some { o with slots:=sl }) (free:∀ b o,b ∉ ch->s.heap.get? b=some o->H b=none->H' b=none)
  (there:∀ b o,b ∉ ch->s.heap.get? b=some o->∃ o',h'.get? b=some o')
  (kh:∀ b xs,H b=some (.tup xs)->H' b=some (.tup xs)) (iI:∀ b o u,H b=some (.frz o u)->H' b=some (.frz o u)) (ki:∀ b ps,H b=some (.tbl ps)->∃ more,H' b=some (.tbl (ps ++ more)))
  (ns:∀ m,s.heap.Ns X.env.locals m->h'.Ns X.env.locals m) (aj:bK X.prog X.w H' h') (hg:AllBare g') :
  Inv X pins σ H' { s with heap:=h',gens:=g',drawn:=d',toks:=t' }:=by
 have yK:∀ b o,X.s₀.heap.get? b=some o->b≠X.env.locals:=λb o e=>Wr (WA (Wk e) I.ok.above)
 have qr:∀ b o,X.s₀.heap.get? b=some o->b ∉ X.ex->b ∉ ch:=λb o e hx hb=>by
  rcases (i9 b hb).1 with z | z
  ·exact hx z
  ·exact absurd (WA (Wk e) z) (Qd _)
 have cellK:∀ x c,X.env.cells.lookup x=some c->∀ v,s.heap.IsCell c v->h'.IsCell c v:=λx c e v ⟨o,ho,hd⟩=>by
  have ot:c ∉ ch:=λz=>(i9 c z).2.2.1 x c e rfl
  by_cases hc:c ∈ X.fs
  ·obtain⟨sl,q⟩:=slot c o (I.kj x c e) hc ot ho (I.gA x c e);exact⟨_,q,hd⟩
  ·exact⟨o,keep c o (I.kj x c e) hc ot ho (I.gA x c e),hd⟩
 refine⟨I.ok,I.os,hg,⟨λb o e n hb hx=>?_,λb o e n hb hx=>?_,λb o e n hx=>?_,λb o e hx=>?_,λb xs e=>kh b xs (I.base.kh b xs e),λb o xs e=>iI b o xs (I.base.iI b o xs e),λb ps e=>?_⟩,?_,λx c e=>?_,?_,λx c e=>?_,λp hp=>?_,aj,I.len⟩
 ·exact keep b o (yK b o e) hb (qr b o e hx) (I.base.keep b o e n hb hx) (I.base.free b o e n hx)
 ·obtain⟨sl,e1⟩:=I.base.slot b o e n hb hx;obtain⟨sl',e2⟩:=slot b _ (yK b o e) hb (qr b o e hx) e1 (I.base.free b o e n hx);exact⟨sl',e2⟩
 ·obtain⟨o',e1⟩:=I.base.there b o e hx;exact free b o' (qr b o e hx) e1 (I.base.free b o e n hx)
 ·obtain⟨o',e1⟩:=I.base.there b o e hx;exact there b o' (qr b o e hx) e1
 ·obtain⟨m1,e1⟩:=I.base.ki b ps e;obtain⟨m2,e2⟩:=ki b _ e1;exact⟨m1 ++ m2,by rw[e2,Array.append_assoc]⟩
 ·obtain⟨m,hn,hl⟩:=I.loc;refine⟨m,ns m hn,λi x v e1 e2 e3=>?_⟩;obtain⟨u,r,l⟩:=hl i x v e1 e2 e3;refine⟨u,r,?_⟩;rcases l with l | ⟨k,c,e,z⟩
  ·exact .inl l
  ·exact .inr ⟨k,c,e,cellK x c e _ z⟩
 ·obtain⟨v,z⟩:=I.cell x c e;exact⟨v,cellK x c e v z⟩
 ·obtain⟨m,⟨o,_,_,ho,_⟩,_⟩:=I.loc;exact free _ o (λz=>(i9 _ z).2.1 rfl) ho I.free
 ·obtain⟨v,o,ho,hd⟩:=I.cell x c e;exact free c o (λz=>(i9 c z).2.2.1 x c e rfl) ho (I.gA x c e)
 ·obtain⟨e,n,ne,nf,d⟩:=I.pin p hp;have ot:p.1 ∉ ch:=λz=>(i9 p.1 z).2.2.2 p hp rfl
  exact⟨keep p.1 p.2 ne nf ot e n,free p.1 p.2 ot e n,ne,nf,d⟩
theorem Inv.un{t':Nat}(I:Inv X pins σ H s)(u:Un X.fs [] H H' s.heap h')(aj:bK X.prog X.w H' h'):Inv X pins σ H' { s with heap:=h',toks:=t' }:=by
 obtain⟨m,⟨o,es,ep,ho,r⟩,_⟩:=id I.loc;obtain⟨sl,hL⟩:=u.any ho I.free (by simp);exact I.step (g':=s.gens) (d':=s.drawn) (ch:=[]) (λ_ z=>nomatch z) (λb o _ hb _ e n=>u.keep b o e n hb (by simp)) (λb o _ hb _ e n=>u.slot b o e n hb (by simp)) (λb o _ e n=>u.free b o e n (by simp)) (λb o _ e=>u.there b o e (by simp)) u.kh u.iI u.ki (λm' hm=>by
  obtain⟨o',fT,i_,ho',r'⟩:=hm;rw[ho] at ho'; cases ho'
  exact⟨_,fT,i_,hL,r'⟩) aj I.bare
theorem Inv.call{g':Array GenState}{t':Nat}{d':Drawn}{ch:List Addr}(I:Inv X pins σ H s)(u:Un (fq X.stack) ch H H' s.heap h')(aj:bK X.prog X.w H' h')(hg:AllBare g')
  (i9:∀ b ∈ ch,(b ∈ X.ex\/X.s₀.heap.objs.size<=b)/\b≠X.env.locals/\(∀ x c,X.env.cells.lookup x=some c->c≠b)/\∀ p ∈ X.pn ++ pins,p.1≠b) :
  Inv X pins σ H' { s with heap:=h',gens:=g',drawn:=d',toks:=t' }:=by
 obtain⟨m,⟨o,es,ep,ho,r⟩,_⟩:=id I.loc;obtain⟨sl,hL⟩:=u.any ho I.free λz=>(i9 _ z).2.1 rfl
 exact I.step (ch:=ch) i9 (λb o hL hb hc e n=>u.keep b o e n (λz=>(Wl.mp (I.oq b z)).elim hL hb) hc) (λb o _ _ hc e n=>u.any e n hc) (λb o hc e n=>u.free b o e n hc) (λb o hc e=>u.there b o e hc) u.kh u.iI u.ki (λm' hm=>by
  obtain⟨o',fT,i_,ho',r'⟩:=hm;rw[ho] at ho'; cases ho'
  exact⟨_,fT,i_,hL,r'⟩) aj hg
theorem Inv.turned{t':Nat}{it:Addr}(I:Inv X pins σ H s)(k:∀ b o,b≠it->s.heap.get? b=some o->h'.get? b=some o)(hn:H it=none)(hL:it≠X.env.locals)
  (h1:it ∈ X.ex\/X.s₀.heap.objs.size<=it) (h2:∀ x c,X.env.cells.lookup x=some c->c≠it) (h3:∀ p ∈ X.pn ++ pins,p.1≠it):Inv X pins σ H { s with heap:=h',toks:=t' }:=by
 have km:∀ b u,H b=some u->b≠it:=λb u e z=>by rw[z,hn] at e; cases e
 refine I.step (g':=s.gens) (d':=s.drawn) (ch:=[it]) (λb hb=>?_) (λb o _ _ hc e _=>k b o (λz=>hc (by simp[z])) e) (λb o _ _ hc e _=>⟨o.slots,k b o (λz=>hc (by simp[z])) e⟩) (λ_ _ _ _ n=>n)
  (λb o hc e=>⟨o,k b o (λz=>hc (by simp[z])) e⟩) (λ_ _ e=>e) (λ_ _ _ e=>e) (λb ps e=>⟨#[],by rw[e]; simp⟩) (λm hm=>?_) (λb u e=>?_) I.bare
 ·have e:b=it:=by simpa using hb
  subst e;exact⟨h1,hL,h2,h3⟩
 ·obtain⟨o,es,ep,ho,r⟩:=hm;exact⟨o,es,ep,k _ o (Ne.symm hL) ho,r⟩
 ·refine(I.aj b u e).lr (λc v hc q=>k c v ?_ q) (λ_ q=>q) (λ_ _ q=>q) λ_ _ _ q=>q
  rcases hc with z | z
  ·rw[z]; exact km b u e
  ·exact km c _ z
theorem Inv.tok(I:Inv X pins σ H s)(t:Nat):Inv X pins σ H { s with toks:=t }:=I.un (h':=s.heap) (t':=t) Un.refl I.aj
theorem Inv.kept(I:Inv X pins σ H s)(k:∀ b u,s.heap.get? b=some u->h'.get? b=some u):Inv X pins σ H { s with heap:=h',toks:=t' }:=I.un (Un.kept k) (I.aj.kept k)
theorem Inv.laid(I:Inv X pins σ H s)(k:∀ b u,s.heap.get? b=some u->h'.get? b=some u)(hp:s.heap.objs.size<=a)(new:bw X.prog X.w (upd H a o) h' a o) :
  Inv X pins σ (upd H a o) { s with heap:=h',toks:=t' }:=I.un (Un.laid k hp (I.aj.fresh hp)) (I.aj.laid k hp new)
theorem Inv.write(I:Inv X pins σ H s)(mu:oh (H x))(he:e=x\/H e=some (.own x))(k:∀ b u,b≠e->s.heap.get? b=some u->h'.get? b=some u)(mJ:∃ u,h'.get? e=some u)
  (new:bw X.prog X.w (upd H x o) h' x o):Inv X pins σ (upd H x o) { s with heap:=h',toks:=t' }:=I.un (Un.write mu he k mJ) (I.aj.write mu he k mJ new)
theorem Inv.weak(I:Inv X pins σ H s)(hl:σ'.length=σ.length)(w:∀ (i:Nat) v,σ'[i]? = some (some v)->σ[i]? = some (some v)):Inv X pins σ' H s :=
 ⟨I.ok,I.os,I.bare,I.base,let ⟨m,hn,fG⟩:=I.loc; ⟨m,hn,λi x v e1 e2 e3=>fG i x v e1 (w i v e2) e3⟩,I.cell,I.free,I.gA,I.pin,I.aj,hl.trans I.len⟩
theorem Inv.yL(I:Inv X pins σ H s)(h:∀ p ∈ pins',s.heap.get? p.1=some p.2/\H p.1=none/\p.1≠X.env.locals/\p.1 ∉ X.fs/\∀ v,p.2.data≠.cell v):Inv X pins' σ H s :=
 ⟨I.ok,I.os,I.bare,I.base,I.loc,I.cell,I.free,I.gA,λp hp=>(Ji.mp hp).elim (λz=>I.pin p (Jy _ z)) (h p),I.aj,I.len⟩
theorem yM{N:List Str}(hN:N.Nodup){i j:Nat}{x:Str}(a:N[i]? = some x)(b:N[j]? = some x):i=j:=by
 obtain⟨h1,e1⟩:=W5.mp a;obtain⟨h2,e2⟩:=W5.mp b;exact(List.getElem_inj hN).mp (e1.trans e2.symm)
theorem EF{M:Model}{A:Wn}{E:Value->W1->Prop}{i:Nat}{x:Str}{v:V}{u:Value}{Q:Unit->W1->Prop}(I:Inv X pins σ H s)(hN:X.N.Nodup)(hi:X.N[i]? = some x)(hx:Loc X.env.scope x)(r:RelV v u)
  (h:∀ s',Inv X pins (σ.set i (some v)) H s'->(∃ a,Q6 a s.heap s'.heap/\(a=X.env.locals\/X.env.cells.lookup x=some a))->Q () s') (hf:X.fn x=true\/X.env.scope.names.lookup x=some .local:=by first | exact .inl rfl | exact .inr rfl | assumption):W6 M A (storeName X.env x u) Q E s:=by
 obtain⟨m,hn,hl⟩:=id I.loc;have EG:(X.env.scope.kind == .class || (X.env.scope.kind == .module && X.env.locals != X.env.globals))=false:=by rw[I.ok.kind]; rfl
 have yN:i < σ.length:=by rw[I.len]; exact(W5.mp hi).1
 have kj:=I.kj;have tracked:∀ {a:Addr} {h':Heap},(∃ o,s.heap.get? a=some o/\H a=none)->Q6 a s.heap h'->bK X.prog X.w H h':=λ{a h'} ha hs b ob e=>by
  obtain⟨_,_,lx⟩:=ha;refine(I.aj b ob e).lr (λc w' hc q=>(hs.2 c ?_).trans q) (λ_ q=>q) (λ_ _ q=>q) λ_ _ _ q=>q
  rintro rfl;rcases hc with rfl | hc
  ·rw[lx] at e; cases e
  ·rw[lx] at hc; cases hc
 rcases hx with hk | hk
 ·refine wpAny_storeName_local hk hn (λh' tw hs=>?_) EG;obtain⟨oL,_,_,hoL,_⟩:=id hn;refine h _ ⟨I.ok,I.os,I.bare,⟨λb o e n hb hx=>?_,λb o e n hb hx=>?_,I.base.free,λb o e hx=>?_,I.base.kh,I.base.iI,I.base.ki⟩,⟨_,tw,λj y v' e1 e2 e3=>?_⟩,λy c e=>?_,I.free,I.gA,λp hp=>?_,tracked ⟨oL,hoL,I.free⟩ hs,by simpa using I.len⟩ ⟨_,hs,.inl rfl⟩
  ·exact(hs.2 b (Wr (WA (Wk e) I.ok.above))).trans (I.base.keep b o e n hb hx)
  ·obtain⟨sl,e1⟩:=I.base.slot b o e n hb hx;exact⟨sl,(hs.2 b (Wr (WA (Wk e) I.ok.above))).trans e1⟩
  ·obtain⟨o',e1⟩:=I.base.there b o e hx;exact⟨o',(hs.2 b (Wr (WA (Wk e) I.ok.above))).trans e1⟩
  ·by_cases hj:j=i
   ·subst hj;rw[hi] at e1; cases e1
    rw[Wp yN] at e2
    cases e2;exact⟨u,r,.inl ⟨hk,by simp⟩⟩
   ·rw[W9 (Ne.symm hj)] at e2;obtain⟨u',r',q⟩:=hl j y v' e1 e2 e3;refine⟨u',r',?_⟩;rcases q with ⟨k,e⟩ | ⟨k,c,e,z⟩
    ·refine .inl ⟨k,?_⟩;have:y≠x:=λe=>hj (yM hN e1 (e ▸ hi))
     simp[this,e]
    ·exact .inr ⟨k,c,e,z.sameBut hs (kj y c e)⟩
  ·obtain⟨w',z⟩:=I.cell y c e;exact⟨w',z.sameBut hs (kj y c e)⟩
  ·obtain⟨e,n,ne,nf,d⟩:=I.pin p hp;exact⟨(hs.2 p.1 ne).trans e,n,ne,nf,d⟩
 ·have iJ:X.fn x=true:=by
   rcases hf with z | z
   ·exact z
   ·rw[z] at hk; cases hk
  obtain⟨c,hc⟩:=I.ok.has x (.inl hk);obtain⟨w',z⟩:=I.cell x c hc;refine wpAny_storeName_cell I.ok.kind hk hc z (λh' gB hs=>?_);obtain⟨oc,hoc,hocd⟩:=id z;refine h { s with heap:=h' } ⟨I.ok,I.os,I.bare,⟨λb o e n hb hx=>?_,λb o e n hb hx=>?_,I.base.free,λb o e hx=>?_,I.base.kh,I.base.iI,I.base.ki⟩,⟨m,hn.sameBut hs (Ne.symm (kj x c hc)),λj y v' e1 e2 e3=>?_⟩,λy c' e=>?_,I.free,I.gA,λp hp=>?_,tracked ⟨oc,hoc,I.gA x c hc⟩ hs,by simpa using I.len⟩ ⟨c,hs,.inr hc⟩
  ·exact(hs.2 b (Wr (WA (Wk e) (I.ok.mK x c iJ hc)))).trans (I.base.keep b o e n hb hx)
  ·obtain⟨sl,e1⟩:=I.base.slot b o e n hb hx;exact⟨sl,(hs.2 b (Wr (WA (Wk e) (I.ok.mK x c iJ hc)))).trans e1⟩
  ·obtain⟨o',e1⟩:=I.base.there b o e hx;exact⟨o',(hs.2 b (Wr (WA (Wk e) (I.ok.mK x c iJ hc)))).trans e1⟩
  ·by_cases hj:j=i
   ·subst hj;rw[hi] at e1; cases e1
    rw[Wp yN] at e2
    cases e2;exact⟨u,r,.inr ⟨.inl hk,c,hc,gB⟩⟩
   ·rw[W9 (Ne.symm hj)] at e2;obtain⟨u',r',q⟩:=hl j y v' e1 e2 e3;refine⟨u',r',?_⟩;rcases q with q | ⟨k,c',e,z'⟩
    ·exact .inl q
    ·refine .inr ⟨k,c',e,z'.sameBut hs ?_⟩;rintro rfl;exact hj (yM hN e1 (I.ok.inj _ _ _ e hc ▸ hi))
  ·by_cases hcc:c'=c
   ·subst hcc; exact⟨_,gB⟩
   ·obtain⟨w2,z2⟩:=I.cell y c' e;exact⟨w2,z2.sameBut hs hcc⟩
  ·obtain⟨e,n,ne,nf,d⟩:=I.pin p hp;refine⟨(hs.2 p.1 ?_).trans e,n,ne,nf,d⟩;intro q;rw[q,hoc] at e;have q':oc=p.2:=Wx e;exact d w' (by rw[<- q']; exact hocd)
theorem yO(I:Inv X pins σ H s)(hN:X.N.Nodup)(hi:X.N[i]? = some x)(hx:Loc X.env.scope x)(r:RelV v u)
  (h:∀ s',Inv X pins (σ.set i (some v)) H s'->Q () s') (hf:X.fn x=true\/X.env.scope.names.lookup x=some .local:=by first | exact .inl rfl | exact .inr rfl | assumption):W6 M A (storeName X.env x u) Q E s :=
 EF I hN hi hx r (λs' I' _=>h s' I') hf
theorem Inv.EH(I:Inv X pins σ H s)(ho:s'.os=s.os)(u:Un (fq X.stack) ch H H' s.heap s'.heap)(aj:bK X.prog X.w H' s'.heap)(hg:AllBare s'.gens)
  (i9:∀ b ∈ ch,(b ∈ X.ex\/X.s₀.heap.objs.size<=b)/\b≠X.env.locals/\(∀ x c,X.env.cells.lookup x=some c->c≠b)/\∀ p ∈ X.pn ++ pins,p.1≠b):Inv X pins σ H' s':=by
 obtain⟨h',g',d',t',o'⟩:=s';have e:o'=s.os:=ho;subst e;exact I.call (g':=g') (t':=t') (d':=d') u aj hg i9
end
abbrev XK:=Value->Option Addr->Hp->Prop
abbrev St:=List (Option V)
abbrev VK:=V->Hp->Prop
abbrev TE:=St->Hp->VK->Prop
abbrev TT:=St->Hp->(Bool->Hp->Prop)->Prop
abbrev TA:=St->Hp->(List V->Hp->Prop)->Prop
structure Ends where
 nx:St->Hp->Prop
 rt:VK
 bk:St->Hp->Prop:=λ_ _=>False
 ct:St->Hp->Prop:=λ_ _=>False
abbrev TS:=Ends->St->Hp->Prop
def EP(X:Cx)(pins:List (Addr×Obj))(σ:St)(Q:VK)(u:Value)(s':W1):Prop:=∃ v H',Inv X pins σ H' s'/\RelV v u/\Q v H'
def TP(X:Cx)(pins:List (Addr×Obj))(σ:St)(Q:Bool->Hp->Prop)(b:Bool)(s':W1):Prop:=∃ H',Inv X pins σ H' s'/\Q b H'
def AP(X:Cx)(pins:List (Addr×Obj))(σ:St)(Q:List V->Hp->Prop)(us:List Value)(s':W1):Prop:=∃ vs H',Inv X pins σ H' s'/\Vals vs us/\Q vs H'
def SP(X:Cx)(pins:List (Addr×Obj))(D:Ends)(f:Flow)(s':W1):Prop :=
 match f with
 | .next=>∃ σ' H',Inv X pins σ' H' s'/\D.nx σ' H'
 | .brk=>∃ σ' H',Inv X pins σ' H' s'/\D.bk σ' H'
 | .cont=>∃ σ' H',Inv X pins σ' H' s'/\D.ct σ' H'
 | .ret u=>∃ v σ' H',Inv X pins σ' H' s'/\RelV v u/\D.rt v H'
def PE(X:Cx)(e:Expr)(t:TE):Prop :=
 ∀ (pins:List (Addr×Obj)) (s:W1) (σ:St) (H:Hp) (Q:VK),Inv X pins σ H s->t σ H Q->W6 (model X.prog X.w) X.A (eval e X.env) (EP X pins σ Q) X.xe s
def PT(X:Cx)(e:Expr)(t:TT):Prop :=
 ∀ (pins:List (Addr×Obj)) (s:W1) (σ:St) (H:Hp) (Q:Bool->Hp->Prop),Inv X pins σ H s->t σ H Q->W6 (model X.prog X.w) X.A (isTrue e X.env (eval e X.env)) (TP X pins σ Q) X.xe s
def PW(X:Cx)(e:Expr)(t:TT):Prop :=
 ∀ (whole:Sem Value) (pins:List (Addr×Obj)) (s:W1) (σ:St) (H:Hp) (Q:Bool->Hp->Prop),Inv X pins σ H s->t σ H Q->W6 (model X.prog X.w) X.A (isTrue e X.env whole) (TP X pins σ Q) X.xe s
theorem PW.pt(h:PW X e t):PT X e t:=h _
def PA(X:Cx)(es:List Expr)(t:TA):Prop :=
 ∀ (pos:Pos) (pins:List (Addr×Obj)) (s:W1) (σ:St) (H:Hp) (Q:List V->Hp->Prop),Inv X pins σ H s->t σ H Q->W6 (model X.prog X.w) X.A (spliced (Qg pos (We es X.env))) (AP X pins σ Q) X.xe s
def PS(X:Cx)(st:Stmt)(t:TS):Prop :=
 ∀ (pins:List (Addr×Obj)) (s:W1) (σ:St) (H:Hp) (D:Ends),Inv X pins σ H s->t D σ H->W6 (model X.prog X.w) X.A (exec st X.env) (SP X pins D) X.xe s
def dq(X:Cx)(st:List Stmt)(t:TS):Prop :=
 ∀ (pins:List (Addr×Obj)) (s:W1) (σ:St) (H:Hp) (D:Ends),Inv X pins σ H s->t D σ H->W6 (model X.prog X.w) X.A (execs st X.env) (SP X pins D) X.xe s
theorem aJ(h:W6 M A t Q E s)(hQ:∀ a s,Q a s->Q' a s):W6 M A t Q' E s:=WN h hQ λ_ _ x=>x
section
variable {X:Cx}
theorem bin{a b:Expr}{ta tb:TE}(ha:PE X a ta)(hb:PE X b tb){pins:List (Addr×Obj)}{s:W1}{σ:St}{H:Hp}{R:V->V->Hp->Prop}(I:Inv X pins σ H s)(h:ta σ H λx H1=>tb σ H1 λy H2=>R x y H2)
  {α:Type} {Q:α->W1->Prop} {f:Value->Value->Sem α}
  (hf:∀ v u s2 x y H2,Inv X pins σ H2 s2->RelV x v->RelV y u->R x y H2->W6 (model X.prog X.w) X.A (f v u) Q X.xe s2) :
  W6 (model X.prog X.w) X.A (eval a X.env) (λv s₁=>W6 (model X.prog X.w) X.A (eval b X.env) (λu s₂=>W6 (model X.prog X.w) X.A (f v u) Q X.xe s₂) X.xe s₁) X.xe s:=by
 refine aJ (ha pins s σ H _ I h) λv s1 ⟨x,H1,I1,r1,q1⟩=>?_
 refine aJ (hb pins s1 σ H1 _ I1 q1) λu s2 ⟨y,H2,I2,r2,q2⟩=>?_
 exact hf v u s2 x y H2 I2 r1 r2 q2
def de(i:Nat):TE:=λσ H Q=>∃ v,σ[i]? = some (some v)/\Q v H
def tC(v:V):TE:=λ_ H Q=>Q v H
theorem EI (hN:X.N[i]? = some x) (hv:qo X.env.scope x) (hd:(x == ("__debug__" : Str))=false:=by decide) (fu:(x == ("__classdict__" : Str))=false:=by decide):PE X (.Name x pos) (de i):=by
 intro pins s σ H Q I h;obtain⟨v,e,h⟩:=h;obtain⟨m,hn,hl⟩:=I.loc;obtain⟨u,r,l⟩:=hl i x v hN e hv;have fin:EP X pins σ Q u s:=⟨v,H,I,r,h⟩
 rcases l with ⟨hk,hm⟩ | ⟨hk,c,hc,hcell⟩
 ·exact wpAny_Name (wpAny_loadName_local I.ok.kind hk hn hm fin) hd
 ·rcases hk with hk | hk
  ·exact wpAny_Name (wpAny_loadName_cell I.ok.kind hk hc hcell fin) hd
  ·exact wpAny_Name (wpAny_loadName_free I.ok.kind hk hc hcell fin fu) hd
theorem EJ{i j pos}:PE X (.Constant (.int i) j pos) (tC (.int i)):=λ_ _ _ H _ I h=>wpAny_Constant_int ⟨.int i,H,I.tok _,⟨_,rfl⟩,h⟩
theorem EK{b j pos}:PE X (.Constant (.bool b) j pos) (tC (.bl b)):=λ_ _ _ H _ I h=>Constant_bool ⟨.bl b,H,I,rfl,h⟩
theorem EL{j pos}:PE X (.Constant .none j pos) (tC .ay):=λ_ _ _ H _ I h=>Constant_none ⟨.ay,H,I,rfl,h⟩
theorem yP{x j pos}:PE X (.Constant (.str x) j pos) (tC (.str x)):=λ_ _ _ H _ I h=>Calls.Constant_str ⟨.str x,H,I.tok _,⟨_,rfl⟩,h⟩
def Gl(X:Cx)(x:Str):Prop:=X.env.kindOf x=some .globalImplicit
theorem yQ(I:Inv X pins σ H s)(hg:Gl X x)(hm:X.mg x=some u)(h:Q u s)
  (hd:(x == ("__debug__" : Str))=false:=by decide):W6 (model X.prog X.w) X.A (eval (.Name x pos) X.env) Q E s :=
 Calls.Name_function_global I.ok.kind hg (Calls.loadGlobal_global (by rw[I.ok.glob]; exact I.mod.glob.keeps I.bk) hm h) hd
theorem mL(I:Inv X pins σ H s)(hg:Gl X x)(hm:X.mg x=none)(hv:Qs x=some u)(h:Q u s)
  (hn:x≠"__name__":=by decide) (hd:(x == ("__debug__" : Str))=false:=by decide):W6 (model X.prog X.w) X.A (eval (.Name x pos) X.env) Q E s:=by
 obtain⟨mb,h1,h2⟩:=I.mod.blt;exact Calls.Name_function_global I.ok.kind hg (Calls.loadGlobal_builtin (by rw[I.ok.glob]; exact I.mod.glob.keeps I.bk) hm (by rw[I.ok.blt]; exact h1.keeps I.bk) ((h2 x hn).trans hv) h) hd
theorem EM (hg:Gl X x) (hm:X.mg x=none) (hv:Qs x=some u) (r:RelV v u) (hn:x≠"__name__":=by decide) (hd:(x == ("__debug__" : Str))=false:=by decide):PE X (.Name x pos) (tC v) :=
 λ_ _ _ H _ I h=>mL I hg hm hv ⟨v,H,I,r,h⟩ hn hd
variable {a b:Expr} {ta tb:TE} {pos:Pos}
def PC(X:Cx)(op:CmpOp)(a b:Expr)(t:TE):Prop :=
 ∀ (pins:List (Addr×Obj)) (s:W1) (σ:St) (H:Hp) (Q:VK),Inv X pins σ H s->t σ H Q ->
  W6 (model X.prog X.w) X.A (eval a X.env) (λv s₁=>W6 (model X.prog X.w) X.A (eval b X.env) (λu s₂=>W6 (model X.prog X.w) X.A (WE op v u) (EP X pins σ Q) X.xe s₂) X.xe s₁) X.xe s
theorem EO(b:Expr)(h:op≠.In)(h2:op≠.NotIn):Qy op b=false:=by
 have e1:(op == CmpOp.In)=false:=by cases op <;> first | rfl | exact absurd rfl h
 have e2:(op == CmpOp.NotIn)=false:=by cases op <;> first | rfl | exact absurd rfl h2
 cases b <;> simp[Qy,e1,e2]
def tB(t:TE):TT:=λσ H Q=>t σ H λx H1=>∃ c,x = .bl c/\Q c H1
theorem RX(h:PC X op a b t)(h1:Qy op b=false:=by first | exact EO _ (by decide) (by decide) | rfl):PT X (.Compare a [op] [b] pos) (tB t):=by
 intro pins s σ H Q I hw;refine wpAny_isTrue_Compare1 (aJ (h pins s σ H _ I hw) λv s1 h1=>aJ h1 λu s2 h2=>aJ h2 λc s3 ⟨x,H1,I1,r1,q1⟩=>?_) h1;obtain⟨d,rfl,q⟩:=q1
 cases r1;exact QK ⟨H1,I1,q⟩
theorem ER(h:PE X e t)(he:∀ whole,isTrue e X.env whole=(do let v <- whole; standAt e.pos; holding [v] (truthy v)):=by intro _; rfl):PT X e (tB t):=by
 intro pins s σ H Q I hw;refine isTrue_plain (aJ (h pins s σ H _ I hw) λv s1 ⟨x,H1,I1,r1,q1⟩=>?_) (he _);obtain⟨d,rfl,q⟩:=q1
 cases r1;exact QK ⟨H1,I1,q⟩
variable {tA qt:TT} {rest:List Expr}
def ES(t u:TT):TT:=λσ H Q=>t σ H λc H1=>if c=true then u σ H1 Q else Q false H1
def ET(t u:TT):TT:=λσ H Q=>t σ H λc H1=>if c=true then Q true H1 else u σ H1 Q
def EU(t:TT):TT:=λσ H Q=>t σ H λc H1=>Q (!c) H1
theorem EV(ha:PT X a tA):PW X (.BoolOp .And [a] pos) tA:=by
 intro wh pins s σ H Q I h;refine isTrue_and (aJ (ha pins s σ H Q I h) λc s1 e=>?_)
 cases c with
 | true=>exact isTrue_and_nil e
 | false=>exact e
theorem EW(ha:PT X a tA):PW X (.BoolOp .Or [a] pos) tA:=by
 intro wh pins s σ H Q I h;refine isTrue_or (aJ (ha pins s σ H Q I h) λc s1 e=>?_)
 cases c with
 | false=>exact isTrue_or_nil e
 | true=>exact e
theorem EX(ha:PT X a tA)(hb:PW X (.BoolOp .And (b :: rest) pos) qt):PW X (.BoolOp .And (a :: b :: rest) pos) (ES tA qt):=by
 intro wh pins s σ H Q I h;refine isTrue_and (aJ (ha pins s σ H _ I h) λc s1 ⟨H1,I1,q1⟩=>?_)
 cases c with
 | true=>exact hb wh pins s1 σ H1 Q I1 q1
 | false=>exact⟨H1,I1,q1⟩
theorem pw_or(ha:PT X a tA)(hb:PW X (.BoolOp .Or (b :: rest) pos) qt):PW X (.BoolOp .Or (a :: b :: rest) pos) (ET tA qt):=by
 intro wh pins s σ H Q I h;refine isTrue_or (aJ (ha pins s σ H _ I h) λc s1 ⟨H1,I1,q1⟩=>?_)
 cases c with
 | true=>exact⟨H1,I1,q1⟩
 | false=>exact hb wh pins s1 σ H1 Q I1 q1
theorem EY(ha:PT X a tA):PT X (.UnaryOp .Not a pos) (EU tA):=by
 intro pins s σ H Q I h;exact isTrue_not (ha pins s σ H (λc H1=>Q (!c) H1) I h)
end
def bS(K:W2)(H:Hp)(a:Addr)(xs:List V):Prop :=
 Rd H a (.lst xs) \/
  ∃ (o:Obj) (ae:Array Value) (n:Nat),K.lookup a=some o/\o.cls = .type "list"/\o.dict=none/\o.data = .seq ae n/\ae.size<=W8/\Vals xs ae.toList
def b9(K:W2)(H:Hp)(a:Addr)(xs:List V):Prop :=
 Rd H a (.tup xs) \/
  ∃ (o:Obj) (ae:Array Value) (n:Nat),K.lookup a=some o/\o.cls = .type "tuple"/\o.data = .seq ae n/\ae.size<=W8/\Vals xs ae.toList
def EZ:Value->Option V
 | .none=>some .ay
 | .bool b=>some (.bl b)
 | .int i _=>some (.int i)
 | .str x _=>some (.str x)
 | .bytes b _=>some (.byt b)
 | .float b _=>some (.flt b)
 | .ref a=>some (.ref a)
 | .type n=>some (.ty n)
 | _=>none
theorem RelV.abs(r:RelV x u):EZ u=some x:=by
 cases x with
 | ay=>cases r; rfl
 | bl _=>cases r; rfl
 | int _=>obtain⟨t,rfl⟩:=r; rfl
 | str _=>obtain⟨t,rfl⟩:=r; rfl
 | byt _=>obtain⟨t,rfl⟩:=r; rfl
 | flt _=>obtain⟨t,rfl⟩:=r; rfl
 | ref _=>cases r; rfl
 | ty _=>cases r; rfl
theorem RelV.inj(r:RelV x u)(q:RelV y u):x=y:=Wx (r.abs.symm.trans q.abs)
theorem Vals.inj:∀ {xs ys:List V} {us:List Value},Vals xs us->Vals ys us->xs=ys
 | _,_,_,.nil,.nil=>rfl
 | _,_,_,.cons r t,.cons r' t'=>by rw[r.inj r',Vals.inj t t']
section
variable {X:Cx} {pins:List (Addr×Obj)} {σ:St} {H:Hp} {s:W1} {a:Addr} {xs ys:List V}
theorem bS.of{K:W2}(h:H a=some (.lst xs)):bS K H a xs:=.inl (.inl h)
theorem b9.of{K:W2}(h:H a=some (.tup xs)):b9 K H a xs:=.inl (.inl h)
theorem Inv.list(I:Inv X pins σ H s)(h:bS X.K H a xs):∃ ae:List Value,Vals xs ae/\PlainL s.heap a ae.toArray/\xs.length<=W8:=by
 rcases h with h | ⟨o,ae,n,hk,hc,hd,hs,hz,r⟩
 ·obtain⟨z,ae,n,r,e⟩:=h.ok I.aj;exact⟨ae,r,⟨_,n,e,rfl,rfl,rfl⟩,z⟩
 ·refine⟨ae.toList,r,⟨o,n,I.dM a o hk,hc,hd,by simpa using hs⟩,?_⟩;have e:=r.length;simp only[WT] at e;omega
theorem Inv.tuple(I:Inv X pins σ H s)(h:b9 X.K H a xs):∃ ae:List Value,Vals xs ae/\IsTup s.heap a ae.toArray/\xs.length<=W8:=by
 rcases h with h | ⟨o,ae,n,hk,hc,hs,hz,r⟩
 ·obtain⟨z,ae,r,p⟩:=h.ok I.aj;exact⟨ae,r,p.tup,z⟩
 ·refine⟨ae.toList,r,⟨o,I.dM a o hk,hc,n,by simpa using hs⟩,?_⟩;have e:=r.length;simp only[WT] at e;omega
theorem Inv.yR(I:Inv X pins σ H s)(h:bS X.K H a xs)(h':bS X.K H a ys):xs=ys:=by
 obtain⟨ae,r,⟨o,n,e,_,_,d⟩,_⟩:=I.list h;obtain⟨its',r',⟨o',n',e',_,_,d'⟩,_⟩:=I.list h';rw[e] at e'; cases e'
 rw[d] at d';injection d' with d1 _
 have:ae=its':=by simpa using congrArg Array.toList d1
 subst this;exact r.inj r'
theorem Inv.yS(I:Inv X pins σ H s)(h:b9 X.K H a xs)(h':b9 X.K H a ys):xs=ys:=by
 obtain⟨ae,r,⟨o,e,_,n,d⟩,_⟩:=I.tuple h;obtain⟨its',r',⟨o',e',_,n',d'⟩,_⟩:=I.tuple h';rw[e] at e'; cases e'
 rw[d] at d';injection d' with d1 _
 have:ae=its':=by simpa using congrArg Array.toList d1
 subst this;exact r.inj r'
end
abbrev Cx.ja(X:Cx)(E:Value->W1->Prop):Cx:={ X with xe:=E }
abbrev Cx.fH(X:Cx):Cx:=X.ja λ_ _=>False
theorem Cx.Ok.ja{X:Cx}(ok:X.Ok)(E:Value->W1->Prop):(X.ja E).Ok :=
 ⟨ok.mod,ok.kind,ok.glob,ok.blt,ok.above,ok.inj,ok.has,ok.mK,ok.hd,ok.frames,ok.qp,ok.qq,ok.bs,ok.jI,ok.oj,ok.om,ok.gz,ok.lu⟩
theorem Cx.Ok.kn{X:Cx}{E:Value->W1->Prop}(ok:(X.ja E).Ok):X.Ok :=
 ⟨ok.mod,ok.kind,ok.glob,ok.blt,ok.above,ok.inj,ok.has,ok.mK,ok.hd,ok.frames,ok.qp,ok.qq,ok.bs,ok.jI,ok.oj,ok.om,ok.gz,ok.lu⟩
section
variable {X:Cx} {pins:List (Addr×Obj)} {σ:St} {H:Hp} {s:W1} {E:Value->W1->Prop}
theorem Inv.ja(I:Inv X pins σ H s)(E:Value->W1->Prop):Inv (X.ja E) pins σ H s:=⟨I.ok.ja E,I.os,I.bare,I.base,I.loc,I.cell,I.free,I.gA,I.pin,I.aj,I.len⟩
theorem Inv.kn(I:Inv (X.ja E) pins σ H s):Inv X pins σ H s:=⟨I.ok.kn,I.os,I.bare,I.base,I.loc,I.cell,I.free,I.gA,I.pin,I.aj,I.len⟩
theorem SP.kn(h:SP (X.ja E) pins D f s'):SP X pins D f s':=by
 cases f with
 | next=>obtain⟨σ',H',I,q⟩:=h; exact⟨σ',H',I.kn,q⟩
 | brk=>obtain⟨σ',H',I,q⟩:=h; exact⟨σ',H',I.kn,q⟩
 | cont=>obtain⟨σ',H',I,q⟩:=h; exact⟨σ',H',I.kn,q⟩
 | ret u=>obtain⟨v,σ',H',I,r,q⟩:=h; exact⟨v,σ',H',I.kn,r,q⟩
theorem dq.fH{st:List Stmt}{t:TS}(h:dq X.fH st t):dq X st t:=λpins s σ H D I hw =>
 WN (h pins s σ H D (I.ja _) hw) (λ_ _ q=>q.kn) λ_ _ z=>False.elim z
end
section
variable {X:Cx} {st:Stmt} {rest:List Stmt} {t u:TS} {e:Expr} {te:TE} {pos:Pos}
def E1:TS:=λD σ H=>D.nx σ H
def E3(t u:TS):TS:=λD σ H=>t { D with nx:=u D } σ H
theorem E4:dq X [] E1:=λ_ _ σ H _ I h=>wpAny_execs_nil ⟨σ,H,I,h⟩
theorem E5(h1:PS X st t)(h2:dq X rest u):dq X (st :: rest) (E3 t u):=by
 intro pins s σ H D I h;refine wpAny_execs_cons (aJ (h1 pins s σ H { D with nx:=u D } I h) λf s1 q=>?_)
 cases f with
 | next =>
  obtain⟨σ',H',I',q⟩:=q;exact h2 pins s1 σ' H' D I' q
 | ret v=>exact q
 | brk=>exact q
 | cont=>exact q
theorem E6(h1:PS X st t):dq X [st] t:=by
 intro pins s σ H D I h;refine wpAny_execs_cons (aJ (h1 pins s σ H D I h) λf s1 q=>?_)
 cases f with
 | next=>exact wpAny_execs_nil q
 | ret v=>exact q
 | brk=>exact q
 | cont=>exact q
theorem Inv.quiet(I:Inv X pins σ H s):interactive X.env=false:=by simp[interactive,I.ok.kind]
def tE(te:TE):TS:=λD σ H=>te σ H λ_ H1=>D.nx σ H1
theorem tF(he:PE X e te)(hs:J7 e none pos.line X.env=pure false:=by rfl):PS X (.Expr e pos) (tE te):=by
 intro pins s σ H D I h;exact wpAny_Expr_any (aJ (he pins s σ H _ I h) λv s1 ⟨x,H1,I1,r1,q1⟩=>⟨σ,H1,I1,q1⟩) I.quiet hs
def E7(te:TE):TS:=λD σ H=>te σ H D.rt
theorem yT(he:PE X e te):PS X (.Return (some e) pos) (E7 te):=by
 intro pins s σ H D I h;exact wpAny_Return_some (aJ (he pins s σ H _ I h) λv s1 ⟨x,H1,I1,r1,q1⟩=>⟨x,σ,H1,I1,r1,q1⟩)
def E8(c:TT)(t u:TS):TS:=λD σ H=>c σ H λb H1=>if b=true then t D σ H1 else u D σ H1
theorem E9(hc:PT X c tc)(ha:dq X a t)(hb:dq X b u):PS X (.If c a b pos) (E8 tc t u):=by
 intro pins s σ H D I h;refine wpAny_If (aJ (hc pins s σ H _ I h) λd s1 ⟨H1,I1,q1⟩=>?_)
 cases d with
 | true=>exact ha pins s1 σ H1 D I1 q1
 | false=>exact hb pins s1 σ H1 D I1 q1
def E_:TS:=λ_ _ _=>False
theorem Fb:PS X st E_:=λ_ _ _ _ _ _ h=>h.elim
end
abbrev TG:=V->St->Hp->(St->Hp->Prop)->Prop
abbrev ko:=List V->St->Hp->(St->Hp->Prop)->Prop
def PG(X:Cx)(target:Expr)(t:TG):Prop :=
 ∀ (pins:List (Addr×Obj)) (s:W1) (σ:St) (H:Hp) (v:V) (u:Value) (Q:St->Hp->Prop),Inv X pins σ H s->RelV v u->t v σ H Q ->
  W6 (model X.prog X.w) X.A (assign target X.env u) (λ_ s'=>∃ σ' H',Inv X pins σ' H' s'/\Q σ' H') X.xe s
def gC(X:Cx)(ts:List Expr)(t:ko):Prop :=
 ∀ (pins:List (Addr×Obj)) (s:W1) (σ:St) (H:Hp) (vs:List V) (us:List Value) (Q:St->Hp->Prop),Inv X pins σ H s->Vals vs us->t vs σ H Q ->
  W6 (model X.prog X.w) X.A (assignInOrder ((Qk ts X.env).map (·.2)) us) (λ_ s'=>∃ σ' H',Inv X pins σ' H' s'/\Q σ' H') X.xe s
abbrev yU:=V->V->V->Hp->(Hp->Prop)->Prop
def yV(X:Cx)(t:yU):Prop :=
 ∀ (pins:List (Addr×Obj)) (s:W1) (σ:St) (H:Hp) (o i v:V) (ov iv u:Value) (Q:Hp->Prop),Inv X pins σ H s->RelV o ov->RelV i iv->RelV v u->t o i v H Q ->
  W6 (model X.prog X.w) X.A (setItem ov iv u) (λ_ s'=>∃ H',Inv X pins σ H' s'/\Q H') X.xe s
section
variable {X:Cx} {pos:Pos}
def tG(i:Nat):TG:=λv σ H Q=>Q (σ.set i (some v)) H
theorem yW(hN:X.N.Nodup)(hi:X.N[i]? = some x)(hx:Loc X.env.scope x)(hf:X.fn x=true\/X.env.scope.names.lookup x=some .local:=by first | exact .inl rfl | exact .inr rfl | assumption):PG X (.Name x pos) (tG i):=by
 intro pins s σ H v u Q I r h;exact wpAny_assign_Name (yO I hN hi hx r (λs' I'=>⟨_,H,I',h⟩) hf)
def Fd:ko:=λvs σ H Q=>vs=[]/\Q σ H
def Fe(t:TG)(u:ko):ko:=λvs σ H Q=>∃ v r,vs=v :: r/\t v σ H λσ' H'=>u r σ' H' Q
theorem yX:gC X [] Fd:=by
 intro pins s σ H vs us Q I r h;obtain⟨e,h⟩:=h;subst e
 cases r;exact assignInOrder_nil ⟨σ,H,I,h⟩
theorem yY(h1:PG X e t)(h2:gC X es u)
  (hs:(Qk (e :: es) X.env).map (·.2)=assign e X.env :: (Qk es X.env).map (·.2):=by rfl):gC X (e :: es) (Fe t u):=by
 intro pins s σ H vs us Q I r h;obtain⟨v,vr,e1,h⟩:=h;subst e1
 cases r with
 | cons r rr =>
  rw[hs];refine assignInOrder_cons (aJ (h1 pins s σ H _ _ _ I r h) λ_ s1 ⟨σ1,H1,I1,q1⟩=>?_);exact h2 pins s1 σ1 H1 _ _ Q I1 rr q1
def Ff(K:W2)(n:Nat)(t:ko):TG:=λv σ H Q=>∃ a xs,v = .ref a/\b9 K H a xs/\xs.length=n/\t xs σ H Q
theorem yZ(hc:X.calm=true)(h:gC X es t)
  (hn:(Qk es X.env).length=n:=by rfl) (fw:(Qk es X.env).findIdx? (·.1)=none:=by rfl):PG X (.Tuple es k pos) (Ff X.K n t):=by
 intro pins s σ H v u Q I r hw;obtain⟨a,xs,e1,hq,hl,hw⟩:=hw;subst e1
 cases r;obtain⟨ae,rv,ht,hz⟩:=I.tuple hq;refine assign_Tuple_tuple (I.ok.hd hc) ht (by simp[hn,<- hl,rv.length]) fw λh' hx=>?_
 have I1:Inv X pins σ H { s with heap:=h' }:=I.kept (t':=s.toks) λb o e=>hx b o (Wr (Wk e)) e
 exact h pins _ σ H xs _ Q I1 (by simpa using rv) hw
def Fg(to ti:TE)(t:yU):TG:=λv σ H Q=>to σ H λo H1=>ti σ H1 λi H2=>t o i v H2 λH3=>Q σ H3
theorem Fh(ho:PE X o to)(hi:PE X i ti)(hs:yV X t)
  (ha:∀ v,assign (.Subscript o i pos) X.env v=(do
   let ov <- holding [v] (eval o X.env)
   let iv <- holding [v,ov] (eval i X.env)
   standAt pos
   holding [v,ov,iv] (setItem ov iv v)
   release [v,ov,iv] []):=by intro _; rfl):PG X (.Subscript o i pos) (Fg to ti t):=by
 intro pins s σ H v u Q I r h;rw[ha];refine W0 (WK (aJ (ho pins s σ H _ I h) λov s1 ⟨x,H1,I1,r1,q1⟩=>?_));refine W0 (WK (aJ (hi pins s1 σ H1 _ I1 q1) λiv s2 ⟨y,H2,I2,r2,q2⟩=>?_));refine W0 (wpAny_standAt (W0 (WK (aJ (hs pins s2 σ H2 x y v ov iv u _ I2 r1 r2 r q2) λ_ s3 ⟨H3,I3,q3⟩=>?_))));exact wpAny_release ⟨σ,H3,I3,q3⟩
def tH(te:TE)(g:TG):TS:=λD σ H=>te σ H λx H1=>g x σ H1 D.nx
theorem y0(he:PE X e te)(hg:PG X tg g)(hs:swapsWithSole [tg] e pos.line X.env=pure false:=by rfl)(hw:swappedStores [tg] e X.env=pure none:=by rfl)
  (h1:(Qk [tg] X.env).map (·.2)=[assign tg X.env]:=by rfl):PS X (.Assign [tg] e pos) (tH te g):=by
 intro pins s σ H D I h;refine wpAny_Assign_stores (aJ (he pins s σ H _ I h) λv s1 ⟨x,H1,I1,r1,q1⟩=>?_) hs hw;rw[h1];exact aJ (hg pins s1 σ H1 x v _ I1 r1 q1) λ_ s2 q=>q
theorem Fi(hN:X.N.Nodup)(hi:X.N[i]? = some x)(hx:Loc X.env.scope x)(he:PE X e te)(hs:J7 e (some (.Name x pos')) pos.line X.env=pure false:=by rfl)(hf:X.fn x=true\/X.env.scope.names.lookup x=some .local:=by first | exact .inl rfl | exact .inr rfl | assumption) :
  PS X (.Assign [.Name x pos'] e pos) (tH te (tG i)):=by
 intro pins s σ H D I h;refine wpAny_Assign_Name (aJ (he pins s σ H _ I h) λv s1 ⟨y,H1,I1,r1,q1⟩=>?_) hs;exact yO I1 hN hi hx r1 (λs2 I2=>⟨_,H1,I2,q1⟩) hf
end
section
variable {X:Cx} {pos:Pos}
def y4(c:TT)(tb:TS):TS:=λD σ H=>∃ W:Nat->St->Hp->Prop,(∃ m,W m σ H)/\∀ m σ H,W m σ H ->
 c σ H λb H1=>if b=true then ∃ N:St->Hp->Prop,(∀ σ' H',N σ' H'->∃ m',m' < m/\W m' σ' H')/\tb { D with nx:=N,ct:=N,bk:=D.nx } σ H1 else D.nx σ H1
theorem Fj(hp:PassesOwn (model X.prog X.w) X.A X.env X.xe)(hc:PT X c tc)(hb:dq X body tb):PS X (.While c body [] pos) (y4 tc tb):=by
 intro pins s σ H D I h;obtain⟨W,⟨m0,w0⟩,turn⟩:=h;refine wpAny_While (codeAny_whileLoop (λn s'=>∃ σ' H',Inv X pins σ' H' s'/\W n σ' H') ?_ m0 ⟨σ,H,I,w0⟩);rintro n s1 ⟨σ1,H1,I1,w1⟩;refine QV hp (aJ (hc pins s1 σ1 H1 _ I1 (turn n σ1 H1 w1)) λb s2 ⟨H2,I2,q2⟩=>?_)
 cases b with
 | true =>
  obtain⟨N,hN,q2⟩:=q2;rw[if_pos rfl];refine QV hp (aJ (hb pins s2 σ1 H2 _ I2 q2) λf s3 q3=>?_)
  cases f with
  | next =>
   obtain⟨σ3,H3,I3,n3⟩:=q3;obtain⟨m',hm,w3⟩:=hN σ3 H3 n3;exact⟨m',hm,σ3,H3,I3,w3⟩
  | cont =>
   obtain⟨σ3,H3,I3,n3⟩:=q3;obtain⟨m',hm,w3⟩:=hN σ3 H3 n3;exact⟨m',hm,σ3,H3,I3,w3⟩
  | brk=>exact q3
  | ret v=>exact q3
 | false =>
  rw[if_neg WM];exact wpAny_execs_nil ⟨σ1,H2,I2,q2⟩
end
structure It where
 go:Nat->Hp->Prop
 ou:Nat->Hp->V->Hp->Prop
 stop:Nat->Hp->Prop
def eV(X:Cx)(pins:List (Addr×Obj))(H:Hp)(b:Addr):Prop :=
 H b=none/\b≠X.env.locals/\b ∉ X.fs/\(b ∈ X.ex\/X.s₀.heap.objs.size<=b)/\(∀ x c,X.env.cells.lookup x=some c->c≠b)/\∀ p ∈ X.pn ++ pins,p.1≠b
theorem Inv.iK(I:Inv X pins σ H s)(hb:s.heap.objs.size<=b)(hn:H' b=none):eV X pins H' b:=by
 refine⟨hn,QI (WA I.lt hb),I.yI hb,.inr (WP I.sz hb),λx c e z=>?_,λp hp z=>?_⟩
 ·obtain⟨v,q⟩:=I.cell x c e;exact absurd (WA q.lt (by rw[z]; exact hb)) (Qd _)
 ·exact absurd (WA (Wk (I.pin p hp).1) (by rw[z]; exact hb)) (Qd _)
structure Turn(P:Wj)(w:Wm)(K:W2)(tg:Expr)(J:It)(fp:List Addr)(it:Addr)(tn:Nat->Heap->Prop):Prop where
 mem:it ∈ fp
 obj:∀ i h,tn i h->∀ b ∈ fp,∃ o,h.get? b=some o/\∀ v,o.data≠.cell v
 keep:∀ i h h',tn i h->(∀ b ∈ fp,∀ o,h.get? b=some o->h'.get? b=some o)->tn i h'
 item:∀ (X:Cx),X.prog=P->X.w=w->X.K=K->X.calm=true->∀ (i:Nat) (pins:List (Addr×Obj)) (s:W1) (σ:St) (H:Hp) (E:Value->W1->Prop),Inv X pins σ H s->(∀ b ∈ fp,eV X pins H b)->tn i s.heap->J.go i H ->
  W6 (model P w) X.A (Qh (.ref it)) (λr s1=>∃ u,r=some u /\
   W6 (model P w) X.A (letOwnedTupleGo tg (.ref it) u) (λ_ s2=>∃ x H',Inv X pins σ H' s2/\RelV x u/\J.ou i H x H'/\tn (i + 1) s2.heap/\∀ b ∈ fp,H' b=none) E s1) E s
 done:∀ (X:Cx),X.prog=P->X.w=w->X.K=K->X.calm=true->∀ (i:Nat) (pins:List (Addr×Obj)) (s:W1) (σ:St) (H:Hp) (E:Value->W1->Prop),Inv X pins σ H s->(∀ b ∈ fp,eV X pins H b)->tn i s.heap->J.stop i H ->
  W6 (model P w) X.A (Qh (.ref it)) (λr s1=>r=none/\Inv X pins σ H s1) E s
 self:∀ (A:Wn) (i:Nat) (s:W1) (Q:Value->W1->Prop) (E:Value->W1->Prop),tn i s.heap->Q (.ref it) s->W6 (model P w) A (pyIter (.ref it)) Q E s
abbrev TI:=St->Hp->(It->Hp->Prop)->Prop
def tJ(X:Cx)(pins:List (Addr×Obj))(σ:St)(tg:Expr)(R:It->Hp->Prop)(tK:Value)(s2:W1):Prop :=
 ∃ (it:Addr) (fp:List Addr) (tn:Nat->Heap->Prop) (J:It) (H':Hp),tK = .ref it/\Inv X pins σ H' s2/\Turn X.prog X.w X.K tg J fp it tn/\tn 0 s2.heap/\(∀ b ∈ fp,eV X pins H' b)/\R J H'
def PI(X:Cx)(tg iter:Expr)(wi:TI):Prop :=
 ∀ (pins:List (Addr×Obj)) (s:W1) (σ:St) (H:Hp) (R:It->Hp->Prop),Inv X pins σ H s->wi σ H R ->
  W6 (model X.prog X.w) X.A (eval iter X.env) (λv s1=>W6 (model X.prog X.w) X.A (pyIter v) (tJ X pins σ tg R) X.xe s1) X.xe s
theorem ox(ho:s.heap.get? it=some o)(hc:o.cls = .type n)(hd:o.data = .fields vs)
  (hn:["enumerate","zip","dict_itemiterator","dict_reverseitemiterator","odict_iterator","itertools.zip_longest","itertools.pairwise"].contains n=false) (hQ:Q () s):W6 M A (letOwnedTupleGo tg (.ref it) u) Q E s:=by
 unfold letOwnedTupleGo
 cases tg <;> first
  | exact W3 hQ
  | (cases u <;> first
    | exact W3 hQ
    | (refine W0 (wpAny_load ho ?_); rw[hc,hd]; show W6 M A (if (["enumerate","zip","dict_itemiterator","dict_reverseitemiterator","odict_iterator","itertools.zip_longest","itertools.pairwise"].contains n && vs[0]? == some (Qu _))=true then _ else _) Q E s; rw[if_neg (by intro h; rw[hn,Bool.false_and] at h; cases h)]; exact W3 hQ))
def tL(K:W2)(a:Addr):It :=
 ⟨λi H=>∃ xs x,bS K H a xs/\xs[i]? = some x,λi H x H'=>H'=H/\∀ xs,bS K H a xs->xs[i]? = some x,λi H=>∃ xs,bS K H a xs/\xs.length<=i⟩
def qu(K:W2)(a:Addr):It :=
 ⟨λi H=>∃ xs x,b9 K H a xs/\xs[i]? = some x,λi H x H'=>H'=H/\∀ xs,b9 K H a xs->xs[i]? = some x,λi H=>∃ xs,b9 K H a xs/\xs.length<=i⟩
def ly(lo:Int)(n:Nat):It:=⟨λi _=>i < n,λi H x H'=>H'=H/\x = .int (lo + i),λi _=>n<=i⟩
theorem Fm{P:Wj}{w:Wm}{K:W2}{tg:Expr}(a it:Addr):Turn P w K tg (tL K a) [it] it (λi h=>h.IsListIter it a i) where
 mem:=by simp
 obj:=λi h st b hb=>by
  have e:b=it:=by simpa using hb
  subst e;obtain⟨o,e,c,d⟩:=st;exact⟨o,e,λv z=>by rw[d] at z; cases z⟩
 keep:=λi h h' st k=>st.at λo e=>k it (by simp) o e
 item:=by
  intro X hP hw hK hc i pins s σ H E I hf st hg;subst hP hw hK;obtain⟨xs,x,hq,hx⟩:=hg;obtain⟨ae,rv,p,hz⟩:=I.list hq;obtain⟨u,hu,ru⟩:=rv.get hx;obtain⟨f0,f1,f2,f3,f4,f5⟩:=hf it (by simp);refine wpAny_pyNext_list_item st p.isList (x:=u) (by simpa using hu) λh' df sb=>?_
  have I1:Inv X pins σ H { s with heap:=h' }:=I.turned (t':=s.toks) (λb o hb e=>(sb.2 b hb).trans e) f0 f1 f3 f4 f5;obtain⟨o,e,c,d⟩:=id df;exact⟨u,rfl,ox (s:={ s with heap:=h' }) e c d (by decide) ⟨x,H,I1,ru,⟨rfl,λys hy=>by rw[I.yR hy hq]; exact hx⟩,df,λb hb=>(hf b hb).1⟩⟩
 done:=by
  intro X hP hw hK hc i pins s σ H E I hf st hg;subst hP hw hK;obtain⟨xs,hq,hx⟩:=hg;obtain⟨ae,rv,p,hz⟩:=I.list hq;obtain⟨f0,f1,f2,f3,f4,f5⟩:=hf it (by simp);have hl:=rv.length;exact wpAny_pyNext_list_end (I.ok.hd hc) st p.isList (by simp; omega) λh' eb=>⟨rfl,I.turned (t':=s.toks) (λb o hb e=>eb b o hb e) f0 f1 f3 f4 f5⟩
 self:=λ_ _ _ _ _ st h=>wpAny_pyIter_listiter st h
theorem Fo{P:Wj}{w:Wm}{K:W2}{tg:Expr}(a it:Addr):Turn P w K tg (qu K a) [it] it (λi h=>h.IsTupleIter it a i) where
 mem:=by simp
 obj:=λi h st b hb=>by
  have e:b=it:=by simpa using hb
  subst e;obtain⟨o,e,c,d⟩:=st;exact⟨o,e,λv z=>by rw[d] at z; cases z⟩
 keep:=λi h h' st k=>st.at λo e=>k it (by simp) o e
 item:=by
  intro X hP hw hK hc i pins s σ H E I hf st hg;subst hP hw hK;obtain⟨xs,x,hq,hx⟩:=hg;obtain⟨ae,rv,p,hz⟩:=I.tuple hq;obtain⟨u,hu,ru⟩:=rv.get hx;obtain⟨f0,f1,f2,f3,f4,f5⟩:=hf it (by simp);refine wpAny_pyNext_tuple_item st (show s.heap.IsTuple a ae.toArray from p) (x:=u) (by simpa using hu) λh' df sb=>?_
  have I1:Inv X pins σ H { s with heap:=h' }:=I.turned (t':=s.toks) (λb o hb e=>(sb.2 b hb).trans e) f0 f1 f3 f4 f5;obtain⟨o,e,c,d⟩:=id df;exact⟨u,rfl,ox (s:={ s with heap:=h' }) e c d (by decide) ⟨x,H,I1,ru,⟨rfl,λys hy=>by rw[I.yS hy hq]; exact hx⟩,df,λb hb=>(hf b hb).1⟩⟩
 done:=by
  intro X hP hw hK hc i pins s σ H E I hf st hg;subst hP hw hK;obtain⟨xs,hq,hx⟩:=hg;obtain⟨ae,rv,p,hz⟩:=I.tuple hq;obtain⟨f0,f1,f2,f3,f4,f5⟩:=hf it (by simp);have hl:=rv.length;exact wpAny_pyNext_tuple_end (I.ok.hd hc) st (show s.heap.IsTuple a ae.toArray from p) (by simp; omega) λh' eb=>⟨rfl,I.turned (t':=s.toks) (λb o hb e=>eb b o hb e) f0 f1 f3 f4 f5⟩
 self:=λ_ _ _ _ _ st h=>wpAny_pyIter_tupleiter st h
theorem y6{P:Wj}{w:Wm}{K:W2}{tg:Expr}(it:Addr)(lo:Int)(n:Nat):Turn P w K tg (ly lo n) [it] it (λi h=>IsRangeIter h it (lo + (i:Nat) * 1) ((n:Int) - (i:Nat)) 1) where
 mem:=by simp
 obj:=λi h st b hb=>by
  have e:b=it:=by simpa using hb
  subst e;exact⟨_,st,λv z=>by
   have z':Data.fields _=Data.cell v:=z
   cases z'⟩
 keep:=λi h h' st k=>k it (by simp) _ st
 item:=by
  intro X hP hw hK hc i pins s σ H E I hf st hg;subst hP hw hK;obtain⟨f0,f1,f2,f3,f4,f5⟩:=hf it (by simp);have W:=Walks.range (prog:=X.prog) (w:=X.w) (I.ok.hd hc) it lo 1 n;refine W.item i s _ _ hg st λv h' tk hv df kk=>?_
  obtain⟨t,rfl⟩:=hv;have I1:Inv X pins σ H { s with heap:=h',toks:=tk }:=I.turned (λb o hb e=>kk b o (by simpa using hb) e) f0 f1 f3 f4 f5;refine⟨_,rfl,ox (s:={ s with heap:=h',toks:=tk }) (n:="range_iterator") df rfl rfl (by decide) ⟨.int (lo + i),H,I1,⟨t,?_⟩,⟨rfl,rfl⟩,df,λb hb=>(hf b hb).1⟩⟩;rw[Int.mul_one]
 done:=by
  intro X hP hw hK hc i pins s σ H E I hf st hg;subst hP hw hK;obtain⟨f0,f1,f2,f3,f4,f5⟩:=hf it (by simp);exact wpAny_pyNext_range_end (I.ok.hd hc) st (by have:n<=i:=hg; omega) λh' eb=>⟨rfl,I.turned (t':=s.toks) (λb o hb e=>eb b o hb e) f0 f1 f3 f4 f5⟩
 self:=λ_ _ _ _ _ st h=>wpAny_pyIter_rangeiter st h
section
variable {X:Cx} {tg:Expr}
theorem Fp{pins:List (Addr×Obj)}{σ:St}{H:Hp}{s:W1}{R:It->Hp->Prop}{E:Value->W1->Prop}{lo hi:Int}{t u v:Tok}{tk:Nat}(I:Inv X pins σ H s)(h1 : -(2 ^ 62)<=lo)(h2:lo < 2 ^ 62)(h3 : -(2 ^ 62)<=hi)(h4:hi < 2 ^ 62)
  (q:R (ly lo (hi - lo).toNat) H):W6 (model X.prog X.w) X.A (pyIter (.ref s.heap.objs.size)) (tJ X pins σ tg R) E { s with heap:=s.heap.push { cls:=.type "range",data:=.fields #[.int lo t,.int hi u,.int 1 v] },toks:=tk }:=by
 refine wpAny_pyIter_range (IsRange.new ..) (small_one h1 h2 h3 h4) ?_;have I1:Inv X pins σ H { s with heap:=s.heap.push { cls:=.type "range",data:=.fields #[.int lo t,.int hi u,.int 1 v] },toks:=tk }:=I.kept λb o e=>W4 _ e
 refine⟨(s.heap.push { cls:=.type "range",data:=.fields #[.int lo t,.int hi u,.int 1 v] }).objs.size,[(s.heap.push { cls:=.type "range",data:=.fields #[.int lo t,.int hi u,.int 1 v] }).objs.size],_,_,H,rfl,
  I1.kept (t':=tk) λb o e=>W4 _ e,y6 _ lo (hi - lo).toNat,?_,λb hb=>?_,q⟩
 ·have e1:lo + ((0:Nat):Int) * 1=lo:=by simp
  have e2:(((hi - lo).toNat:Nat):Int) - ((0:Nat):Int)=Builtin.Range.rangeSize lo hi 1:=by rw[rangeSize_one]; split <;> omega
  show IsRangeIter _ _ (lo + ((0:Nat):Int) * 1) ((((hi - lo).toNat:Nat):Int) - ((0:Nat):Int)) 1;rw[e1,e2];exact Wh _ rfl
 ·have e:b=(s.heap.push { cls:=.type "range",data:=.fields #[.int lo t,.int hi u,.int 1 v] }).objs.size:=by simpa using hb
  subst e;exact I1.iK (Wb _) (I1.aj.fresh (Wb _))
def Fq(ta:TA):TI:=λσ H R=>ta σ H λvs H1=>∃ j:Int,vs=[.int j]/\-(2 ^ 62)<=j/\j < 2 ^ 62/\R (ly 0 j.toNat) H1
theorem Fs {a:Expr} {ta:TA} {p pos:Pos} (hg:Gl X "range") (hm:X.mg "range" = none) (ha:PA X [a] ta) (hs:We [a] X.env=[(false,eval a X.env)]:=by rfl):PI X tg (.Call (.Name "range" p) [a] [] pos) (Fq ta):=by
 intro pins s σ H R I h;refine Call_ (mL I hg hm boot_range (QT (aJ (ha pos pins s σ H _ I h) λus s1 ⟨vs,H1,I1,r1,q1⟩=>?_) hs rfl));obtain⟨j,e,q1,q2,q⟩:=q1;subst e
 cases r1 with
 | cons r rr =>
  cases rr;obtain⟨t,rfl⟩:=r;exact call_range_1 (Fp I1 (by omega) (by omega) q1 q2 (by simpa using q))
def Ft(wi:TI)(g:TG)(tb:TS):TS:=λD σ H=>wi σ H λJ H1=>∃ W:Nat->Nat->St->Hp->Prop,(∃ m,W 0 m σ H1)/\∀ i m σ H,W i m σ H ->
 (J.stop i H/\D.nx σ H)\/(J.go i H/\∃ N:St->Hp->Prop,(∀ σ' H',N σ' H'->∃ m',m' < m/\W (i + 1) m' σ' H')/\∀ x H',J.ou i H x H'->g x σ H' λσ2 H2=>tb { D with nx:=N,ct:=N,bk:=D.nx } σ2 H2)
def oy(fp:List Addr)(h:Heap):List (Addr×Obj):=fp.filterMap λb=>(h.get? b).map λo=>(b,o)
theorem qv(hb:b ∈ fp)(e:h.get? b=some o):(b,o) ∈ oy fp h:=List.mem_filterMap.mpr ⟨b,hb,by rw[e]; rfl⟩
theorem Fu(hp:p ∈ oy fp h):p.1 ∈ fp/\h.get? p.1=some p.2:=by
 obtain⟨b,hb,e⟩:=List.mem_filterMap.mp hp
 cases q:h.get? b with
 | none=>rw[q] at e; cases e
 | some o =>
  rw[q] at e;have e':(b,o)=p:=Wx e;subst e';exact⟨hb,q⟩
theorem Inv.pinned(I:Inv X pins σ H s)(hf:∀ b ∈ fp,eV X pins H b)(ho:∀ b ∈ fp,∃ o,s.heap.get? b=some o/\∀ v,o.data≠.cell v):Inv X (pins ++ oy fp s.heap) σ H s :=
 I.yL λp hp=>(Ji.mp hp).elim (λz=>I.pin p (WS _ z)) λz=>by
  obtain⟨hb,e⟩:=Fu z;obtain⟨f0,f1,f2,_⟩:=hf p.1 hb;obtain⟨o,e',d⟩:=ho p.1 hb;rw[e] at e'; cases e'
  exact⟨e,f0,f1,f2,d⟩
theorem Inv.qw(I:Inv X (pins ++ pl) σ H s):Inv X pins σ H s:=I.yL λp hp=>I.pin p (WS _ (Jy _ hp))
theorem Fv(hp:PassesOwn (model X.prog X.w) X.A X.env X.xe)(hc:X.calm=true)(hi:PI X tg iter wi)(hg:PG X tg g)(hb:dq X body tb)
  (hs:∀ x,JT iter X.env x=pure x:=by intro _; rfl):PS X (.For tg iter body [] pos) (Ft wi g tb):=by
 intro pins s σ H D I h;refine wpAny_For (aJ (hi pins s σ H _ I h) λv s1 h1=>aJ h1 λtK s2 h2=>?_) hs;obtain⟨it,fp,tn,J,H2,e,I2,T,st2,f2,W,⟨m0,w0⟩,turn⟩:=h2;subst e;-- what stays true of the iterator's objects through the loop
 have tM:∀ {H':Hp},(∀ b ∈ fp,H' b=none)->∀ b ∈ fp,eV X pins H' b:=λhn b hb=>⟨hn b hb,(f2 b hb).2⟩
 refine codeAny_forLoop_any (λn s'=>∃ i σ' H',Inv X pins σ' H' s'/\tn i s'.heap/\(∀ b ∈ fp,H' b=none)/\W i n σ' H') ?_ m0 ⟨0,σ,H2,I2,st2,λb hb=>(f2 b hb).1,w0⟩;rintro n s3 ⟨i,σ3,H3,I3,kr,fr3,w3⟩;rcases turn i n σ3 H3 w3 with ⟨stop,qn⟩ | ⟨go,N,hN,step⟩
 ·refine QV hp (aJ (T.done X rfl rfl rfl hc i pins s3 σ3 H3 X.xe I3 (tM fr3) kr stop) λr s4 ⟨hr,I4⟩=>?_);subst hr;exact wpAny_execs_nil ⟨σ3,H3,I4,qn⟩
 ·refine QV hp (aJ (T.item X rfl rfl rfl hc i pins s3 σ3 H3 X.xe I3 (tM fr3) kr go) λr s4 ⟨u,hr,h4⟩=>?_);subst hr;refine QV hp (aJ h4 λ_ s5 ⟨x,H5,I5,r5,y5,st5,fr5⟩=>?_);have Fw:=I5.pinned (tM fr5) (T.obj _ _ st5);refine QV hp (aJ (hg _ s5 σ3 H5 x u _ Fw r5 (step x H5 y5)) λ_ s6 ⟨σ6,H6,I6,q6⟩=>?_);refine QV hp (aJ (hb _ s6 σ6 H6 _ I6 q6) λf s7 q7=>?_);have again:∀ {σ7:St} {H7:Hp},Inv X (pins ++ oy fp s5.heap) σ7 H7 s7->N σ7 H7->∃ m,m < n/\∃ i σ' H',Inv X pins σ' H' s7/\tn i s7.heap/\(∀ b ∈ fp,H' b=none)/\W i m σ' H':=λ{σ7 H7} I7 n7=>by
   obtain⟨m',hm,w7⟩:=hN σ7 H7 n7;refine⟨m',hm,i + 1,σ7,H7,I7.qw,T.keep _ _ _ st5 λb hb o e=>(I7.pin (b,o) (WS _ (WS _ (qv hb e)))).1,λb hb=>?_,w7⟩;obtain⟨o,e,d⟩:=T.obj _ _ st5 b hb;exact(I7.pin (b,o) (WS _ (WS _ (qv hb e)))).2.1
  cases f with
  | next=>obtain⟨σ7,H7,I7,n7⟩:=q7; exact again I7 n7
  | cont=>obtain⟨σ7,H7,I7,n7⟩:=q7; exact again I7 n7
  | brk=>obtain⟨σ7,H7,I7,q7⟩:=q7; exact⟨σ7,H7,I7.qw,q7⟩
  | ret v=>obtain⟨x7,σ7,H7,I7,r7,q7⟩:=q7; exact⟨x7,σ7,H7,I7.qw,r7,q7⟩
end
abbrev R2:=V->V->Hp->VK->Prop
def bh(X:Cx)(f:Value->Value->Sem Value)(r:R2):Prop :=
 ∀ (pins:List (Addr×Obj)) (s:W1) (σ:St) (H:Hp) (x y:V) (v u:Value) (Q:VK),Inv X pins σ H s->RelV x v->RelV y u->r x y H Q ->
  W6 (model X.prog X.w) X.A (f v u) (EP X pins σ Q) X.xe s
def dg(X:Cx)(f:Value)(r:List V->Hp->VK->Prop):Prop :=
 ∀ (pins:List (Addr×Obj)) (s:W1) (σ:St) (H:Hp) (xs:List V) (us:List Value) (Q:VK),Inv X pins σ H s->Vals xs us->r xs H Q ->
  W6 (model X.prog X.w) X.A (call f us) (EP X pins σ Q) X.xe s
def lA(r:R2)(ta tb:TE):TE:=λσ H Q=>ta σ H λx H1=>tb σ H1 λy H2=>r x y H2 Q
def Fx(r:V->Hp->VK->Prop)(ta:TE):TE:=λσ H Q=>ta σ H λx H1=>r x H1 Q
def rI(C:Int->Int->Prop)(g:Int->Int->V):R2:=λx y H Q=>∃ i j,x = .int i/\y = .int j/\C i j/\Q (g i j) H
def iL(g:Int->Int->V):R2:=λx y H Q=>∃ i j,x = .int i/\y = .int j/\Q (g i j) H
section
variable {X:Cx} {a b c:Expr} {ta tb tc:TE} {pos:Pos}
theorem tN(ha:PE X a ta)(hb:PE X b tb){pins:List (Addr×Obj)}{s:W1}{σ:St}{H:Hp}{R:V->V->Hp->Prop}(I:Inv X pins σ H s)
  (h:ta σ H λx H1=>tb σ H1 λy H2=>R x y H2) {Q:Value->W1->Prop} {f:Value->Value->Sem Value}
  (hf:∀ v u s2 x y H2,Inv X pins σ H2 s2->RelV x v->RelV y u->R x y H2->W6 (model X.prog X.w) X.A (f v u) Q X.xe s2) :
  W6 (model X.prog X.w) X.A (eval a X.env) (λv s₁=>W6 (model X.prog X.w) X.A (eval b X.env) (λu s₂=>W6 (model X.prog X.w) X.A (f v u) Q X.xe s₂) X.xe s₁) X.xe s:=by
 refine aJ (ha pins s σ H _ I h) λv s1 ⟨x,H1,I1,r1,q1⟩=>?_
 refine aJ (hb pins s1 σ H1 _ I1 q1) λu s2 ⟨y,H2,I2,r2,q2⟩=>?_
 exact hf v u s2 x y H2 I2 r1 r2 q2
theorem y8{op:Operator}{r:R2}(ho:bh X (Qo op) r)(ha:PE X a ta)(hb:PE X b tb):PE X (.BinOp a op b pos) (lA r ta tb):=by
 intro pins s σ H Q I h;exact wpAny_BinOp (tN ha hb I h λv u s2 x y H2 I2 rx ry q=>ho pins s2 σ H2 x y v u Q I2 rx ry q)
theorem oz{f:Value->Value->Sem Value}{C:Int->Int->Prop}{g:Int->Int->Int}
  (rule:∀ (i j:Int) (t u:Tok) (s:W1) (Q:Value->W1->Prop) (E:Value->W1->Prop),C i j->Q (.int (g i j) s.toks) { s with toks:=s.toks + 1 }->W6 (model X.prog X.w) X.A (f (.int i t) (.int j u)) Q E s) :
  bh X f (rI C λi j=>.int (g i j)):=by
 intro pins s σ H x y v u Q I rx ry h;obtain⟨i,j,rfl,rfl,hc,q⟩:=h;obtain⟨t,rfl⟩:=rx;obtain⟨t',rfl⟩:=ry;exact rule i j t t' s _ _ hc ⟨.int (g i j),H,I.tok _,⟨_,rfl⟩,q⟩
theorem y9{f:Value->Value->Sem Value}{g:Int->Int->Int}
  (rule:∀ (i j:Int) (t u:Tok) (s:W1) (Q:Value->W1->Prop) (E:Value->W1->Prop),Q (.int (g i j) s.toks) { s with toks:=s.toks + 1 }->W6 (model X.prog X.w) X.A (f (.int i t) (.int j u)) Q E s) :
  bh X f (iL λi j=>.int (g i j)):=by
 intro pins s σ H x y v u Q I rx ry h;obtain⟨i,j,rfl,rfl,q⟩:=h;obtain⟨t,rfl⟩:=rx;obtain⟨t',rfl⟩:=ry;exact rule i j t t' s _ _ ⟨.int (g i j),H,I.tok _,⟨_,rfl⟩,q⟩
theorem tO{f:Value->Value->Sem Value}{g:Int->Int->Bool}
  (rule:∀ (i j:Int) (t u:Tok) (s:W1) (Q:Value->W1->Prop) (E:Value->W1->Prop),Q (.bool (g i j)) s->W6 (model X.prog X.w) X.A (f (.int i t) (.int j u)) Q E s) :
  bh X f (iL λi j=>.bl (g i j)):=by
 intro pins s σ H x y v u Q I rx ry h;obtain⟨i,j,rfl,rfl,q⟩:=h;obtain⟨t,rfl⟩:=rx;obtain⟨t',rfl⟩:=ry;exact rule i j t t' s _ _ ⟨.bl (g i j),H,I,rfl,q⟩
def y_(i j:Int):Prop:=0 < j/\j < 1073741824
def zb(i j:Int):Prop:=0<=j/\j<=1000000/\i.natAbs < 2 ^ 64
def oA(i j:Int):Prop:=(-(2 ^ 64) < i/\i < 2 ^ 64)\/(-(2 ^ 64) < j/\j < 2 ^ 64)
theorem oA.ok(h:oA i j):IntMulOk i j:=by
 rcases h with ⟨h1,h2⟩ | ⟨h1,h2⟩
 ·exact .of_left (intBits_le_64 h1 h2)
 ·exact .of_right (intBits_le_64 h1 h2)
theorem Fy:bh X (Qo .Add) (iL λi j=>.int (i + j)):=y9 λ_ _ _ _ _ _ _ q=>add_int q
theorem Fz:bh X (Qo .Sub) (iL λi j=>.int (i - j)):=y9 λ_ _ _ _ _ _ _ q=>sub_int q
theorem FA:bh X (Qo .Mult) (rI oA λi j=>.int (i * j)):=oz λ_ _ _ _ _ _ _ hc q=>mul_int q hc.ok
theorem FC:bh X (Qo .FloorDiv) (rI y_ λi j=>.int (i / j)):=oz λi j _ _ _ _ _ hc q=>by
 have h1:(0:Int) < j:=hc.1;have h2:j < 1073741824:=hc.2;exact floordiv_int (by omega) (by rw[Int.fdiv_eq_ediv_of_nonneg i (by omega)]; exact q) (.inl (PyProof.noPylong_small (by omega)))
theorem lB:bh X (Qo .Mod) (rI (λ_ j=>0 < j) λi j=>.int (i % j)):=oz λi j _ _ _ _ _ hc q=>by
 have h1:(0:Int) < j:=hc;exact mod_int' (by omega) (by rw[Int.fmod_eq_emod_of_nonneg i (by omega)]; exact q)
theorem FD:bh X (Qo .Pow) (rI zb λi j=>.int (i ^ j.toNat)):=oz λ_ _ _ _ _ _ _ hc q=>pow_int_small hc.1 hc.2.1 hc.2.2 q
end
section
variable {X:Cx} {a b c:Expr} {ta tb tc:TE} {pos:Pos}
theorem qx(I:Inv X pins σ H s)(q:Q (.bl k) H)(e:k=k'):EP X pins σ Q (.bool k') s:=by
 subst e;exact⟨.bl k,H,I,rfl,q⟩
theorem FE:bh X (WE .Lt) (iL λi j=>.bl (decide (i < j))):=tO λ_ _ _ _ _ _ _ q=>lt_int q
theorem FF:bh X (WE .Gt) (iL λi j=>.bl (decide (j < i))):=tO λ_ _ _ _ _ _ _ q=>gt_int q
theorem FG:bh X (WE .GtE) (iL λi j=>.bl (decide (j<=i))):=tO λ_ _ _ _ _ _ _ q=>ge_int q
theorem FH:bh X (WE .Lt) (λx y H Q=>∃ i j,x = .str i/\y = .str j/\Q (.bl (decide (i.cps.toList < j.cps.toList))) H):=by
 intro pins s σ H x y v u Q I rx ry h;obtain⟨i,j,rfl,rfl,q⟩:=h;obtain⟨t,rfl⟩:=rx;obtain⟨t',rfl⟩:=ry;exact lt_str (qx I q rfl)
theorem FI:bh X (WE .In) (λx y H Q=>∃ i j,x = .str i/\y = .str j/\Q (.bl (!(Jf j i 0 j.length 1).isEmpty)) H):=by
 intro pins s σ H x y v u Q I rx ry h;obtain⟨i,j,rfl,rfl,q⟩:=h;obtain⟨t,rfl⟩:=rx;obtain⟨t',rfl⟩:=ry;exact in_str (qx I q rfl)
theorem FJ:bh X (WE .IsNot) (λx y H Q=>y = .ay/\Q (.bl (!decide (x = .ay))) H):=by
 intro pins s σ H x y v u Q I rx ry h;obtain⟨rfl,q⟩:=h
 cases ry;refine isnot_none_gen (qx I q ?_)
 cases x <;> first
  | (cases rx; rfl)
  | (obtain⟨t,rfl⟩:=rx; rfl)
theorem FK:bh X (WE .NotIn) (λx y H Q=>∃ i j,x = .str i/\y = .str j/\Q (.bl (!(!(Jf j i 0 j.length 1).isEmpty))) H):=by
 intro pins s σ H x y v u Q I rx ry h;obtain⟨i,j,rfl,rfl,q⟩:=h;obtain⟨t,rfl⟩:=rx;obtain⟨t',rfl⟩:=ry;exact notIn_str (qx I q rfl)
theorem bh.or(h:bh X f r)(h':bh X f r'):bh X f (λx y H Q=>r x y H Q\/r' x y H Q):=by
 intro pins s σ H x y v u Q I rx ry q;rcases q with q | q
 ·exact h pins s σ H x y v u Q I rx ry q
 ·exact h' pins s σ H x y v u Q I rx ry q
theorem fU(b:Expr)(h:op≠.In:=by decide)(h2:op≠.NotIn:=by decide):Qy op b=false:=by
 have e1:(op == CmpOp.In)=false:=by cases op <;> first | rfl | exact absurd rfl h
 have e2:(op == CmpOp.NotIn)=false:=by cases op <;> first | rfl | exact absurd rfl h2
 cases b <;> simp[Qy,e1,e2]
theorem FL{op:CmpOp}{r:R2}(ho:bh X (WE op) r)(ha:PE X a ta)(hb:PE X b tb)(hm:Qy op b=false):PE X (.Compare a [op] [b] pos) (lA r ta tb):=by
 intro pins s σ H Q I h;exact wpAny_Compare1 (tN ha hb I h λv u s2 x y H2 I2 rx ry q=>ho pins s2 σ H2 x y v u Q I2 rx ry q) hm
def FN(t:TE):TT:=λσ H Q=>t σ H λx H'=>∃ k,x = .bl k/\Q k H'
theorem zc(ho:bh X (WE op) r)(ha:PE X a ta)(hb:PE X b tb)(hm:Qy op b=false):PT X (.Compare a [op] [b] pos) (FN (lA r ta tb)):=by
 intro pins s σ H Q I h;refine wpAny_isTrue_Compare1 (aJ (ha pins s σ H _ I h) λv s1 ⟨x,H1,I1,r1,q1⟩=>aJ (hb pins s1 σ H1 _ I1 q1) λu s2 ⟨y,H2,I2,r2,q2⟩ =>
  aJ (ho pins s2 σ H2 x y v u _ I2 r1 r2 q2) λc s3 ⟨z,H3,I3,r3,k,e,q3⟩=>?_) hm
 subst e
 cases r3;exact QK ⟨H3,I3,q3⟩
theorem mM:(W8:Nat) < 2 ^ 63:=by rw[QF]; decide
theorem FO:bh X (Qo .Add) (λx y H Q=>∃ i j,x = .str i/\y = .str j/\i.length + j.length<=W8/\Q (.str (i ++ j)) H):=by
 intro pins s σ H x y v u Q I rx ry h;obtain⟨i,j,rfl,rfl,hz,q⟩:=h;obtain⟨t,rfl⟩:=rx;obtain⟨t',rfl⟩:=ry;exact add_str (λt' tk=>⟨.str (i ++ j),H,I.tok _,⟨_,rfl⟩,q⟩) hz
theorem fJ(r:Vals [x] us):∃ u,us=[u]/\RelV x u:=by
 cases r with
 | cons r1 r2=>cases r2; exact⟨_,rfl,r1⟩
theorem zd(r:Vals [x,y] us):∃ u w',us=[u,w']/\RelV x u/\RelV y w':=by
 cases r with
 | cons r1 r2 =>
  cases r2 with
  | cons r3 r4=>cases r4; exact⟨_,_,rfl,r1,r3⟩
theorem FP (hc:X.calm=true):dg X (.builtin "max") (λxs H Q=>∃ i j,xs=[.int i,.int j]/\Q (.int (if j > i then j else i)) H):=by
 intro pins s σ H xs us Q I r h;obtain⟨i,j,rfl,q⟩:=h;obtain⟨u,w',rfl,⟨t,rfl⟩,⟨t',rfl⟩⟩:=zd r;refine max_two_ints (I.ok.hd hc) λh' tk k=>⟨_,H,I.kept k,?_,q⟩
 by_cases hj:j > i
 ·rw[if_pos hj,if_pos hj]; exact⟨_,rfl⟩
 ·rw[if_neg hj,if_neg hj]; exact⟨_,rfl⟩
theorem FQ:dg X (.type "int") (λxs H Q=>(∃ i,xs=[.int i]/\Q (.int i) H)\/∃ k,xs=[.bl k]/\Q (.int (if k then 1 else 0)) H):=by
 intro pins s σ H xs us Q I r h;rcases h with ⟨i,rfl,q⟩ | ⟨k,rfl,q⟩
 ·obtain⟨u,rfl,t,rfl⟩:=fJ r;exact call_int_int ⟨.int i,H,I,⟨_,rfl⟩,q⟩
 ·obtain⟨u,rfl,r1⟩:=fJ r
  cases r1;exact call_int_bool ⟨.int (if k then 1 else 0),H,I.tok _,⟨_,rfl⟩,q⟩
end
structure tP(h:Heap)(x dx C:Addr)(mA:Str->Option Value):Prop where
 obj:h.get? x=some (PySem.W.instObj C dx)
 ns:h.Ns1 dx mA
 ne:dx≠x
theorem FR{h:Heap}{dx:Addr}{mA:Str->Option Value}(n:h.Ns1 dx mA):∃ od,h.get? dx=some od/\∀ name,PySem.W.lookIn name od=some (mA name):=by
 obtain⟨o,es,ep,ho,hd,hk,_,hm⟩:=n;refine⟨o,ho,λname=>?_⟩;have e:=hm name;unfold nsFind findBy at e;rw[<- Array.find?_toList] at e;unfold PySem.W.lookIn;rw[hd];dsimp only;split
 ·rename_i y q;rw[q] at e;exact congrArg some e
 ·rename_i q;rw[q] at e;have a:es.toList.any (·.refKey)=false:=by
   rw[JU];intro y hy;obtain⟨z,t,hkey⟩:=hk y (Array.mem_toList_iff.mp hy);simp[DictEntry.refKey,hkey]
  have a':¬ es.toList.any (·.refKey)=true:=by rw[a]; exact WM
  rw[if_neg a'];exact congrArg some e
theorem tP.look(I:tP h x dx C mA):∃ od,PySem.W.InstAt h x (PySem.W.instObj C dx) C (some od)/\∀ name,PySem.W.lookIn name od=some (mA name) :=
 let ⟨od,ho,hl⟩:=FR I.ns
 ⟨od,⟨I.obj,rfl,rfl,ho⟩,hl⟩
section
variable {prog:Wj} {w:Wm} {A:Wn} {E:Value->W1->Prop} {s:W1} {K:W2} {x dx C f:Addr} {mA:Str->Option Value} {name:Str} {v:Value}
end
theorem cY.some_of(r:cY (some v) o):∃ u,o=some u/\RelV v u:=by
 cases o with
 | none=>exact(show False from r).elim
 | some u=>exact⟨u,rfl,r⟩
theorem cY.none_of(r:cY none o):o=none:=by
 cases o with
 | none=>rfl
 | some u=>exact(show False from r).elim
section
variable {P:Wj} {w:Wm} {H H':Hp} {h h':Heap} {a C dx:Addr} {fs EB:List (Str×V)}
theorem FU(aj:bK P w H h)(e:H a=some (.ins C dx fs)):∃ mA,tP h a dx C mA/\(∀ f,cY (fs.lookup f) (mA f))/\PySem.Within mA (fs.map (·.1))/\fs.length<=1000/\H dx=some (.own a):=by
 obtain⟨d,z,ne,ob,mA,n,r,q⟩:=(show bw P w H h a (.ins C dx fs) from aj a _ e)
 exact⟨mA,⟨ob,n,ne⟩,r,q,z,d⟩
end
structure tQ(K:W2)(C:Addr):Prop where
 pg:PySem.W.plainGet K C Str.empty=true
 hd:PySem.W.hasDictIn K C=true
 po:PySem.W.plainOver K C=true
 sa:Jt K (.ref C) "__setattr__" = some (some (.builtin "object.__setattr__"))
theorem tQ.get{K:W2}{C:Addr}(c:tQ K C)(f:Str):PySem.W.plainGet K C f=true:=c.pg
structure RY(K:W2)(C:Addr)(f:Str)(v:V)(u:Value):Prop where
 at_:Jt K (.ref C) f=some (some u)
 rel:RelV v u
 get:PySem.W.specialIn K u "__get__" = some none
 cp:PySem.W.copiedNames.contains f=false
structure Meth(K:W2)(C:Addr)(m:Str)(f:Addr):Prop where
 at_:Jt K (.ref C) m=some (some (.ref f))
 fn:PySem.W.isFn K (.ref f)=true
 kp:QA K (.ref f)=true
section
variable {X:Cx} {pins:List (Addr×Obj)} {σ:St} {H:Hp} {s:W1} {a C dx:Addr} {fs:List (Str×V)} {f:Str} {v:V} {A:Wn} {E:Value->W1->Prop}
end
section
variable {X:Cx} {o e value:Expr} {f:Str} {pos pos' tpos:Pos} {ta tv:TE}
end
section
variable {X:Cx} {pins:List (Addr×Obj)} {σ:St} {H:Hp} {s:W1} {A:Wn} {E:Value->W1->Prop} {Q:Value->W1->Prop} {c:Value} {b:Bool}
inductive g_ (K:W2) (H:Hp):V->Value->Prop where
 | ay:g_ K H .ay (.type "NoneType")
 | bl (x:Bool):g_ K H (.bl x) (.type "bool")
 | int (i:Int):g_ K H (.int i) (.type "int")
 | str (x:Str):g_ K H (.str x) (.type "str")
 | flt (x:UInt64):g_ K H (.flt x) (.type "float")
 | lst {a:Addr} {xs:List V} (e:H a=some (.lst xs)):g_ K H (.ref a) (.type "list")
 | frz {a:Addr} {o:Obj} {xs:List V} (e:H a=some (.frz o (.lst xs))):g_ K H (.ref a) (.type "list")
 | tup {a:Addr} {xs:List V} (e:H a=some (.tup xs)):g_ K H (.ref a) (.type "tuple")
 | dK {a:Addr} {kvs:List (Key×V)} (e:H a=some (.dK kvs)):g_ K H (.ref a) (.type "dict")
 | dT {a:Addr} {kvs:List (List Key×V)} (e:H a=some (.dT kvs)):g_ K H (.ref a) (.type "dict")
 | ins {a C dx:Addr} {fs:List (Str×V)} (e:H a=some (.ins C dx fs)) (cl:tQ K C) (ha:Jt K (.ref C) "__class__" = some (some (.builtin "object.__class__")))
   (hn:PySem.W.specialIn K (.builtin "object.__class__") "__get__" = some (some (.builtin "getset_descriptor.__get__"))) (ze:PySem.W.takesIn K (.builtin "object.__class__")=some true)
   (hm:PySem.W.mroIn K C (.type "object")=some true):g_ K H (.ref a) (.ref C)
theorem ku(I:Inv X pins σ H s)(rx:RelV x u)(ty:g_ X.K H x t)(e:QB X.K t c=some b)(h:∀ tk,Q (.bool b) { s with toks:=tk }) :
  W6 (model X.prog X.w) A (call (.builtin "isinstance") [u,c]) Q E s:=by
 cases ty with
 | ay=>cases (show u=Value.none from rx); exact Qe PySem.W.kitx_none I.dM True.intro e (λz=>nomatch z) h
 | bl y=>cases (show u=Value.bool y from rx); exact Qe PySem.W.kitx_bool I.dM True.intro e (λz=>nomatch z) h
 | int i=>obtain⟨t,q⟩:=(show ∃ t,u=Value.int i t from rx); cases q; exact Qe PySem.W.kitx_int I.dM True.intro e (λz=>nomatch z) h
 | str y=>obtain⟨t,q⟩:=(show ∃ t,u=Value.str y t from rx); cases q; exact Qe PySem.W.kitx_str I.dM True.intro e (λz=>nomatch z) h
 | flt y=>obtain⟨t,q⟩:=(show ∃ t,u=Value.float y t from rx); cases q; exact Qe PySem.W.kitx_float I.dM True.intro e (λz=>nomatch z) h
 | @lst a xs ea =>
  cases (show u=Value.ref a from rx);obtain⟨_,_,n,_,h1⟩:=(show bw X.prog X.w H s.heap a (.lst xs) from I.aj a _ ea)
  exact Qe PySem.W.kitx_list I.dM ⟨_,h1,rfl⟩ e (λz=>nomatch z) h
 | @frz a ob xs ea =>
  cases (show u=Value.ref a from rx);obtain⟨_,_,_,n,_,h1⟩:=(show bw X.prog X.w H s.heap a (.frz ob (.lst xs)) from I.aj a _ ea)
  exact Qe PySem.W.kitx_list I.dM ⟨_,h1,rfl⟩ e (λz=>nomatch z) h
 | @tup a xs ea =>
  cases (show u=Value.ref a from rx);obtain⟨_,_,_,p⟩:=(show bw X.prog X.w H s.heap a (.tup xs) from I.aj a _ ea)
  obtain⟨o,h1,h2,_⟩:=p.tup;exact Qe PySem.W.kitx_tuple I.dM ⟨o,h1,h2⟩ e (λz=>nomatch z) h
 | @dK a kvs ea =>
  cases (show u=Value.ref a from rx);obtain⟨_,_,vs,_,p⟩:=(show bw X.prog X.w H s.heap a (.dK kvs) from I.aj a _ ea)
  obtain⟨o,es,ep,h1,h2,_⟩:=p;exact Qe PySem.W.kitx_dict I.dM ⟨o,h1,h2.1⟩ e (λz=>nomatch z) h
 | @dT a kvs ea =>
  cases (show u=Value.ref a from rx);obtain⟨_,_,xs,_,o,es,ep,h1,h2,_⟩:=(show bw X.prog X.w H s.heap a (.dT kvs) from I.aj a _ ea)
  exact Qe PySem.W.kitx_dict I.dM ⟨o,h1,h2.1⟩ e (λz=>nomatch z) h
 | @ins a C dx fs ea cl ha hn ze hm =>
  cases (show u=Value.ref a from rx);obtain⟨mA,O,_⟩:=FU I.aj ea;obtain⟨od,J,_⟩:=O.look;exact Qe (PySem.W.kitx_own (cl.get _) cl.hd ha hn ze hm) I.dM J e (λz=>nomatch z) h
end
structure bP(k:Nat)(A:Wn):Prop where
 hd:A.handled=none
 dp:A.depth + 3 * k + 5 < recursionLimit
 un:A.units + 16 * k + 200 < WI
theorem bP.mono(r:bP k A)(h:j<=k):bP j A:=⟨r.hd,by have:=r.dp; omega,by have:=r.un; omega⟩
theorem bP.deeper(r:bP (k + 1) A)(env:Env):bP k (A.deeper env) :=
 ⟨r.hd,by have:=r.dp; show A.depth + 1 + 3 * k + 5 < _; omega,by have:=r.un; show A.units + 3 + 16 * k + 200 < _; omega⟩
theorem bP.depth(r:bP k A):A.depth < recursionLimit:=by have:=r.dp; omega
def zf:TA:=λ_ H Q=>Q [] H
def tR(ta:TE)(tr:TA):TA:=λσ H Q=>ta σ H λx H1=>tr σ H1 λxs H2=>Q (x :: xs) H2
section
variable {X:Cx} {e:Expr} {es:List Expr} {te:TE} {t:TA} {pos:Pos}
theorem fV:PA X [] zf:=λ_ _ _ _ H Q I h=>Calls.spliced_nil ⟨[],H,I,.nil,h⟩
theorem dY(ha:PE X e te)(hr:PA X es t)(hs:We (e :: es) X.env=(false,eval e X.env) :: We es X.env:=by rfl):PA X (e :: es) (tR te t):=by
 intro pos pins s σ H Q I h;rw[hs];show W6 _ _ (spliced ((false,eval e X.env) :: Qg pos (We es X.env))) _ _ s;refine Calls.spliced_cons (aJ (ha pins s σ H _ I h) λu s1 ⟨x,H1,I1,r1,q1⟩=>?_);exact aJ (hr pos pins s1 σ H1 _ I1 q1) λus s2 ⟨xs,H2,I2,r2,q2⟩=>⟨x :: xs,H2,I2,.cons r1 r2,q2⟩
def FV(t:TA):TE:=λσ H Q=>t σ H λxs H1=>xs.length<=W8/\∀ p,H1 p=none->Q (.ref p) (upd H1 p (.tup xs))
def FW(t:TA):TE:=λσ H Q=>t σ H λxs H1=>xs.length<=W8/\∀ p,H1 p=none->Q (.ref p) (upd H1 p (.lst xs))
theorem FX{x1}(h:PA X es t):PE X (.Tuple es x1 pos) (FV t):=by
 intro pins s σ H Q I hq;refine wpAny_Tuple_spliced (aJ (h pos pins s σ H _ I hq) λus s1 ⟨xs,H1,I1,r,z,q⟩=>⟨by rw[<- r.length]; exact z,?_⟩);have hf:H1 s1.heap.objs.size=none:=I1.aj.fresh (Wb _);refine⟨.ref s1.heap.objs.size,upd H1 s1.heap.objs.size (.tup xs),I1.laid (t':=s1.toks) (λb u e=>W4 _ e) (Wb _) ?_,rfl,q _ hf⟩;exact⟨z,us,r,⟨_,Wh _ rfl⟩⟩
theorem FY(h:PA X es t):PE X (.List es pos) (FW t):=by
 intro pins s σ H Q I hq;refine wpAny_List_spliced (aJ (h pos pins s σ H _ I hq) λus s1 ⟨xs,H1,I1,r,z,q⟩=>⟨by rw[<- r.length]; exact z,?_⟩);have hf:H1 s1.heap.objs.size=none:=I1.aj.fresh (Wb _);refine⟨.ref s1.heap.objs.size,upd H1 s1.heap.objs.size (.lst xs),I1.laid (t':=s1.toks) (λb u e=>W4 _ e) (Wb _) ?_,rfl,q _ hf⟩;exact⟨z,us,0,r,Wh _ rfl⟩
end
abbrev Sp:=List V->Hp->VK->XK->Prop
abbrev iM:=List Env->Hp->W1->XK->Value->W1->Prop
structure lC(P:Wj)(w:Wm)(K:W2)(mg:Str->Option Value)(base:Heap)(A:Wn)(outer:List Env)(s:W1)(H:Hp):Prop where
 frames:A.frames=some outer
 mod:Mod K mg base
 bs:∀ b o,base.get? b=some o->s.heap.get? b=some o/\H b=none
 jI:base.objs.size<=s.heap.objs.size
 gz:s.heap.FunFrames base outer
 lu:∀ b ∈ fq outer,H b=none
 aj:bK P w H s.heap
 bare:AllBare s.gens
def CE(outer:List Env)(P:Wj)(w:Wm)(H:Hp)(s:W1)(Q:VK)(u:Value)(s':W1):Prop :=
 ∃ v H',s'.os=s.os/\AllBare s'.gens/\Un (fq outer) [] H H' s.heap s'.heap/\bK P w H' s'.heap/\RelV v u/\Q v H'
def CR(CX:iM)(outer:List Env)(P:Wj)(w:Wm)(H:Hp)(s:W1)(Q:VK)(E:XK)(r:Result)(s':W1):Prop :=
 match r with
 | .ok (.ret u)=>CE outer P w H s Q u s'
 | .ok _=>False
 | .error e=>CX outer H s E e s'
structure fK(P:Wj)(w:Wm)(K:W2)(mg:Str->Option Value)(base:Heap)(CX:iM)(k:Nat)(f:Addr)(fd:WQ)(ps:List Str)(sp:Sp):Prop where
 len:∀ vs H Q E,sp vs H Q E->vs.length=ps.length
 run:∀ (A:Wn) (outer:List Env) (s:W1) (H:Hp) (args:Args) (us:List Value) (vs:List V) (Q:VK) (E:XK),bP k A->lC P w K mg base A outer s H->BindsTo s fd args (ps.zip us)->Vals vs us->sp vs H Q E ->
  Qi (model P w) A (.call (.ref f) args) (CR CX outer P w H s Q E) s
section
variable {X:Cx} {pins:List (Addr×Obj)} {σ:St} {H:Hp} {s s':W1}
theorem Inv.tS(I:Inv X pins σ H s):lC X.prog X.w X.K X.mg X.base X.A X.stack s H :=
 ⟨I.ok.frames,I.ok.mod,I.bs,WP I.ok.jI I.sz,I.stack,I.yJ,I.aj,I.bare⟩
theorem Inv.after(I:Inv X pins σ H s)(h:CE X.stack X.prog X.w H s Q u s'):EP X pins σ Q u s':=by
 obtain⟨v,H',os,bare,un,aj,r,q⟩:=h;obtain⟨hh,g,d,t,os'⟩:=s';obtain rfl:os'=s.os:=os;exact⟨v,H',I.call (h':=hh) (g':=g) (d':=d) (t':=t) (ch:=[]) un aj bare (λb z=>absurd z (by simp)),r,q⟩
end
def tU(sp:Sp)(kz:List V)(E:XK)(t:TA):TE:=λσ H Q=>t σ H λvs H1=>sp (vs ++ kz) H1 Q E
def Binds(K:W2)(fd:WQ)(ps:List Str)(ds:List Value):Prop :=
 ∀ (s:W1) (us:List Value),K.In s.heap->(us ++ ds).length=ps.length->BindsTo s fd ⟨us,[]⟩ (ps.zip (us ++ ds))
theorem Binds.all{K:W2}{fd:WQ}{ps:List Str}(h:∀ us:List Value,us.length=ps.length->bindArgs fd ⟨us,[]⟩=pure (ps.zip us)):Binds K fd ps []:=λs us _ hl=>by
 rw[Q7] at hl ⊢;exact .of_eq (h us hl)
def tV(CX:iM)(X:Cx)(E:XK):Prop:=∀ (pins:List (Addr×Obj)) (σ:St) (H:Hp) (s:W1) (e:Value) (s':W1),Inv X pins σ H s->CX X.stack H s E e s'->X.xe e s'
section
variable {X:Cx} {CX:iM} {k:Nat} {f C:Addr} {fd:WQ} {ps:List Str} {sp:Sp} {kz:List V} {ds:List Value} {E:XK} {x m:Str} {p pos apos:Pos} {e o:Expr} {es:List Expr} {ta:TE} {t:TA}
theorem FZ(F:fK X.prog X.w X.K X.mg X.base CX k f fd ps sp)(hr:bP k X.A)(hb:Binds X.K fd ps ds)(hd:Vals kz ds)(hx:tV CX X E)
  (I:Inv X pins σ H s) (r:Vals vs us) (h:sp (vs ++ kz) H Q E):W6 (model X.prog X.w) X.A (call (.ref f) us) (EP X pins σ Q) X.xe s:=by
 have r2:Vals (vs ++ kz) (us ++ ds):=r.append hd;have hl:(us ++ ds).length=ps.length:=by rw[<- r2.length]; exact F.len _ _ _ _ h
 refine wpAny_call (QU (F.run X.A X.stack s H ⟨us,[]⟩ (us ++ ds) (vs ++ kz) Q E hr I.tS (hb s us I.dM hl) r2 h) λr s' hq=>?_)
 cases r with
 | error e=>exact hx pins σ H s e s' I hq
 | ok fl =>
  cases fl with
  | ret u=>exact I.after hq
  | next=>exact False.elim hq
  | brk=>exact False.elim hq
  | cont=>exact False.elim hq
theorem tW(F:fK X.prog X.w X.K X.mg X.base CX k f fd ps sp)(hr:bP k X.A)(hg:Gl X x)(hm:X.mg x=some (.ref f))(hk:QA X.K (.ref f)=true)(hb:Binds X.K fd ps ds)(hd:Vals kz ds)(hx:tV CX X E)
  (ha:PA X (e :: es) t) (eW:(x == ("__debug__" : Str))=false:=by decide) (he:We (e :: es) X.env=(false,eval e X.env) :: We es X.env:=by rfl) (cN:(Qg pos (We es X.env)).any (·.1)=false:=by rfl) :
  PE X (.Call (.Name x p) (e :: es) [] pos) (tU sp kz E t):=by
 intro pins s σ H Q I h;refine Jj (yQ I hg hm ?_ eW);refine PySem.W.callWith_K (h₀:=X.base) I.ok.mod.oi hk (aJ (ha pos pins s σ H _ I h) λus s1 ⟨vs,H1,I1,r,q⟩=>⟨I1.dM,?_⟩) he cN;exact FZ F hr hb hd hx I1 r q
structure Mk(K:W2)(C f:Addr):Prop where
 makes:PySem.W.makesIn K C=true
 init:Jt K (.ref C) "__init__" = some (some (.ref f))
 fn:PySem.W.isFn K (.ref f)=true
 kp:QA K (.ref C)=true
end
def PK(X:Cx)(zg:List Keyword)(t:TA):Prop :=
 ∀ (pos:Pos) (pins:List (Addr×Obj)) (s:W1) (σ:St) (H:Hp) (Q:List V->Hp->Prop),Inv X pins σ H s->t σ H Q->W6 (model X.prog X.w) X.A (evalAll ((backToKw pos (JB zg X.env)).map (·.2))) (AP X pins σ Q) X.xe s
section
variable {X:Cx} {CX:iM} {k:Nat} {f C:Addr} {fd:WQ} {ps ks:List Str} {sp:Sp} {E:XK} {x m:Str} {p pos apos RZ:Pos} {e o:Expr} {es:List Expr} {zg:List Keyword} {te ta:TE} {t tk:TA} {nm:Option Str}
structure R0(K:W2)(fd:WQ)(ps ks:List Str)(g:List Value->List Value->List Value)(gV:List V->List V->List V):Prop where
 to:∀ (s:W1) (us ws:List Value),K.In s.heap->(g us ws).length=ps.length->BindsTo s fd ⟨us,ks.zip ws⟩ (ps.zip (g us ws))
 rel:∀ {vs:List V} {us:List Value} {zs:List V} {ws:List Value},Vals vs us->Vals zs ws->Vals (gV vs zs) (g us ws)
variable {g:List Value->List Value->List Value} {gV:List V->List V->List V}
end
structure cj(N P:List Str)(sc:Scope):Prop where
 kind:sc.kind = .function
 co:sc.isCoroutine=false
 gen:sc.isGenerator=false
 nd:N.Nodup
 pre:N.take P.length=P
 par:∀ x ∈ P,sc.names.lookup x=some .local\/sc.names.lookup x=some .cell
 tY:∀ y ∈ sc.names,y.2≠.free
theorem scc{N P:List Str}{sc:Scope}(kind:sc.kind = .function:=by rfl)(co:sc.isCoroutine=false:=by rfl)(gen:sc.isGenerator=false:=by rfl)(nd:N.Nodup:=by decide +kernel)(pre:N.take P.length=P:=by rfl)(par:∀ x ∈ P,sc.names.lookup x=some .local\/sc.names.lookup x=some .cell:=by decide +kernel)(tY:∀ y ∈ sc.names,y.2≠.free:=by decide +kernel):cj N P sc:=⟨kind,co,gen,nd,pre,par,tY⟩
theorem zh{kindOf:Str->Option NameKind}{x:Str}:∀ {binds:List (Str×Value)} {m:Str->Option Value},(∀ v,(x,v) ∉ binds)->bindL kindOf binds m x=m x
 | [],_,_=>rfl
 | (n,v) :: r,m,h=>by
  unfold bindL;rw[zh λw hw=>h w (Wg _ hw)];split
  ·have:x≠n:=by rintro rfl; exact h v Wi
   simp[this]
  ·rfl
theorem zi{kindOf:Str->Option NameKind}{x:Str}:∀ {binds:List (Str×Value)} {m:Str->Option Value},(∀ v,(x,v) ∉ binds)->bindC kindOf binds m x=m x
 | [],_,_=>rfl
 | (n,v) :: r,m,h=>by
  unfold bindC;rw[zi λw hw=>h w (Wg _ hw)];split
  ·rfl
  ·have:x≠n:=by rintro rfl; exact h v Wi
   simp[this]
theorem zj{kindOf:Str->Option NameKind}{x:Str}{v:Value}:∀ {P:List Str} {vs:List Value} {i:Nat} {m:Str->Option Value},P.Nodup->P[i]? = some x->vs[i]? = some v->kindOf x=some .local ->
  bindL kindOf (P.zip vs) m x=some v
 | [],_,_,_,_,h,_,_=>by simp at h
 | _ :: _,[],_,_,_,_,h,_=>by simp at h
 | p :: P,w :: vs,0,m,nd,h1,h2,hk=>by
  simp at h1 h2; subst h1; subst h2
  show bindL kindOf ((p,w) :: P.zip vs) m p=_;unfold bindL;rw[zh λv hv=>(Q2.mp nd).1 (U5 hv).1,if_pos hk];simp
 | p :: P,w :: vs,i + 1,m,nd,h1,h2,hk=>by
  show bindL kindOf ((p,w) :: P.zip vs) m x=_;unfold bindL;exact zj (i:=i) (Q2.mp nd).2 (by simpa using h1) (by simpa using h2) hk
theorem zk{kindOf:Str->Option NameKind}{x:Str}{v:Value}:∀ {P:List Str} {vs:List Value} {i:Nat} {m:Str->Option Value},P.Nodup->P[i]? = some x->vs[i]? = some v->kindOf x≠some .local ->
  bindC kindOf (P.zip vs) m x=some v
 | [],_,_,_,_,h,_,_=>by simp at h
 | _ :: _,[],_,_,_,_,h,_=>by simp at h
 | p :: P,w :: vs,0,m,nd,h1,h2,hk=>by
  simp at h1 h2; subst h1; subst h2
  show bindC kindOf ((p,w) :: P.zip vs) m p=_;unfold bindC;rw[zi λv hv=>(Q2.mp nd).1 (U5 hv).1,if_neg hk];simp
 | p :: P,w :: vs,i + 1,m,nd,h1,h2,hk=>by
  show bindC kindOf ((p,w) :: P.zip vs) m x=_;unfold bindC;exact zk (i:=i) (Q2.mp nd).2 (by simpa using h1) (by simpa using h2) hk
def eX(N:List Str)(vs:List V):St:=vs.map some ++ Wf (N.length - vs.length) none
def eZ(CX:iM)(P:Wj)(w:Wm)(K:W2)(mg:Str->Option Value)(base:Heap)(N:List Str)(qual:Str)(scope:Scope)(f:Addr)(cd:Value)(A:Wn)(outer:List Env)(s:W1)(H:Hp)(E:XK):Cx where
 prog:=P
 w:=w
 K:=K
 mg:=mg
 base:=base
 A:=A.deeper (J8 qual scope s.heap.objs.size f cd)
 N:=N
 s₀:=s
 H₀:=H
 env:=J8 qual scope s.heap.objs.size f cd
 outer:=outer
 stack:=J8 qual scope s.heap.objs.size f cd :: outer
 ex:=[]
 calm:=true
 fn:=λ_=>true
 pn:=[]
 xe:=λe s'=>W6 (model P w) (A.deeper (J8 qual scope s.heap.objs.size f cd)) (leaving (J8 qual scope s.heap.objs.size f cd) e) (λ_ jJ=>CX outer H s E e jJ) (λe' jJ=>CX outer H s E e' jJ) s'
theorem zl{sc:Scope}{n:Nat}{x:Str}(h:sc.names.lookup x=some .cell):∃ c,(Qv n sc.names []).lookup x=some c:=by
 have q:=Jn sc.names n [] (.inl h);exact Option.isSome_iff_exists.mp q
theorem zm{CX:iM}{P:Wj}{w:Wm}{K:W2}{mg:Str->Option Value}{base:Heap}{N ps:List Str}{qual:Str}{scope:Scope}{f:Addr}{cd:Value}{A:Wn}{outer:List Env}{s s1:W1}{H:Hp}{E:XK}{us:List Value}{vs:List V}
  (S:cj N ps scope) (hd:A.handled=none) (e0:lC P w K mg base A outer s H) (hl:vs.length=ps.length) (r:Vals vs us)
  (x:InCallC s s.heap.objs.size (bindL (J8 qual scope s.heap.objs.size f cd).kindOf (ps.zip us) λ_=>none) (Qv (s.heap.objs.size + 1) scope.names []) (bindC (J8 qual scope s.heap.objs.size f cd).kindOf (ps.zip us) λ_=>none) s1) :
  Inv (eZ CX P w K mg base N qual scope f cd A outer s H E) [] (eX N vs) H s1:=by
 have cN:ps.length<=N.length:=by have:=congrArg Qx S.pre; rw[U1] at this; omega
 obtain⟨h1,tk,rfl,hk⟩:=x.done;have iN:∀ b:Addr,b ∉ (eZ CX P w K mg base N qual scope f cd A outer s H E).ex:=λb z=>absurd (show b ∈ ([]:List Addr) from z) (by simp)
 refine⟨⟨e0.mod,S.kind,rfl,rfl,Wb _,λy z c h1 h2=>?_,λy hy=>?_,λy c _ h=>?_,λ_=>hd,Around.frames_deeper e0.frames,.inr ⟨rfl,rfl⟩,λb z=>absurd z (iN b),e0.bs,e0.jI,λb _ _=>iN b,λb z=>absurd z (iN b),e0.gz,e0.lu⟩,
  rfl,e0.bare,Un.kept hk,⟨_,x.toInCall.ns,λi y v h1 h2 h3=>?_⟩,λy c h=>⟨_,x.cell y c h⟩,e0.aj.fresh (Wb _),λy c h=>?_,λp hp=>absurd (show p ∈ ([]:List (Addr×Obj)) from hp) (by simp),e0.aj.kept hk,?_⟩
 ·exact name_of_addr x.apart (Ww h1) (Ww h2)
 ·have hy:scope.names.lookup y=some .cell\/scope.names.lookup y=some .free:=hy;rcases hy with hy | hy
  ·exact zl hy
  ·exact absurd rfl (S.tY _ (Ww hy))
 ·exact Js (x.above y c (Ww h))
 ·have hi:i < vs.length:=by
   unfold eX at h2;by_cases hi:i < vs.length
   ·exact hi
   ·rw[List.getElem?_append_right (by simpa using hi)] at h2;rw[List.getElem?_replicate] at h2;split at h2 <;> cases h2
  have ha:vs[i]? = some v:=by
   unfold eX at h2;rw[J1 (by simpa using hi),Wy] at h2
   cases e:vs[i]? with
   | none=>rw[e] at h2; cases h2
   | some a=>rw[e] at h2; cases h2; rfl
  obtain⟨u,hu,rv⟩:=r.get ha;have hp:ps[i]? = some y:=by
   rw[<- S.pre,List.getElem?_take_of_lt (by omega)]; exact h1
  have zo:ps.Nodup:=by rw[<- S.pre]; exact S.nd.sublist (List.take_sublist _ _)
  refine⟨u,rv,?_⟩;rcases S.par y (WB hp) with k | k
  ·exact .inl ⟨k,zj zo hp hu k⟩
  ·obtain⟨c,e⟩:=zl (n:=s.heap.objs.size + 1) k;refine .inr ⟨.inl k,c,e,?_⟩;have q:=x.cell y c e;rw[zk zo hp hu (by show scope.names.lookup y≠_; rw[k]; decide)] at q;exact q
 ·exact e0.aj.fresh (Js (x.above y c (Ww h)))
 ·unfold eX;show _=N.length;rw[WW,Wq,List.length_replicate];omega
theorem zq{CX:iM}{P:Wj}{w:Wm}{K:W2}{mg:Str->Option Value}{base:Heap}{k:Nat}{f:Addr}{name qual:Str}{params:Arguments}{body:List Stmt}{scope:Scope}{dV kV doc pm aB ct oc:Value}{an od:Option Addr}
  {dD:Array (Option Value)} {N ps:List Str} {sp:Sp} (lk:K.lookup f=some ⟨oc,od,.func (Q4 name qual params body scope dV kV doc pm an aB ct),dD⟩) (fu:PySem.W.codeIn K aB qual=true) (S:cj N ps scope)
  (len:∀ vs H Q E,sp vs H Q E->vs.length=ps.length)
  (dE:∀ (A:Wn) (outer:List Env) (s:W1) (H:Hp) (vs:List V) (Q:VK) (E:XK),bP k (A.deeper (J8 qual scope s.heap.objs.size f aB))->sp vs H Q E ->
   ∃ t,dq (eZ CX P w K mg base N qual scope f aB A outer s H E) body t/\t { nx:=λ_ H'=>Q .ay H',rt:=Q } (eX N vs) H) :
  fK P w K mg base CX (k + 1) f (Q4 name qual params body scope dV kV doc pm an aB ct) ps sp:=by
 refine⟨len,λA outer s H args us vs Q E hr e0 hb r iO=>?_⟩;have hl:=len _ _ _ _ iO;have KX:K.In s.heap:=e0.mod.oi.keeps λb o e=>(e0.bs b o e).1
 have lim:s.heap.NoLimit:=e0.mod.nolimit.keeps λb o e=>(e0.bs b o e).1
 have tZ:∀ y ∈ ps.zip us,scope.names.lookup y.1=some .local\/(scope.names.lookup y.1=some .cell/\((Qv (s.heap.objs.size + 1) scope.names []).lookup y.1).isSome=true):=λ⟨n,v⟩ hy=>by
  rcases S.par n (U5 hy).1 with q | q
  ·exact .inl q
  ·exact .inr ⟨q,Jn _ _ _ (.inl q)⟩
 refine codeAny_call_function hr.depth (KX _ _ lk) rfl S.co S.gen rfl (PySem.W.codeRec_of KX fu) (hb _ _ _ _ ?_);refine wpAny_newFunctionEnv_cells S.kind tZ λenv he s1 x=>?_
 subst he;refine⟨lim.keeps x.toInCall.keep,codeAny_func ?_⟩;obtain⟨t,ht,hq⟩:=dE A outer s H vs Q E (hr.deeper _) iO;have I:Inv (eZ CX P w K mg base N qual scope f aB A outer s H E) [] (eX N vs) H s1:=zm S hr.hd e0 hl r x;refine WN (ht [] s1 (eX N vs) H _ I hq) (λfl s' hs=>?_) λe s' hs=>hs
 have fin:∀ {σ':St} {H':Hp} {v:V} {u:Value},Inv (eZ CX P w K mg base N qual scope f aB A outer s H E) [] σ' H' s'->RelV v u->Q v H'->CE outer P w H s Q u s' :=
  λ{σ' H' v u} J rv q=>⟨v,H',J.os,J.bare,J.base,J.aj,rv,q⟩
 cases fl with
 | ret u =>
  obtain⟨v,σ',H',J,rv,q⟩:=hs;exact fin J rv q
 | next =>
  obtain⟨σ',H',J,q⟩:=hs;exact fin (v:=V.ay) (u:=Value.none) J rfl q
 | brk =>
  obtain⟨_,_,_,q⟩:=hs;exact False.elim q
 | cont =>
  obtain⟨_,_,_,q⟩:=hs;exact False.elim q
section
variable {X:Cx} {x:Str} {p pos:Pos} {e:Expr} {es:List Expr} {t:TA} {id T:String} {r:List V->Hp->VK->Prop}
def zr(r:List V->Hp->VK->Prop)(t:TA):TE:=λσ H Q=>t σ H λvs H1=>r vs H1 Q
theorem qy (hc:dg X (.builtin id) r) (hg:Gl X x) (hm:X.mg x=none) (hv:Qs x=some (.builtin id)) (ha:PA X (e :: es) t) (hn:x≠"__name__":=by decide) (eW:(x == ("__debug__" : Str))=false:=by decide)
  (he:We (e :: es) X.env=(false,eval e X.env) :: We es X.env:=by rfl) (cN:(Qg pos (We es X.env)).any (·.1)=false:=by rfl):PE X (.Call (.Name x p) (e :: es) [] pos) (zr r t):=by
 intro pins s σ H Q I h;refine Jj (mL I hg hm hv ?_ hn eW);exact PyProof.Rows.callWith_builtin1 (aJ (ha pos pins s σ H _ I h) λus s1 ⟨vs,H1,I1,r1,q1⟩=>hc pins s1 σ H1 vs us Q I1 r1 q1) he cN
theorem zt (hc:dg X (.type T) r) (hg:Gl X x) (hm:X.mg x=none) (hv:Qs x=some (.type T)) (ha:PA X (e :: es) t) (hn:x≠"__name__":=by decide) (eW:(x == ("__debug__" : Str))=false:=by decide)
  (he:We (e :: es) X.env=(false,eval e X.env) :: We es X.env:=by rfl) (cN:(Qg pos (We es X.env)).any (·.1)=false:=by rfl):PE X (.Call (.Name x p) (e :: es) [] pos) (zr r t):=by
 intro pins s σ H Q I h;refine Jj (mL I hg hm hv ?_ hn eW);exact QT (aJ (ha pos pins s σ H _ I h) λus s1 ⟨vs,H1,I1,r1,q1⟩=>hc pins s1 σ H1 vs us Q I1 r1 q1) he cN
end
end L2
namespace HT
open PySem PyProof.Rows
section
open PySem.SeqAt
open PySem.AutoSeq1 (wpAny_loadPart')
open PySem.MeetsSeq PySem.MeetsSeq2 PySem.MeetsSeq3
end
section
variable {prog:Wj} {w:Wm} {A:Wn} {E:Value->W1->Prop} {s:W1}
theorem F_(ht:IsTup s.heap t vs.toArray)(hb:IsTup s.heap b ws.toArray)(hv:vs≠[])
  (h1:ws=[]->Q (.ref t) s) (h2:ws≠[]->Q (.ref s.heap.objs.size) { s with heap:=s.heap.push { cls:=.type "tuple",data:=.seq (vs ++ ws).toArray } })
  (hsz:vs.length + ws.length<=W8):W6 (model prog w) A (Qo .Add (.ref t) (.ref b)) Q E s:=by
 obtain⟨⟨cls,dd,data,sl⟩,ho,hc,n,hd⟩:=id ht;obtain⟨⟨cls2,lD,data2,kA⟩,ho2,hc2,n2,hd2⟩:=id hb;simp only at hc hd hc2 hd2;subst hc hd hc2 hd2;have e:vs.toArray ++ ws.toArray=(vs ++ ws).toArray:=by simp
 by_cases hw:ws=[]
 ·exact concat_meets ⟨_,ho,rfl⟩ ⟨_,ho2,rfl⟩ noFill_tuple_add seq_tuple_add PySem.F.slot_tuple_add PySem.F.entry_tuple_add (PySem.F.args_tuple_add_2 _ _)
   (tuple_addW1 t b vs.toArray ws.toArray n n2 dd lD sl kA (by simpa using hv) (by simp[hw])) ⟨ho,ho2,h1 hw⟩
 ·refine concat_meets ⟨_,ho,rfl⟩ ⟨_,ho2,rfl⟩ noFill_tuple_add seq_tuple_add PySem.F.slot_tuple_add PySem.F.entry_tuple_add (PySem.F.args_tuple_add_2 _ _)
   (tuple_addW2 t b vs.toArray ws.toArray n n2 dd lD sl kA (by simpa using hv) (by simpa using hw) (by rw[Wo,Wo]; exact hsz)) ⟨ho,ho2,?_⟩
  rw[e];exact h2 hw
def aL(n d:Nat):Option Int->Nat
 | none=>d
 | some v=>if v < 0 then(v + (n:Int)).toNat else min v.toNat n
theorem t4(n d:Nat)(hd:d<=n)(o:Option Int):aL n d o<=n:=by
 cases o with
 | none=>exact hd
 | some v =>
  show(if v < 0 then(v + (n:Int)).toNat else min v.toNat n)<=n;by_cases hv:v < 0
  ·rw[if_pos hv]; omega
  ·rw[if_neg hv]; exact Nat.min_le_right _ _
theorem zu(v:Int)(n d:Nat):(if v < 0 then max (v + (n:Int)) 0 else min v (n:Int))=((aL n d (some v):Nat):Int):=by
 show(if v < 0 then max (v + (n:Int)) 0 else min v (n:Int))=(((if v < 0 then(v + (n:Int)).toNat else min v.toNat n):Nat):Int);by_cases hv:v < 0
 ·simp only[if_pos hv]; omega
 ·simp only[if_neg hv]; omega
theorem Ga(lo hi:Option Int)(n:Nat):Builtin.Slice.sliceAdjust lo hi 1 (n:Int)=(((aL n 0 lo:Nat):Int),((aL n n hi:Nat):Int)):=by
 have h1:¬ ((1:Int) < 0):=by omega
 unfold Builtin.Slice.sliceAdjust;simp only[h1,if_false];refine Prod.ext ?_ ?_
 ·cases lo with
  | none=>rfl
  | some v=>exact zu v n 0
 ·cases hi with
  | none=>rfl
  | some v=>exact zu v n n
theorem Gb(i j:Nat):J2 (i:Int) (j:Int) 1=j - i:=by
 unfold J2;have h1:(1:Int) > 0:=by omega
 simp only[h1,if_true,Int.ediv_one];split <;> omega
theorem zv(p:IsPart v o)(h:Q o s):W6 (model prog w) A (Builtin.Slice.slicePartIndex v) Q E s:=by
 cases p with
 | none=>exact slicePart_none h
 | int i t=>exact slicePart_int h
theorem zw{sl:Addr}{vl vu:Value}{lo hi:Option Int}{n:Nat}{Q:Int×Int×Nat->W1->Prop}(hs:s.heap.IsSliceOf sl vl vu .none)(pl:IsPart vl lo)(pu:IsPart vu hi)
  (h:Q (((aL n 0 lo:Nat):Int),1,aL n n hi - aL n 0 lo) s):W6 (model prog w) A (Builtin.Slice.sliceApplied (.ref sl) (pure (n:Int))) Q E s:=by
 obtain⟨os,hos,hcs,hds⟩:=id hs;unfold Builtin.Slice.sliceApplied Builtin.Slice.sliceFields;refine W0 (W0 (QG hos hds (x:=vl) rfl (W0 (QG hos hds (x:=vu) rfl (W0 (QG hos hds (x:=.none) rfl (W3 ?_)))))));refine W0 (slicePart_none ?_);show W6 _ _ (if ((1:Int) == 0)=true then _ else _) _ _ s;rw[if_neg (by decide)];refine W0 (zv pl (W0 (zv pu (W0 (W3 ?_)))));show W6 _ _ (match Builtin.Slice.sliceAdjust lo hi 1 (n:Int) with | (lo,hi)=>pure (lo,(1:Int),J2 lo hi 1)) _ _ s;rw[Ga lo hi n];show W6 _ _ (pure (((aL n 0 lo:Nat):Int),(1:Int),J2 ((aL n 0 lo:Nat):Int) ((aL n n hi:Nat):Int) 1)) _ _ s;rw[Gb];exact W3 h
theorem Gd(xs:Array Value)(i k:Nat):((Wu k).filterMap λ(m:Nat)=>xs[((i:Int) + (m:Int) * 1).toNat]?).toArray=((xs.toList.drop i).take k).toArray:=by
 have e:(λ(m:Nat)=>xs[((i:Int) + (m:Int) * 1).toNat]?)=λm=>xs[i + m]?:=by
  funext m
  have:((i:Int) + (m:Int) * 1).toNat=i + m:=by omega
  rw[this]
 rw[e];have:=pick_run xs i k;rw[List.filterMap_map] at this;have e2:((λx=>xs[x]?) ∘ λx=>i + x)=λm=>xs[i + m]?:=rfl
 rw[e2] at this;rw[this]
theorem Ge{t sl:Addr}{items:Array Value}{vl vu:Value}{lo hi:Option Int}{Q:Value->W1->Prop}(ht:IsTup s.heap t items)(hs:s.heap.IsSliceOf sl vl vu .none)(pl:IsPart vl lo)(pu:IsPart vu hi)
  (hw:¬ (aL items.size 0 lo=0/\aL items.size items.size hi=items.size))
  (h:Q (.ref s.heap.objs.size) { s with heap:=s.heap.push { cls:=.type "tuple",data:=.seq ((items.toList.drop (aL items.size 0 lo)).take (aL items.size items.size hi - aL items.size 0 lo)).toArray } })
  (hsz:items.size<=W8):W6 (model prog w) A (JP (.ref t) (.ref sl)) Q E s:=by
 have qz:sizeOk (.seq ((items.toList.drop (aL items.size 0 lo)).take (aL items.size items.size hi - aL items.size 0 lo)).toArray):=by
  show((items.toList.drop (aL items.size 0 lo)).take (aL items.size items.size hi - aL items.size 0 lo)).toArray.size<=W8;rw[Wo,U1,List.length_drop,WT];omega
 have hj:aL items.size items.size hi<=items.size:=t4 _ _ (Wb _) hi;obtain⟨os,hos,hcs,hds⟩:=id hs;have t6:s.TypeIs (.ref sl) "slice":=⟨os,hos,hcs⟩
 unfold JP;try with_reducible refine WK ?_
 first | refine W0 (W3 ?_) | skip
 refine W0 (JV ht.typeIs (by decide) ?_);refine W0 (WJ (name:=Str.ofString "__getitem__") ht.typeIs QE
  (WF QE ht.typeIs entry_tuple_getitem ?_ (args_tuple_getitem _ _)))
 show W6 _ _ (Builtin.Tuple.tupleItemsOf (.ref t) >>= _) _ _ s;refine W0 (tupleItemsOf_ ht ?_);refine W0 (J9 t6 ?_);rw[if_pos (by decide)];refine W0 (zw hs pl pu ?_);have cT:¬ ((((aL items.size 0 lo:Nat):Int) == 0 && (1:Int) == 1 && (aL items.size items.size hi - aL items.size 0 lo) == items.size)=true):=by
  intro q;rw[Ws,Ws] at q;have q1:((aL items.size 0 lo:Nat):Int)=0:=eq_of_beq q.1.1;have q2:aL items.size items.size hi - aL items.size 0 lo=items.size:=eq_of_beq q.2;exact hw ⟨by omega,by omega⟩
 show W6 _ _ (if (((aL items.size 0 lo:Nat):Int) == 0 && (1:Int) == 1 && (aL items.size items.size hi - aL items.size 0 lo) == items.size)=true then _ else _) _ _ s;rw[if_neg cT,Gd];first
  | exact W0 (m:=Ja _) (WD (W3 ⟨_,rfl,W3 h⟩) qz)
  | exact W0 (m:=Ja _) (WD (W0 (W3 (W3 ⟨_,rfl,W3 h⟩))) qz)
  | exact W0 (W0 (m:=Ja _) (WD (W3 (W3 ⟨_,rfl,W3 h⟩)) qz))
  | exact W0 (W0 (m:=Ja _) (WD (W3 ⟨_,rfl,W3 h⟩) qz))
end
end HT
namespace L2
open PySem PySem.Spec PyProof.Rows
abbrev TO:=St->Hp->(Option Int->Hp->Prop)->Prop
def PO(X:Cx)(e:Option Expr)(t:TO):Prop :=
 ∀ (pins:List (Addr×Obj)) (s:W1) (σ:St) (H:Hp) (Q:Option Int->Hp->Prop),Inv X pins σ H s->t σ H Q ->
  W6 (model X.prog X.w) X.A (evalPart e X.env) (λu s'=>∃ o H',Inv X pins σ H' s'/\IsPart u o/\Q o H') X.xe s
def Gf(t:TE):TO:=λσ H Q=>t σ H λx H1=>∃ i,x = .int i/\Q (some i) H1
section
variable {X:Cx} {e:Expr} {te:TE} {lo hi:Option Expr} {tl th:TO} {pos p2:Pos}
theorem Gg(h:PE X e te):PO X (some e) (Gf te):=by
 intro pins s σ H Q I hw;rw[evalPart_some];refine aJ (h pins s σ H _ I hw) λu s1 ⟨x,H1,I1,r1,q1⟩=>?_
 obtain⟨i,rfl,q⟩:=q1;obtain⟨t,rfl⟩:=r1;exact⟨some i,H1,I1,.int i t,q⟩
def jb(X:Cx)(r:V->Option Int->Option Int->Hp->VK->Prop):Prop :=
 ∀ (pins:List (Addr×Obj)) (s:W1) (σ:St) (H:Hp) (x:V) (v vl vu:Value) (lo hi:Option Int) (sl:Addr) (Q:VK),Inv X pins σ H s->RelV x v->s.heap.IsSliceOf sl vl vu .none->IsPart vl lo->IsPart vu hi->r x lo hi H Q ->
  ∃ T id,typeLookup (.type T) "__getitem__" = pure (some (.builtin id))/\s.TypeIs v T/\W6 (model X.prog X.w) X.A (JP v (.ref sl)) (EP X pins σ Q) X.xe s
theorem jb.or(h:jb X r)(h':jb X r'):jb X (λx lo hi H Q=>r x lo hi H Q\/r' x lo hi H Q):=by
 intro pins s σ H x v vl vu lo hi sl Q I rx hs pl pu q;rcases q with q | q
 ·exact h pins s σ H x v vl vu lo hi sl Q I rx hs pl pu q
 ·exact h' pins s σ H x v vl vu lo hi sl Q I rx hs pl pu q
def Gi(r:V->Option Int->Option Int->Hp->VK->Prop)(te:TE)(tl th:TO):TE:=λσ H Q=>te σ H λx H1=>tl σ H1 λl H2=>th σ H2 λu H3=>r x l u H3 Q
theorem Gj(hr:jb X r)(he:PE X e te)(hl:PO X lo tl)(hu:PO X hi th):PE X (.Subscript e (.Slice lo hi none p2) pos) (Gi r te tl th):=by
 intro pins s σ H Q I h;refine Subscript_ (aJ (he pins s σ H _ I h) λv s1 ⟨x,H1,I1,r1,q1⟩=>?_);refine wpAny_Slice (aJ (hl pins s1 σ H1 _ I1 q1) λvl s2 ⟨l,H2,I2,pl,q2⟩=>aJ (hu pins s2 σ H2 _ I2 q2) λvu s3 ⟨u,H3,I3,pu,q3⟩=>?_);rw[evalPart_none];refine W3 ?_;have I4:Inv X pins σ H3 { s3 with heap:=s3.heap.push { cls:=.type "slice",data:=.fields #[vl,vu,.none] } }:=I3.kept (t':=s3.toks) λb ob q=>W4 _ q
 obtain⟨T,id,hT,ht,hg⟩:=hr pins { s3 with heap:=s3.heap.push { cls:=.type "slice",data:=.fields #[vl,vu,.none] } } σ H3 x v vl vu l u s3.heap.objs.size Q I4 r1 (Heap.IsSliceOf.new ..) pl pu q3;show W6 (model X.prog X.w) X.A (subscriptTail e (.Slice lo hi none p2) v (.ref s3.heap.objs.size)) (EP X pins σ Q) X.xe { s3 with heap:=s3.heap.push { cls:=.type "slice",data:=.fields #[vl,vu,.none] } };exact tail_any (ops:=[.ref s3.heap.objs.size,v]) ht hT hg (by with_unfolding_all rfl)
def kB(xs:List V)(lo hi:Option Int):List V:=(xs.drop (HT.aL xs.length 0 lo)).take (HT.aL xs.length xs.length hi - HT.aL xs.length 0 lo)
theorem zx(xs:List V)(lo hi:Option Int):(kB xs lo hi).length<=xs.length:=by
 unfold kB;rw[U1,List.length_drop];omega
def Gk(K:W2):V->Option Int->Option Int->Hp->VK->Prop:=λx lo hi H Q=>∃ a xs,x = .ref a/\b9 K H a xs /\
 ¬ (HT.aL xs.length 0 lo=0/\HT.aL xs.length xs.length hi=xs.length)/\∀ p,H p=none->Q (.ref p) (upd H p (.tup (kB xs lo hi)))
theorem Gm:jb X (Gk X.K):=by
 intro pins s σ H x v vl vu lo hi sl Q I rx hs pl pu h;obtain⟨a,xs,rfl,hx,hw,q⟩:=h
 cases rx;obtain⟨ae,r,ht,hz⟩:=I.tuple hx;have hlen:ae.toArray.size=xs.length:=by rw[Wo]; exact r.length.symm
 refine⟨"tuple",_,PyProof.Rows.slot_tuple_getitem.lookup,ht.typeIs,?_⟩;refine HT.Ge ht hs pl pu (by rw[hlen]; exact hw) ?_ (by rw[hlen]; exact hz);rw[hlen];refine⟨.ref s.heap.objs.size,_,I.laid (t':=s.toks) (o:=.tup (kB xs lo hi)) (λb ob q=>W4 _ q) (Wb _) ?_,rfl,q _ (I.aj.fresh (Wb _))⟩;exact⟨WP (zx xs lo hi) hz,_,(r.drop (HT.aL xs.length 0 lo)).take (HT.aL xs.length xs.length hi - HT.aL xs.length 0 lo),gx.new _ _⟩
def zy(K:W2):R2:=λx y H Q=>∃ a b xs ys,x = .ref a/\y = .ref b/\b9 K H a xs/\b9 K H b ys/\xs≠[]/\xs.length + ys.length<=W8 /\
 (ys=[]->Q (.ref a) H)/\(ys≠[]->∀ p,H p=none->Q (.ref p) (upd H p (.tup (xs ++ ys))))
theorem Vals.qA(r:Vals xs us):us=[] ↔ xs=[]:=by
 cases r with
 | nil=>simp
 | cons _ _=>simp
theorem Gn:bh X (Qo .Add) (zy X.K):=by
 intro pins s σ H x y v u Q I rx ry h;obtain⟨a,b,xs,ys,rfl,rfl,ha,hb,hx,hz,q1,q2⟩:=h
 cases rx
 cases ry;obtain⟨ae,r1,p1,_⟩:=I.tuple ha;obtain⟨its2,r2,p2,_⟩:=I.tuple hb;refine HT.F_ p1 p2 (λz=>hx (r1.qA.mp z)) (λz=>⟨.ref a,H,I,rfl,q1 (r2.qA.mp z)⟩) (λz=>?_) (by rw[<- r1.length,<- r2.length]; exact hz);refine⟨.ref s.heap.objs.size,_,I.laid (t':=s.toks) (o:=.tup (xs ++ ys)) (λb ob q=>W4 _ q) (Wb _) ?_,rfl,q2 (λw=>z (r2.qA.mpr w)) _ (I.aj.fresh (Wb _))⟩;exact⟨by rw[WW]; exact hz,_,r1.append r2,gx.new _ _⟩
end
def e7(n:Nat)(i:Int):Option Nat:=if 0<=i then(if i < n then some i.toNat else none) else if -(n:Int)<=i then some (i + n).toNat else none
def cU{α:Type}(xs:List α)(i:Int):Option α:=(e7 xs.length i).bind λj=>xs[j]?
theorem zz(h:e7 n i=some j):seqIndex? i n=some j/\j < n/\-(n:Int)<=i/\i < n:=by
 unfold e7 at h;by_cases h0:0<=i
 ·rw[if_pos h0] at h;by_cases h1:i < n
  ·rw[if_pos h1] at h;have e:i.toNat=j:=Wx h;exact⟨by rw[seqIndex_of h0 h1,e],by omega,by omega,h1⟩
  ·rw[if_neg h1] at h; cases h
 ·rw[if_neg h0] at h;by_cases h1 : -(n:Int)<=i
  ·rw[if_pos h1] at h;have e:(i + n).toNat=j:=Wx h;exact⟨by rw[seqIndex_neg (by omega) h1,e],by omega,h1,by omega⟩
  ·rw[if_neg h1] at h; cases h
theorem t7(h:cU xs i=some v):∃ j,seqIndex? i xs.length=some j/\xs[j]? = some v/\j < xs.length/\-(xs.length:Int)<=i/\i < xs.length:=by
 unfold cU at h
 cases e:e7 xs.length i with
 | none=>rw[e] at h; cases h
 | some j =>
  rw[e] at h;obtain⟨h1,h2,h3,h4⟩:=zz e;exact⟨j,h1,h,h2,h3,h4⟩
def t8(b:Expr):Prop:=∀ o i,subscripted b false o i=operate [o,i] (JP o i)
def fW(X:Cx)(r:R2):Prop :=
 ∀ (value slice:Expr) (pins:List (Addr×Obj)) (s:W1) (σ:St) (H:Hp) (x y:V) (v u:Value) (Q:VK),Inv X pins σ H s->RelV x v->RelV y u->r x y H Q ->
  subscripted slice false v u=operate [v,u] (JP v u)->W6 (model X.prog X.w) X.A (subscriptTail value slice v u) (EP X pins σ Q) X.xe s
def zA(X:Cx)(id:String)(r:V->List V->Hp->VK->Prop):Prop :=
 ∀ (pins:List (Addr×Obj)) (s:W1) (σ:St) (H:Hp) (x:V) (xs:List V) (v:Value) (us:List Value) (Q:VK),Inv X pins σ H s->RelV x v->Vals xs us->r x xs H Q ->
  W6 (model X.prog X.w) X.A (call (.builtin id) (v :: us)) (EP X pins σ Q) X.xe s
section
variable {X:Cx} {a b:Expr} {ta tb:TE} {pos:Pos}
theorem fW.or(h:fW X r)(h':fW X r'):fW X (λx y H Q=>r x y H Q\/r' x y H Q):=by
 intro value slice pins s σ H x y v u Q I rx ry q hs;rcases q with q | q
 ·exact h value slice pins s σ H x y v u Q I rx ry q hs
 ·exact h' value slice pins s σ H x y v u Q I rx ry q hs
theorem zB(hr:fW X r)(ha:PE X a ta)(hb:PE X b tb)(hs:t8 b):PE X (.Subscript a b pos) (lA r ta tb):=by
 intro pins s σ H Q I h;exact Subscript_ (tN ha hb I h λv u s2 x y H2 I2 rx ry q=>hr a b pins s2 σ H2 x y v u Q I2 rx ry q (hs _ _))
def zC(K:W2):R2:=λx y H Q=>∃ p xs i v,x = .ref p/\y = .int i/\bS K H p xs/\cU xs i=some v/\Q v H
def zD(K:W2):R2:=λx y H Q=>∃ p xs i v,x = .ref p/\y = .int i/\b9 K H p xs/\cU xs i=some v/\Q v H
def zE:R2:=λx y H Q=>∃ z i c,x = .str z/\y = .int i/\z.length<=W8/\cU z.cps.toList i=some c/\Q (.str ⟨#[c]⟩) H
theorem Gp:fW X (zC X.K):=by
 intro value slice pins s σ H x y v u Q I rx ry h hs;obtain⟨p,xs,i,z,rfl,rfl,hq,he,q⟩:=h
 cases rx;obtain⟨t,rfl⟩:=ry;obtain⟨ae,r,pl,hz⟩:=I.list hq;obtain⟨j,h1,h2,h3,h4,h5⟩:=t7 he;obtain⟨w,ew,aC⟩:=r.get h2;have hl:=r.length;have hn:=mM;have fin:EP X pins σ Q w s:=⟨z,H,I,aC,q⟩
 by_cases h0:0<=i
 ·have hj:i.toNat=j:=by
   rw[seqIndex_of h0 h5] at h1;exact Wx h1
  exact item_listR pl.isList h0 (by omega) (by rw[hj]; simpa using ew) fin hs
 ·have hj:(i + (ae.toArray.size:Int)).toNat=j:=by
   rw[seqIndex_neg (by omega) h4] at h1;rw[Wo,<- hl];exact Wx h1
  exact subscriptTail_builtinR (x:=w) pl.isList.typeIs slot_list_getitem.lookup
   (wpAny_getItem_list_neg (Q:=λr s'=>r=w/\EP X pins σ Q r s') pl.isList (by omega) (by rw[Wo] <;> omega) (by omega) (by rw[hj]; simpa using ew) ⟨rfl,fin⟩) hs
theorem Gq:fW X (zD X.K):=by
 intro value slice pins s σ H x y v u Q I rx ry h hs;obtain⟨p,xs,i,z,rfl,rfl,hq,he,q⟩:=h
 cases rx;obtain⟨t,rfl⟩:=ry;obtain⟨ae,r,pl,hz⟩:=I.tuple hq;obtain⟨j,h1,h2,h3,h4,h5⟩:=t7 he;obtain⟨w,ew,aC⟩:=r.get h2;have hl:=r.length;have hn:=mM;have fin:EP X pins σ Q w s:=⟨z,H,I,aC,q⟩
 exact subscriptTail_builtinR (x:=w) pl.typeIs slot_tuple_getitem.lookup
  (getItem_tuple (j:=j) (Q:=λr s'=>r=w/\EP X pins σ Q r s') pl (by omega) (by omega) (by rw[Wo,<- hl]; exact h1) (by simpa using ew) ⟨rfl,fin⟩) hs
theorem Gr:fW X zE:=by
 intro value slice pins s σ H x y v u Q I rx ry h hs;obtain⟨z,i,c,rfl,rfl,hz,he,q⟩:=h;obtain⟨t,rfl⟩:=rx;obtain⟨t',rfl⟩:=ry;obtain⟨j,h1,h2,h3,h4,h5⟩:=t7 he;have hl:z.cps.toList.length=z.length:=by simp[Str.length]
 rw[hl] at h1 h4 h5;have hn:=mM;exact tail_any (typeIs_str s z t) slot_str_getitem.lookup (getItem_str (c:=c) (by
  have e1:decide (i < -(2 ^ 63:Int))=false:=decide_eq_false (by omega);have e2:decide (i ≥ 2 ^ 63)=false:=decide_eq_false (by omega);rw[e1,e2,Bool.or_false]) (by rw[h1]; simpa using h2) ⟨.str ⟨#[c]⟩,H,I.tok _,⟨_,rfl⟩,q⟩) hs
def qB(K:W2):R2:=λx y H Q=>zC K x y H Q\/zD K x y H Q\/zE x y H Q
theorem cZ:fW X (qB X.K):=Gp.or (Gq.or Gr)
theorem Gs (ae:List Value) (n j:Nat) (u:Value):Obj.mapSeq (·.setIfInBounds j u) { cls:=.type "list",data:=.seq ae.toArray n } = { cls:=.type "list",data:=.seq (ae.set j u).toArray n }:=by
 simp[Obj.mapSeq]
theorem Inv.lst(I:Inv X pins σ H s)(h:H p=some (.lst xs)) :
  ∃ (ae:List Value) (n:Nat),Vals xs ae/\s.heap.get? p=some { cls:=.type "list",data:=.seq ae.toArray n }/\xs.length<=W8:=by
 obtain⟨z,ae,n,r,e⟩:=I.aj p _ h;exact⟨ae,n,r,e,z⟩
theorem Inv.Gu{pins:List (Addr×Obj)}{σ:St}{H:Hp}{s:W1}{p:Addr}{xs ys:List V}{ae its':List Value}{n n':Nat}{f:Obj->Obj}(I:Inv X pins σ H s)(h:H p=some (.lst xs))
  (ho:s.heap.get? p=some { cls:=.type "list",data:=.seq ae.toArray n }) (hf:f { cls:=.type "list",data:=.seq ae.toArray n } = { cls:=.type "list",data:=.seq its'.toArray n' }) (r:Vals ys its') (hz:ys.length<=W8) (t:Nat) :
  Inv X pins σ (upd H p (.lst ys)) { s with heap:=s.heap.update p f,toks:=t }:=by
 have e:(s.heap.update p f).get? p=some { cls:=.type "list",data:=.seq its'.toArray n' }:=by
  rw[WC f ho (by rw[hf] <;> rfl),hf]
 refine I.write (x:=p) (e:=p) (by rw[h]; trivial) (.inl rfl) (λb u hb q=>(Q0 _ _ (Ne.symm hb)).trans q) ⟨_,e⟩ ?_;exact⟨hz,its',n',r,e⟩
def Gv:V->V->V->Hp->(Hp->Prop)->Prop:=λo i v H Q=>∃ p xs k j,o = .ref p/\i = .int k/\H p=some (.lst xs)/\e7 xs.length k=some j/\Q (upd H p (.lst (xs.set j v)))
theorem Gw:yV X Gv:=by
 intro pins s σ H o i v ov iv u Q I ro ri rv h;obtain⟨p,xs,k,j,rfl,rfl,hp,hj,q⟩:=h
 cases ro;obtain⟨t,rfl⟩:=ri;obtain⟨ae,n,r,ho,hz⟩:=I.lst hp;obtain⟨h1,h2,h3,h4⟩:=zz hj;have hl:=r.length;have hn:=mM;have I':Inv X pins σ (upd H p (.lst (xs.set j v))) { s with heap:=s.heap.update p (Obj.mapSeq (·.setIfInBounds j u)) } :=
  I.Gu hp ho (Gs ae n j u) (r.set rv j) (by rw[Qp]; exact hz) s.toks
 by_cases h0:0<=k
 ·have hk:k.toNat=j:=by
   rw[seqIndex_of h0 h4] at h1;exact Wx h1
  exact PySem.W.ki_setAt ho h0 (by omega) (by rw[Wo,<- hl]; exact h4) (by rw[hk]; exact⟨_,I',q⟩)
 ·have hk:(k + (ae.toArray.size:Int)).toNat=j:=by
   rw[seqIndex_neg (by omega) h3] at h1;rw[Wo,<- hl];exact Wx h1
  exact PySem.W.ki_setBack ho (by omega) (by rw[Wo,<- hl]; exact h3) (by omega) (by rw[hk]; exact⟨_,I',q⟩)
theorem Gx(lo hi:Option Int)(n:Nat):(JC lo hi none n).1=((HT.aL n 0 lo:Nat):Int)/\(JC lo hi none n).2.1=((HT.aL n n hi:Nat):Int)/\(JC lo hi none n).2.2=1:=by
 refine⟨?_,?_,rfl⟩
 ·cases lo with
  | none=>simp[JC,HT.aL]
  | some i =>
   simp only[JC,HT.aL,Option.getD_none,show(1:Int) > 0 by decide,if_true];by_cases h:i < 0
   ·simp only[h,if_true] <;> omega
   ·simp only[h,if_false] <;> omega
 ·cases hi with
  | none=>simp[JC,HT.aL]
  | some i =>
   simp only[JC,HT.aL,Option.getD_none,show(1:Int) > 0 by decide,if_true];by_cases h:i < 0
   ·simp only[h,if_true] <;> omega
   ·simp only[h,if_false] <;> omega
theorem Gy(ae:List Value)(lo hi:Option Int):slicePick ae.toArray lo hi none=((ae.drop (HT.aL ae.length 0 lo)).take (HT.aL ae.length ae.length hi - HT.aL ae.length 0 lo)).toArray:=by
 obtain⟨h1,h2,h3⟩:=Gx lo hi ae.toArray.size;unfold slicePick;rw[h1,h2,h3];simp only[sliceRange_one,pick_run,Wo] <;> rfl
def zF(K:W2):V->Option Int->Option Int->Hp->VK->Prop:=λx lo hi H Q=>∃ a xs,x = .ref a/\bS K H a xs/\∀ p,H p=none->Q (.ref p) (upd H p (.lst (kB xs lo hi)))
theorem Gz:jb X (zF X.K):=by
 intro pins s σ H x v vl vu lo hi sl Q I rx hs pl pu h;obtain⟨a,xs,rfl,hx,q⟩:=h
 cases rx;obtain⟨ae,r,ht,hz⟩:=I.list hx;have hlen:=r.length;refine⟨"list",_,slot_list_getitem.lookup,ht.isList.typeIs,?_⟩;refine wpAny_getItem_list_slice ht.isList hs pl pu .none (by simp) ?_ (by rw[Wo] <;> omega);rw[Gy,<- hlen];refine⟨.ref s.heap.objs.size,_,I.laid (t':=s.toks) (o:=.lst (kB xs lo hi)) (λb ob q=>W4 _ q) (Wb _) ?_,rfl,q _ (I.aj.fresh (Wb _))⟩;exact⟨WP (zx xs lo hi) hz,_,0,(r.drop (HT.aL xs.length 0 lo)).take (HT.aL xs.length xs.length hi - HT.aL xs.length 0 lo),Wh _ rfl⟩
def jK:V->Bool
 | .ay=>true
 | .bl _=>true
 | .int _=>true
 | .str _=>true
 | _=>false
def kC:V->V->Bool
 | .ay,.ay=>true
 | .bl a,.bl b=>a == b
 | .bl a,.int b=>(if a then 1 else 0) == b
 | .int a,.bl b=>a == (if b then 1 else 0)
 | .int a,.int b=>a == b
 | .str a,.str b=>a == b
 | _,_=>false
theorem GA(ry:RelV y u)(rx:RelV x v)(fy:jK y=true)(fx:jK x=true):SeqAt.EqAt A s u v (kC y x):=by
 cases y with
 | ay =>
  cases ry
  cases x with
  | ay=>cases rx; exact SeqAt.EqAt.same _
  | bl b=>cases rx; exact SeqAt.EqAt.none_bool b
  | int b=>obtain⟨t,rfl⟩:=rx; exact SeqAt.EqAt.none_int b t
  | str b=>obtain⟨t,rfl⟩:=rx; exact SeqAt.EqAt.none_str b t
  | _=>exact absurd (show false=true from fx) WM
 | bl a =>
  cases ry
  cases x with
  | ay=>cases rx; exact SeqAt.EqAt.bool_none a
  | bl b=>cases rx; exact SeqAt.EqAt.bool_bool a b
  | int b=>obtain⟨t,rfl⟩:=rx; exact SeqAt.EqAt.bool_int a b t
  | str b=>obtain⟨t,rfl⟩:=rx; exact SeqAt.EqAt.bool_str a b t
  | _=>exact absurd (show false=true from fx) WM
 | int a =>
  obtain⟨t',rfl⟩:=ry
  cases x with
  | ay=>cases rx; exact SeqAt.EqAt.int_none a t'
  | bl b=>cases rx; exact SeqAt.EqAt.int_bool a t' b
  | int b=>obtain⟨t,rfl⟩:=rx; exact SeqAt.EqAt.int_int a t' b t
  | str b=>obtain⟨t,rfl⟩:=rx; exact SeqAt.EqAt.int_str a t' b t
  | _=>exact absurd (show false=true from fx) WM
 | str a =>
  obtain⟨t',rfl⟩:=ry
  cases x with
  | ay=>cases rx; exact SeqAt.EqAt.str_none a t'
  | bl b=>cases rx; exact SeqAt.EqAt.str_bool a t' b
  | int b=>obtain⟨t,rfl⟩:=rx; exact SeqAt.EqAt.str_int a t' b t
  | str b=>obtain⟨t,rfl⟩:=rx; exact SeqAt.EqAt.str_str a t' b t
  | _=>exact absurd (show false=true from fx) WM
 | _=>exact absurd (show false=true from fy) WM
def fL(x:V)(u:Value):Bool:=match u with
 | .none=>kC .ay x
 | .bool b=>kC (.bl b) x
 | .int i _=>kC (.int i) x
 | .str z _=>kC (.str z) x
 | _=>false
theorem zG(r:RelV y u)(f:jK y=true):fL x u=kC y x:=by
 cases y with
 | ay=>cases r; rfl
 | bl b=>cases r; rfl
 | int i=>obtain⟨t,rfl⟩:=r; rfl
 | str z=>obtain⟨t,rfl⟩:=r; rfl
 | _=>exact absurd (show false=true from f) WM
theorem oB:∀ {xs:List V} {us:List Value},Vals xs us->xs.all jK=true->us.any (fL x)=xs.any λy=>kC y x
 | _,_,.nil,_=>rfl
 | y :: xs,u :: us,.cons r t,f=>by
  rw[U0,Ws] at f;rw[WZ,WZ,zG r f.1,oB t f.2]
theorem oC(rx:RelV x v)(fx:jK x=true):∀ {xs:List V} {us:List Value},Vals xs us->xs.all jK=true->∀ u ∈ us,SeqAt.EqAt A s u v (fL x u)
 | _,_,.nil,_=>λu hu=>by cases hu
 | y :: xs,u :: us,.cons r t,f=>λu' hu=>by
  rw[U0,Ws] at f;rcases Wl.mp hu with rfl | hu
  ·rw[zG r f.1]; exact GA r rx f.1 fx
  ·exact oC rx fx t f.2 u' hu
def qC(x:V)(xs:List V):Bool:=xs.any λy=>kC y x
def t9(K:W2)(neg:Bool):R2:=λx y H Q=>∃ p xs,y = .ref p/\(bS K H p xs\/b9 K H p xs)/\jK x=true/\xs.all jK=true/\Q (.bl (if neg then !qC x xs else qC x xs)) H
theorem GB:bh X (WE .In) (t9 X.K false):=by
 intro pins s σ H x y v u Q I rx ry h;obtain⟨p,xs,rfl,hq,fx,fs,q⟩:=h
 cases ry;rcases hq with hq | hq
 ·obtain⟨ae,r,pl,hz⟩:=I.list hq;refine SeqAt.in_listAt (fL x) pl.isList (λw hw=>oC rx fx r fs w (by simpa using hw)) ⟨.bl _,H,I,rfl,?_⟩;rw[show ae.toArray.any (fL x)=ae.any (fL x) by simp,oB r fs];exact q
 ·obtain⟨ae,r,pl,hz⟩:=I.tuple hq;refine SeqAt.in_tupleAt (fL x) pl (λw hw=>oC rx fx r fs w (by simpa using hw)) ⟨.bl _,H,I,rfl,?_⟩;rw[show ae.toArray.any (fL x)=ae.any (fL x) by simp,oB r fs];exact q
theorem GC:bh X (WE .NotIn) (t9 X.K true):=by
 intro pins s σ H x y v u Q I rx ry h;obtain⟨p,xs,rfl,hq,fx,fs,q⟩:=h
 cases ry;rcases hq with hq | hq
 ·obtain⟨ae,r,pl,hz⟩:=I.list hq;refine SeqAt.notIn_listAt (fL x) pl.isList (λw hw=>oC rx fx r fs w (by simpa using hw)) ⟨.bl _,H,I,rfl,?_⟩;rw[show ae.toArray.any (fL x)=ae.any (fL x) by simp,oB r fs];exact q
 ·obtain⟨ae,r,pl,hz⟩:=I.tuple hq;refine SeqAt.notIn_tupleAt (fL x) pl (λw hw=>oC rx fx r fs w (by simpa using hw)) ⟨.bl _,H,I,rfl,?_⟩;rw[show ae.toArray.any (fL x)=ae.any (fL x) by simp,oB r fs];exact q
theorem GF:dg X (.builtin "len") (λxs H Q=>∃ p ys,xs=[.ref p]/\(bS X.K H p ys\/b9 X.K H p ys)/\Q (.int ys.length) H):=by
 intro pins s σ H xs us Q I r h;obtain⟨p,ys,rfl,hq,q⟩:=h;obtain⟨u,rfl,rx⟩:=fJ r
 cases rx;have hn:=mM;rcases hq with hq | hq
 ·obtain⟨ae,r',pl,hz⟩:=I.list hq;have hlen:=r'.length;exact Calls.call_len_list pl.isList (by simp only[Wo] <;> omega) ⟨.int ys.length,H,I.tok _,⟨s.toks + 1,by rw[Wo,hlen]⟩,q⟩
 ·obtain⟨ae,r',pl,hz⟩:=I.tuple hq;have hlen:=r'.length;exact len_tuple pl (by simp only[Wo] <;> omega) ⟨.int ys.length,H,I.tok _,⟨s.toks + 1,by rw[Wo,hlen]⟩,q⟩
theorem GH:dg X (.builtin "len") (λxs H Q=>∃ z,xs=[.str z]/\z.length<=W8/\Q (.int z.length) H):=by
 intro pins s σ H xs us Q I r h;obtain⟨z,rfl,hz,q⟩:=h;obtain⟨u,rfl,t,rfl⟩:=fJ r;have hn:=mM;exact len_str (by omega) ⟨.int z.length,H,I.tok _,⟨_,rfl⟩,q⟩
theorem dg.or(h:dg X f r)(h':dg X f r'):dg X f (λxs H Q=>r xs H Q\/r' xs H Q):=by
 intro pins s σ H xs us Q I rs q;rcases q with q | q
 ·exact h pins s σ H xs us Q I rs q
 ·exact h' pins s σ H xs us Q I rs q
theorem GI:dg X (.type "list") (λxs H Q=>∃ p ys,xs=[.ref p]/\(bS X.K H p ys\/b9 X.K H p ys)/\∀ l,H l=none->Q (.ref l) (upd H l (.lst ys))):=by
 intro pins s σ H xs us Q I r h;obtain⟨p,ys,rfl,hq,q⟩:=h;obtain⟨u,rfl,rx⟩:=fJ r
 cases rx;have fin:∀ (ae:List Value),Vals ys ae->ys.length<=W8->∀ (h':Heap) (c':Nat),(∀ b o',s.heap.get? b=some o'->h'.get? b=some o') ->
   h'.get? s.heap.objs.size=some { cls:=.type "list",dict:=none,data:=.seq ae.toArray c',slots:=#[] }->EP X pins σ Q (.ref s.heap.objs.size) { s with heap:=h' }:=λae r' hz h' c' kp e =>
  ⟨.ref s.heap.objs.size,_,I.laid (t':=s.toks) kp (Wb _) (show bw X.prog X.w _ h' _ (.lst ys) from⟨hz,ae,c',r',e⟩),rfl,q _ (I.aj.fresh (Wb _))⟩
 rcases hq with hq | hq
 ·obtain⟨ae,r',pl,hz⟩:=I.list hq;have hlen:=r'.length;obtain⟨o,ho,hc,n,hd⟩:=pl.isList;exact call_list_seq p (.inl rfl) ho hc hd (λh' c' kp e=>fin ae r' hz h' c' kp e) (by simp only[Wo] <;> omega)
 ·obtain⟨ae,r',pl,hz⟩:=I.tuple hq;have hlen:=r'.length;obtain⟨o,ho,hc,n,hd⟩:=pl;exact call_list_seq p (.inr rfl) ho hc hd (λh' c' kp e=>fin ae r' hz h' c' kp e) (by simp only[Wo] <;> omega)
theorem GJ:dg X (.type "tuple") (λxs H Q=>∃ p ys,xs=[.ref p]/\((bS X.K H p ys/\∀ l,H l=none->Q (.ref l) (upd H l (.tup ys)))\/(b9 X.K H p ys/\Q (.ref p) H))):=by
 intro pins s σ H xs us Q I r h;obtain⟨p,ys,rfl,h⟩:=h;obtain⟨u,rfl,rx⟩:=fJ r
 cases rx;rcases h with ⟨hq,q⟩ | ⟨hq,q⟩
 ·obtain⟨ae,r',pl,hz⟩:=I.list hq;have hlen:=r'.length;refine call_tuple_list pl.isList (λh' kp=>?_) (by simp only[Wo] <;> omega);have I1:Inv X pins σ H { s with heap:=h' }:=I.kept (t':=s.toks) kp;have I2:Inv X pins σ (upd H h'.objs.size (.tup ys)) { s with heap:=h'.push { cls:=.type "tuple",data:=.seq ae.toArray } } :=
   I1.laid (t':=s.toks) (λb o e=>W4 _ e) (Wb _) (show bw X.prog X.w _ _ _ (.tup ys) from⟨hz,ae,r',gx.new _ _⟩)
  exact⟨.ref h'.objs.size,_,I2,rfl,q _ (I1.aj.fresh (Wb _))⟩
 ·obtain⟨ae,r',pl,hz⟩:=I.tuple hq;exact call_tuple_same pl ⟨.ref p,H,I,rfl,q⟩
def zH(K:W2)(T:String)(x:V)(H:Hp):Prop:=match x with
 | .str _=>T = "str"
 | .int _=>T = "int"
 | .ref p=>(T = "list"/\∃ xs,bS K H p xs)\/(T = "tuple"/\∃ o,K.lookup p=some o/\o.cls = .type "tuple"/\o.dict=none) \/
   (T = "dict"/\((∃ kvs,H p=some (.dK kvs))\/∃ kvs,H p=some (.dT kvs)))\/(T = "set"/\∃ S n,H p=some (.set S n))
 | _=>False
theorem GK(I:Inv X pins σ H s)(r:RelV x v)(ty:zH X.K T x H) :
  s.TypeIs v T/\∀ a,v = .ref a->∃ ob,s.heap.get? a=some ob/\ob.dict=none:=by
 cases x with
 | str z =>
  obtain⟨t,rfl⟩:=r
  cases (show T = "str" from ty);exact⟨typeIs_str s z t,λ_ e=>nomatch e⟩
 | int i =>
  obtain⟨t,rfl⟩:=r
  cases (show T = "int" from ty);exact⟨JQ s i t,λ_ e=>nomatch e⟩
 | ref p =>
  cases r;rcases ty with ⟨rfl,xs,hq⟩ | ⟨rfl,o,hk,hc,hd⟩ | ⟨rfl,hk⟩ | ⟨rfl,S,n,hk⟩
  ·obtain⟨ae,_,pl,_⟩:=I.list hq;refine⟨pl.isList.typeIs,λa e=>?_⟩
   cases e;obtain⟨o,n,e,c,hd,_⟩:=pl;exact⟨o,e,hd⟩
  ·refine⟨⟨o,I.dM p o hk,hc⟩,λa e=>?_⟩
   cases e;exact⟨o,I.dM _ o hk,hd⟩
  ·have z:∃ o,s.heap.get? p=some o/\o.ExactDict:=by
    rcases hk with ⟨kvs,hk⟩ | ⟨kvs,hk⟩
    ·obtain⟨_,_,_,_,o,_,_,e,ex,_⟩:=I.aj p _ hk;exact⟨o,e,ex⟩
    ·obtain⟨_,_,_,_,o,_,_,e,ex,_⟩:=I.aj p _ hk;exact⟨o,e,ex⟩
   obtain⟨o,e,ex⟩:=z;refine⟨⟨o,e,ex.1⟩,λa e2=>?_⟩
   cases e2;exact⟨o,e,ex.2.1⟩
  ·obtain⟨o,_,_,_,e,ex,_⟩:=I.aj p _ hk;refine⟨⟨o,e,ex.1⟩,λa e2=>?_⟩
   cases e2;exact⟨o,e,ex.2.1⟩
 | _=>exact False.elim ty
def zI(K:W2)(T:String)(r:V->List V->Hp->VK->Prop)(to:TE)(t:TA):TE:=λσ H Q=>to σ H λx H1=>zH K T x H1/\t σ H1 λxs H2=>r x xs H2 Q
variable {o e:Expr} {es:List Expr} {to:TE} {t:TA} {name:Str} {apos bb:Pos} {T id:String} {r:V->List V->Hp->VK->Prop}
theorem zJ (pa:PlainAttrs T) (slot:Slot T name id) (GL:typeOf (.builtin id)=pure (.type "method_descriptor")) (hm:zA X id r) (ho:PE X o to) (ha:PA X (e :: es) t)
  (oD:QY o name X.env (eval o X.env)=eval o X.env:=by rfl)
  (oE:((Qg bb (We (e :: es) X.env)).all (λx=>!x.1) && (backToKw bb (JB [] X.env)).all (λx=>x.1.isSome)
   && decide ((e :: es).length + ([]:List Keyword).length + (if ([]:List Keyword).isEmpty then 0 else 1) < 30))=true:=by rfl)
  (hJ:(apos.endLine == bb.line)=true:=by rfl) (hs:We (e :: es) X.env=(false,eval e X.env) :: We es X.env:=by rfl) (t_:(Qg bb (We es X.env)).any (·.1)=false:=by rfl) :
  PE X (.Call (.Attribute o name apos) (e :: es) [] bb) (zI X.K T r to t):=by
 intro pins s σ H Q I h;refine wpAny_Call_method_late oD oE hJ rfl (aJ (ho pins s σ H _ I h) λv s1 ⟨x,H1,I1,r1,ty,q1⟩=>?_);obtain⟨h1,h2⟩:=GK I1 r1 ty;refine⟨T,id,pa,slot,GL,h1,h2,?_⟩;have hA:=ha bb pins s1 σ H1 _ I1 q1;rw[hs] at hA ⊢;refine Calls.callWith_builtin (by show(false || (Qg bb (We es X.env)).any (·.1))=false; rw[t_] <;> rfl) (Calls.evalArgs_plain ?_);exact aJ hA λus s2 ⟨vs,H2,I2,r2,q2⟩=>hm pins s2 σ H2 x vs v us Q I2 r1 r2 q2
end
def GN(X:Cx)(id:String)(r:V->List V->Hp->VK->Prop):Prop :=
 ∀ (pins:List (Addr×Obj)) (s:W1) (σ:St) (H:Hp) (x:V) (xs:List V) (v:Value) (us:List Value) (Q:VK),Inv X pins σ H s->RelV x v->Vals xs us->r x xs H Q ->
  W6 (model X.prog X.w) X.A (call (.builtin id) (v :: us)) (EP X pins σ Q) X.xe s
theorem Vals.one:∀ {x:V} {us:List Value},Vals [x] us->∃ u,us=[u]/\RelV x u
 | _,_,.cons r .nil=>⟨_,rfl,r⟩
theorem Vals.two:∀ {x y:V} {us:List Value},Vals [x,y] us->∃ u v,us=[u,v]/\RelV x u/\RelV y v
 | _,_,_,.cons r (.cons q .nil)=>⟨_,_,rfl,r,q⟩
theorem Vals.rep(h:Vals xs us):∀ k:Nat,Vals (Wf k xs).flatten (Wf k us).flatten
 | 0=>.nil
 | k + 1=>by
  rw[WY,WY,QL,QL];exact Vals.append h (Vals.rep h k)
theorem zK(ae:List Value):∀ (k:Nat) (acc:List Value),
  List.foldl (λx1 x2=>x1 ++ x2) acc.toArray (Wf k ae.toArray)=(acc ++ (Wf k ae).flatten).toArray
 | 0,acc=>by simp
 | k + 1,acc=>by
  have e:acc.toArray ++ ae.toArray=(acc ++ ae).toArray:=by simp
  have e2:(acc ++ ae) ++ (Wf k ae).flatten=acc ++ (Wf (k + 1) ae).flatten:=by
   rw[WY,QL,Qb]
  rw[<- e2,<- zK ae k (acc ++ ae),<- e,WY,QW]
section
variable {X:Cx} {pins:List (Addr×Obj)} {σ:St} {H:Hp} {s:W1} {l b:Addr} {xs ys zs:List V}
theorem Inv.GO{ae its':List Value}{n:Nat}{f:Array Value->Array Value}{t':Nat}(I:Inv X pins σ H s)(hH:H l=some (.lst xs))
  (e:s.heap.get? l=some { cls:=.type "list",data:=.seq ae.toArray n }) (hf:f ae.toArray=its'.toArray) (hv:Vals ys its') (hz:ys.length<=W8) :
  Inv X pins σ (upd H l (.lst ys)) { s with heap:=s.heap.update l (Obj.mapSeq f),toks:=t' }:=by
 have q:=PySem.IsL.update e f;rw[hf] at q;refine I.write (x:=l) (e:=l) (by rw[hH]; exact trivial) (.inl rfl) (λb' u hb hu=>(Q0 s.heap (Obj.mapSeq f) (Ne.symm hb)).trans hu) ⟨_,q⟩ ?_;exact⟨hz,its',_,hv,q⟩
theorem Inv.GP(I:Inv X pins σ H s)(hv:Vals ys ae)(hz:ys.length<=W8) :
  Inv X pins σ (upd H s.heap.objs.size (.lst ys)) { s with heap:=s.heap.push { cls:=.type "list",data:=.seq ae.toArray },toks:=t' } :=
 I.laid (λ_ _ q=>W4 _ q) (Wb _) ⟨hz,ae,0,hv,Wh _ rfl⟩
theorem Inv.fresh(I:Inv X pins σ H s):H s.heap.objs.size=none:=I.aj.fresh (Wb _)
theorem Inv.GQ (I:Inv X pins σ H s) (hH:H l=some (.lst xs)):xs.length<=W8/\∃ (ae:List Value) (n:Nat),Vals xs ae/\xs.length=ae.length/\s.heap.get? l=some { cls:=.type "list",data:=.seq ae.toArray n }:=by
 obtain⟨z,ae,n,r,e⟩:=I.aj l _ hH;exact⟨z,ae,n,r,r.length,e⟩
end
section
variable {X:Cx}
def zL:V->List V->Hp->VK->Prop:=λx vs H Q=>∃ l xs y,x = .ref l/\vs=[y]/\H l=some (.lst xs)/\xs.length < W8/\Q .ay (upd H l (.lst (xs ++ [y])))
theorem zM:GN X "list.append" zL:=by
 intro pins s σ H x vs v us Q I rx rv h;obtain⟨l,xs,y,rfl,rfl,hH,hz,q⟩:=h
 cases rx;obtain⟨u,rfl,ru⟩:=rv.one;obtain⟨z,ae,n,r,hl,e⟩:=I.GQ hH;refine call_meets F.slot_list_append ⟨_,e,rfl⟩ F.entry_list_append (F.args_list_append_2 _ _) (PySem.list_append l ae.toArray n u (by rw[Wo]; omega)) ⟨e,?_⟩;refine⟨.ay,_,I.GO (its':=ae ++ [u]) hH e (by simp) (r.append (.cons ru .nil)) ?_,rfl,q⟩;rw[WW,List.length_singleton];omega
theorem ua(xs:List α)(k:Nat):(Wf k xs).flatten.length=k * xs.length:=by
 induction k with
 | zero=>simp
 | succ k ih=>rw[WY,QL,WW,ih,Nat.succ_mul,Nat.add_comm]
end
section
variable {prog:Wj} {w:Wm} {A:Wn} {E:Value->W1->Prop} {s:W1}
set_option maxRecDepth 100000 in
end
section
variable {X:Cx}
end
section
variable {κ:Type} [DecidableEq κ]
def c4(kvs:List (κ×V))(k:κ):Option V:=(kvs.find? λkv=>decide (kv.1=k)).map (·.2)
def putK(kvs:List (κ×V))(k:κ)(v:V):List (κ×V) :=
 if (kvs.any λkv=>decide (kv.1=k))=true then kvs.map (λkv=>if kv.1=k then(kv.1,v) else kv) else kvs ++ [(k,v)]
theorem qD{p:κ×V}{r:List (κ×V)}{k:κ}(e:p.1=k):c4 (p :: r) k=some p.2:=by simp[c4,WH,e]
theorem qE{p:κ×V}{r:List (κ×V)}{k:κ}(e:¬ p.1=k):c4 (p :: r) k=c4 r k:=by simp[c4,WH,e]
theorem zN(k:κ):∀ kvs:List (κ×V),(kvs.any λkv=>decide (kv.1=k))=(c4 kvs k).isSome
 | []=>rfl
 | p :: r=>by
  rw[WZ];by_cases e:p.1=k
  ·simp only[qD e,decide_eq_true e,Bool.true_or,Option.isSome_some]
  ·rw[qE e,decide_eq_false e,Bool.false_or]; exact zN k r
theorem mN(kvs:List (κ×V))(k:κ)(v:V):(putK kvs k v).length<=kvs.length + 1:=by
 unfold putK;split
 ·rw[Wq]; omega
 ·rw[WW,WO,JE]; omega
theorem cY.oF(r:cY o u):o.isSome=u.isSome:=by
 cases o with
 | none=>cases u with
  | none=>rfl
  | some _=>exact(show False from r).elim
 | some _=>cases u with
  | none=>exact(show False from r).elim
  | some _=>rfl
theorem cY.getD(r:cY o u)(rd:RelV d d'):RelV (o.getD d) (u.getD d'):=by
 cases o with
 | none=>cases u with
  | none=>exact rd
  | some _=>exact(show False from r).elim
 | some _=>cases u with
  | none=>exact(show False from r).elim
  | some _=>exact r
theorem KV.val{kvs:List (κ×V)}{vs:List (κ×Value)}(r:KV kvs vs)(k:κ):cY (c4 kvs k) (valueAt vs k):=by
 unfold KV at r;induction r with
 | nil=>exact True.intro
 | @cons p q ps qs h t ih =>
  obtain⟨h1,h2⟩:=h;by_cases e:p.1=k
  ·have e':q.1=k:=h1.symm.trans e;have b:valueAt (q :: qs) k=some q.2:=by simp[valueAt,WH,e']
   rw[qD e,b]; exact h2
  ·have e':¬ q.1=k:=λz=>e (h1.trans z)
   have b:valueAt (q :: qs) k=valueAt qs k:=by simp[valueAt,WH,e']
   rw[qE e,b]; exact ih
theorem KV.any(r:KV kvs vs)(k:κ):(kvs.any λkv=>decide (kv.1=k))=vs.any λkv=>decide (kv.1=k):=by
 unfold KV at r;induction r with
 | nil=>rfl
 | cons h t ih=>rw[WZ,WZ,ih,h.1]
theorem KV.ub(r:KV kvs vs)(k:κ)(ry:RelV y u) :
  KV (kvs.map λkv=>if kv.1=k then(kv.1,y) else kv) (vs.map λkv=>if kv.1=k then(kv.1,u) else kv):=by
 unfold KV at r ⊢;induction r with
 | nil=>exact .nil
 | @cons p q ps qs h t ih =>
  rw[Wc,Wc];refine .cons ?_ ih;obtain⟨h1,h2⟩:=h;by_cases e:p.1=k
  ·rw[if_pos e,if_pos (h1.symm.trans e)]; exact⟨h1,ry⟩
  ·rw[if_neg e,if_neg (λz=>e (h1.trans z))]; exact⟨h1,h2⟩
theorem KV.put(r:KV kvs vs)(k:κ)(ry:RelV y u):KV (putK kvs k y) (stored vs k u):=by
 unfold putK stored;rw[r.any k];by_cases e:(vs.any λkv=>decide (kv.1=k))=true
 ·rw[if_pos e,if_pos e]; exact r.ub k ry
 ·rw[if_neg e,if_neg e]; exact Paired.snoc r ⟨rfl,ry⟩
theorem KV.length(r:KV kvs vs):kvs.length=vs.length:=Paired.length r
end
theorem jc(r:RelV (kV k) u):(cM P w).is k u=true:=by
 cases k with
 | inl i=>obtain⟨t,e⟩:=(show ∃ t,u=Value.int i t from r); subst e; exact Eu P w i t
 | inr x=>obtain⟨t,e⟩:=(show ∃ t,u=Value.str x t from r); subst e; exact Ew P w x t
theorem zO:∀ {ks:List Key} {us:List Value},Vals (ks.map kV) us->ItemsAre (cM P w) ks us
 | [],_,r=>by rw[U6] at r; cases r; exact .nil
 | k :: ks,_,r=>by
  rw[Wc] at r
  cases r with
  | cons h t=>exact .cons (jc h) (zO t)
abbrev KT(H:Hp):List (List Key×V)->List (List Key×Addr×Value)->Prop:=Paired λp q=>p.1=q.1/\H q.2.1=some (.tup (p.1.map kV))/\RelV p.2 q.2.2
theorem KT.val{H:Hp}{kvs:List (List Key×V)}{xs:List (List Key×Addr×Value)}(r:KT H kvs xs)(k:List Key):cY (c4 kvs k) ((atKey xs k).map (·.2)):=by
 induction r with
 | nil=>exact True.intro
 | @cons p q ps qs h t ih =>
  obtain⟨h1,_,h2⟩:=h;by_cases e:p.1=k
  ·have e':q.1=k:=h1.symm.trans e;have b:atKey (q :: qs) k=some q.2:=by simp[atKey,WH,e']
   rw[qD e,b]; exact h2
  ·have e':¬ q.1=k:=λz=>e (h1.trans z)
   have b:atKey (q :: qs) k=atKey qs k:=by simp[atKey,WH,e']
   rw[qE e,b]; exact ih
theorem KT.ub(r:KT H kvs xs)(k:List Key)(ry:RelV y u) :
  KT H (kvs.map λkv=>if kv.1=k then(kv.1,y) else kv) (xs.map (putAt k u)):=by
 induction r with
 | nil=>exact .nil
 | @cons p q ps qs h t ih =>
  rw[Wc,Wc];refine .cons ?_ ih;obtain⟨h1,h2,h3⟩:=h;unfold putAt;by_cases e:p.1=k
  ·rw[if_pos e,if_pos (h1.symm.trans e)]; exact⟨h1,h2,ry⟩
  ·rw[if_neg e,if_neg (λz=>e (h1.trans z))]; exact⟨h1,h2,h3⟩
theorem KT.put(r:KT H kvs xs)(k:List Key)(hb:H b=some (.tup (k.map kV)))(ry:RelV y u) :
  KT H (putK kvs k y) (storedH xs k b u):=by
 have e:(kvs.any λkv=>decide (kv.1=k))=(atKey xs k).isSome:=by
  rw[zN,(r.val k).oF,JW]
 unfold putK storedH;rw[e];by_cases q:(atKey xs k).isSome=true
 ·rw[if_pos q,if_pos q]; exact r.ub k ry
 ·rw[if_neg q,if_neg q]; exact Paired.snoc r ⟨rfl,hb,ry⟩
theorem KT.keeps(r:KT H kvs xs)(ht:∀ b ys,H b=some (.tup ys)->H' b=some (.tup ys)):KT H' kvs xs :=
 Paired.tu r λ_ _ z=>⟨z.1,ht _ _ z.2.1,z.2.2⟩
section
variable {P:Wj} {w:Wm} {H:Hp} {h:Heap} {a:Addr}
theorem zP(ok:bK P w H h)(e:Rd H a u):bw P w H h a u:=e.ok ok
theorem lE(ok:bK P w H h)(e:Rd H a (.dK kvs)):kvs.length<=W8/\(a == Qj)=false/\∃ vs,KV kvs vs/\h.DictOf (cM P w) a vs :=
 show bw P w H h a (.dK kvs) from zP ok e
theorem oG(ok:bK P w H h)(e:H a=some (.dK kvs)):kvs.length<=W8/\(a == Qj)=false/\∃ vs,KV kvs vs/\h.DictOf (cM P w) a vs:=lE ok (.inl e)
theorem mO(ok:bK P w H h)(e:H a=some (.tup (ks.map kV))):(tupleKind (cM P w)).is h ks a:=by
 obtain⟨_,ae,r,p⟩:=(show bw P w H h a (.tup (ks.map kV)) from ok a _ e)
 obtain⟨o,h1,h2,n,h3⟩:=p.tup;exact⟨o,ae.toArray,n,h1,h2,h3,by simpa using zO r⟩
theorem mP(ok:bK P w H h)(e:Rd H a (.dT kvs)):kvs.length<=W8/\(a == Qj)=false /\
  ∃ xs,KT H kvs xs/\h.DictOfH (tupleKind (cM P w)) a xs:=by
 obtain⟨z,y,xs,r,o,es,ep,h1,h2,h3,h4,h5⟩:=(show bw P w H h a (.dT kvs) from zP ok e)
 refine⟨z,y,xs,r,o,es,ep,h1,h2,h3,h4,λx hx=>?_,h5⟩;have all:∀ {l:List (List Key×V)} {m:List (List Key×Addr×Value)},KT H l m->∀ x ∈ m,(tupleKind (cM P w)).is h x.1 x.2.1:=by
  intro l m q;induction q with
  | nil=>intro x hx; exact nomatch hx
  | @cons p q ps qs hq t ih =>
   intro x hx;rcases Wl.mp hx with e | hx
   ·subst e;exact mO ok (by rw[<- hq.1]; exact hq.2.1)
   ·exact ih x hx
 exact all r x hx
theorem GR(ok:bK P w H h)(e:H a=some (.dT kvs)):kvs.length<=W8/\(a == Qj)=false /\
  ∃ xs,KT H kvs xs/\h.DictOfH (tupleKind (cM P w)) a xs:=mP ok (.inl e)
end
def jd(H:Hp)(a:Addr)(y:V)(r:Option V):Prop :=
 (∃ kvs k,Rd H a (.dK kvs)/\y=kV k/\r=c4 kvs k)\/∃ kvs k b,Rd H a (.dT kvs)/\y = .ref b/\H b=some (.tup (k.map kV))/\r=c4 kvs k
def oH(H:Hp)(a:Addr)(y v:V)(H':Hp):Prop :=
 (∃ kvs k,H a=some (.dK kvs)/\y=kV k/\kvs.length < W8/\H'=upd H a (.dK (putK kvs k v))) \/
 ∃ kvs k b,H a=some (.dT kvs)/\y = .ref b/\H b=some (.tup (k.map kV))/\kvs.length < W8/\H'=upd H a (.dT (putK kvs k v))
theorem jd.k{H:Hp}{a:Addr}{kvs:List (Key×V)}{k:Key}(e:H a=some (.dK kvs)):jd H a (kV k) (c4 kvs k):=.inl ⟨kvs,k,.inl e,rfl,rfl⟩
theorem oH.k{H:Hp}{a:Addr}{kvs:List (Key×V)}{k:Key}{v:V}(e:H a=some (.dK kvs))(hl:kvs.length < W8):oH H a (kV k) v (upd H a (.dK (putK kvs k v))):=.inl ⟨kvs,k,e,rfl,hl,rfl⟩
section
variable {X:Cx} {pins:List (Addr×Obj)} {σ:St} {H:Hp} {s:W1} {a:Addr} {y v:V} {u r:Value} {o:Option V} {A:Wn} {E:Value->W1->Prop}
theorem Inv.big(I:Inv X pins σ H s):Qj < s.heap.objs.size:=by
 have h:Wt < s.heap.objs.size:=(I.mod.glob.keeps I.bk).lt;exact Nat.lt_trans (by decide) h
theorem GS(hu:A.units + 1 < WI)(I:Inv X pins σ H s)(g:jd H a y (some v))(ry:RelV y u)(h:∀ w' s',Inv X pins σ H s'->RelV v w'->Q w' s') :
  W6 (model X.prog X.w) A (JP (.ref a) u) Q E s:=by
 rcases g with ⟨kvs,k,e,ey,l⟩ | ⟨kvs,k,b,e,ey,eb,l⟩
 ·subst ey;obtain⟨z,hd,vs,rel,dd⟩:=lE I.aj e;obtain⟨w',hw,aC⟩:=cY.some_of (v:=v) (o:=valueAt vs k) (by rw[l]; exact rel.val k);exact wpAny_getItem_of (jc ry) dd.mapOf hw (h w' _ (I.tok _) aC)
 ·subst ey
  cases (show u=Value.ref b from ry);obtain⟨z,hd,xs,rel,dd⟩:=mP I.aj e;obtain⟨w',hw,aC⟩:=cY.some_of (v:=v) (o:=(atKey xs k).map (·.2)) (by rw[l]; exact rel.val k);obtain⟨p,hp,uc⟩:=Option.map_eq_some_iff.mp hw;refine wpAny_getItem_heap (Jk hu) (mO I.aj eb) dd hp ?_;rw[uc];exact h w' _ (I.tok _) aC
theorem GU(hu:A.units + 1 < WI)(I:Inv X pins σ H s)(g:jd H a y o)(ry:RelV y u)(h:∀ s',Inv X pins σ H s'->Q (.bool o.isSome) s') :
  W6 (model X.prog X.w) A (WE .In u (.ref a)) Q E s:=by
 rcases g with ⟨kvs,k,e,ey,l⟩ | ⟨kvs,k,b,e,ey,eb,l⟩
 ·subst ey;obtain⟨z,hd,vs,rel,dd⟩:=lE I.aj e;refine wpAny_in_of (jc ry) hd dd.mapOf ?_;rw[<- (rel.val k).oF,<- l];exact h _ (I.tok _)
 ·subst ey
  cases (show u=Value.ref b from ry);obtain⟨z,hd,xs,rel,dd⟩:=mP I.aj e;refine wpAny_in_heap (Jk hu) (mO I.aj eb) hd dd ?_;have q:=(rel.val k).oF;rw[JW] at q;rw[<- q,<- l];exact h _ (I.tok _)
theorem GV(hu:A.units + 1 < WI)(I:Inv X pins σ H s)(g:jd H a y o)(ry:RelV y u)(h:∀ s',Inv X pins σ H s'->Q (.bool (!o.isSome)) s') :
  W6 (model X.prog X.w) A (WE .NotIn u (.ref a)) Q E s:=by
 rcases g with ⟨kvs,k,e,ey,l⟩ | ⟨kvs,k,b,e,ey,eb,l⟩
 ·subst ey;obtain⟨z,hd,vs,rel,dd⟩:=lE I.aj e;refine wpAny_notIn_of (jc ry) hd dd.mapOf ?_;rw[<- (rel.val k).oF,<- l];exact h _ (I.tok _)
 ·subst ey
  cases (show u=Value.ref b from ry);obtain⟨z,hd,xs,rel,dd⟩:=mP I.aj e;refine wpAny_notIn_heap (Jk hu) (mO I.aj eb) hd dd ?_;have q:=(rel.val k).oF;rw[JW] at q;rw[<- q,<- l];exact h _ (I.tok _)
theorem mQ(I:Inv X pins σ H s)(mu:oh (H a))(hs:Q6 a s.heap h')(he:∃ q,h'.get? a=some q)(new:bw X.prog X.w (upd H a ob) h' a ob) :
  Inv X pins σ (upd H a ob) { s with heap:=h',toks:=t' } :=
 I.write (x:=a) (e:=a) mu (.inl rfl) (λb q hb z=>(hs.2 b hb).trans z) he new
theorem qF(z:kvs.length<=W8)(hd:(a == Qj)=false)(rel:KV kvs vs)(dd:h'.DictOf (cM P w) a vs) :
  bw P w H' h' a (.dK kvs):=⟨z,hd,vs,rel,dd⟩
theorem GW(hu:A.units + 1 < WI)(I:Inv X pins σ H s)(g:oH H a y v H')(ry:RelV y u)(rv:RelV v r)(h:∀ s',Inv X pins σ H' s'->Q () s') :
  W6 (model X.prog X.w) A (setItem (.ref a) u r) Q E s:=by
 rcases g with ⟨kvs,k,e,ey,l,eH⟩ | ⟨kvs,k,b,e,ey,eb,l,eH⟩
 ·subst ey eH;obtain⟨z,hd,vs,rel,dd⟩:=oG I.aj e;have hz:vs.length<=W8:=by rw[<- rel.length]; exact z
  have hl:(putK kvs k v).length<=W8:=by have:=mN kvs k v; omega
  refine wpAny_setItem_pairs (hsz:=hz) (jc ry) dd λh' gE hs=>h _ ?_
  have he:∃ q,h'.get? a=some q:=let ⟨q,_,_,hq,_⟩:=gE; ⟨q,hq⟩
  exact mQ I (by rw[e]; exact True.intro) hs he (qF hl hd (rel.put k rv) gE)
 ·subst ey eH
  cases (show u=Value.ref b from ry);obtain⟨z,hd,xs,rel,dd⟩:=GR I.aj e;have hz:xs.length<=W8:=by rw[<- Paired.length rel]; exact z
  have hl:(putK kvs k v).length<=W8:=by have:=mN kvs k v; omega
  refine wpAny_setItem_heap (hsz:=hz) (Jk hu) (mO I.aj eb) dd λh' gE hs=>h _ ?_
  obtain⟨q,es,ep,hq,h2,h3,h4,_,h5⟩:=gE;refine mQ I (by rw[e]; exact True.intro) hs ⟨q,hq⟩ ⟨hl,hd,_,(rel.put k eb rv).keeps λc ys ec=>?_,q,es,ep,hq,h2,h3,h4,h5⟩;rw[aP (Ey ec e (λz=>nomatch z))];exact ec
end
section
variable {X:Cx} {pins:List (Addr×Obj)} {σ:St} {H:Hp} {s:W1} {a:Addr} {kvs:List (Key×V)} {k:Key} {u:Value} {A:Wn} {E:Value->W1->Prop}
theorem GX (I:Inv X pins σ H s) (e:Rd H a (.dK kvs)) (h:∀ t s',Inv X pins σ H s'->Q (.int kvs.length t) s'):W6 (model X.prog X.w) A (call (.builtin "len") [.ref a]) Q E s:=by
 obtain⟨z,hd,vs,rel,dd⟩:=lE I.aj e;refine call_len_dict hd dd (by rw[<- rel.length]; rw[QF] at z; omega) ?_;rw[<- rel.length];exact h _ _ (I.tok _)
end
def GY(td ty tv:TE):TS:=λD σ H=>tv σ H λv H1=>td σ H1 λx H2=>ty σ H2 λy H3=>∃ a H4,x = .ref a/\oH H3 a y v H4/\D.nx σ H4
section
variable {X:Cx} {o i e value:Expr} {pos pos' tpos:Pos} {td ty tv:TE}
theorem GZ(hu:X.A.units + 1 < WI)(ho:PE X o td)(hi:PE X i ty)(hv:PE X value tv)(hs:J7 value (some (.Subscript o i pos')) pos.line X.env=pure false) :
  PS X (.Assign [.Subscript o i pos'] value pos) (GY td ty tv):=by
 intro pins s σ H D I h;refine wpAny_Assign_Subscript (aJ (hv pins s σ H _ I h) λr s1 ⟨v,H1,I1,rv,q1⟩=>aJ (ho pins s1 σ H1 _ I1 q1) λu s2 ⟨x,H2,I2,rx,q2⟩=>aJ (hi pins s2 σ H2 _ I2 q2) λiv s3 ⟨y,H3,I3,ry,a,H4,ex,g,q3⟩=>?_) hs;subst ex;obtain rfl:u=Value.ref a:=rx;exact GW hu I3 g ry rv λs4 I4=>⟨σ,H4,I4,q3⟩
end
theorem ud (h:Heap) (hb:Qj < h.objs.size):bw P w H (h.push { cls:=.type "dict",data:=.dict #[] }) h.objs.size (.dK []) :=
 ⟨Qm _,beq_eq_false_iff_ne.mpr (Ne.symm (Wr hb)),[],.nil,Heap.DictOf.new h⟩
def G0:TE:=λ_ H Q=>∀ p,H p=none->Q (.ref p) (upd H p (.dK []))
section
variable {X:Cx} {pos:Pos}
theorem G1:PE X (.Dict [] [] pos) G0:=λpins s σ H Q I h =>
 wpAny_Dict_empty ⟨.ref s.heap.objs.size,_,I.laid (a:=s.heap.objs.size) (o:=.dK []) (t':=s.toks) (λ_ _ q=>W4 _ q) (Wb _) (ud s.heap I.big),rfl,h _ (I.aj.fresh (Wb _))⟩
end
def ue:List (TE×TE)->St->Hp->(List (V×V)->Hp->Prop)->Prop
 | [],_,H,Q=>Q [] H
 | (tk,tv) :: r,σ,H,Q=>tk σ H λx H1=>tv σ H1 λy H2=>ue r σ H2 λps H3=>Q ((x,y) :: ps) H3
abbrev VV:List (V×V)->List (Value×Value)->Prop:=Paired λp q=>RelV p.1 q.1/\RelV p.2 q.2
def qG(X:Cx)(pos:Pos)(keys:List (Option Expr))(values:List Expr)(lF:List (TE×TE)):Prop :=
 ∀ (pins:List (Addr×Obj)) (s:W1) (σ:St) (H:Hp) (Q:List (V×V)->Hp->Prop),Inv X pins σ H s->ue lF σ H Q ->
  W6 (model X.prog X.w) X.A (evalPairs (pairTrees keys values X.env pos)) (λvs s'=>∃ ps H',Inv X pins σ H' s'/\VV ps vs/\Q ps H') X.xe s
theorem G2:qG X pos [] [] []:=λpins s σ H Q I h=>pairTrees_nil_walk ⟨[],H,I,.nil,h⟩
theorem G3(hk:PE X k tk)(hv:PE X v tv)(hr:qG X pos ks vs lF) :
  qG X pos (some k :: ks) (v :: vs) ((tk,tv) :: lF):=λpins s σ H Q I h =>
 pairTrees_cons_walk (aJ (hk pins s σ H _ I h) λu s1 ⟨x,H1,I1,rx,q1⟩=>aJ (hv pins s1 σ H1 _ I1 q1) λw2 s2 ⟨y,H2,I2,ry,q2⟩ =>
  aJ (hr pins s2 σ H2 _ I2 q2) λws s3 ⟨ps,H3,I3,rel,q3⟩=>⟨(x,y) :: ps,H3,I3,.cons ⟨rx,ry⟩ rel,q3⟩)
def lG(kvs more:List (Key×V)):List (Key×V):=more.foldl (λacc kv=>putK acc kv.1 kv.2) kvs
theorem KV.merge:∀ {more:List (Key×V)} {rs:List (Key×Value)} {kvs:List (Key×V)} {vs:List (Key×Value)},KV more rs->KV kvs vs->KV (lG kvs more) (merged vs rs):=by
 intro more rs kvs vs r;unfold KV at r;induction r generalizing kvs vs with
 | nil=>intro q; exact q
 | @cons p q ps qs h t ih =>
  intro r0;have e:KV (putK kvs p.1 p.2) (stored vs q.1 q.2):=by
   have:=r0.put p.1 h.2;rw[<- h.1]; exact this
  exact ih e
theorem zQ:∀ (more kvs:List (Key×V)),(lG kvs more).length<=kvs.length + more.length
 | [],kvs=>by show kvs.length<=kvs.length + 0; omega
 | p :: r,kvs=>by
  have h1:=zQ r (putK kvs p.1 p.2);have h2:=mN kvs p.1 p.2;show(lG (putK kvs p.1 p.2) r).length<=_;rw[WO]; omega
theorem zR:∀ {kvs:List (Key×V)} {ws:List (Value×Value)},VV (kvs.map λkv=>(kV kv.1,kv.2)) ws->∃ rs,Carries (cM P w) ws rs/\KV kvs rs
 | [],_,r=>by rw[U6] at r; cases r; exact⟨[],True.intro,.nil⟩
 | p :: kvs,_,r=>by
  rw[Wc] at r
  cases r with
  | @cons a b as bs h t =>
   obtain⟨rs,c,q⟩:=zR (P:=P) (w:=w) t;obtain⟨b1,b2⟩:=b;exact⟨(p.1,b2) :: rs,⟨jc h.1,rfl,c⟩,.cons ⟨rfl,h.2⟩ q⟩
def G4(lF:List (TE×TE)):TE:=λσ H Q=>∀ p,H p=none->ue lF σ (upd H p (.dK [])) λps H2=>H2 p=some (.dK [])/\∃ kvs:List (Key×V),ps=kvs.map (λkv=>(kV kv.1,kv.2))/\kvs.length<=15/\Q (.ref p) (upd H2 p (.dK (lG [] kvs)))
theorem G5(h:qG X pos keys values lF)(iP:keys.all (·.isSome)=true)(hl:keys.length=values.length)(h0:keys≠[])
  (G6:keys.length<=15):PE X (.Dict keys values pos) (G4 lF):=by
 intro pins s σ H Q I q;have hn:=I.aj.fresh (Wb s.heap.objs.size);have I1:=I.laid (a:=s.heap.objs.size) (o:=.dK []) (h':=s.heap.push { cls:=.type "dict",data:=.dict #[] }) (t':=s.toks) (λ_ _ q=>W4 _ q) (Wb _) (ud s.heap I.big);refine wpAny_Dict_walk (knd:=cM X.prog X.w) iP hl h0 G6 (aJ (h pins _ σ _ _ I1 (q _ hn)) λws s2 ⟨ps,H2,I2,rel,e,kvs,ep,lk,q2⟩=>?_);subst ep;obtain⟨rs,c,rk⟩:=zR (P:=X.prog) (w:=X.w) rel;obtain⟨z,hd,vs0,r0,dd⟩:=oG I2.aj e
 cases r0;refine⟨rs,c,dd,λh' gE hs=>⟨.ref s.heap.objs.size,_,?_,rfl,q2⟩⟩;have hz:(lG [] kvs).length<=W8:=by
  have h1:=zQ kvs [];rw[JE] at h1;rw[QF]; omega
 have he:∃ q,h'.get? s.heap.objs.size=some q:=let ⟨q,_,_,hq,_⟩:=gE; ⟨q,hq⟩
 exact mQ I2 (by rw[e]; exact True.intro) hs he (qF hz hd (rk.merge .nil) gE)
structure M1(X:Cx)(o:Expr)(m:Str)(apos:Pos)(e:Expr)(bb:Pos):Prop where
 base:QY o m X.env (eval o X.env)=eval o X.env
 uf:((Qg bb (We [e] X.env)).all (λx=>!x.1) && (backToKw bb (JB [] X.env)).all (λx=>x.1.isSome)
  && decide (([e]:List Expr).length + ([]:List Keyword).length + (if ([]:List Keyword).isEmpty then 0 else 1) < 30))=true
 line:(apos.endLine == bb.line)=true
 trees:Qg bb (We [e] X.env)=[(false,eval e X.env)]
structure M2(X:Cx)(o:Expr)(m:Str)(apos:Pos)(e f:Expr)(bb:Pos):Prop where
 base:QY o m X.env (eval o X.env)=eval o X.env
 uf:((Qg bb (We [e,f] X.env)).all (λx=>!x.1) && (backToKw bb (JB [] X.env)).all (λx=>x.1.isSome)
  && decide (([e,f]:List Expr).length + ([]:List Keyword).length + (if ([]:List Keyword).isEmpty then 0 else 1) < 30))=true
 line:(apos.endLine == bb.line)=true
 trees:Qg bb (We [e,f] X.env)=[(false,eval e X.env),(false,eval f X.env)]
def ug(H:Hp)(a:Addr):Prop:=(∃ kvs,Rd H a (.dK kvs))\/∃ kvs,Rd H a (.dT kvs)
theorem zS(I:Inv X pins σ H s)(d:ug H a) :
  s.TypeIs (.ref a) "dict"/\(∀ b,Value.ref a = .ref b->∃ ob,s.heap.get? b=some ob/\ob.dict=none)/\(a == Qj)=false:=by
 rcases d with ⟨kvs,e⟩ | ⟨kvs,e⟩
 ·obtain⟨_,hd,vs,_,dd⟩:=lE I.aj e;refine⟨dd.typeIs,λb q=>?_,hd⟩
  cases q;obtain⟨ob,_,_,h1,h2,_⟩:=dd;exact⟨ob,h1,h2.2.1⟩
 ·obtain⟨_,hd,xs,_,dd⟩:=mP I.aj e;refine⟨dd.typeIs,λb q=>?_,hd⟩
  cases q;obtain⟨ob,_,_,h1,h2,_⟩:=dd;exact⟨ob,h1,h2.2.1⟩
section
variable {X:Cx} {pins:List (Addr×Obj)} {σ:St} {H:Hp} {s:W1} {a:Addr} {y d:V} {u r:Value} {o:Option V} {A:Wn} {E:Value->W1->Prop}
theorem G7(hu:A.units + 1 < WI)(I:Inv X pins σ H s)(g:jd H a y o)(ry:RelV y u)(h:∀ w' s',Inv X pins σ H s'->RelV (o.getD .ay) w'->Q w' s') :
  W6 (model X.prog X.w) A (call (.builtin "dict.get") [.ref a,u]) Q E s:=by
 rcases g with ⟨kvs,k,e,ey,l⟩ | ⟨kvs,k,b,e,ey,eb,l⟩
 ·subst ey;obtain⟨z,hd,vs,rel,dd⟩:=lE I.aj e;refine call_meetsIn PySem.F.slot_dict_get dd.typeIs PySem.F.entry_dict_get (PySem.F.args_dict_get_2 _ _) (meets_dict_get (cM X.prog X.w) a (jc ry) hd) ⟨_,dd.mapOf,h _ _ (I.tok _) ?_⟩;rw[l];exact(rel.val k).getD rfl
 ·subst ey
  cases (show u=Value.ref b from ry);obtain⟨z,hd,xs,rel,dd⟩:=mP I.aj e;refine call_meetsIn PySem.F.slot_dict_get dd.typeIs PySem.F.entry_dict_get (PySem.F.args_dict_get_2 _ _) (meetsH_dict_get (tupleKind (cM X.prog X.w)) a b hd) ⟨Jk hu,k,xs,mO I.aj eb,dd,h _ _ (I.tok _) ?_⟩;rw[l];exact(rel.val k).getD rfl
end
def G8(td ty:TE):TE:=λσ H Q=>td σ H λx H1=>∃ a,x = .ref a/\ug H1 a/\ty σ H1 λy H2=>∃ o,jd H2 a y o/\Q (o.getD .ay) H2
section
variable {X:Cx} {o e f:Expr} {apos bb:Pos} {td ty tx:TE}
theorem G9 (hu:X.A.units + 1 < WI) (ho:PE X o td) (he:PE X e ty) (m:M1 X o "get" apos e bb):PE X (.Call (.Attribute o "get" apos) [e] [] bb) (G8 td ty):=by
 intro pins s σ H Q I h;refine wpAny_Call_method m.base m.uf m.line PySem.F.plainAttrs_dict PySem.F.slot_dict_get PySem.F.type_dict_get (aJ (ho pins s σ H _ I h) λu s1 ⟨x,H1,I1,rx,a,ex,d,q1⟩=>?_);subst ex;obtain rfl:u=Value.ref a:=rx;obtain⟨t1,t2,_⟩:=zS I1 d;refine⟨t1,t2,?_⟩;rw[m.trees];refine Calls.callWith_builtin rfl (Calls.evalArgs_plain (Calls.spliced_cons (aJ (he pins s1 σ H1 _ I1 q1) λiv s2 ⟨y,H2,I2,ry,ov,g,q2⟩=>Calls.spliced_nil ?_)));exact G7 hu I2 g ry λw' s3 I3 aC=>⟨_,H2,I3,aC,q2⟩
end
section
variable {X:Cx} {pins:List (Addr×Obj)} {σ:St} {H:Hp} {s:W1} {a:Addr} {kvs:List (Key×V)} {A:Wn} {E:Value->W1->Prop}
end
section
variable {X:Cx} {pins:List (Addr×Obj)} {σ:St} {H:Hp} {s:W1} {a:Addr} {y:V} {u:Value} {A:Wn} {E:Value->W1->Prop}
end
end L2
namespace Att
open PySem PySem.W PySem.Calls PyProof.Rows
theorem G_:∀ (ns:List Int) (vs:List Value),WellAll P h vs (ns.map WData.int)->IntsAre vs ns:=by
 intro ns;induction ns with
 | nil =>
  intro vs w;rw[U6] at w
  cases w;exact .nil
 | cons n ns ih =>
  intro vs w;rw[Wc] at w
  cases w with
  | cons a b =>
   cases a;exact .cons _ _ (ih _ b)
theorem Hb{l:OpenLaw}{n:Nat}(hn:l.most=some n){P:Params}{h:Heap}{args:List WData}{vals:List Value}
  (qH:l.row.toRowW.claim.pre args=true) (uh:WellAll P h vals args) :
  ∃ a vs ns,vals=[Value.ref a]/\args=[WData.list (ns.map WData.int)]/\h.get? a=some { cls:=.type "list",data:=.seq vs.toArray }/\IntsAre vs ns/\ns.length<=n:=by
 have Hc:WShape.hasAll [] args [.list .int]=true:=(pre_splitW qH).1;have hc:l.pre.holds [] { args:=args } = true:=(pre_splitW qH).2;obtain⟨d,r,rfl,h1,h2⟩:=hasAllW_cons Hc;obtain rfl:=hasAllW_nil h2;obtain⟨xs,rfl,h3⟩:=hasW_list h1;obtain⟨ns,rfl⟩:=items_int h3;have hlen:ns.length<=n:=by
  unfold OpenLaw.pre at hc;have h4:(WTm.not (.lt (.lit (.int (n:Int))) (.len (.arg 0)))).holds [] { args:=[.list (ns.map .int)] } = true:=by
   have h4:=(holds_andW hc).1;rw[hn] at h4;exact h4
  have h5:=condW_of h4 (w_not (w_lt w_lit (w_len_list (w_arg rfl))));rw[Wq] at h5;refine Nat.le_of_not_lt λq=>?_
  have q':(n:Int) < ((ns.length:Nat):Int):=by omega
  first
   | (rw[decide_eq_true q'] at h5; exact absurd h5 (by decide))
   | (simp at h5; omega)
 cases uh with
 | cons w1 w2 =>
  cases w2
  cases w1 with
  | list ho iP=>exact⟨_,_,ns,rfl,rfl,ho,G_ ns _ iP,hlen⟩
theorem Hd(l:OpenLaw)(args:List WData):l.row.toRowW.claim.post args (.bool true) args=true :=
 postW_of (r:=l.row.toRowW) (X:=(true == true))
  (show WShape.has [] (.bool true) .bool=true by first | rfl | decide | simp[WShape.has,WShape.arms,WShape.armsAll])
  (show(WTm.eq .res (.lit (.bool true))).value [] { args:=args,res:=some (.bool true),after:=args } = some (.bool (true == true)) from w_eq_bool (w_res rfl) w_lit) rfl
theorem zU{l:OpenLaw}{n:Nat}{q:Wj}{loose:List Str}{XP:(Str->Option Value)->Heap->Prop}{YP:Wm->Heap->Prop}{d:DefRec}
  (hn:l.most=some n) (lH:d.params.defaults=[])
  (call:∀ (w:Wm) (s₀ s₁:W1) (mg mb:Str->Option Value) (fa:Addr) (o:Obj) (pm cd doc:Value) (a:Addr) (vs:List Value) (ns:List Int),
   Ground q loose [] XP w s₀ mg mb s₁.heap->YP w s₁.heap ->
   s₁.heap.get? fa=some o->o.data = .func (docDef d.name d.params d.body d.scope pm cd doc)->s₁.heap.CodeRec cd d.name->mg d.name=some (.ref fa) ->
   s₁.heap.get? a=some { cls:=.type "list",data:=.seq vs.toArray }->IntsAre vs ns->ns.length<=n->s₁.gens = #[] ->
   Qi (model l.prog w) callerA (.call (.ref fa) ⟨[.ref a],[]⟩) (λr s'=>r = .ok (.ret (.bool true))/\OldK s₁.heap s'.heap/\s'.os=s₁.os/\AllBare s'.gens) s₁) :
  WalkO q loose XP YP l.row.toRowW d [] (λf vs=>PySem.call f vs):=by
 intro w s₀ s₁ mg mb G Y fa o pm cd doc dV kV ho hd fu hD jL hg args vals as qH hlay hrd uh hlo;obtain rfl:dV = .none:=Dflts.none hD lH;obtain rfl:kV = .none:=Dflts.noKw hD;obtain⟨a,vs,ns,rfl,rfl,oI,hints,hlen⟩:=Hb hn qH uh;refine enter_call (QU (call w s₀ s₁ mg mb fa o pm cd doc a vs ns G Y ho (fd_plain hd) fu jL oI hints hlen hg) λr s' hq=>?_);obtain⟨rfl,h2,h3,h4⟩:=hq;exact⟨.inl ⟨.bool true,.bool true,[],rfl,λ_=>rfl,.bool true,Hd l _,λ_=>⟨List.Pairwise.nil,λ_ hm=>(nomatch hm)⟩⟩,h2,h3,h4⟩
section
variable {prog:Wj} {w:Wm} {A:Wn} {E:Value->W1->Prop} {s:W1} {K:Frag}
end
end Att
namespace L2
open PySem PySem.Spec PyProof.Rows
theorem oJ:∀ {vs:List Value} {ns:List Int},IntsAre vs ns->Vals (ns.map V.int) vs
 | _,_,.nil=>.nil
 | _,_,.cons n t h=>.cons ⟨t,rfl⟩ (oJ h)
def ui(H:Hp):Prop:=∀ b,H b=none\/∃ o xs,H b=some (.frz o (.lst xs))
theorem He{P:Wj}{w:Wm}{K:W2}{mg mb:Str->Option Value}{CX:iM}{k:Nat}{fa a:Addr}{fd:WQ}{x:Str}{sp:Sp}{s₁:W1}{vs:List Value}{ns:List Int}
  (KX:K.In s₁.heap) (kE:s₁.heap.Ns Wt mg) (hb:s₁.heap.Ns builtinsNs mb) (uj:∀ x:Str,x≠"__name__"->mb x=Qs x) (uk:s₁.heap.NoLimit) (hg:s₁.gens = #[])
  (ha:s₁.heap.get? a=some { cls:=.type "list",data:=.seq vs.toArray }) (hi:IntsAre vs ns) (hl:ns.length<=W8) (hr:bP k callerA)
  (F:∀ base:Heap,K.In base->base.Ns Wt mg->fK P w K mg base CX k fa fd [x] sp) (um:∀ (s:W1) (u:Value),BindsTo s fd ⟨[u],[]⟩ [(x,u)])
  (iO:∀ H:Hp,ui H->bS K H a (ns.map V.int)->sp [.ref a] H (λv _=>v = .bl true) λ_ _ _=>False)
  (uo:∀ H e s',CX [] H s₁ (λ_ _ _=>False) e s'->False) :
  Qi (model P w) callerA (.call (.ref fa) ⟨[.ref a],[]⟩) (λr s'=>r = .ok (.ret (.bool true))/\OldK s₁.heap s'.heap/\s'.os=s₁.os/\AllBare s'.gens) s₁:=by
 have rv:=oJ hi;have zV:=hi.length;-- from an abstract heap in which nothing but the script may be tracked
 have core:∀ H:Hp,ui H->bS K H a (ns.map V.int)->bK P w H s₁.heap->(∀ b,H b≠none->b=a)->(H a≠none->K.lookup a=none) ->
   Qi (model P w) callerA (.call (.ref fa) ⟨[.ref a],[]⟩) (λr s'=>r = .ok (.ret (.bool true))/\OldK s₁.heap s'.heap/\s'.os=s₁.os/\AllBare s'.gens) s₁:=by
  intro H hO hS aj hA hK;have mR:∀ {b:Addr} {o:Obj},s₁.heap.get? b=some o->H b=none->(fF s₁.heap H).get? b=some o:=λe n=>yG e n
  have iN:∀ {b:Addr} {o:Obj} {es:Array DictEntry} {ep:Nat},s₁.heap.get? b=some o->o.data = .dict es ep->H b=none:=λ{b o es ep} e d=>by
   cases q:H b with
   | none=>rfl
   | some u =>
    have e':b=a:=hA b (by rw[q]; simp);subst e';rw[ha] at e; cases e
    have d':Data.seq vs.toArray _=Data.dict es ep:=d
    cases d'
  have jM:∀ {b:Addr} {m:Str->Option Value},s₁.heap.Ns b m->(fF s₁.heap H).Ns b m:=λ{b m} ⟨o,es,ep,e,d,r⟩=>⟨o,es,ep,mR e (iN e d),d,r⟩
  have oK:K.In (fF s₁.heap H):=λb o e=>mR (KX b o e) (by
   cases q:H b with
   | none=>rfl
   | some u =>
    have e':b=a:=hA b (by rw[q]; simp);subst e';rw[hK (by rw[q]; simp)] at e; cases e)
  have hM:Mod K mg (fF s₁.heap H):=⟨oK,jM kE,⟨mb,jM hb,uj⟩,let ⟨mc,h1,h2⟩:=uk; ⟨mc,jM h1,h2⟩⟩
  have e0:lC P w K mg (fF s₁.heap H) callerA [] s₁ H:=⟨rfl,hM,λb o e=>yH e,Nat.le_of_eq (yF _ _),trivial,λb hb=>absurd (show b ∈ ([]:List Addr) from hb) (by simp),aj,.of_eq hg⟩
  refine QU ((F _ oK (jM kE)).run callerA [] s₁ H ⟨[.ref a],[]⟩ [.ref a] [.ref a] _ _ hr e0 (um s₁ (.ref a)) (.cons rfl .nil) (iO H hO hS)) λr s' h=>?_
  cases r with
  | error e=>exact(uo H e s' h).elim
  | ok fl =>
   cases fl with
   | next=>exact False.elim h
   | brk=>exact False.elim h
   | cont=>exact False.elim h
   | ret u =>
    obtain⟨v,H',os,bare,un,hok',r',q⟩:=h;have q':v = .bl true:=q;subst q';obtain rfl:u=Value.bool true:=r';refine⟨rfl,OldK.of_keep λb o e=>?_,os,bare⟩
    cases q:H b with
    | none=>exact un.keep b o e q (by intro z; exact absurd (show b ∈ ([]:List Addr) from z) (by simp)) (by simp)
    | some u =>
     rcases hO b with z | ⟨ob,xs,z⟩
     ·rw[q] at z; cases z
     ·have z2:=un.iI b ob _ z;obtain⟨e1,_⟩:=aj b _ z;obtain⟨e2,_⟩:=hok' b _ z2;rw[e] at e1; cases e1
      exact e2
 cases hk:K.lookup a with
 | some o =>
  -- the script is one of the module's own objects
  have e:=KX a o hk;rw[ha] at e
  cases e;refine core (λ_=>none) (λ_=>.inl rfl) (.inr ⟨_,vs.toArray,_,hk,rfl,rfl,rfl,by rw[Wo,zV]; exact hl,by simpa using rv⟩) (λb u z=>by have z':(none:Option HO)=some u:=z; cases z') (λb z=>absurd rfl z) λz=>absurd rfl z
 | none =>
  refine core (λb=>if b=a then some (.frz { cls:=.type "list",data:=.seq vs.toArray } (.lst (ns.map V.int))) else none) (λb=>?_) (.inl (.inr ⟨{ cls:=.type "list",data:=.seq vs.toArray },if_pos rfl⟩)) (λb u z=>?_) (λb z=>?_) λ_=>hk
  ·by_cases hb:b=a
   ·exact .inr ⟨_,_,if_pos hb⟩
   ·exact .inl (if_neg hb)
  ·by_cases hb:b=a
   ·have z':=(if_pos hb).symm.trans z
    cases z';subst hb;exact⟨ha,by rw[Wq]; exact hl,vs,_,rv,ha⟩
   ·have z':=(if_neg hb).symm.trans z
    cases z'
  ·by_cases hb:b=a
   ·exact hb
   ·exact absurd (if_neg hb) z
abbrev R1{K:W2}{h:Heap}(_:K.In h):W2:=K
theorem Hf{l:U7}{n k:Nat}{q:Wj}{loose:List Str}{XP:(Str->Option Value)->Heap->Prop}{YP:Wm->Heap->Prop}{d:DefRec}{K:Params->W2}{CX:Wm->iM}{sp:Wm->Sp}{x:Str}
  (hn:l.most=some n) (Hg:n<=W8) (lH:d.params.defaults=[]) (hr:bP k callerA)
  (hY:∀ (w:Wm) (h:Heap),YP w h->(K w.params).In h)
  (F:∀ (w:Wm) (mg:Str->Option Value) (fa:Addr) (h:Heap),(K w.params).In h->h.Ns Wt mg->mg d.name=some (.ref fa) ->
   ∃ fd:WQ,(∀ (s:W1) (u:Value),BindsTo s fd ⟨[u],[]⟩ [(x,u)]) /\
    ∀ base:Heap,(K w.params).In base->base.Ns Wt mg->fK l.prog w (K w.params) mg base (CX w) k fa fd [x] (sp w))
  (iO:∀ (w:Wm) (H:Hp) (a:Addr) (ns:List Int),ns.length<=n->ui H->bS (K w.params) H a (ns.map V.int)->sp w [.ref a] H (λv _=>v = .bl true) λ_ _ _=>False)
  (uo:∀ (w:Wm) (H:Hp) (s:W1) (e:Value) (s':W1),CX w [] H s (λ_ _ _=>False) e s'->False) :
  PySem.W.WalkO q loose XP YP l.row.toRowW d [] (λf vs=>PySem.call f vs):=by
 refine Att.zU hn lH λw s₀ s₁ mg mb fa o pm cd doc a vs ns G Y ho hd fu jL oI hints hlen hg=>?_
 have KX:=hY w _ Y;obtain⟨fd,hb,hF⟩:=F w mg fa _ KX G.T.g jL;exact He KX G.T.g G.T.b G.T.builtins G.T.nolimit hg oI hints (WP hlen Hg) hr hF hb (λH hO hS=>iO w H a ns hlen hO hS) λH e s'=>uo w H s₁ e s'
def fX(s:Stmt):Arguments:=match s with
 | .FunctionDef _ a _ _ _ _ _ _ _ _=>a
 | _=>{ posonlyargs:=[],args:=[],vararg:=none,kwonlyargs:=[],kw_defaults:=[],kwarg:=none,defaults:=[] }
def du(s:Stmt):List Stmt:=match s with
 | .FunctionDef _ _ b _ _ _ _ _ _ _=>b
 | _=>[]
def aV(s:Stmt):Scope:=match s with
 | .FunctionDef _ _ _ _ _ _ sc _ _ _=>sc
 | _=>{ kind:=.function,names:=[],isGenerator:=false,isCoroutine:=false }
abbrev cG:iM:=λ_ _ _ _ _ _=>False
abbrev E0:XK:=λ_ _ _=>False
theorem uq:tV cG X E0:=λ_ _ _ _ _ _ _ h=>h.elim
structure bM(K:W2)(x qual:Str)(st:Stmt)(f:Addr)(fd:WQ):Prop where
 ex:∃ (oc:Value) (od:Option Addr) (kV doc pm:Value) (an:Option Addr) (aB ct:Value) (dD:Array (Option Value)),
  fd=Q4 x qual (fX st) (du st) (aV st) .none kV doc pm an aB ct/\K.lookup f=some ⟨oc,od,.func fd,dD⟩/\PySem.W.codeIn K aB qual=true
 kp:QA K (.ref f)=true
section
variable {P:Wj} {w:Wm} {K:W2} {mg:Str->Option Value} {base:Heap}
theorem bM.ok{x qual:Str}{st:Stmt}{f:Addr}{fd:WQ}{N ps:List Str}{k:Nat}{sp:Sp}(F:bM K x qual st f fd)(S:cj N ps (aV st))(len:∀ vs H Q E,sp vs H Q E->vs.length=ps.length)
  (dE:∀ (aB:Value) (A:Wn) (outer:List Env) (s:W1) (H:Hp) (vs:List V) (Q:VK) (E:XK),bP k (A.deeper (J8 qual (aV st) s.heap.objs.size f aB))->sp vs H Q E ->
   ∃ t,dq (eZ cG P w K mg base N qual (aV st) f aB A outer s H E).fH (du st) t/\t { nx:=λ_ H'=>Q .ay H',rt:=Q } (eX N vs) H):fK P w K mg base cG (k + 1) f fd ps sp:=by
 obtain⟨oc,od,kV,doc,pm,an,aB,ct,dD,rfl,lk,fu⟩:=F.ex;refine zq lk fu S len λA outer s H vs Q E hr iO=>?_
 obtain⟨t,h,q⟩:=dE aB A outer s H vs Q E hr iO;exact⟨t,h.fH,q⟩
theorem bM.binds{x qual:Str}{st:Stmt}{f:Addr}{fd:WQ}{ps:List Str}(F:bM K x qual st f fd)
  (h:∀ (kV doc pm:Value) (an:Option Addr) (aB ct:Value) (us:List Value),us.length=ps.length->bindArgs (Q4 x qual (fX st) (du st) (aV st) .none kV doc pm an aB ct) ⟨us,[]⟩=pure (ps.zip us)):Binds K fd ps []:=by
 obtain⟨oc,od,kV,doc,pm,an,aB,ct,dD,rfl,lk,fu⟩:=F.ex;exact .all (h kV doc pm an aB ct)
theorem ur{x qual:Str}{st:Stmt}{f:Addr}{oc:Value}{od an:Option Addr}{dD:Array (Option Value)}{kV doc pm aB ct:Value}(l:K.lookup f=some ⟨oc,od,.func (Q4 x qual (fX st) (du st) (aV st) .none kV doc pm an aB ct),dD⟩)
  (c:PySem.W.codeIn K aB qual=true) (k:QA K (.ref f)=true):bM K x qual st f (Q4 x qual (fX st) (du st) (aV st) .none kV doc pm an aB ct):=⟨⟨oc,od,kV,doc,pm,an,aB,ct,dD,rfl,l,c⟩,k⟩
end
theorem Hh(h:n<=1000):n < W8:=Nat.lt_of_le_of_lt h (by decide)
section
variable {X:Cx}
theorem pv (i:Nat) (hN:X.N[i]? = some x:=by rfl) (hv:qo X.env.scope x:=by first | exact Or.inl rfl | exact Or.inr (Or.inl rfl) | exact Or.inr (Or.inr rfl)) (hd:(x == ("__debug__" : Str))=false:=by decide)
  (fu:(x == ("__classdict__" : Str))=false:=by decide):PE X (.Name x pos) (de i):=EI hN hv hd fu
theorem Hi:dg X (.builtin "len") (λxs H Q=>∃ a kvs,xs=[V.ref a]/\H a=some (.dK kvs)/\Q (.int kvs.length) H):=by
 intro pins s σ H xs us Q I r h;obtain⟨a,kvs,rfl,ha,q⟩:=h;obtain⟨u,rfl,ru⟩:=fJ r
 cases ru;exact GX I (.inl ha) λt s' I'=>⟨.int kvs.length,H,I',⟨t,rfl⟩,q⟩
end
section
variable {κ:Type} [DecidableEq κ]
end
def e8(cells:List (Str×Addr)):List (Str×NameKind)->List (Str×Addr)->List (Str×Addr)
 | [],acc=>acc
 | (n,k) :: r,acc=>e8 cells r (if k == .free then(match cells.lookup n with | some a=>(n,a) :: acc | none=>acc) else acc)
theorem uu(f:Str×NameKind->List (Str×Addr)->Sem (ForInStep (List (Str×Addr))))
  (hf:∀ name kind cs,f (name,kind) cs=if kind == .free then(do let a <- cellOf env name; pure (.yield ((name,a) :: cs))) else pure (.yield cs)) :
  ∀ (names:List (Str×NameKind)) (acc:List (Str×Addr)),(∀ x ∈ names,x.2=NameKind.free->∃ c,env.cells.lookup x.1=some c)->(forIn names acc f:Sem (List (Str×Addr)))=pure (e8 env.cells names acc)
 | [],acc,_=>by rw[List.forIn_nil]; rfl
 | (n,k) :: r,acc,h=>by
  rw[List.forIn_cons,hf];unfold e8;by_cases hk:(k == NameKind.free)=true
  ·obtain⟨c,hc⟩:=h (n,k) Wi (by simpa using hk);have gB:env.cells.lookup n=some c:=hc;have e:cellOf env n=pure c:=by unfold cellOf; rw[gB]
   rw[if_pos hk,if_pos hk,e,gB];exact uu f hf r _ λx hx=>h x (Wg _ hx)
  ·rw[if_neg hk,if_neg hk];exact uu f hf r _ λx hx=>h x (Wg _ hx)
theorem Hj(h:∀ x ∈ scope.names,x.2=NameKind.free->∃ c,env.cells.lookup x.1=some c):closureFor scope env=pure (e8 env.cells scope.names []):=by
 unfold closureFor;dsimp only;rw[uu (env:=env) _ (λname kind cs=>by cases hkc:kind == NameKind.free <;> simp[hkc]) scope.names [] h];rfl
theorem zW:∀ (names:List (Str×NameKind)) (acc:List (Str×Addr)),(n,c) ∈ e8 cells names acc->(n,c) ∈ acc\/((n,NameKind.free) ∈ names/\cells.lookup n=some c)
 | [],acc,h=>.inl h
 | (y,k) :: r,acc,h=>by
  unfold e8 at h;rcases zW r _ h with q | ⟨q,e⟩
  ·by_cases hk:(k == NameKind.free)=true
   ·rw[if_pos hk] at q;have lJ:k=NameKind.free:=by simpa using hk
    cases e:cells.lookup y with
    | none=>rw[e] at q; exact .inl q
    | some a =>
     rw[e] at q;rcases Wl.mp q with z | z
     ·cases z;exact .inr ⟨by rw[lJ]; exact Wi,e⟩
     ·exact .inl z
   ·rw[if_neg hk] at q; exact .inl q
  ·exact .inr ⟨Wg _ q,e⟩
theorem zX:∀ (names:List (Str×NameKind)) (acc:List (Str×Addr)),(acc.lookup n).isSome=true\/((n,NameKind.free) ∈ names/\(cells.lookup n).isSome=true)->((e8 cells names acc).lookup n).isSome=true
 | [],acc,h=>h.elim id λz=>absurd z.1 (by simp)
 | (y,k) :: r,acc,h=>by
  unfold e8;apply zX r;by_cases hk:(k == NameKind.free)=true
  ·rw[if_pos hk]
   cases e:cells.lookup y with
   | none =>
    rcases h with h | ⟨h1,h2⟩
    ·exact .inl h
    ·rcases Wl.mp h1 with z | z
     ·cases z;rw[e] at h2; cases h2
     ·exact .inr ⟨z,h2⟩
   | some a =>
    by_cases hn:(n == y)=true
    ·refine .inl ?_;show(List.lookup n ((y,a) :: acc)).isSome=true;rw[Ql,hn];rfl
    ·rcases h with h | ⟨h1,h2⟩
     ·refine .inl ?_;show(List.lookup n ((y,a) :: acc)).isSome=true;have tw:(n == y)=false:=by simpa using hn
      rw[Ql,tw];exact h
     ·rcases Wl.mp h1 with z | z
      ·cases z;exact absurd (by simp) hn
      ·exact .inr ⟨z,h2⟩
  ·rw[if_neg hk];rcases h with h | ⟨h1,h2⟩
   ·exact .inl h
   ·rcases Wl.mp h1 with z | z
    ·cases z;exact absurd rfl hk
    ·exact .inr ⟨z,h2⟩
theorem uv:∀ (names:List (Str×NameKind)) (h:Heap) (acc:List (Str×Addr)),(n,c) ∈ Qv h.objs.size names acc ->
  (n,c) ∈ acc\/((n,NameKind.cell) ∈ names/\h.objs.size<=c/\(JK h names).IsCell c none)
 | [],_,_,h=>.inl h
 | (y,k) :: r,h,acc,hm=>by
  unfold Qv at hm;unfold JK;by_cases hk:(k == NameKind.cell)=true
  ·rw[if_pos hk] at hm;rw[if_pos hk];have lJ:k=NameKind.cell:=by simpa using hk
   have sz:(h.push { cls:=.type "cell",data:=.cell none }).objs.size=h.objs.size + 1:=Qt ..;rw[<- sz] at hm;rcases uv r _ _ hm with q | ⟨q1,q2,q3⟩
   ·rcases Wl.mp q with z | z
    ·cases z;refine .inr ⟨by rw[lJ]; exact Wi,Wb _,?_⟩;exact Heap.IsCell.keeps ⟨_,Wh _ rfl,rfl⟩ (pushCells_keeps r _)
    ·exact .inl z
   ·exact .inr ⟨Wg _ q1,by rw[sz] at q2; omega,q3⟩
  ·rw[if_neg hk] at hm;rw[if_neg hk];rcases uv r _ _ hm with q | ⟨q1,q2,q3⟩
   ·exact .inl q
   ·exact .inr ⟨Wg _ q1,q2,q3⟩
theorem uw:∀ (names:List (Str×NameKind)) (k:Nat) (acc:List (Str×Addr)),(∀ n n' c,(n,c) ∈ acc->(n',c) ∈ acc->n=n')->(∀ n c,(n,c) ∈ acc->c < k) ->
  ∀ n n' c,(n,c) ∈ Qv k names acc->(n',c) ∈ Qv k names acc->n=n'
 | [],_,_,h,_=>h
 | (y,kd) :: r,k,acc,h,hb=>by
  unfold Qv;by_cases hk:(kd == NameKind.cell)=true
  ·rw[if_pos hk];refine uw r (k + 1) _ (λn n' c h1 h2=>?_) λn c hm=>?_
   ·rcases Wl.mp h1 with e | h1 <;> rcases Wl.mp h2 with e' | h2
    ·cases e; cases e'; rfl
    ·cases e; exact absurd (hb _ _ h2) (Qd _)
    ·cases e'; exact absurd (hb _ _ h1) (Qd _)
    ·exact h n n' c h1 h2
   ·rcases Wl.mp hm with e | hm
    ·cases e; exact U2 _
    ·exact Qn (hb _ _ hm)
  ·rw[if_neg hk];exact uw r k acc h hb
theorem lK{env:Env}{x:Str}:∀ {names:List (Str×NameKind)} {k:NameKind},
  (names.map λ(y:Str×NameKind)=>if (y.2 == NameKind.free && env.scope.kind == .function && env.kindOf y.1 == some .cell) then(y.1,NameKind.cell) else(y.1,y.2)).lookup x=some k ->
  names.lookup x=some k\/(k=NameKind.cell/\names.lookup x=some .free)
 | [],_,h=>by simp at h
 | (n,kd) :: r,k,h=>by
  rw[Wc] at h;have ih:=@lK env x r k
  cases hx:x == n with
  | true =>
   by_cases hc:(kd == NameKind.free && env.scope.kind == .function && env.kindOf n == some .cell)=true
   ·rw[if_pos hc,Ql,hx] at h
    cases h;simp only[Ws] at hc;have:kd=NameKind.free:=by simpa using hc.1.1
    exact .inr ⟨rfl,by rw[Ql,hx,this]⟩
   ·rw[if_neg hc,Ql,hx] at h
    cases h;exact .inl (by rw[Ql,hx])
  | false =>
   have h':(r.map λ(y:Str×NameKind)=>if (y.2 == NameKind.free && env.scope.kind == .function && env.kindOf y.1 == some .cell) then(y.1,NameKind.cell) else(y.1,y.2)).lookup x=some k:=by
    by_cases hc:(kd == NameKind.free && env.scope.kind == .function && env.kindOf n == some .cell)=true
    ·rw[if_pos hc,Ql,hx] at h; exact h
    ·rw[if_neg hc,Ql,hx] at h; exact h
   rw[Ql,hx];exact ih h'
def gF(X:Cx)(scope:Scope)(s₀:W1)(H₀:Hp)(ex:List Addr):Cx :=
 { X with
  env:={ scope:=relabel scope X.env,locals:=s₀.heap.objs.size,globals:=X.env.globals,cells:=Qv (s₀.heap.objs.size + 1) scope.names (e8 X.env.cells scope.names []),qual:=X.env.qual,func:=none,code:=X.env.code,frame:=X.env.frame,builtins:=X.env.builtins }
  s₀:=s₀
  H₀:=H₀
  outer:=X.stack
  ex:=ex
  fn:=λx=>scope.names.lookup x == some .cell
  pn:=[]
  xe:=λ_ _=>False }
structure oM(X:Cx)(scope:Scope)(cs:List Nat):Prop where
 kind:scope.kind = .function
 names:∀ x ∈ scope.names,x.2 = .local->scope.names.lookup x.1=some .local
 free:∀ x ∈ scope.names,x.2 = .free->X.env.kindOf x.1=some .cell\/X.env.kindOf x.1=some .free
 nd:(scope.names.map (·.1)).Nodup
 own:∀ (i:Nat) x,X.N[i]? = some x->scope.names.lookup x=some .local\/scope.names.lookup x=some .cell->i ∈ cs
def bo(cs:List Nat)(σ:St):St:=cs.foldl (λσ i=>σ.set i none) σ
theorem qI(cs:List Nat):∀ σ:St,(bo cs σ).length=σ.length:=by
 induction cs with
 | nil=>intro σ; rfl
 | cons i r ih =>
  intro σ;show(bo r (σ.set i none)).length=_;rw[ih]; simp
theorem kF:∀ (cs:List Nat) (σ:St) (i:Nat) (v:V),(bo cs σ)[i]? = some (some v)->σ[i]? = some (some v)/\i ∉ cs:=by
 intro cs;induction cs with
 | nil=>intro σ i v h; exact⟨h,by simp⟩
 | cons j r ih =>
  intro σ i v h;have h':(bo r (σ.set j none))[i]? = some (some v):=h;obtain⟨h1,h2⟩:=ih _ i v h';by_cases e:j=i
  ·subst e;rw[Q5] at h1;simp at h1
  ·rw[W9 e] at h1;exact⟨h1,by simp only[Wl,not_or]; exact⟨Ne.symm e,h2⟩⟩
theorem ux:∀ {l:List (Str×α)},(l.map (·.1)).Nodup->(x,k) ∈ l->(x,k') ∈ l->k=k'
 | (y,j) :: r,nd,h1,h2=>by
  rw[Wc,Q2] at nd;rcases Wl.mp h1 with e | g1 <;> rcases Wl.mp h2 with e' | g2
  ·cases e; cases e'; rfl
  ·cases e; exact absurd (WU (f:=(·.1)) g2) nd.1
  ·cases e'; exact absurd (WU (f:=(·.1)) g1) nd.1
  ·exact ux nd.2 g1 g2
section
variable {X:Cx} {pins:List (Addr×Obj)} {σ:St} {H:Hp} {s:W1} {scope:Scope} {cs:List Nat} {fp:List Addr}
theorem Hk(I:Inv X pins σ H s)(S:oM X scope cs)(hf:∀ b ∈ fp,eV X pins H b)(aQ:∀ b ∈ fp,b < s.heap.objs.size) :
  Inv (gF X scope s H fp) [] (bo cs σ) H { s with heap:=JK (s.heap.push { cls:=.type "dict",data:=.dict #[] }) scope.names }:=by
 have sz:(s.heap.push { cls:=.type "dict",data:=.dict #[] }).objs.size=s.heap.objs.size + 1:=Qt ..;have kp:∀ b o,s.heap.get? b=some o->(JK (s.heap.push { cls:=.type "dict",data:=.dict #[] }) scope.names).get? b=some o:=λb o e=>pushCells_keeps _ _ b o (W4 _ e)
 have qJ:∀ n c,(n,c) ∈ e8 X.env.cells scope.names []->(n,NameKind.free) ∈ scope.names/\X.env.cells.lookup n=some c:=λn c h=>(zW _ _ h).elim (λz=>absurd z (by simp)) id
 have Hl:∀ n c,(n,c) ∈ e8 X.env.cells scope.names []->c < s.heap.objs.size:=λn c h=>by
  obtain⟨v,q⟩:=I.cell n c (qJ n c h).2;exact q.lt
 have mS:∀ n c,(n,c) ∈ Qv (s.heap.objs.size + 1) scope.names (e8 X.env.cells scope.names []) ->
   ((n,NameKind.free) ∈ scope.names/\X.env.cells.lookup n=some c)\/((n,NameKind.cell) ∈ scope.names/\s.heap.objs.size + 1<=c/\(JK (s.heap.push { cls:=.type "dict",data:=.dict #[] }) scope.names).IsCell c none):=λn c h=>by
  rw[<- sz] at h;rcases uv _ _ _ h with q | q
  ·exact .inl (qJ n c q)
  ·rw[sz] at q; exact .inr q
 have Hm:=uw scope.names (s.heap.objs.size + 1) (e8 X.env.cells scope.names []) (λn n' c h1 h2=>I.ok.inj n n' c (qJ n c h1).2 (qJ n' c h2).2) (λn c h=>Qn (Hl n c h));have uy:∀ x ∈ scope.names,x.2 = .free->∃ c,X.env.cells.lookup x.1=some c:=λx hx hk=>I.ok.has x.1 (S.free x hx hk)
 have Ho:∀ b ∈ fp,b ∉ fq X.stack:=λb hb z=>by
  obtain⟨_,f1,f2,_⟩:=hf b hb;rcases Wl.mp (I.oq b z) with e | e
  ·exact f1 e
  ·exact f2 e
 have Hq:∀ x,(gF X scope s H fp).env.kindOf x=some .cell\/(gF X scope s H fp).env.kindOf x=some .free->scope.names.lookup x=some .cell\/scope.names.lookup x=some .free:=λx h=>by
  rcases h with h | h
  ·have h':(relabel scope X.env).names.lookup x=some .cell:=h;rcases lK (env:=X.env) (names:=scope.names) h' with q | ⟨_,q⟩
   ·exact .inl q
   ·exact .inr q
  ·have h':(relabel scope X.env).names.lookup x=some .free:=h;rcases lK (env:=X.env) (names:=scope.names) h' with q | ⟨q,_⟩
   ·exact .inr q
   ·cases q
 have zY:∀ x,scope.names.lookup x=some .cell\/scope.names.lookup x=some .free->∃ c,(Qv (s.heap.objs.size + 1) scope.names (e8 X.env.cells scope.names [])).lookup x=some c:=λx h=>by
  refine Option.isSome_iff_exists.mp (Jn scope.names _ _ ?_);rcases h with h | h
  ·exact .inl h
  ·refine .inr (zX _ _ (.inr ⟨Ww h,?_⟩));obtain⟨c,hc⟩:=uy _ (Ww h) rfl;exact Option.isSome_iff_exists.mpr ⟨c,hc⟩
 have Hr:(JK (s.heap.push { cls:=.type "dict",data:=.dict #[] }) scope.names).Ns s.heap.objs.size λ_=>none:=(Heap.Ns.new s.heap (.type "dict")).keeps (pushCells_keeps _ _)
 refine⟨⟨I.ok.mod,S.kind,I.ok.glob,I.ok.blt,Wb _,λy z c h1 h2=>Hm y z c (Ww h1) (Ww h2),λx hx=>zY x (Hq x hx),λx c iJ h=>?_,I.ok.hd,I.ok.frames,.inl rfl,
  λb hb=>⟨Wr (aQ b hb),λx c h e=>?_⟩,I.bs,WP I.ok.jI I.sz,λb o e hb=>?_,Ho,I.stack,I.yJ⟩,
  rfl,I.bare,Un.kept kp,⟨λ_=>none,Hr,λi x v h1 h2 h3=>?_⟩,λx c h=>?_,I.aj.fresh (Wb _),λx c h=>?_,λp hp=>absurd (show p ∈ ([]:List (Addr×Obj)) from hp) (by simp),I.aj.kept kp,(qI cs σ).trans I.len⟩
 ·rcases mS x c (Ww h) with q | q
  ·have Ht:scope.names.lookup x=some .cell:=by
    have:(scope.names.lookup x == some .cell)=true:=iJ;exact eq_of_beq this
   have:=ux S.nd q.1 (Ww Ht)
   cases this
  ·exact Nat.le_of_succ_le q.2.1
 ·subst e;rcases mS x c (Ww h) with q | q
  ·exact(hf c hb).2.2.2.2.1 x c q.2 rfl
  ·exact absurd (WA (aQ c hb) (Nat.le_of_succ_le q.2.1)) (Qd _)
 ·obtain⟨_,_,_,f3,_⟩:=hf b hb;rcases f3 with z | z
  ·exact I.ok.oj b o e z
  ·exact absurd (WA (Wk (I.ok.bs b o e).1) z) (Qd _)
 ·obtain⟨h2',hni⟩:=kF cs σ i v h2;have zZ:¬ (scope.names.lookup x=some .local\/scope.names.lookup x=some .cell):=λz=>hni (S.own i x h1 z)
  have lx:scope.names.lookup x=some .free:=by
   rcases h3 with h3 | h3 | h3
   ·rcases lK (env:=X.env) (names:=scope.names) h3 with q | ⟨q,_⟩
    ·exact absurd (.inl q) zZ
    ·cases q
   ·rcases lK (env:=X.env) (names:=scope.names) h3 with q | ⟨_,q⟩
    ·exact absurd (.inr q) zZ
    ·exact q
   ·rcases lK (env:=X.env) (names:=scope.names) h3 with q | ⟨q,_⟩
    ·exact q
    ·cases q
  have hk:=S.free _ (Ww lx) rfl;obtain⟨m,hn,hl⟩:=I.loc;have Hu:qo X.env.scope x:=by
   rcases hk with hk | hk
   ·exact .inr (.inl hk)
   ·exact .inr (.inr hk)
  obtain⟨u,r,l⟩:=hl i x v h1 h2' Hu;refine⟨u,r,?_⟩;rcases l with ⟨k,_⟩ | ⟨_,c,hc,hcell⟩
  ·have k':X.env.kindOf x=some .local:=k;rcases hk with hk | hk
   ·rw[show X.env.kindOf x=some .cell from hk] at k'; cases k'
   ·rw[show X.env.kindOf x=some .free from hk] at k'; cases k'
  ·obtain⟨c',gB⟩:=zY x (.inr lx);have e:c'=c:=by
    rcases mS x c' (Ww gB) with q | q
    ·have q2:=q.2;rw[hc] at q2; exact(Wx q2).symm
    ·have:=ux S.nd q.1 (Ww lx)
     cases this
   subst e;refine .inr ⟨?_,c',gB,hcell.keeps kp⟩;rcases h3 with h3 | h3 | h3
   ·rcases lK (env:=X.env) (names:=scope.names) h3 with q | ⟨q,_⟩
    ·rw[lx] at q; cases q
    ·cases q
   ·exact .inl h3
   ·exact .inr h3
 ·rcases mS x c (Ww h) with q | q
  ·obtain⟨v,z⟩:=I.cell x c q.2;exact⟨v,z.keeps kp⟩
  ·exact⟨none,q.2.2⟩
 ·rcases mS x c (Ww h) with q | q
  ·exact I.gA x c q.2
  ·exact I.aj.fresh (Nat.le_of_succ_le q.2.1)
end
abbrev jN:Value->W1->Prop:=λ_ _=>False
def z0(ifs:List Expr)(env:Env):Sem Bool:=forIn ifs true λc r=>if r=true then do let ok <- isTrue c env (eval c env); pure (ForInStep.yield ok) else pure (ForInStep.yield r)
theorem Hv(I:Nat->W1->Prop)
  (turn:∀ n s,I n s->W6 (model prog w) A (Qh it) (λr s₁=>match r with
   | none=>R (.ok .next) s₁
   | some v=>W6 (model prog w) A (letOwnedTupleGo target it v) (λ_ z5=>W6 (model prog w) A (assign target env v) (λ_ s₂ =>
     W6 (model prog w) A (z0 ifs env) (λok s₃ =>
      if ok=true then W6 (model prog w) A (eval elt env) (λx s₄ =>
       W6 (model prog w) A (call (.builtin "list.append") [acc,x]) (λ_ s₅=>∃ m,m < n/\I m s₅) jN s₄) jN s₃
      else ∃ m,m < n/\I m s₃) jN s₂) jN z5) jN s₁) jN s)
  (n:Nat) (h:I n s) :
  Qi (model prog w) A (.compLoop (.ListComp elt [⟨target,iter,ifs,0⟩] scope pos) 0 it acc env) R s:=by
 refine codeAny_loop rfl I (λn s hI=>?_) n h;show W6 _ A ((compTurn (.ListComp elt [⟨target,iter,ifs,0⟩] scope pos) 0 it acc env).onRaise (λx=>do noteFrame x env; theTreesLotGoes x)) _ _ s;refine wpAny_noted ?_;rw[compTurn_list];refine W0 (wpAny_standAt (W0 (WN (turn n s hI) (λr s₁ h₁=>?_) λ_ _ h'=>h'.elim)))
 cases r with
 | none=>exact W3 h₁
 | some v =>
  refine W0 (WN h₁ (λ_ z5 Hw=>?_) λ_ _ h'=>h'.elim);refine W0 (WN Hw (λ_ s₂ h₂=>W0 (WN h₂ (λok s₃ h₃=>?_) λ_ _ h'=>h'.elim)) λ_ _ h'=>h'.elim)
  cases ok with
  | false=>exact W3 ⟨rfl,h₃⟩
  | true =>
   exact W0 (W0 (WN h₃ (λx s₄ h₄=>W0 (WN h₄ (λ_ s₅ h₅=>W3 (W3 ⟨rfl,h₅⟩)) λ_ _ h'=>h'.elim)) λ_ _ h'=>h'.elim))
theorem Hx
  (h:Q { scope,locals:=s.heap.objs.size,globals,cells:=Qv (s.heap.objs.size + 1) scope.names cl,qual,func:=none,code:=env.code,frame:=env.frame,builtins:=env.builtins }
   { s with heap:=JK (s.heap.push { cls:=.type "dict",data:=.dict #[] }) scope.names }):W6 M A (newFunctionEnv scope globals cl [] qual none .none (some env)) Q E s:=by
 simp only[newFunctionEnv,Option.isSome_some,if_true];refine W0 (wpAny_alloc ?_);refine W0 (wpAny_layCells _ (λname kind cells=>by cases hkc:kind == NameKind.cell <;> simp[hkc]) _ _ _ _ ?_);rw[show({ s with heap:=s.heap.push { cls:=.type "dict",data:=.dict #[] } }:W1).heap.objs.size=s.heap.objs.size + 1 from Qt ..];exact W0 (W3 (W3 h))
def oN(X:Cx)(ifs:List Expr)(t:TT):Prop :=
 ∀ (pins:List (Addr×Obj)) (s:W1) (σ:St) (H:Hp) (Q:Bool->Hp->Prop),Inv X pins σ H s->t σ H Q->W6 (model X.prog X.w) X.A (z0 ifs X.env) (TP X pins σ Q) X.xe s
def Hy:TT:=λ_ H Q=>Q true H
theorem Hz:oN X [] Hy:=λpins s σ H Q I h=>wpAny_tests_nil ⟨H,I,h⟩
theorem HA(h:PT X c t):oN X [c] t:=λpins s σ H Q I q=>wpAny_tests_one (h pins s σ H Q I q)
def Le(σ σ':St):Prop:=σ'.length=σ.length/\∀ (i:Nat) (v:V),σ[i]? = some (some v)->σ'[i]? = some (some v)
def z6(cs:List Nat)(g:TG)(tt:TT)(te:TE)(σ:St)(Q:VK)(J:It)(H1:Hp):Prop :=
 ∀ l,H1 l=none->∃ W:Nat->Nat->Hp->Prop,(∃ m,W 0 m (upd H1 l (.lst [])))/\∀ i m H2,W i m H2 ->
  (J.stop i H2/\Q (.ref l) H2) \/
  (J.go i H2/\∀ x H3,J.ou i H2 x H3->g x (bo cs σ) H3 λσ4 H4=>Le (bo cs σ) σ4/\tt σ4 H4 λb H5 =>
   if b=true then te σ4 H5 λv H6=>∃ ys m',H6 l=some (.lst ys)/\ys.length < W8/\m' < m/\W (i + 1) m' (upd H6 l (.lst (ys ++ [v]))) else ∃ m',m' < m/\W (i + 1) m' H5)
def z7(cs:List Nat)(wi:TI)(g:TG)(tt:TT)(te:TE):TE:=λσ H Q=>wi σ H λJ H1=>z6 cs g tt te σ Q J H1
section
variable {X:Cx} {pins:List (Addr×Obj)} {σ:St} {H:Hp} {s:W1} {scope:Scope} {cs:List Nat} {elt tg iter:Expr} {ifs:List Expr} {pos:Pos} {g:TG} {tt:TT} {te:TE}
theorem HB{it:Addr}{fp:List Addr}{tn:Nat->Heap->Prop}{J:It}{Q:VK}{E:Value->W1->Prop}{RR:Value->Addr->Result->W1->Prop}(hc:X.calm=true)(I:Inv X pins σ H s)(S:oM X scope cs)
  (T:Turn X.prog X.w X.K tg J fp it tn) (st:tn 0 s.heap) (hf:∀ b ∈ fp,eV X pins H b)
  (hg:∀ s₀ H₀ ex,PG (gF X scope s₀ H₀ ex) tg g) (ht:∀ s₀ H₀ ex,oN (gF X scope s₀ H₀ ex) ifs tt) (he:∀ s₀ H₀ ex,PE (gF X scope s₀ H₀ ex) elt te) (q:z6 cs g tt te σ Q J H)
  (HC:∀ l C s' H',Inv X pins σ H' s'->eV X pins H' C->(∃ m,s'.heap.Ns C m)->Q (.ref l) H'->RR (.ref l) C (.ok .next) s') :
  W6 (model X.prog X.w) X.A (newList []) (λacc s₃=>W6 (model X.prog X.w) X.A (newFunctionEnv scope X.env.globals (e8 X.env.cells scope.names []) [] X.env.qual none .none (some X.env)) (λz8 s₄ =>
   Qi (model X.prog X.w) X.A (.compStart (.ListComp elt [⟨tg,iter,ifs,0⟩] scope pos) 0 (.ref it) acc { z8 with scope:=relabel scope X.env }) (RR acc z8.locals) s₄) E s₃) E s:=by
 refine WD ?_;have fY:H s.heap.objs.size=none:=I.aj.fresh (Wb _);obtain⟨W,⟨m0,w0⟩,turn⟩:=q s.heap.objs.size fY;generalize hl:s.heap.objs.size=l at *;have I3:Inv X pins σ (upd H l (.lst [])) { s with heap:=s.heap.push { cls:=.type "list",dict:=none,data:=.seq ([]:List Value).toArray } } :=
  I.laid (t':=s.toks) (λb u e=>W4 _ e) (Nat.le_of_eq hl) ⟨Qm _,[],0,.nil,by rw[<- hl]; exact Wh _ rfl⟩
 have HD:∀ b o,s.heap.get? b=some o->(s.heap.push { cls:=.type "list",dict:=none,data:=.seq ([]:List Value).toArray }).get? b=some o:=λb o e=>W4 _ e
 have lL:∀ b ∈ fp,b≠l:=λb hb e=>by
  obtain⟨o,ho,_⟩:=T.obj 0 _ st b hb;exact absurd (Wk ho) (by rw[e,hl]; exact Qd _)
 have uz:∀ b ∈ fp,eV X pins (upd H l (.lst [])) b:=λb hb=>⟨by rw[aP (lL b hb)]; exact(hf b hb).1,(hf b hb).2⟩
 have kr:tn 0 (s.heap.push { cls:=.type "list",dict:=none,data:=.seq ([]:List Value).toArray }):=T.keep 0 _ _ st λb _ o e=>HD b o e
 generalize uA:({ s with heap:=s.heap.push { cls:=.type "list",dict:=none,data:=.seq ([]:List Value).toArray } }:W1)=s3 at I3;have z9:tn 0 s3.heap:=by rw[<- uA]; exact kr
 have HE:∀ b ∈ fp,b < s3.heap.objs.size:=λb hb=>by
  obtain⟨o,ho,_⟩:=T.obj 0 _ z9 b hb;exact Wk ho
 refine Hx ?_;have I4:=Hk I3 S uz HE;generalize hX:gF X scope s3 (upd H l (.lst [])) fp=X' at I4;generalize hs4:({ s3 with heap:=JK (s3.heap.push { cls:=.type "dict",data:=.dict #[] }) scope.names }:W1)=s4 at I4 ⊢;have mT:=hg s3 (upd H l (.lst [])) fp;have z_:=ht s3 (upd H l (.lst [])) fp;have Aa:=he s3 (upd H l (.lst [])) fp;rw[hX] at mT z_ Aa;have Ab:tn 0 s4.heap:=T.keep 0 _ _ z9 λb _ o e=>by rw[<- hs4]; exact pushCells_keeps _ _ b o (W4 _ e)
 have hP:X'.prog=X.prog:=by rw[<- hX]; rfl
 have hw:X'.w=X.w:=by rw[<- hX]; rfl
 have hA:X'.A=X.A:=by rw[<- hX]; rfl
 have hK:X'.K=X.K:=by rw[<- hX]; rfl
 have gB:X'.calm=true:=by rw[<- hX]; exact hc
 have qK:X'.xe=jN:=by rw[<- hX]; rfl
 have Ac:X'.env.locals=s3.heap.objs.size:=by rw[<- hX]; rfl
 have HF:({ scope:=relabel scope X.env,locals:=s3.heap.objs.size,globals:=X.env.globals,cells:=Qv (s3.heap.objs.size + 1) scope.names (e8 X.env.cells scope.names []),qual:=X.env.qual,func:=none,code:=X.env.code,frame:=X.env.frame,builtins:=X.env.builtins }:Env)=X'.env:=by rw[<- hX]; rfl
 have uB:∀ {H':Hp},(∀ b ∈ fp,H' b=none)->∀ b ∈ fp,eV X' [] H' b:=λ{H'} hn b hb=>by
  have ex:X'.ex=fp:=by rw[<- hX]; rfl
  have pn:X'.pn=[]:=by rw[<- hX]; rfl
  refine⟨hn b hb,(I4.ok.qq b (by rw[ex]; exact hb)).1,I4.ok.om b (by rw[ex]; exact hb),.inl (by rw[ex]; exact hb),(I4.ok.qq b (by rw[ex]; exact hb)).2,λp hp=>?_⟩;rw[pn] at hp;simp at hp
 show Qi (model X.prog X.w) X.A (.compStart (.ListComp elt [⟨tg,iter,ifs,0⟩] scope pos) 0 (.ref it) (.ref l) ({ scope:=relabel scope X.env,locals:=s3.heap.objs.size,globals:=X.env.globals,cells:=Qv (s3.heap.objs.size + 1) scope.names (e8 X.env.cells scope.names []),qual:=X.env.qual,func:=none,code:=X.env.code,frame:=X.env.frame,builtins:=X.env.builtins }:Env)) (RR (.ref l) s3.heap.objs.size) s4;rw[HF];have loop:Qi (model X.prog X.w) X.A (.compLoop (.ListComp elt [⟨tg,iter,ifs,0⟩] scope pos) 0 (.ref it) (.ref l) X'.env) (RR (.ref l) s3.heap.objs.size) s4:=by
  refine Hv (λn s'=>∃ i H',Inv X' [] (bo cs σ) H' s'/\tn i s'.heap/\(∀ b ∈ fp,H' b=none)/\W i n H') ?_ m0 ⟨0,_,I4,Ab,λb hb=>(uz b hb).1,w0⟩;rintro n s5 ⟨i,H5,I5,st5,fr5,w5⟩;rcases turn i n H5 w5 with ⟨stop,qn⟩ | ⟨go,step⟩
  ·have:=T.done X' hP hw hK gB i [] s5 (bo cs σ) H5 jN I5 (uB fr5) st5 stop;rw[hA] at this;refine aJ this λr s6 ⟨hr,I6⟩=>?_
   subst hr;have b6:=I6.base;have e1:X'.fs=fq X.stack:=by rw[<- hX]; rfl
   have e2:X'.ex=fp:=by rw[<- hX]; rfl
   have e3:X'.H₀=upd H l (.lst []):=by rw[<- hX]; rfl
   have e4:X'.s₀=s3:=by rw[<- hX]; rfl
   rw[e1,e2,e3,e4] at b6;have o6:s6.os=s3.os:=by rw[<- e4]; exact I6.os
   have HG:bK X.prog X.w H5 s6.heap:=by rw[<- hP,<- hw]; exact I6.aj
   have J6:Inv X pins σ H5 s6:=I3.EH o6 b6 HG I6.bare λb hb=>by
    obtain⟨_,f1,_,f3,f4,f5⟩:=uz b hb;exact⟨f3,f1,f4,f5⟩
   obtain⟨m6,n6,_⟩:=I6.loc;rw[Ac] at n6;refine HC l s3.heap.objs.size s6 H5 J6 (I3.iK (Wb _) ?_) ⟨m6,n6⟩ qn;rw[<- Ac];exact I6.free
  ·have:=T.item X' hP hw hK gB i [] s5 (bo cs σ) H5 jN I5 (uB fr5) st5 go;rw[hA] at this;refine aJ this λr s6 ⟨u,hr,h6⟩=>?_
   subst hr;refine aJ h6 λ_ s7 ⟨x,H7,I7,r7,y7,st7,fr7⟩=>?_
   have HH:=I7.pinned (uB fr7) (T.obj _ _ st7);have a8:=mT _ s7 (bo cs σ) H7 x u _ HH r7 (step x H7 y7);rw[hP,hw,hA,qK] at a8;refine aJ a8 λ_ s8 ⟨σ8,H8,I8,le8,q8⟩=>?_
   have a9:=z_ _ s8 σ8 H8 _ I8 q8;rw[hP,hw,hA,qK] at a9;refine aJ a9 λok s9 ⟨H9,I9,q9⟩=>?_
   have back:∀ {H':Hp} {s':W1},Inv X' ([] ++ oy fp s7.heap) σ8 H' s'->Inv X' [] (bo cs σ) H' s'/\tn (i + 1) s'.heap/\∀ b ∈ fp,H' b=none:=λ{H' s'} J=>by
    refine⟨J.qw.weak (le8.1.symm) le8.2,T.keep _ _ _ st7 λb hb o e=>(J.pin (b,o) (WS _ (WS _ (qv hb e)))).1,λb hb=>?_⟩;obtain⟨o,e,d⟩:=T.obj _ _ st7 b hb;exact(J.pin (b,o) (WS _ (WS _ (qv hb e)))).2.1
   cases ok with
   | false =>
    rw[if_neg WM] at q9 ⊢;obtain⟨m',hm,w9⟩:=q9;obtain⟨b1,b2,b3⟩:=back I9;exact⟨m',hm,i + 1,H9,b1,b2,b3,w9⟩
   | true =>
    rw[if_pos rfl] at q9 ⊢;have Ad:=Aa _ s9 σ8 H9 _ I9 q9;rw[hP,hw,hA,qK] at Ad;refine aJ Ad λx10 s10 ⟨v,H10,I10,r10,ys,m',hy,hz,hm,w10⟩=>?_
    have Ae:=zM (X:=X') _ s10 σ8 H10 (.ref l) [v] (.ref l) [x10] (λ_ H'=>W (i + 1) m' H') I10 rfl (.cons r10 .nil) ⟨l,ys,v,rfl,rfl,hy,hz,w10⟩;rw[hP,hw,hA,qK] at Ae;refine aJ Ae λ_ s11 ⟨_,H11,I11,_,w11⟩=>?_
    obtain⟨b1,b2,b3⟩:=back I11;exact⟨m',hm,i + 1,H11,b1,b2,b3,w11⟩
 exact codeAny_compStart_list loop (T.self X.A 0 s4 _ _ Ab loop)
theorem HI(hc:X.calm=true)(S:oM X scope cs)(hi:PI X tg iter wi)(hg:∀ s₀ H₀ ex,PG (gF X scope s₀ H₀ ex) tg g)(ht:∀ s₀ H₀ ex,oN (gF X scope s₀ H₀ ex) ifs tt)(he:∀ s₀ H₀ ex,PE (gF X scope s₀ H₀ ex) elt te)
  (hs:∀ x,JT iter X.env x=pure x:=by intro _; rfl):PE X (.ListComp elt [⟨tg,iter,ifs,0⟩] scope pos) (z7 cs wi g tt te):=by
 intro pins s σ H Q I h;have uy:∀ x ∈ scope.names,x.2 = .free->∃ c,X.env.cells.lookup x.1=some c:=λx hx hk=>I.ok.has x.1 (S.free x hx hk)
 rw[eval_ListComp];refine wpAny_comprehension_free (use:=none) rfl hs (Hj uy) S.kind S.names (aJ (hi pins s σ H _ I h) λxv s1 h1=>aJ h1 λtK s2 h2=>?_);obtain⟨it,fp,tn,J,H2,e,I2,T,st2,f2,q2⟩:=h2;subst e;refine HB (RR:=λacc C=>compPost (model X.prog X.w) X.A X.xe none (EP X pins σ Q) acc C) hc I2 S T st2 f2 hg ht he q2 ?_;intro l C s' H' I' fC ⟨m,n⟩ q;exact⟨m,n,λh' je=>⟨.ref l,H',I'.turned (t':=s'.toks) (λb o hb e=>(je.2 b hb).trans e) fC.1 fC.2.1 fC.2.2.2.1 fC.2.2.2.2.1 fC.2.2.2.2.2,rfl,q⟩⟩
end
end L2
set_option maxHeartbeats 4000000
namespace DV
open PySem PySem.Spec PyProof.Rows L2
abbrev Tx:=List Nat
def toS(x:Tx):Str:=⟨x.toArray⟩
theorem oO(x:Tx):(toS x).cps.toList=x:=by simp[toS]
theorem jf(x:Tx):(toS x).length=x.length:=by simp[toS,Str.length]
theorem qL(h:toS x=toS y):x=y:=by
 have:=congrArg (λz:Str=>z.cps.toList) h;simpa[toS] using this
theorem uC(z:Str):z=toS z.cps.toList:=by simp[toS]
abbrev aM:=Sum Int Tx
def ck:aM->Key
 | .inl i=>.inl i
 | .inr x=>.inr (toS x)
inductive D where
 | ay | bl (b:Bool) | int (i:Int) | str (x:Tx) | tup (xs:List D) | lst (xs:List D) | az (kvs:List (aM×D)) | exc (n:Nat) (fl:D) | xd (fs:List (Tx×D)) | fn (a:Nat) | dic (kvs:List (D×D))
mutual
def b_:Nat->D->Option NK
 | _,.int i=>some (.i i)
 | _,.bl b=>some (.i (if b then 1 else 0))
 | _,.str x=>some (.s (toS x))
 | n + 1,.tup xs=>(gG n xs).map .t
 | _,_=>none
def gG:Nat->List D->Option (List NK)
 | _,[]=>some []
 | n,x :: xs=>(b_ n x).bind λk=>(gG n xs).map λks=>k :: ks
end
def excAt(C:Addr)(v:V)(a:Addr):Heap->Prop:=λh=>∃ o,h.get? a=some o/\o.cls = .ref C/\(∀ x,v = .ref x->o.dict=some x)/\∃ vs,o.data = .fields vs
def HJ(fs:List (Str×V))(x:Addr):Heap->Prop:=λh=>∃ mA,h.Ns1 x mA/\∀ f,cY (fs.lookup f) (mA f)
inductive S where
 | pure (d:D)
 | own (d:D)
def S.d:S->D
 | .pure d=>d
 | .own d=>d
abbrev Dl:=List (Option S)
abbrev St:=L2.St
inductive Rep (H:Hp) (O:Addr->Prop):V->D->Prop
 | ay:Rep H O .ay .ay
 | bl (b:Bool):Rep H O (.bl b) (.bl b)
 | int (i:Int):Rep H O (.int i) (.int i)
 | str (x:Tx):Rep H O (.str (toS x)) (.str x)
 | tup {a:Addr} {vs:List V} {ds:List D}:¬ O a->H a=some (.tup vs)->vs.length=ds.length->(∀ (i:Nat) v d,vs[i]? = some v->ds[i]? = some d->Rep H O v d)->Rep H O (.ref a) (.tup ds)
 | lst {a:Addr} {vs:List V} {ds:List D}:¬ O a->Rd H a (.lst vs)->vs.length=ds.length->(∀ (i:Nat) v d,vs[i]? = some v->ds[i]? = some d->Rep H O v d)->Rep H O (.ref a) (.lst ds)
 | az {a:Addr} {ws:List (Key×V)} {ds:List (aM×D)}:¬ O a->H a=some (.dK ws)->ws.map (·.1)=ds.map (λp=>ck p.1)->(∀ (i:Nat) p q,ws[i]? = some p->ds[i]? = some q->Rep H O p.2 q.2)->Rep H O (.ref a) (.az ds)
 | exc {a:Addr} {n:Nat} {v:V} {fl:D}:¬ O a->H a=some (.ext (excAt n v a))->Rep H O v fl->Rep H O (.ref a) (.exc n fl)
 | xd {x:Addr} {fs:List (Str×V)} {ds:List (Tx×D)}:¬ O x->H x=some (.ext (HJ fs x))->fs.map (·.1)=ds.map (λp=>toS p.1)->(∀ (i:Nat) p q,fs[i]? = some p->ds[i]? = some q->Rep H O p.2 q.2)->Rep H O (.ref x) (.xd ds)
 | fn (a:Addr):Rep H O (.ref a) (.fn a)
 | dic {a:Addr} {ep:Nat} {ws:List (NK×V×V)} {ds:List (D×D)}:¬ O a->H a=some (.dN ep ws)->ws.length=ds.length->(∀ (i:Nat) p q,ws[i]? = some p->ds[i]? = some q->Rep H O p.2.1 q.1)->(∀ (i:Nat) p q,ws[i]? = some p->ds[i]? = some q->Rep H O p.2.2 q.2)->(∀ (i:Nat) p q,ws[i]? = some p->ds[i]? = some q->b_ 6 q.1=some p.1)->Rep H O (.ref a) (.dic ds)
abbrev ax(H:Hp)(O:Addr->Prop)(vs:List V)(ds:List D):Prop:=vs.length=ds.length/\∀ (i:Nat) v d,vs[i]? = some v->ds[i]? = some d->Rep H O v d
structure DN(H:Hp)(O:Addr->Prop)(ws:List (NK×V×V))(ds:List (D×D)):Prop where
 len:ws.length=ds.length
 key:∀ (i:Nat) p q,ws[i]? = some p->ds[i]? = some q->Rep H O p.2.1 q.1
 val:∀ (i:Nat) p q,ws[i]? = some p->ds[i]? = some q->Rep H O p.2.2 q.2
 lM:∀ (i:Nat) p q,ws[i]? = some p->ds[i]? = some q->b_ 6 q.1=some p.1
def dZ(H:Hp)(O:Addr->Prop)(a:Addr):D->Prop
 | .lst ds=>∃ vs,H a=some (.lst vs)/\ax H O vs ds
 | .az ds=>∃ ws:List (Key×V),H a=some (.dK ws)/\ws.map (·.1)=ds.map (λp=>ck p.1)/\∀ (i:Nat) p q,ws[i]? = some p->ds[i]? = some q->Rep H O p.2 q.2
 | .dic ds=>∃ (ep:Nat) (ws:List (NK×V×V)),H a=some (.dN ep ws)/\DN H O ws ds
 | _=>False
section
variable {H H':Hp} {O O':Addr->Prop} {v:V} {d:D} {vs:List V} {ds:List D} {a:Addr}
theorem Rd.keep(h:Rd H a u)(k:∀ o,H a=some o->H' a=some o):Rd H' a u:=by
 rcases h with h | ⟨o,h⟩
 ·exact .inl (k _ h)
 ·exact .inr ⟨o,k _ h⟩
theorem Rd.some(h:Rd H a u):∃ o,H a=some o:=by
 rcases h with h | ⟨o,h⟩
 ·exact⟨_,h⟩
 ·exact⟨_,h⟩
theorem Rep.keep(h:Rep H O v d)(k:∀ a o,H a=some o->¬ O a->H' a=some o):Rep H' O v d:=by
 induction h with
 | ay=>exact .ay
 | bl b=>exact .bl b
 | int i=>exact .int i
 | str x=>exact .str x
 | tup h1 h2 h3 _ ih=>exact .tup h1 (k _ _ h2 h1) h3 ih
 | lst h1 h2 h3 _ ih=>exact .lst h1 (Rd.keep h2 λo e=>k _ o e h1) h3 ih
 | az h1 h2 h3 _ ih=>exact .az h1 (k _ _ h2 h1) h3 ih
 | exc h1 h2 _ ih=>exact .exc h1 (k _ _ h2 h1) ih
 | xd h1 h2 h3 _ ih=>exact .xd h1 (k _ _ h2 h1) h3 ih
 | fn a=>exact .fn a
 | dic h1 h2 h3 _ _ h6 ih oP=>exact .dic h1 (k _ _ h2 h1) h3 ih oP h6
theorem Rep.aE(h:Rep H O v d)(k:∀ a,O' a->O a\/H a=none):Rep H O' v d:=by
 have no:∀ {a:Addr} {u:HO},¬ O a->Rd H a u->¬ O' a:=λ{a u} h1 h2 z=>by
  rcases k a z with q | q
  ·exact h1 q
  ·obtain⟨o,e⟩:=Rd.some h2;rw[q] at e; cases e
 induction h with
 | ay=>exact .ay
 | bl b=>exact .bl b
 | int i=>exact .int i
 | str x=>exact .str x
 | tup h1 h2 h3 _ ih=>exact .tup (no h1 (.inl h2)) h2 h3 ih
 | lst h1 h2 h3 _ ih=>exact .lst (no h1 h2) h2 h3 ih
 | az h1 h2 h3 _ ih=>exact .az (no h1 (.inl h2)) h2 h3 ih
 | exc h1 h2 _ ih=>exact .exc (no h1 (.inl h2)) h2 ih
 | xd h1 h2 h3 _ ih=>exact .xd (no h1 (.inl h2)) h2 h3 ih
 | fn a=>exact .fn a
 | dic h1 h2 h3 _ _ h6 ih oP=>exact .dic (no h1 (.inl h2)) h2 h3 ih oP h6
theorem DN.keep{ws:List (NK×V×V)}{ds:List (D×D)}(h:DN H O ws ds)(k:∀ a o,H a=some o->¬ O a->H' a=some o):DN H' O ws ds:=⟨h.len,λi p q e1 e2=>(h.key i p q e1 e2).keep k,λi p q e1 e2=>(h.val i p q e1 e2).keep k,h.lM⟩
theorem DN.aE{ws:List (NK×V×V)}{ds:List (D×D)}(h:DN H O ws ds)(k:∀ a,O' a->O a\/H a=none):DN H O' ws ds:=⟨h.len,λi p q e1 e2=>(h.key i p q e1 e2).aE k,λi p q e1 e2=>(h.val i p q e1 e2).aE k,h.lM⟩
theorem ax.keep(h:ax H O vs ds)(k:∀ a o,H a=some o->¬ O a->H' a=some o):ax H' O vs ds:=⟨h.1,λi v d e1 e2=>(h.2 i v d e1 e2).keep k⟩
theorem ax.aE(h:ax H O vs ds)(k:∀ a,O' a->O a\/H a=none):ax H O' vs ds:=⟨h.1,λi v d e1 e2=>(h.2 i v d e1 e2).aE k⟩
theorem ax.nil:ax H O [] []:=⟨rfl,λi v d e _=>by simp at e⟩
theorem ax.cons(h:Rep H O v d)(r:ax H O vs ds):ax H O (v :: vs) (d :: ds):=by
 refine⟨by simp[r.1],λi v' d' e1 e2=>?_⟩
 cases i with
 | zero=>simp at e1 e2; subst e1; subst e2; exact h
 | succ i=>exact r.2 i v' d' (by simpa using e1) (by simpa using e2)
theorem ax.head(r:ax H O (v :: vs) (d :: ds)):Rep H O v d:=r.2 0 v d rfl rfl
theorem ax.tail(r:ax H O (v :: vs) (d :: ds)):ax H O vs ds:=⟨by simpa using r.1,λi v' d' e1 e2=>r.2 (i + 1) v' d' (by simpa using e1) (by simpa using e2)⟩
theorem ax.append(h:ax H O vs ds)(h':ax H O gH bx):ax H O (vs ++ gH) (ds ++ bx):=by
 induction vs generalizing ds with
 | nil =>
  cases ds with
  | nil=>exact h'
  | cons d r=>have:=h.1; simp at this
 | cons v r ih =>
  cases ds with
  | nil=>have:=h.1; simp at this
  | cons d q=>exact .cons h.head (ih h.tail)
theorem ax.get{i:Nat}(h:ax H O vs ds)(e:ds[i]? = some d):∃ v,vs[i]? = some v/\Rep H O v d:=by
 have hi:i < ds.length:=(W5.mp e).1;have hv:i < vs.length:=by rw[h.1]; exact hi
 exact⟨vs[i],by simp[hv],h.2 i _ d (by simp[hv]) e⟩
theorem ax.take(n:Nat)(h:ax H O vs ds):ax H O (vs.take n) (ds.take n):=by
 refine⟨by simp[h.1],λi v d e1 e2=>?_⟩;by_cases hi:i < n
 ·rw[List.getElem?_take_of_lt hi] at e1 e2;exact h.2 i v d e1 e2
 ·rw[List.getElem?_take_eq_none (by omega)] at e1; cases e1
theorem ax.drop(n:Nat)(h:ax H O vs ds):ax H O (vs.drop n) (ds.drop n):=by
 refine⟨by simp[h.1],λi v d e1 e2=>?_⟩;rw[List.getElem?_drop] at e1 e2;exact h.2 (n + i) v d e1 e2
theorem ax.set(h:ax H O vs ds)(r:Rep H O v d)(j:Nat):ax H O (vs.set j v) (ds.set j d):=by
 refine⟨by simp[h.1],λi v' d' e1 e2=>?_⟩;by_cases hi:j=i
 ·subst hi;rw[Q5] at e1 e2;simp at e1 e2;obtain⟨_,rfl⟩:=e1;obtain⟨_,rfl⟩:=e2;exact r
 ·rw[W9 hi] at e1 e2;exact h.2 i v' d' e1 e2
theorem dZ.keep(h:dZ H O a d)(hk:∀ b o,H b=some o->¬ O b->H' b=some o)(ha:∀ o,H a=some o->H' a=some o):dZ H' O a d:=by
 cases d <;> first
  | exact h.elim
  | (obtain⟨vs,e,r⟩:=h; exact⟨vs,ha _ e,ax.keep r hk⟩)
  | (obtain⟨ws,e,r,q⟩:=h; exact⟨ws,ha _ e,r,λi p p' e1 e2=>(q i p p' e1 e2).keep hk⟩)
  | (obtain⟨ep,ws,e,r⟩:=h; exact⟨ep,ws,ha _ e,r.keep hk⟩)
theorem dZ.aE(h:dZ H O a d)(k:∀ a,O' a->O a\/H a=none):dZ H O' a d:=by
 cases d <;> first
  | exact h.elim
  | (obtain⟨vs,e,r⟩:=h; exact⟨vs,e,ax.aE r k⟩)
  | (obtain⟨ws,e,r,q⟩:=h; exact⟨ws,e,r,λi p p' e1 e2=>(q i p p' e1 e2).aE k⟩)
  | (obtain⟨ep,ws,e,r⟩:=h; exact⟨ep,ws,e,r.aE k⟩)
theorem dZ.some(h:dZ H O a d):∃ o,H a=some o:=by
 cases d <;> first
  | exact h.elim
  | (obtain⟨vs,e,r⟩:=h; exact⟨_,e⟩)
  | (obtain⟨ep,vs,e,r⟩:=h; exact⟨_,e⟩)
theorem dZ.rep(h:dZ H O a d)(ho:¬ O a):Rep H O (.ref a) d:=by
 cases d with
 | lst ds=>obtain⟨vs,e,r⟩:=h; exact .lst ho (.inl e) r.1 r.2
 | az ds=>obtain⟨ws,e,r,q⟩:=h; exact .az ho e r q
 | dic ds=>obtain⟨ep,ws,e,r⟩:=h; exact .dic ho e r.len r.key r.val r.lM
 | _=>exact h.elim
end
structure Xc where
 cls:Tx
 R3:D
structure Fc where
 H₀:Hp
 B:Addr->Prop
 pin:List (Nat×Addr)
 xc:Xc->Dl->Prop:=λ_ _=>False
def Fc.plus(c:Fc)(p:Addr):Fc:={ c with B:=λa=>c.B a\/a=p }
def Fc.I(c:Fc)(a:Addr):Prop:=∃ i,(i,a) ∈ c.pin
def Own(σ:St)(δ:Dl)(a:Addr):Prop:=∃ (i:Nat) (d:D),δ[i]? = some (some (.own d))/\σ[i]? = some (some (.ref a))
def Av(c:Fc)(σ:St)(δ:Dl)(a:Addr):Prop:=c.B a\/Own σ δ a
structure Ok(c:Fc)(σ:St)(δ:Dl)(H:Hp):Prop where
 keep:∀ a o,c.H₀ a=some o->¬ c.I a->H a=some o
 bd:∀ a,c.B a->∃ o,H a=some o
 dh:∀ a,c.I a->∃ o,H a=some o
 len:δ.length=σ.length
 slot:∀ (i:Nat) d,δ[i]? = some (some (.pure d))->∃ v,σ[i]? = some (some v)/\Rep H (Av c σ δ) v d
 own:∀ (i:Nat) d,δ[i]? = some (some (.own d))->∃ a,σ[i]? = some (some (.ref a))/\dZ H (Av c σ δ) a d/\(c.I a\/c.H₀ a=none)/\¬ c.B a
 inj:∀ (i j:Nat) a d d',δ[i]? = some (some (.own d))->δ[j]? = some (some (.own d'))->σ[i]? = some (some (.ref a))->σ[j]? = some (some (.ref a))->i=j
 pinned:∀ p ∈ c.pin,σ[p.1]? = some (some (.ref p.2))
structure aG(c:Fc)(σ:St)(δ:Dl)(H:Hp)(σ':St)(δ':Dl)(H':Hp):Prop where
 ok:Ok c σ' δ' H'
 keep:∀ a o,H a=some o->¬ Own σ δ a->H' a=some o
 own:∀ a,Own σ' δ' a->Own σ δ a\/H a=none
 there:∀ a o,H a=some o->∃ o',H' a=some o'
section
variable {c:Fc} {σ σ' σ'':St} {δ δ' δ'':Dl} {H H' Af:Hp} {v:V} {d:D} {a p:Addr}
theorem Ok.HK(k:Ok c σ δ H)(h:c.B a):∃ o,H a=some o:=k.bd a h
theorem Ok.oQ(k:Ok c σ δ H)(h:Own σ δ a):∃ o,H a=some o:=by
 obtain⟨i,d,e1,e2⟩:=h;obtain⟨b,e3,q,_⟩:=k.own i d e1;rw[e2] at e3; cases e3
 exact q.some
theorem Ok.qM(k:Ok c σ δ H)(h:Av c σ δ a):∃ o,H a=some o:=h.elim k.HK k.oQ
theorem Ok.iQ(k:Ok c σ δ H)(h:H a=none):¬ Av c σ δ a:=λz=>by
 obtain⟨o,e⟩:=k.qM z;rw[h] at e; cases e
theorem aG.refl(k:Ok c σ δ H):aG c σ δ H σ δ H:=⟨k,λ_ _ e _=>e,λ_ h=>.inl h,λ_ o e=>⟨o,e⟩⟩
theorem aG.trans(x:aG c σ δ H σ' δ' H')(y:aG c σ' δ' H' σ'' δ'' Af):aG c σ δ H σ'' δ'' Af:=by
 refine⟨y.ok,λa o e n=>?_,λa h=>?_,λa o e=>?_⟩
 ·refine y.keep a o (x.keep a o e n) λz=>?_
  rcases x.own a z with q | q
  ·exact n q
  ·rw[q] at e; cases e
 ·rcases y.own a h with q | q
  ·exact x.own a q
  ·right
   cases e:H a with
   | none=>rfl
   | some o =>
    obtain⟨o',e'⟩:=x.there a o e;rw[q] at e'; cases e'
 ·obtain⟨o',e'⟩:=x.there a o e;exact y.there a o' e'
theorem aG.av(x:aG c σ δ H σ' δ' H'):∀ a,Av c σ' δ' a->Av c σ δ a\/H a=none:=λa h=>by
 rcases h with h | h
 ·exact .inl (.inl h)
 ·rcases x.own a h with q | q
  ·exact .inl (.inr q)
  ·exact .inr q
theorem Rep.dF(h:Rep H (Av c σ δ) v d)(x:aG c σ δ H σ' δ' H'):Rep H' (Av c σ' δ') v d:=by
 have h1:Rep H (λa=>Av c σ δ a\/Av c σ' δ' a) v d:=Rep.aE h λa z=>z.elim .inl (x.av a)
 exact(h1.keep λa o e n=>x.keep a o e λz=>n (.inl (.inr z))).aE λa z=>.inl (.inr z)
theorem ax.dF(h:ax H (Av c σ δ) vs ds)(x:aG c σ δ H σ' δ' H'):ax H' (Av c σ' δ') vs ds:=⟨h.1,λi v d e1 e2=>Rep.dF (h.2 i v d e1 e2) x⟩
def aU(c:Fc)(σ:St)(δ:Dl)(Hs H:Hp)(v:V):S->Prop
 | .pure d=>Rep H (Av c σ δ) v d
 | .own d=>∃ a,v = .ref a/\dZ H (Av (c.plus a) σ δ) a d/\¬ c.B a/\c.H₀ a=none/\Ok (c.plus a) σ δ H/\Hs a=none
theorem mU(k:Ok (c.plus a) σ δ H):¬ Own σ δ a:=λ⟨i,d,e1,e2⟩=>by
 obtain⟨b,e3,_,_,n⟩:=k.own i d e1;rw[e2] at e3; cases e3
 exact n (.inr rfl)
theorem aU.rep(h:aU c σ δ Hs H v r):Rep H (Av c σ δ) v r.d:=by
 cases r with
 | pure d=>exact h
 | own d =>
  obtain⟨a,rfl,o,n,f,k,_⟩:=h;refine(o.aE λb z=>.inl ?_).rep λz=>z.elim n (mU k)
  exact z.elim (λz=>.inl (.inl z)) .inr
theorem aU.back(h:aU c σ δ Hs H v r)(x:aG c σ₀ δ₀ H' σ' δ' Hs):aU c σ δ H' H v r:=by
 cases r with
 | pure d=>exact h
 | own d =>
  obtain⟨a,e,o,n,f,k,hs⟩:=h;refine⟨a,e,o,n,f,k,?_⟩
  cases q:H' a with
  | none=>rfl
  | some o =>
   obtain⟨o',e'⟩:=x.there a o q;rw[hs] at e'; cases e'
theorem aU.HL(h:aU c σ δ Hs H v r):aU c σ δ c.H₀ H v r:=by
 cases r with
 | pure d=>exact h
 | own d =>
  obtain⟨a,e,o,n,f,k,hs⟩:=h;exact⟨a,e,o,n,f,k,f⟩
theorem Ok.alloc(k:Ok c σ δ H)(hp:H p=none)(o:HO):Ok c σ δ (upd H p o):=by
 have up:∀ a w,H a=some w->upd H p o a=some w:=λa w e=>by
  rw[aP (eU e hp)]; exact e
 refine⟨λa w e n=>up a w (k.keep a w e n),λa z=>(k.bd a z).elim λw e=>⟨w,up a w e⟩,λa z=>(k.dh a z).elim λw e=>⟨w,up a w e⟩,k.len,λi d e=>?_,λi d e=>?_,k.inj,k.pinned⟩
 ·obtain⟨v,e1,r⟩:=k.slot i d e;exact⟨v,e1,r.keep λa w q _=>up a w q⟩
 ·obtain⟨a,e1,r,q⟩:=k.own i d e;exact⟨a,e1,r.keep (λb w q _=>up b w q) λw q=>up a w q,q⟩
theorem aG.alloc(k:Ok c σ δ H)(hp:H p=none)(o:HO):aG c σ δ H σ δ (upd H p o):=by
 have up:∀ a w,H a=some w->upd H p o a=some w:=λa w e=>by
  rw[aP (eU e hp)]; exact e
 exact⟨k.alloc hp o,λa w e _=>up a w e,λa h=>.inl h,λa w e=>⟨w,up a w e⟩⟩
theorem Ok.lN(k:Ok c σ δ H)(hp:H p=none):c.H₀ p=none:=by
 cases e:c.H₀ p with
 | none=>rfl
 | some o =>
  by_cases q:c.I p
  ·obtain⟨w,e'⟩:=k.dh p q;rw[hp] at e'; cases e'
  ·have:=k.keep p o e q;rw[hp] at this; cases this
theorem Ok.plus(k:Ok c σ δ H)(hp:H p=none)(o:HO):Ok (c.plus p) σ δ (upd H p o):=by
 have k':=k.alloc hp o;have sub:∀ b,Av (c.plus p) σ δ b->Av c σ δ b\/b=p:=λb z=>by
  rcases z with (z | z) | z
  ·exact .inl (.inl z)
  ·exact .inr z
  ·exact .inl (.inr z)
 have qN:∀ b,Av (c.plus p) σ δ b->Av c σ δ b\/H b=none:=λb z=>(sub b z).elim .inl λe=>.inr (by rw[e]; exact hp)
 have up:∀ a w,H a=some w->upd H p o a=some w:=λa w e=>by
  rw[aP (eU e hp)]; exact e
 refine⟨k'.keep,λa z=>?_,k'.dh,k.len,λi d e=>?_,λi d e=>?_,k.inj,k.pinned⟩
 ·rcases z with z | z
  ·exact k'.bd a z
  ·exact⟨o,by rw[z]; exact cA⟩
 ·obtain⟨v,e1,r⟩:=k.slot i d e;exact⟨v,e1,(r.aE qN).keep λa w q _=>up a w q⟩
 ·obtain⟨a,e1,r,q,nb⟩:=k.own i d e;refine⟨a,e1,(r.aE qN).keep (λb w q _=>up b w q) (λw q=>up a w q),q,λz=>?_⟩;rcases z with z | z
  ·exact nb z
  ·obtain⟨w,ew⟩:=r.some;rw[z,hp] at ew; cases ew
theorem aU.jO(k:Ok c σ δ H)(r:ax H (Av c σ δ) vs ds)(hp:H p=none):aU c σ δ H (upd H p (.lst vs)) (.ref p) (.own (.lst ds)):=by
 have up:∀ a w,H a=some w->upd H p (.lst vs) a=some w:=λa w e=>by
  rw[aP (eU e hp)]; exact e
 refine⟨p,rfl,⟨vs,cA,?_⟩,λz=>k.iQ hp (.inl z),k.lN hp,k.plus hp _,hp⟩;have r1:ax H (Av (c.plus p) σ δ) vs ds:=ax.aE r λb z=>by
  rcases z with (z | z) | z
  ·exact .inl (.inl z)
  ·exact .inr (by rw[z]; exact hp)
  ·exact .inl (.inr z)
 exact ax.keep r1 λb w e _=>up b w e
theorem aU.mV(k:Ok c σ δ H)(r:ax H (Av c σ δ) vs ds)(hp:H p=none):aU c σ δ H (upd H p (.tup vs)) (.ref p) (.pure (.tup ds)):=by
 have up:∀ a w,H a=some w->upd H p (.tup vs) a=some w:=λa w e=>by
  rw[aP (eU e hp)]; exact e
 have r1:=ax.keep r (H':=upd H p (.tup vs)) λb w e _=>up b w e
 exact .tup (k.iQ hp) cA r1.1 r1.2
end
inductive Rs (α:Type) where
 | ok (a:α) (δ:Dl)
 | exc (x:Xc) (δ:Dl)
 | stuck
def Rs.bind{α β:Type}(r:Rs α)(f:α->Dl->Rs β):Rs β:=match r with
 | .ok a δ=>f a δ
 | .exc x δ=>.exc x δ
 | .stuck=>.stuck
abbrev DE:=Dl->Rs S
def XC(c:Fc)(x:Xc)(δ:Dl):Prop:=c.xc x δ
def post{α:Type}(c:Fc)(r:Rs α)(k:α->Dl->Prop):Prop:=match r with
 | .ok a δ=>k a δ
 | .exc x δ=>XC c x δ
 | .stuck=>False
theorem aY:post c (r.bind f) k ↔ post c r λa δ=>post c (f a δ) k:=by
 cases r <;> exact Iff.rfl
theorem aN(h:post c r k)(m:∀ a δ,k a δ->k' a δ):post c r k':=by
 cases r with
 | ok a δ=>exact m a δ h
 | exc x δ=>exact h
 | stuck=>exact h
def tD(c:Fc)(f:DE):TE:=λσ H Q=>∃ δ,Ok c σ δ H/\post c (f δ) λr δ'=>∀ v H',aG c σ δ H σ δ' H'->aU c σ δ' H H' v r->Q v H'
abbrev SE(X:Cx)(c:Fc)(e:Expr)(f:DE):Prop:=PE X e (tD c f)
def cn(c:Fc)(σ:St)(δ:Dl)(H:Hp)(v:V)(d:D):Prop:=Rep H (Av c σ δ) v d\/∃ a,v = .ref a/\dZ H (Av c σ δ) a d
abbrev BE:=Dl->Rs D
def tB(c:Fc)(f:BE):TE:=λσ H Q=>∃ δ,Ok c σ δ H/\post c (f δ) λd δ'=>∀ v H',aG c σ δ H σ δ' H'->cn c σ δ' H' v d->Q v H'
abbrev SB(X:Cx)(c:Fc)(e:Expr)(f:BE):Prop:=PE X e (tB c f)
theorem PE.weak(h:PE X e t)(w:∀ σ H Q,t' σ H Q->t σ H Q):PE X e t':=λpins s σ H Q I q=>h pins s σ H Q I (w σ H Q q)
def ar(f:DE):BE:=λδ=>(f δ).bind λr δ'=>.ok r.d δ'
theorem aU.b(h:aU c σ δ Hs H v r):cn c σ δ H v r.d:=.inl h.rep
theorem aO{X:Cx}{c:Fc}{e:Expr}{f:DE}(h:SE X c e f):SB X c e (ar f):=PE.weak h λσ H Q ⟨δ,k,p⟩=>⟨δ,k,by
 unfold ar at p;rw[aY] at p;exact aN p λr δ' q v H' a s=>q v H' a s.b⟩
def ao(i:Nat):BE:=λδ=>match δ[i]? with
 | some (some r)=>.ok r.d δ
 | _=>.stuck
def aa(i:Nat):DE:=λδ=>match δ[i]? with
 | some (some (.pure d))=>.ok (.pure d) δ
 | some (some (.own d))=>.ok (.pure d) (δ.set i (some (.pure d)))
 | _=>.stuck
def eD(d:D):DE:=λδ=>.ok (.pure d) δ
section
variable {X:Cx} {c:Fc}
theorem bG{i:Nat}{e:Expr}(h:PE X e (de i)):SB X c e (ao i):=PE.weak h λσ H Q ⟨δ,k,p⟩=>by
 unfold ao at p
 cases e:δ[i]? with
 | none=>rw[e] at p; exact p.elim
 | some o =>
  cases o with
  | none=>rw[e] at p; exact p.elim
  | some r =>
   rw[e] at p
   cases r with
   | pure d =>
    obtain⟨v,e1,r⟩:=k.slot i d e;exact⟨v,e1,p v H (.refl k) (.inl r)⟩
   | own d =>
    obtain⟨a,e1,r,_⟩:=k.own i d e;exact⟨.ref a,e1,p _ H (.refl k) (.inr ⟨a,rfl,r⟩)⟩
theorem Own.sub(h:Own σ (δ.set i (some (.pure d))) a):Own σ δ a:=by
 obtain⟨j,d',e1,e2⟩:=h;by_cases hj:i=j
 ·subst hj;rw[Q5] at e1;simp at e1
 ·rw[W9 hj] at e1;exact⟨j,d',e1,e2⟩
theorem Ok.give(k:Ok c σ δ H)(e:δ[i]? = some (some (.own d))) :
  ∃ a,σ[i]? = some (some (.ref a))/\aG c σ δ H σ (δ.set i (some (.pure d))) H/\Rep H (Av c σ (δ.set i (some (.pure d)))) (.ref a) d:=by
 obtain⟨a,e1,r,q,nb⟩:=k.own i d e;have hi:i < δ.length:=(W5.mp e).1;have sub:∀ b,Av c σ (δ.set i (some (.pure d))) b->Av c σ δ b:=λb z=>z.elim .inl λz=>.inr z.sub
 have na:¬ Av c σ (δ.set i (some (.pure d))) a:=by
  rintro (z | ⟨j,d',f1,f2⟩)
  ·exact nb z
  ·by_cases hj:i=j
   ·subst hj;rw[Q5] at f1;simp at f1
   ·rw[W9 hj] at f1;exact hj (k.inj i j a d d' e f1 e1 f2)
 have rep:Rep H (Av c σ (δ.set i (some (.pure d)))) (.ref a) d:=(r.aE λb z=>.inl (sub b z)).rep na;refine⟨a,e1,⟨⟨k.keep,k.bd,k.dh,by rw[Qp]; exact k.len,λj d' f=>?_,λj d' f=>?_,λj l b d1 d2 f1 f2=>?_,k.pinned⟩,λ_ _ w _=>w,λb z=>.inl z.sub,λ_ o w=>⟨o,w⟩⟩,rep⟩
 ·by_cases hj:i=j
  ·subst hj;rw[Wp hi] at f
   cases f;exact⟨.ref a,e1,rep⟩
  ·rw[W9 hj] at f;obtain⟨v,g1,g2⟩:=k.slot j d' f;exact⟨v,g1,g2.aE λb z=>.inl (sub b z)⟩
 ·by_cases hj:i=j
  ·subst hj;rw[Wp hi] at f
   cases f
  ·rw[W9 hj] at f;obtain⟨b,g1,g2,g3⟩:=k.own j d' f;exact⟨b,g1,g2.aE λb z=>.inl (sub b z),g3⟩
 ·have h1:δ[j]? = some (some (.own d1)):=by
   by_cases hj:i=j
   ·subst hj; rw[Wp hi] at f1; cases f1
   ·rw[W9 hj] at f1; exact f1
  have h2:δ[l]? = some (some (.own d2)):=by
   by_cases hj:i=l
   ·subst hj; rw[Wp hi] at f2; cases f2
   ·rw[W9 hj] at f2; exact f2
  exact k.inj j l b d1 d2 h1 h2
theorem aK{i:Nat}{e:Expr}(h:PE X e (de i)):SE X c e (aa i):=PE.weak h λσ H Q ⟨δ,k,p⟩=>by
 unfold aa at p
 cases e:δ[i]? with
 | none=>rw[e] at p; exact p.elim
 | some o =>
  cases o with
  | none=>rw[e] at p; exact p.elim
  | some r =>
   rw[e] at p
   cases r with
   | pure d =>
    obtain⟨v,e1,r⟩:=k.slot i d e;exact⟨v,e1,p v H (.refl k) r⟩
   | own d =>
    obtain⟨a,e1,x,r⟩:=k.give e;exact⟨.ref a,e1,p _ H x r⟩
theorem aZ{i j pos}:SE X c (.Constant (.int i) j pos) (eD (.int i)):=PE.weak EJ λσ H Q ⟨δ,k,p⟩=>p _ H (.refl k) (.int i)
theorem oR{b j pos}:SE X c (.Constant (.bool b) j pos) (eD (.bl b)):=PE.weak EK λσ H Q ⟨δ,k,p⟩=>p _ H (.refl k) (.bl b)
theorem Ag{j pos}:SE X c (.Constant .none j pos) (eD .ay):=PE.weak EL λσ H Q ⟨δ,k,p⟩=>p _ H (.refl k) .ay
theorem Ah{x j pos}(y:Tx)(h:x=toS y:=by decide +kernel):SE X c (.Constant (.str x) j pos) (eD (.str y)):=by
 subst h;exact PE.weak yP λσ H Q ⟨δ,k,p⟩=>p _ H (.refl k) (.str y)
end
open PySem PySem.Spec PyProof.Rows L2 PySem.SeqAt
mutual
def ak:D->D->Bool
 | .ay,.ay=>true
 | .bl a,.bl b=>a == b
 | .int a,.int b=>a == b
 | .bl a,.int b=>(if a then 1 else 0) == b
 | .int a,.bl b=>a == (if b then 1 else 0)
 | .str a,.str b=>a == b
 | .tup xs,.tup ys=>c7 xs ys
 | .lst xs,.lst ys=>c7 xs ys
 | _,_=>false
def c7:List D->List D->Bool
 | [],[]=>true
 | x :: xs,y :: ys=>ak x y && c7 xs ys
 | _,_=>false
end
mutual
def flat:Nat->D->Bool
 | _,.ay=>true
 | _,.bl _=>true
 | _,.int _=>true
 | _,.str _=>true
 | 0,.tup _=>false
 | n + 1,.tup xs=>fM n xs
 | 0,.lst _=>false
 | n + 1,.lst xs=>fM n xs
 | _,.az _=>false
 | _,.exc _ _=>false
 | _,.xd _=>false
 | _,.fn _=>false
 | _,.dic _=>false
def fM:Nat->List D->Bool
 | _,[]=>true
 | n,x :: xs=>flat n x && fM n xs
end
example:ak (.tup [.int 1,.str [2]]) (.tup [.int 1,.str [2]])=true:=by decide +kernel
theorem lO:∀ {xs:List D} {x:D},fM n xs=true->x ∈ xs->flat n x=true
 | [],_,_,h=>by simp at h
 | y :: ys,x,h,hm=>by
  simp only[fM,Ws] at h;rcases Wl.mp hm with e | hm
  ·rw[e]; exact h.1
  ·exact lO h.2 hm
theorem qO:∀ {xs ys:List D} {f:Nat->Bool},xs.length=ys.length->(∀ (j:Nat) x y,xs[j]? = some x->ys[j]? = some y->f j=ak x y)->(Wu xs.length).all f=c7 xs ys
 | [],[],f,_,_=>rfl
 | [],y :: ys,f,h,_=>by simp at h
 | x :: xs,[],f,h,_=>by simp at h
 | x :: xs,y :: ys,f,h,hf=>by
  simp only[c7];rw[WO,Jo,U0,hf 0 x y rfl rfl,JL];rw[<- qO (f:=λj=>f (j + 1)) (by simpa using h) (λj a b e1 e2=>hf (j + 1) a b (by simpa using e1) (by simpa using e2))];rfl
theorem qP:∀ {xs ys:List D},xs.length≠ys.length->c7 xs ys=false
 | [],[],h=>absurd rfl h
 | [],y :: ys,_=>rfl
 | x :: xs,[],_=>rfl
 | x :: xs,y :: ys,h=>by
  simp only[c7];rw[qP (xs:=xs) (ys:=ys) (by intro e; exact h (by simp[e]))];simp
mutual
theorem qQ:∀ {n:Nat} {d:D},flat n d=true->ak d d=true
 | _,.ay,_=>rfl
 | _,.bl b,_=>by simp[ak]
 | _,.int i,_=>by simp[ak]
 | _,.str x,_=>by simp[ak]
 | 0,.tup xs,h=>by simp[flat] at h
 | n + 1,.tup xs,h=>by simp only[ak]; exact uD (n:=n) (by simpa[flat] using h)
 | 0,.lst xs,h=>by simp[flat] at h
 | n + 1,.lst xs,h=>by simp only[ak]; exact uD (n:=n) (by simpa[flat] using h)
 | _,.az xs,h=>by simp[flat] at h
 | _,.exc n _,h=>by simp[flat] at h
 | _,.xd n,h=>by simp[flat] at h
theorem uD:∀ {n:Nat} {ds:List D},fM n ds=true->c7 ds ds=true
 | _,[],_=>rfl
 | n,x :: xs,h=>by
  simp only[fM,Ws] at h;simp only[c7];rw[qQ h.1,uD h.2];rfl
end
abbrev cx:Addr->Prop:=λ_=>False
theorem Rep.un(h:Rep H O v d):Rep H cx v d:=Rep.aE h λ_ z=>z.elim
theorem cn.un(h:cn c σ δ H v d):Rep H cx v d:=by
 rcases h with h | ⟨a,rfl,o⟩
 ·exact Rep.un h
 ·exact(o.aE (O':=cx) λ_ z=>z.elim).rep λz=>z
section
variable {X:Cx} {pins:List (Addr×Obj)} {σ:St} {H:Hp} {s:W1}
theorem Inv.fZ(I:Inv X pins σ H s)(h:Rd H a (.lst vs)):∃ ae:List Value,Vals vs ae/\s.heap.IsList a ae.toArray:=by
 obtain⟨ae,r,p,_⟩:=I.list (.inl h);exact⟨ae,r,p.isList⟩
theorem Inv.f_(I:Inv X pins σ H s)(h:H a=some (.tup vs)):∃ ae:List Value,Vals vs ae/\s.heap.IsTuple a ae.toArray:=by
 obtain⟨ae,r,p,_⟩:=I.tuple (.of h);exact⟨ae,r,p⟩
theorem oS(x y:Tx):((toS x:Str) == toS y)=(x == y):=by
 rw[JF];simp only[beq_iff_eq];exact⟨qL,λe=>by rw[e]⟩
theorem HM(A:Wn):A.in1.units=A.units + 1:=rfl
theorem Rd.inj(h:Rd H a u)(k:Rd H a w)(hu:∀ o z,u≠.frz o z)(hw:∀ o z,w≠.frz o z):u=w:=by
 rcases h with h | ⟨o,h⟩ <;> rcases k with k | ⟨o',k⟩
 ·rw[h] at k; exact Wx k
 ·rw[h] at k; exact absurd (Wx k) (hu _ _)
 ·rw[h] at k; exact absurd (Wx k).symm (hw _ _)
 ·rw[h] at k;have:=Wx k;injection this
theorem ax.inj{vs:List V}:∀ {ds es:List D},vs.length=ds.length->vs.length=es.length->(∀ (i:Nat) v d e,vs[i]? = some v->ds[i]? = some d->es[i]? = some e->d=e)->ds=es:=by
 intro ds es h1 h2 h;apply List.ext_getElem?;intro i;by_cases hi:i < vs.length
 ·have a1:i < ds.length:=by omega
  have a2:i < es.length:=by omega
  rw[W7 a1,W7 a2];rw[h i vs[i] ds[i] es[i] (by simp[hi]) (by simp[a1]) (by simp[a2])]
 ·rw[WX (by omega),WX (by omega)]
theorem Rep.inj{O:Addr->Prop}{v:V}{d:D}(h:Rep H O v d):∀ {n:Nat} {e:D},flat n d=true->flat n e=true->Rep H O v e->d=e:=by
 induction h with
 | ay=>intro n e _ _ k; cases k; rfl
 | bl b=>intro n e _ _ k; cases k; rfl
 | int i=>intro n e _ _ k; cases k; rfl
 | str x =>
  intro n e _ _ k;generalize hz:V.str (toS x)=z at k
  cases k with
  | str y=>injection hz with hz; rw[qL hz]
  | _=>cases hz
 | @tup a vs ds h1 h2 h3 h4 ih =>
  intro n e fd fe k
  cases n with
  | zero=>simp[flat] at fd
  | succ n =>
   simp only[flat] at fd
   cases k with
   | @tup _ ws es k1 k2 k3 k4 =>
    simp only[flat] at fe;have e1:=Rd.inj (.inl h2) (.inl k2) (λ_ _ z=>by cases z) (λ_ _ z=>by cases z);injection e1 with e1
    subst e1;rw[ax.inj h3 k3 λi v d e q1 q2 q3=>ih i v d q1 q2 (lO fd (WB q2)) (lO fe (WB q3)) (k4 i v e q1 q3)]
   | lst k1 k2=>exact absurd (Rd.inj (.inl h2) k2 (λ_ _ z=>by cases z) (λ_ _ z=>by cases z)) (λz=>by cases z)
   | az k1 k2=>exact absurd (Rd.inj (.inl h2) (.inl k2) (λ_ _ z=>by cases z) (λ_ _ z=>by cases z)) (λz=>by cases z)
   | exc k1 k2=>simp[flat] at fe
   | xd k1 k2=>simp[flat] at fe
   | fn _=>simp[flat] at fe
   | dic _=>simp[flat] at fe
 | @lst a vs ds h1 h2 h3 h4 ih =>
  intro n e fd fe k
  cases n with
  | zero=>simp[flat] at fd
  | succ n =>
   simp only[flat] at fd
   cases k with
   | @lst _ ws es k1 k2 k3 k4 =>
    simp only[flat] at fe;have e1:=Rd.inj h2 k2 (λ_ _ z=>by cases z) (λ_ _ z=>by cases z);injection e1 with e1
    subst e1;rw[ax.inj h3 k3 λi v d e q1 q2 q3=>ih i v d q1 q2 (lO fd (WB q2)) (lO fe (WB q3)) (k4 i v e q1 q3)]
   | tup k1 k2=>exact absurd (Rd.inj h2 (.inl k2) (λ_ _ z=>by cases z) (λ_ _ z=>by cases z)) (λz=>by cases z)
   | az k1 k2=>exact absurd (Rd.inj h2 (.inl k2) (λ_ _ z=>by cases z) (λ_ _ z=>by cases z)) (λz=>by cases z)
   | exc k1 k2=>simp[flat] at fe
   | xd k1 k2=>simp[flat] at fe
   | fn _=>simp[flat] at fe
   | dic _=>simp[flat] at fe
 | az h1 h2 h3 h4 ih =>
  intro n e fd _ _
  cases n <;> simp[flat] at fd
 | exc h1 h2 =>
  intro n e fd _ _
  cases n <;> simp[flat] at fd
 | xd h1 h2 =>
  intro n e fd _ _
  cases n <;> simp[flat] at fd
 | fn _ =>
  intro n e fd _ _
  cases n <;> simp[flat] at fd
 | dic h1 h2 =>
  intro n e fd _ _
  cases n <;> simp[flat] at fd
def uE(H:Hp)(s:W1)(n:Nat):Prop:=∀ (A:Wn) (x y:V) (u w:Value) (d e:D),A.units + n + 1 < WI->flat n d=true->flat n e=true->Rep H cx x d->Rep H cx y e->RelV x u->RelV y w->EqAt A s u w (ak d e)
def lP(H:Hp)(s:W1)(A:Wn)(n:Nat):Prop:=match n with
 | 0=>True
 | m + 1=>A.units + m + 2 < WI/\uE H s m
def qR(ds es:List D)(j:Nat):Bool:=match ds[j]?,es[j]? with
 | some p,some q=>ak p q
 | _,_=>false
theorem qS(j:Nat)(p q:D)(e1:ds[j]? = some p)(e2:es[j]? = some q):qR ds es j=ak p q:=by unfold qR; rw[e1,e2]
theorem qT{n:Nat}{A:Wn}{vs ws:List V}{ds es:List D}{ae gb:List Value}(hu:A.units + n + 2 < WI)(ih:uE H s n)(r1:Vals vs ae)(r2:Vals ws gb)(l1:vs.length=ds.length)(l2:ws.length=es.length)
  (g1:∀ (i:Nat) v d,vs[i]? = some v->ds[i]? = some d->Rep H cx v d) (g2:∀ (i:Nat) v d,ws[i]? = some v->es[i]? = some d->Rep H cx v d) (f1:fM n ds=true) (f2:fM n es=true) :
  ∀ j (h1:j < ae.toArray.size) (h2:j < gb.toArray.size),EqAt A.in1 s ae.toArray[j] gb.toArray[j] (qR ds es j):=by
 intro j h1 h2;have e1:=r1.length;have e2:=r2.length;simp at h1 h2;have hd:j < ds.length:=by omega
 have he:j < es.length:=by omega
 have hv:j < vs.length:=by omega
 have hw:j < ws.length:=by omega
 obtain⟨u',oU,ru'⟩:=r1.get (i:=j) (x:=vs[j]) (by simp[hv]);obtain⟨w',hw',rw''⟩:=r2.get (i:=j) (x:=ws[j]) (by simp[hw]);have eu:ae.toArray[j]=u':=by simpa[h1] using oU
 have ew:gb.toArray[j]=w':=by simpa[h2] using hw'
 rw[eu,ew,qS j ds[j] es[j] (by simp[hd]) (by simp[he])];exact ih A.in1 vs[j] ws[j] u' w' ds[j] es[j] (by rw[HM]; omega) (lO f1 (QR hd)) (lO f2 (QR he)) (g1 j _ _ (by simp[hv]) (by simp[hd])) (g2 j _ _ (by simp[hw]) (by simp[he])) ru' rw''
theorem Ai(h1:n=ds.length)(h2:m=es.length):((Wu (min n m)).all (qR ds es) && n == m)=c7 ds es:=by
 subst h1 h2;by_cases hl:ds.length=es.length
 ·rw[<- hl,Nat.min_self,qO hl qS];simp
 ·rw[qP hl];simp[hl]
theorem HN(I:Inv X pins σ H s)(n:Nat)(A:Wn)(bp:A.units < WI)(t1:s.heap.IsTuple a ae.toArray)(t2:s.heap.IsTuple b gb.toArray)(r1:Vals vs ae)(r2:Vals ws gb)(l1:vs.length=ds.length)(l2:ws.length=es.length)
  (g1:∀ (i:Nat) v d,vs[i]? = some v->ds[i]? = some d->Rep H cx v d) (g2:∀ (i:Nat) v d,ws[i]? = some v->es[i]? = some d->Rep H cx v d) (f1:flat n (.tup ds)=true) (f2:flat n (.tup es)=true) (ih:lP H s A n) :
  RcAt A s (.ref a) (.ref b) (c7 ds es):=by
 cases n with
 | zero=>simp[flat] at f1
 | succ n =>
  simp only[flat] at f1 f2;obtain⟨hu,ih⟩:=ih;have q:=RcAt.tuples (A:=A) (s:=s) t1 t2 bp (qT hu ih r1 r2 l1 l2 g1 g2 f1 f2);rw[Ai (by have:=r1.length; simp; omega) (by have:=r2.length; simp; omega)] at q;exact q
theorem HP(I:Inv X pins σ H s)(n:Nat)(A:Wn)(bp:A.units < WI)(t1:s.heap.IsTuple a ae.toArray)(t2:s.heap.IsTuple b gb.toArray)(r1:Vals vs ae)(r2:Vals ws gb)(l1:vs.length=ds.length)(l2:ws.length=es.length)
  (g1:∀ (i:Nat) v d,vs[i]? = some v->ds[i]? = some d->Rep H cx v d) (g2:∀ (i:Nat) v d,ws[i]? = some v->es[i]? = some d->Rep H cx v d) (f1:flat n (.tup ds)=true) (f2:flat n (.tup es)=true) (ih:lP H s A n) :
  RcNeAt A s (.ref a) (.ref b) (!c7 ds es):=by
 cases n with
 | zero=>simp[flat] at f1
 | succ n =>
  simp only[flat] at f1 f2;obtain⟨hu,ih⟩:=ih;have q:=RcNeAt.tuples (A:=A) (s:=s) t1 t2 bp (qT hu ih r1 r2 l1 l2 g1 g2 f1 f2);rw[Ai (by have:=r1.length; simp; omega) (by have:=r2.length; simp; omega)] at q;exact q
theorem HQ(I:Inv X pins σ H s)(n:Nat)(A:Wn)(bp:A.units < WI)(t1:s.heap.IsList a ae.toArray)(t2:s.heap.IsList b gb.toArray)(r1:Vals vs ae)(r2:Vals ws gb)(l1:vs.length=ds.length)(l2:ws.length=es.length)
  (g1:∀ (i:Nat) v d,vs[i]? = some v->ds[i]? = some d->Rep H cx v d) (g2:∀ (i:Nat) v d,ws[i]? = some v->es[i]? = some d->Rep H cx v d) (f1:flat n (.lst ds)=true) (f2:flat n (.lst es)=true) (ih:lP H s A n) :
  RcAt A s (.ref a) (.ref b) (c7 ds es):=by
 cases n with
 | zero=>simp[flat] at f1
 | succ n =>
  simp only[flat] at f1 f2;obtain⟨hu,ih⟩:=ih;have z1:ae.toArray.size=ds.length:=by have:=r1.length; simp; omega
  have z2:gb.toArray.size=es.length:=by have:=r2.length; simp; omega
  by_cases hl:ds.length=es.length
  ·have q:=RcAt.lists (A:=A) (s:=s) t1 t2 (by rw[z1,z2]; exact hl) bp (qT hu ih r1 r2 l1 l2 g1 g2 f1 f2);rw[z1,qO hl qS] at q;exact q
  ·rw[qP hl];exact RcAt.lists_lengths (A:=A) (s:=s) t1 t2 (by rw[z1,z2]; simpa using hl) bp
theorem HR(I:Inv X pins σ H s)(n:Nat)(A:Wn)(bp:A.units < WI)(t1:s.heap.IsList a ae.toArray)(t2:s.heap.IsList b gb.toArray)(r1:Vals vs ae)(r2:Vals ws gb)(l1:vs.length=ds.length)(l2:ws.length=es.length)
  (g1:∀ (i:Nat) v d,vs[i]? = some v->ds[i]? = some d->Rep H cx v d) (g2:∀ (i:Nat) v d,ws[i]? = some v->es[i]? = some d->Rep H cx v d) (f1:flat n (.lst ds)=true) (f2:flat n (.lst es)=true) (ih:lP H s A n) :
  RcNeAt A s (.ref a) (.ref b) (!c7 ds es):=by
 cases n with
 | zero=>simp[flat] at f1
 | succ n =>
  simp only[flat] at f1 f2;obtain⟨hu,ih⟩:=ih;have z1:ae.toArray.size=ds.length:=by have:=r1.length; simp; omega
  have z2:gb.toArray.size=es.length:=by have:=r2.length; simp; omega
  by_cases hl:ds.length=es.length
  ·have q:=RcNeAt.lists (A:=A) (s:=s) t1 t2 (by rw[z1,z2]; exact hl) bp (qT hu ih r1 r2 l1 l2 g1 g2 f1 f2);rw[z1,qO hl qS] at q;exact q
  ·rw[qP hl];exact RcNeAt.lists_lengths (A:=A) (s:=s) t1 t2 (by rw[z1,z2]; simpa using hl) bp
theorem uF(I:Inv X pins σ H s)(n:Nat)(A:Wn)(x y:V)(u w:Value)(d e:D)(bp:A.units < WI)(fd:flat n d=true)(fe:flat n e=true)(ih:lP H s A n)(rx:Rep H cx x d)(ry:Rep H cx y e)(ru:RelV x u)(aC:RelV y w):RcAt A s u w (ak d e):=by
 cases rx with
 | ay =>
  cases ru
  cases ry with
  | ay =>
   cases aC;simp only[ak]; exact RcAt.none_none
  | bl q =>
   cases aC;simp only[ak]; exact RcAt.none_bool _
  | int q =>
   obtain⟨t2,rfl⟩:=aC;simp only[ak]; exact RcAt.none_int _ _
  | str q =>
   obtain⟨t2,rfl⟩:=aC;simp only[ak]; exact RcAt.none_str _ _
  | tup k1 k2 k3 k4 =>
   cases aC; obtain⟨its2,r2,t2⟩:=Inv.f_ I k2
   simp only[ak]; exact RcAt.none_tuple t2 bp
  | lst k1 k2 k3 k4 =>
   cases aC; obtain⟨its2,r2,t2⟩:=Inv.fZ I k2
   simp only[ak]; exact RcAt.none_list t2 bp
  | az k1 k2 k3 k4=>(cases n <;> simp[flat] at fe)
  | exc k1 k2=>(cases n <;> simp[flat] at fe)
  | xd k1 k2=>(cases n <;> simp[flat] at fe)
  | fn _=>(cases n <;> simp[flat] at fe)
  | dic _=>(cases n <;> simp[flat] at fe)
 | bl p =>
  cases ru
  cases ry with
  | ay =>
   cases aC;simp only[ak]; exact RcAt.bool_none _
  | bl q =>
   cases aC;simp only[ak]; exact RcAt.bool_bool _ _
  | int q =>
   obtain⟨t2,rfl⟩:=aC;simp only[ak]; exact RcAt.bool_int _ _ _
  | str q =>
   obtain⟨t2,rfl⟩:=aC;simp only[ak]; exact RcAt.bool_str _ _ _
  | tup k1 k2 k3 k4 =>
   cases aC; obtain⟨its2,r2,t2⟩:=Inv.f_ I k2
   simp only[ak]; exact RcAt.bool_tuple _ t2 bp
  | lst k1 k2 k3 k4 =>
   cases aC; obtain⟨its2,r2,t2⟩:=Inv.fZ I k2
   simp only[ak]; exact RcAt.bool_list _ t2 bp
  | az k1 k2 k3 k4=>(cases n <;> simp[flat] at fe)
  | exc k1 k2=>(cases n <;> simp[flat] at fe)
  | xd k1 k2=>(cases n <;> simp[flat] at fe)
  | fn _=>(cases n <;> simp[flat] at fe)
  | dic _=>(cases n <;> simp[flat] at fe)
 | int p =>
  obtain⟨t1,rfl⟩:=ru
  cases ry with
  | ay =>
   cases aC;simp only[ak]; exact RcAt.int_none _ _
  | bl q =>
   cases aC;simp only[ak]; exact RcAt.int_bool _ _ _
  | int q =>
   obtain⟨t2,rfl⟩:=aC;simp only[ak]; exact RcAt.int_int _ _ _ _
  | str q =>
   obtain⟨t2,rfl⟩:=aC;simp only[ak]; exact RcAt.int_str _ _ _ _
  | tup k1 k2 k3 k4 =>
   cases aC; obtain⟨its2,r2,t2⟩:=Inv.f_ I k2
   simp only[ak]; exact RcAt.int_tuple _ _ t2 bp
  | lst k1 k2 k3 k4 =>
   cases aC; obtain⟨its2,r2,t2⟩:=Inv.fZ I k2
   simp only[ak]; exact RcAt.int_list _ _ t2 bp
  | az k1 k2 k3 k4=>(cases n <;> simp[flat] at fe)
  | exc k1 k2=>(cases n <;> simp[flat] at fe)
  | xd k1 k2=>(cases n <;> simp[flat] at fe)
  | fn _=>(cases n <;> simp[flat] at fe)
  | dic _=>(cases n <;> simp[flat] at fe)
 | str p =>
  obtain⟨t1,rfl⟩:=ru
  cases ry with
  | ay =>
   cases aC;simp only[ak]; exact RcAt.str_none _ _
  | bl q =>
   cases aC;simp only[ak]; exact RcAt.str_bool _ _ _
  | int q =>
   obtain⟨t2,rfl⟩:=aC;simp only[ak]; exact RcAt.str_int _ _ _ _
  | str q =>
   obtain⟨t2,rfl⟩:=aC;simp only[ak]; rw[<- oS]; exact RcAt.str_str _ _ _ _
  | tup k1 k2 k3 k4 =>
   cases aC; obtain⟨its2,r2,t2⟩:=Inv.f_ I k2
   simp only[ak]; exact RcAt.str_tuple _ _ t2 bp
  | lst k1 k2 k3 k4 =>
   cases aC; obtain⟨its2,r2,t2⟩:=Inv.fZ I k2
   simp only[ak]; exact RcAt.str_list _ _ t2 bp
  | az k1 k2 k3 k4=>(cases n <;> simp[flat] at fe)
  | exc k1 k2=>(cases n <;> simp[flat] at fe)
  | xd k1 k2=>(cases n <;> simp[flat] at fe)
  | fn _=>(cases n <;> simp[flat] at fe)
  | dic _=>(cases n <;> simp[flat] at fe)
 | tup h1 h2 h3 h4 =>
  cases ru; obtain⟨its1,r1,t1⟩:=Inv.f_ I h2
  cases ry with
  | ay =>
   cases aC;simp only[ak]; exact RcAt.tuple_none t1 bp
  | bl q =>
   cases aC;simp only[ak]; exact RcAt.tuple_bool _ t1 bp
  | int q =>
   obtain⟨t2,rfl⟩:=aC;simp only[ak]; exact RcAt.tuple_int _ _ t1 bp
  | str q =>
   obtain⟨t2,rfl⟩:=aC;simp only[ak]; exact RcAt.tuple_str _ _ t1 bp
  | tup k1 k2 k3 k4 =>
   cases aC; obtain⟨its2,r2,t2⟩:=Inv.f_ I k2
   simp only[ak]; exact HN I n A bp t1 t2 r1 r2 h3 k3 h4 k4 fd fe ih
  | lst k1 k2 k3 k4 =>
   cases aC; obtain⟨its2,r2,t2⟩:=Inv.fZ I k2
   simp only[ak]; exact RcAt.tuple_list t1 t2 bp
  | az k1 k2 k3 k4=>(cases n <;> simp[flat] at fe)
  | exc k1 k2=>(cases n <;> simp[flat] at fe)
  | xd k1 k2=>(cases n <;> simp[flat] at fe)
  | fn _=>(cases n <;> simp[flat] at fe)
  | dic _=>(cases n <;> simp[flat] at fe)
 | lst h1 h2 h3 h4 =>
  cases ru; obtain⟨its1,r1,t1⟩:=Inv.fZ I h2
  cases ry with
  | ay =>
   cases aC;simp only[ak]; exact RcAt.list_none t1 bp
  | bl q =>
   cases aC;simp only[ak]; exact RcAt.list_bool _ t1 bp
  | int q =>
   obtain⟨t2,rfl⟩:=aC;simp only[ak]; exact RcAt.list_int _ _ t1 bp
  | str q =>
   obtain⟨t2,rfl⟩:=aC;simp only[ak]; exact RcAt.list_str _ _ t1 bp
  | tup k1 k2 k3 k4 =>
   cases aC; obtain⟨its2,r2,t2⟩:=Inv.f_ I k2
   simp only[ak]; exact RcAt.list_tuple t1 t2 bp
  | lst k1 k2 k3 k4 =>
   cases aC; obtain⟨its2,r2,t2⟩:=Inv.fZ I k2
   simp only[ak]; exact HQ I n A bp t1 t2 r1 r2 h3 k3 h4 k4 fd fe ih
  | az k1 k2 k3 k4=>(cases n <;> simp[flat] at fe)
  | exc k1 k2=>(cases n <;> simp[flat] at fe)
  | xd k1 k2=>(cases n <;> simp[flat] at fe)
  | fn _=>(cases n <;> simp[flat] at fe)
  | dic _=>(cases n <;> simp[flat] at fe)
 | az h1 h2 h3 h4=>(cases n <;> simp[flat] at fd)
 | exc h1 h2=>(cases n <;> simp[flat] at fd)
 | xd h1 h2=>(cases n <;> simp[flat] at fd)
 | fn _=>(cases n <;> simp[flat] at fd)
 | dic _=>(cases n <;> simp[flat] at fd)
theorem HS(I:Inv X pins σ H s)(n:Nat)(A:Wn)(x y:V)(u w:Value)(d e:D)(bp:A.units < WI)(fd:flat n d=true)(fe:flat n e=true)(ih:lP H s A n)(rx:Rep H cx x d)(ry:Rep H cx y e)(ru:RelV x u)(aC:RelV y w):RcNeAt A s u w (!ak d e):=by
 cases rx with
 | ay =>
  cases ru
  cases ry with
  | ay =>
   cases aC;simp only[ak]; exact RcNeAt.none_none
  | bl q =>
   cases aC;simp only[ak]; exact RcNeAt.none_bool _
  | int q =>
   obtain⟨t2,rfl⟩:=aC;simp only[ak]; exact RcNeAt.none_int _ _
  | str q =>
   obtain⟨t2,rfl⟩:=aC;simp only[ak]; exact RcNeAt.none_str _ _
  | tup k1 k2 k3 k4 =>
   cases aC; obtain⟨its2,r2,t2⟩:=Inv.f_ I k2
   simp only[ak]; exact RcNeAt.none_tuple t2 bp
  | lst k1 k2 k3 k4 =>
   cases aC; obtain⟨its2,r2,t2⟩:=Inv.fZ I k2
   simp only[ak]; exact RcNeAt.none_list t2 bp
  | az k1 k2 k3 k4=>(cases n <;> simp[flat] at fe)
  | exc k1 k2=>(cases n <;> simp[flat] at fe)
  | xd k1 k2=>(cases n <;> simp[flat] at fe)
  | fn _=>(cases n <;> simp[flat] at fe)
  | dic _=>(cases n <;> simp[flat] at fe)
 | bl p =>
  cases ru
  cases ry with
  | ay =>
   cases aC;simp only[ak]; exact RcNeAt.bool_none _
  | bl q =>
   cases aC;simp only[ak]; exact RcNeAt.bool_bool _ _
  | int q =>
   obtain⟨t2,rfl⟩:=aC;simp only[ak]; exact RcNeAt.bool_int _ _ _
  | str q =>
   obtain⟨t2,rfl⟩:=aC;simp only[ak]; exact RcNeAt.bool_str _ _ _
  | tup k1 k2 k3 k4 =>
   cases aC; obtain⟨its2,r2,t2⟩:=Inv.f_ I k2
   simp only[ak]; exact RcNeAt.bool_tuple _ t2 bp
  | lst k1 k2 k3 k4 =>
   cases aC; obtain⟨its2,r2,t2⟩:=Inv.fZ I k2
   simp only[ak]; exact RcNeAt.bool_list _ t2 bp
  | az k1 k2 k3 k4=>(cases n <;> simp[flat] at fe)
  | exc k1 k2=>(cases n <;> simp[flat] at fe)
  | xd k1 k2=>(cases n <;> simp[flat] at fe)
  | fn _=>(cases n <;> simp[flat] at fe)
  | dic _=>(cases n <;> simp[flat] at fe)
 | int p =>
  obtain⟨t1,rfl⟩:=ru
  cases ry with
  | ay =>
   cases aC;simp only[ak]; exact RcNeAt.int_none _ _
  | bl q =>
   cases aC;simp only[ak]; exact RcNeAt.int_bool _ _ _
  | int q =>
   obtain⟨t2,rfl⟩:=aC;simp only[ak]; exact RcNeAt.int_int _ _ _ _
  | str q =>
   obtain⟨t2,rfl⟩:=aC;simp only[ak]; exact RcNeAt.int_str _ _ _ _
  | tup k1 k2 k3 k4 =>
   cases aC; obtain⟨its2,r2,t2⟩:=Inv.f_ I k2
   simp only[ak]; exact RcNeAt.int_tuple _ _ t2 bp
  | lst k1 k2 k3 k4 =>
   cases aC; obtain⟨its2,r2,t2⟩:=Inv.fZ I k2
   simp only[ak]; exact RcNeAt.int_list _ _ t2 bp
  | az k1 k2 k3 k4=>(cases n <;> simp[flat] at fe)
  | exc k1 k2=>(cases n <;> simp[flat] at fe)
  | xd k1 k2=>(cases n <;> simp[flat] at fe)
  | fn _=>(cases n <;> simp[flat] at fe)
  | dic _=>(cases n <;> simp[flat] at fe)
 | str p =>
  obtain⟨t1,rfl⟩:=ru
  cases ry with
  | ay =>
   cases aC;simp only[ak]; exact RcNeAt.str_none _ _
  | bl q =>
   cases aC;simp only[ak]; exact RcNeAt.str_bool _ _ _
  | int q =>
   obtain⟨t2,rfl⟩:=aC;simp only[ak]; exact RcNeAt.str_int _ _ _ _
  | str q =>
   obtain⟨t2,rfl⟩:=aC;simp only[ak]; rw[<- oS]; exact RcNeAt.str_str _ _ _ _
  | tup k1 k2 k3 k4 =>
   cases aC; obtain⟨its2,r2,t2⟩:=Inv.f_ I k2
   simp only[ak]; exact RcNeAt.str_tuple _ _ t2 bp
  | lst k1 k2 k3 k4 =>
   cases aC; obtain⟨its2,r2,t2⟩:=Inv.fZ I k2
   simp only[ak]; exact RcNeAt.str_list _ _ t2 bp
  | az k1 k2 k3 k4=>(cases n <;> simp[flat] at fe)
  | exc k1 k2=>(cases n <;> simp[flat] at fe)
  | xd k1 k2=>(cases n <;> simp[flat] at fe)
  | fn _=>(cases n <;> simp[flat] at fe)
  | dic _=>(cases n <;> simp[flat] at fe)
 | tup h1 h2 h3 h4 =>
  cases ru; obtain⟨its1,r1,t1⟩:=Inv.f_ I h2
  cases ry with
  | ay =>
   cases aC;simp only[ak]; exact RcNeAt.tuple_none t1 bp
  | bl q =>
   cases aC;simp only[ak]; exact RcNeAt.tuple_bool _ t1 bp
  | int q =>
   obtain⟨t2,rfl⟩:=aC;simp only[ak]; exact RcNeAt.tuple_int _ _ t1 bp
  | str q =>
   obtain⟨t2,rfl⟩:=aC;simp only[ak]; exact RcNeAt.tuple_str _ _ t1 bp
  | tup k1 k2 k3 k4 =>
   cases aC; obtain⟨its2,r2,t2⟩:=Inv.f_ I k2
   simp only[ak]; exact HP I n A bp t1 t2 r1 r2 h3 k3 h4 k4 fd fe ih
  | lst k1 k2 k3 k4 =>
   cases aC; obtain⟨its2,r2,t2⟩:=Inv.fZ I k2
   simp only[ak]; exact RcNeAt.tuple_list t1 t2 bp
  | az k1 k2 k3 k4=>(cases n <;> simp[flat] at fe)
  | exc k1 k2=>(cases n <;> simp[flat] at fe)
  | xd k1 k2=>(cases n <;> simp[flat] at fe)
  | fn _=>(cases n <;> simp[flat] at fe)
  | dic _=>(cases n <;> simp[flat] at fe)
 | lst h1 h2 h3 h4 =>
  cases ru; obtain⟨its1,r1,t1⟩:=Inv.fZ I h2
  cases ry with
  | ay =>
   cases aC;simp only[ak]; exact RcNeAt.list_none t1 bp
  | bl q =>
   cases aC;simp only[ak]; exact RcNeAt.list_bool _ t1 bp
  | int q =>
   obtain⟨t2,rfl⟩:=aC;simp only[ak]; exact RcNeAt.list_int _ _ t1 bp
  | str q =>
   obtain⟨t2,rfl⟩:=aC;simp only[ak]; exact RcNeAt.list_str _ _ t1 bp
  | tup k1 k2 k3 k4 =>
   cases aC; obtain⟨its2,r2,t2⟩:=Inv.f_ I k2
   simp only[ak]; exact RcNeAt.list_tuple t1 t2 bp
  | lst k1 k2 k3 k4 =>
   cases aC; obtain⟨its2,r2,t2⟩:=Inv.fZ I k2
   simp only[ak]; exact HR I n A bp t1 t2 r1 r2 h3 k3 h4 k4 fd fe ih
  | az k1 k2 k3 k4=>(cases n <;> simp[flat] at fe)
  | exc k1 k2=>(cases n <;> simp[flat] at fe)
  | xd k1 k2=>(cases n <;> simp[flat] at fe)
  | fn _=>(cases n <;> simp[flat] at fe)
  | dic _=>(cases n <;> simp[flat] at fe)
 | az h1 h2 h3 h4=>(cases n <;> simp[flat] at fd)
 | exc h1 h2=>(cases n <;> simp[flat] at fd)
 | xd h1 h2=>(cases n <;> simp[flat] at fd)
 | fn _=>(cases n <;> simp[flat] at fd)
 | dic _=>(cases n <;> simp[flat] at fd)
theorem Aj(h:RcAt A s u w k)(hs:u=w->k=true)(hf:∀ b t,u≠Value.float b t):EqAt A s u w k:=λprog w' E Q hq=>by
 unfold eqBool;refine WK ?_;refine JG (λiR=>?_) (λ_=>?_)
 ·have e:=eq_of_beq iR;rw[hs e] at hq;exact W0 (Qz (W3 hq))
 ·cases u with
  | float b t=>exact absurd rfl (hf b t)
  | _=>exact W0 (h prog w' E _ (QK hq))
theorem Al(r:Rep H cx x d)(ru:RelV x u)(b:UInt64)(t:Tok):u≠Value.float b t:=by
 intro e;subst e
 cases r <;> first | (cases ru; done) | (obtain⟨t',e⟩:=ru; cases e)
theorem HU(I:Inv X pins σ H s)(n:Nat):uE H s n:=by
 induction n with
 | zero =>
  intro A x y u w d e hu fd fe rx ry ru aC;refine Aj (uF I 0 A x y u w d e (by omega) fd fe trivial rx ry ru aC) (λh=>?_) (Al rx ru);subst h;have:=ru.inj aC;subst this;rw[Rep.inj rx fd fe ry];exact qQ fe
 | succ n ih =>
  intro A x y u w d e hu fd fe rx ry ru aC;refine Aj (uF I (n + 1) A x y u w d e (by omega) fd fe ⟨by omega,ih⟩ rx ry ru aC) (λh=>?_) (Al rx ru);subst h;have:=ru.inj aC;subst this;rw[Rep.inj rx fd fe ry];exact qQ fe
theorem uG(I:Inv X pins σ H s):∀ n:Nat,A.units + n + 1 < WI->lP H s A n
 | 0,_=>trivial
 | n + 1,h=>⟨by omega,HU I n⟩
def Am:R2:=λx y H Q=>∃ d e,Rep H cx x d/\Rep H cx y e/\flat 50 d=true/\flat 50 e=true/\Q (.bl (ak d e)) H
def An:R2:=λx y H Q=>∃ d e,Rep H cx x d/\Rep H cx y e/\flat 50 d=true/\flat 50 e=true/\Q (.bl (!ak d e)) H
theorem jP(hu:X.A.units + 64 < WI):bh X (WE .Eq) Am:=by
 intro pins s σ H x y v u Q I rx ry h;obtain⟨d,e,r1,r2,f1,f2,q⟩:=h;exact uF I 50 X.A x y v u d e (by omega) f1 f2 (uG I 50 (by omega)) r1 r2 rx ry X.prog X.w X.xe _ ⟨.bl _,H,I,rfl,q⟩
theorem Ao(hu:X.A.units + 64 < WI):bh X (WE .NotEq) An:=by
 intro pins s σ H x y v u Q I rx ry h;obtain⟨d,e,r1,r2,f1,f2,q⟩:=h;exact HS I 50 X.A x y v u d e (by omega) f1 f2 (uG I 50 (by omega)) r1 r2 rx ry X.prog X.w X.xe _ ⟨.bl _,H,I,rfl,q⟩
end
def cH{α:Type}(xs:List α)(lo hi:Option Int):List α:=(xs.drop (HT.aL xs.length 0 lo)).take (HT.aL xs.length xs.length hi - HT.aL xs.length 0 lo)
theorem Ap(xs:List V)(lo hi:Option Int):cH xs lo hi=kB xs lo hi:=rfl
theorem HV(xs:List α)(lo hi:Option Int):(cH xs lo hi).length<=xs.length:=by
 unfold cH;rw[U1,List.length_drop];omega
theorem ax.cut(lo hi:Option Int)(h:ax H O vs ds):ax H O (cH vs lo hi) (cH ds lo hi):=by
 unfold cH;rw[h.1];exact ax.take _ (ax.drop _ h)
theorem HW{α:Type}{xs:List α}{lo hi:Option Int}(h:HT.aL xs.length 0 lo=0/\HT.aL xs.length xs.length hi=xs.length):cH xs lo hi=xs:=by
 unfold cH;rw[h.1,h.2];simp
section
variable {prog:Wj} {w:Wm} {A:Wn} {E:Value->W1->Prop} {s:W1}
theorem HX{t sl:Addr}{items:Array Value}{vl vu:Value}{lo hi:Option Int}{Q:Value->W1->Prop}(ht:IsTup s.heap t items)(hs:s.heap.IsSliceOf sl vl vu .none)(pl:IsPart vl lo)(pu:IsPart vu hi)
  (hw:HT.aL items.size 0 lo=0/\HT.aL items.size items.size hi=items.size) (h:Q (.ref t) s):W6 (model prog w) A (JP (.ref t) (.ref sl)) Q E s:=by
 obtain⟨os,hos,hcs,hds⟩:=id hs;have t6:s.TypeIs (.ref sl) "slice":=⟨os,hos,hcs⟩
 unfold JP;try with_reducible refine WK ?_
 first | refine W0 (W3 ?_) | skip
 refine W0 (JV ht.typeIs (by decide) ?_);refine W0 (WJ (name:=Str.ofString "__getitem__") ht.typeIs QE
  (WF QE ht.typeIs entry_tuple_getitem ?_ (args_tuple_getitem _ _)))
 show W6 _ _ (Builtin.Tuple.tupleItemsOf (.ref t) >>= _) _ _ s;refine W0 (tupleItemsOf_ ht ?_);refine W0 (J9 t6 ?_);rw[if_pos (by decide)];refine W0 (HT.zw hs pl pu ?_);show W6 _ _ (if (((HT.aL items.size 0 lo:Nat):Int) == 0 && (1:Int) == 1 && (HT.aL items.size items.size hi - HT.aL items.size 0 lo) == items.size)=true then _ else _) _ _ s;rw[hw.1,hw.2];rw[if_pos (by simp)];refine W0 (m:=Builtin.Tuple.tupleIsExact (.ref t)) ?_;unfold Builtin.Tuple.tupleIsExact;refine W0 (J9 ht.typeIs (W3 ?_));rw[if_pos (by decide)];exact W0 (Qz (W0 (W3 (W3 ⟨_,rfl,W3 h⟩))))
end
section
variable {X:Cx}
def Aq(K:W2):V->Option Int->Option Int->Hp->VK->Prop:=λx lo hi H Q=>∃ a xs,x = .ref a/\b9 K H a xs /\
 ((HT.aL xs.length 0 lo=0/\HT.aL xs.length xs.length hi=xs.length)->Q (.ref a) H)/\(¬ (HT.aL xs.length 0 lo=0/\HT.aL xs.length xs.length hi=xs.length)->∀ p,H p=none->Q (.ref p) (upd H p (.tup (kB xs lo hi))))
theorem HY:jb X (Aq X.K):=by
 intro pins s σ H x v vl vu lo hi sl Q I rx hs pl pu h;obtain⟨a,xs,rfl,hx,q1,q2⟩:=h;by_cases hw:HT.aL xs.length 0 lo=0/\HT.aL xs.length xs.length hi=xs.length
 ·cases rx;obtain⟨ae,r,ht,hz⟩:=I.tuple hx;have hlen:ae.toArray.size=xs.length:=by rw[Wo]; exact r.length.symm
  refine⟨"tuple",_,PyProof.Rows.slot_tuple_getitem.lookup,ht.typeIs,?_⟩;exact HX ht hs pl pu (by rw[hlen]; exact hw) ⟨.ref a,H,I,rfl,q1 hw⟩
 ·exact Gm pins s σ H (.ref a) v vl vu lo hi sl Q I rx hs pl pu ⟨a,xs,rfl,hx,hw,q2 hw⟩
theorem HZ(a b:Nat):sliceRange (a:Int) (b:Int) 1=(Wu (b - a)).map (λk=>a + k):=by
 have h0:((1:Int) > 0)=True:=by simp
 unfold sliceRange;simp only[h0,if_true];by_cases aQ:(a:Int) < (b:Int)
 ·rw[if_pos aQ];have e3:(((b:Int) - (a:Int) + 1 - 1) / 1).toNat=b - a:=by
   rw[Int.ediv_one]; omega
  rw[e3];refine Je λk _=>?_
  omega
 ·rw[if_neg aQ];have:b - a=0:=by omega
  rw[this];rfl
theorem Ar(lo hi:Option Int)(n:Nat):Qw lo hi 1 n=(Wu (HT.aL n n hi - HT.aL n 0 lo)).map (λk=>HT.aL n 0 lo + k):=by
 have c:∀ (i:Int) (d:Nat),max 0 (min (if i < 0 then i + (n:Int) else i) (n:Int))=((HT.aL n d (some i):Nat):Int):=by
  intro i d;show max 0 (min (if i < 0 then i + (n:Int) else i) (n:Int))=(((if i < 0 then(i + (n:Int)).toNat else min i.toNat n):Nat):Int);by_cases hi:i < 0
  ·simp only[if_pos hi]; omega
  ·simp only[if_neg hi]; omega
 have h0:((1:Int) > 0)=True:=by simp
 rw[<- HZ];unfold Qw;simp only[h0,if_true]
 cases lo with
 | none =>
  cases hi with
  | none=>rfl
  | some j=>show sliceRange 0 (max 0 (min (if j < 0 then j + (n:Int) else j) (n:Int))) 1=_; rw[c j n]; rfl
 | some i =>
  cases hi with
  | none=>show sliceRange (max 0 (min (if i < 0 then i + (n:Int) else i) (n:Int))) (n:Int) 1=_; rw[c i 0]; rfl
  | some j=>show sliceRange (max 0 (min (if i < 0 then i + (n:Int) else i) (n:Int))) (max 0 (min (if j < 0 then j + (n:Int) else j) (n:Int))) 1=_; rw[c i 0,c j n]
theorem H_(x:Tx)(lo hi:Option Int):(⟨((Qw lo hi 1 (toS x).length).filterMap ((toS x).cps[·]?)).toArray⟩:Str)=toS (cH x lo hi):=by
 unfold toS;congr 1
 rw[Ar];have:=pick_run (x.toArray) (HT.aL x.length 0 lo) (HT.aL x.length x.length hi - HT.aL x.length 0 lo);have hl:({ cps:=x.toArray }:Str).length=x.length:=by simp[Str.length]
 rw[hl];rw[this];rfl
def As:V->Option Int->Option Int->Hp->VK->Prop:=λx lo hi H Q=>∃ z:Tx,x = .str (toS z)/\z.length<=W8/\Q (.str (toS (cH z lo hi))) H
theorem Au(p:IsPart v o):∃ q:Option (Int×Tok),v=partValue q/\q.map (·.1)=o:=by
 cases p with
 | none=>exact⟨none,rfl,rfl⟩
 | int i t=>exact⟨some (i,t),rfl,rfl⟩
theorem Ia:jb X As:=by
 intro pins s σ H x v vl vu lo hi sl Q I rx hs pl pu h;obtain⟨z,rfl,hz,q⟩:=h;obtain⟨t,rfl⟩:=rx;obtain⟨l,rfl,el⟩:=Au pl;obtain⟨u,rfl,eu⟩:=Au pu;obtain⟨o,ho,hc,hd⟩:=hs;refine⟨"str",_,F.slot_str_getitem.lookup,typeIs_str s _ t,?_⟩;refine wpAny_getItem_str_slice (l:=l) (u:=u) (st:=none) ⟨o,ho,hc,hd⟩ rfl ?_;unfold sliceMade;have e:(slicePicked (toS z) l u none)=Qw lo hi 1 (toS z).length:=by
  unfold slicePicked;rw[el,eu];rfl
 rw[e];by_cases hw:(((none:Option (Int×Tok)).map (·.1)).getD 1 == 1 && (Qw lo hi 1 (toS z).length).length == (toS z).length)=true
 ·rw[if_pos hw];refine⟨.str (toS (cH z lo hi)),H,I,⟨t,?_⟩,q⟩;congr 1
  rw[Ws] at hw;have uH:=eq_of_beq hw.2;rw[Ar,Wq,List.length_range,jf] at uH;have h1:=HT.t4 z.length 0 (Qm _) lo;have h2:=HT.t4 z.length z.length (Wb _) hi;unfold cH;congr 1
  by_cases h0:z.length=0
  ·have:z=[]:=QN h0;subst this;simp
  ·have a1:HT.aL z.length 0 lo=0:=by omega
   rw[a1] at uH ⊢;rw[uH];simp
 ·rw[if_neg hw];show Made.post (.str _) _ _;rw[H_];exact⟨by rw[jf]; exact WP (HV z lo hi) hz,.str (toS (cH z lo hi)),H,I.tok _,⟨_,rfl⟩,q⟩
theorem Ib:bh X (Qo .Add) (λx y H Q=>∃ a b ys,x = .ref a/\y = .ref b/\b9 X.K H a []/\b9 X.K H b ys/\Q (.ref b) H):=by
 intro pins s σ H x y v u Q I rx ry h;obtain⟨a,b,ys,rfl,rfl,ha,hb,q⟩:=h
 cases rx
 cases ry;obtain⟨ae,r1,p1,_⟩:=I.tuple ha;obtain⟨its2,r2,p2,_⟩:=I.tuple hb
 cases r1;obtain⟨⟨cls,dd,data,sl⟩,ho,hc,n,hd⟩:=id p1;obtain⟨⟨cls2,lD,data2,kA⟩,ho2,hc2,n2,hd2⟩:=id p2;simp only at hc hd hc2 hd2;subst hc hd hc2 hd2;exact concat_meets ⟨_,ho,rfl⟩ ⟨_,ho2,rfl⟩ noFill_tuple_add seq_tuple_add PySem.F.slot_tuple_add PySem.F.entry_tuple_add (PySem.F.args_tuple_add_2 _ _)
   (tuple_addW0 a b #[] its2.toArray n n2 dd lD sl kA rfl) ⟨ho,ho2,.ref b,H,I,rfl,q⟩
def Aw(K:W2):R2:=λx y H Q=>∃ l b xs zs,x = .ref l/\y = .ref b/\bS K H l xs/\bS K H b zs/\xs.length + zs.length<=W8/\∀ p,H p=none->Q (.ref p) (upd H p (.lst (xs ++ zs)))
theorem Ic:bh X (Qo .Add) (Aw X.K):=by
 intro pins s σ H x y v u Q I rx ry h;obtain⟨l,b,xs,zs,rfl,rfl,hH,hB,hz,q⟩:=h
 cases rx
 cases ry;obtain⟨ae,r,⟨⟨cls,dd,data,sl⟩,n,e,hc,jg,hd⟩,z⟩:=I.list hH;obtain⟨its2,r2,⟨⟨cls2,lD,data2,kA⟩,n2,e2,hc2,hdd2,hd2⟩,z2⟩:=I.list hB;simp only at hc hd jg hc2 hd2 hdd2;subst hc hd jg hc2 hd2 hdd2;have hl:=r.length;have mW:=r2.length;refine concat_meets ⟨_,e,rfl⟩ ⟨_,e2,rfl⟩ noFill_list_add seq_list_add PySem.F.slot_list_add PySem.F.entry_list_add (PySem.F.args_list_add_2 _ _)
   (list_addW l b ae.toArray its2.toArray n n2 none none sl kA (by rw[Wo,Wo]; omega)) ⟨e,e2,?_⟩
 have ea:ae.toArray ++ its2.toArray=(ae ++ its2).toArray:=by simp
 rw[ea];exact⟨.ref _,_,I.GP (t':=s.toks) (r.append r2) (by rw[WW]; omega),rfl,q _ I.fresh⟩
theorem qU:∀ {ys:List Str} {us:List Value},Vals (ys.map V.str) us->StrsAre us ys
 | [],us,r=>by cases r; exact .nil
 | y :: ys,us,r=>by
  cases r with
  | cons r1 r2 =>
   obtain⟨t,rfl⟩:=r1;exact .cons y t (qU r2)
theorem oV:∀ {ys:List Str} {us:List Value},StrsAre us ys->Vals (ys.map V.str) us
 | _,_,.nil=>.nil
 | _,_,.cons y t h=>.cons ⟨t,rfl⟩ (oV h)
def qV(K:W2):V->List V->Hp->VK->Prop:=λx vs H Q=>∃ (z:Str) (a:Addr) (ys:List Str),x = .str z/\vs=[.ref a]/\(bS K H a (ys.map V.str)\/b9 K H a (ys.map V.str)) /\
 (ys.map (·.length)).sum + ys.length * z.length<=16777216/\Q (.str (Txt.join z ys)) H
theorem Ie:zA X "str.join" (qV X.K):=by
 intro pins s σ H x vs v us Q I rx rv h;obtain⟨z,a,ys,rfl,rfl,hq,hz,q⟩:=h;obtain⟨t,rfl⟩:=rx;obtain⟨u,rfl,ru⟩:=rv.one
 cases ru;rcases hq with hq | hq
 ·obtain⟨ae,r,p,_⟩:=I.list hq;exact join_list p.isList (by simpa using qU r) hz λt' k=>⟨.str _,H,I.tok _,⟨t',rfl⟩,q⟩
 ·obtain⟨ae,r,p,_⟩:=I.tuple hq;exact join_tuple p (by simpa using qU r) hz λt' k=>⟨.str _,H,I.tok _,⟨t',rfl⟩,q⟩
theorem Ax:∀ {bs:List Bool} {us:List Value},Vals (bs.map V.bl) us->∀ (i:Nat) v,us[i]? = some v->∃ b,bs[i]? = some b/\v = .bool b
 | [],us,r,i,v,e=>by cases r; simp at e
 | b :: bs,us,r,i,v,e=>by
  cases r with
  | cons r1 r2 =>
   cases i with
   | zero =>
    simp at e;subst e;exact⟨b,rfl,r1⟩
   | succ i=>exact Ax r2 i v (by simpa using e)
theorem Ay:∀ bs:List Bool,((Wu bs.length).all λi=>(bs[i]?).getD true)=bs.all id
 | []=>rfl
 | b :: bs=>by
  rw[WO,Jo,U0,JL];have:=Ay bs;simp only[List.getElem?_cons_zero,Option.getD_some,U0,id];rw[<- this];rfl
theorem Ig (hc:X.calm=true):dg X (.builtin "all") (λxs H Q=>∃ (a:Addr) (bs:List Bool),xs=[.ref a]/\bS X.K H a (bs.map V.bl)/\Q (.bl (bs.all (λb=>b))) H):=by
 intro pins s σ H xs us Q I r h;obtain⟨a,bs,rfl,hq,q⟩:=h;obtain⟨u,rfl,ru⟩:=fJ r
 cases ru;obtain⟨ae,r',p,_⟩:=I.list hq;have hl:=p.isList;have aQ:a < s.heap.objs.size:=by obtain⟨_,e,_⟩:=hl; exact Wk e
 have hlen:=r'.length;rw[Wq] at hlen;refine call_all_walk (wpAny_pyIter_list hl ?_);refine⟨s.heap.objs.size,[s.heap.objs.size,a],[s.heap.objs.size],ae.toArray.size,_,_,λi=>(bs[i]?).getD true,rfl,Walks.list (A:=X.A.in1) (I.ok.hd hc) _ a (Wr aQ) ae.toArray,
  ⟨⟨_,Wh _ rfl,rfl,rfl⟩,hl.push _⟩,λi v s' Q' E' hP hQ=>?_,λh' tk hk=>?_⟩
 ·obtain⟨b,e,rfl⟩:=Ax r' i v (by simpa using hP);simp only[e,Option.getD_some] at hQ;exact QK hQ
 ·have e:((Wu ae.toArray.size).all λi=>(bs[i]?).getD true)=bs.all id:=by
   rw[Wo,<- hlen]; exact Ay bs
  rw[e];exact⟨.bl _,H,I.kept λb o e=>hk b o (λhm=>by rw[List.mem_singleton.mp hm] at e; exact Qd _ (Wk e)) (W4 _ e),rfl,q⟩
def jQ(x:Tx):List Tx->List Tx
 | []=>[x]
 | y :: r=>if y < x then y :: jQ x r else x :: y :: r
def d_:List Tx->List Tx
 | []=>[]
 | x :: r=>jQ x (d_ r)
theorem uI(x:Tx):∀ l:List Tx,(jQ x l).Perm (x :: l)
 | []=>.refl _
 | y :: r=>by
  unfold jQ;split
  ·exact((uI x r).cons y).trans (.swap x y r)
  ·exact .refl _
theorem qW:∀ l:List Tx,(d_ l).Perm l
 | []=>.refl _
 | x :: r=>(uI x _).trans ((qW r).cons x)
abbrev gI(a b:Tx):Prop:=¬ b < a
theorem Az(h1:gI a b)(h2:gI b c):gI a c:=List.not_lt.mpr (List.le_trans (List.not_lt.mp h1) (List.not_lt.mp h2))
theorem Ih(h1:gI a b)(h2:gI b a):a=b:=List.le_antisymm (List.not_lt.mp h1) (List.not_lt.mp h2)
theorem AA(x:Tx):∀ l:List Tx,l.Pairwise gI->(jQ x l).Pairwise gI
 | [],_=>by simp[jQ]
 | y :: r,h=>by
  unfold jQ;obtain⟨h1,h2⟩:=Q1.mp h;split
  ·rename_i aQ;refine Q1.mpr ⟨λz hz=>?_,AA x r h2⟩;rcases Wl.mp ((uI x r).mem_iff.mp hz) with e | hz
   ·subst e;intro q;exact absurd (List.lt_trans aQ q) (List.lt_irrefl _)
   ·exact h1 z hz
  ·rename_i mX;refine Q1.mpr ⟨λz hz=>?_,h⟩;rcases Wl.mp hz with e | hz
   ·subst e; exact mX
   ·exact Az mX (h1 z hz)
theorem AB:∀ l:List Tx,(d_ l).Pairwise gI
 | []=>.nil
 | x :: r=>AA x _ (AB r)
theorem AD(hp:l'.Perm l)(hs:l'.Pairwise gI):l'=d_ l :=
 List.Perm.eq_of_pairwise (λ_ _ _ _ h1 h2=>Ih h1 h2) hs (AB l) (hp.trans (qW l).symm)
theorem uJ:∀ (x:Str) (r:List Str),risingS x r=true->((x :: r).map λz:Str=>z.cps.toList).Pairwise gI
 | x,[],_=>by simp
 | x,y :: r,h=>by
  have h':(!ltCps y.cps.toList x.cps.toList && risingS y r)=true:=h;rw[Ws] at h';have ih:=uJ y r h'.2;have qX:gI x.cps.toList y.cps.toList:=by
   have:=h'.1;rw[ltCps_eq] at this;simpa using this
  rw[Wc];refine Q1.mpr ⟨λz hz=>?_,ih⟩;rw[Wc] at hz ih;rcases Wl.mp hz with e | hz
  ·subst e; exact qX
  ·exact Az qX ((Q1.mp ih).1 z hz)
theorem Ii:dg X (.builtin "sorted") (λxs H Q=>∃ (a:Addr) (ts:List Tx),xs=[.ref a]/\bS X.K H a (ts.map λz=>V.str (toS z))/\ts.length < 64/\∀ p,H p=none->Q (.ref p) (upd H p (.lst ((d_ ts).map λz=>V.str (toS z))))):=by
 intro pins s σ H xs us Q I r h;obtain⟨a,ts,rfl,hq,hz,q⟩:=h;obtain⟨u,rfl,ru⟩:=fJ r
 cases ru;obtain⟨ae,r',p,_⟩:=I.list hq;have r2:Vals ((ts.map toS).map V.str) ae:=by rw[Wv]; exact r'
 have hlen:=r'.length;rw[Wq] at hlen;refine sorted_strs p.isList (qU r2) (by omega) λout ss hS hp hs=>?_
 have e:ss=(d_ ts).map toS:=by
  have uK:(ss.map λz:Str=>z.cps.toList).Pairwise gI:=by
   cases ss with
   | nil=>simp
   | cons x r=>exact uJ x r hs
  have uL:(ss.map λz:Str=>z.cps.toList).Perm ts:=by
   have:=hp.map λz:Str=>z.cps.toList
   rw[Wv] at this;have e2:ts.map ((λz:Str=>z.cps.toList) ∘ toS)=ts:=by
    rw[show((λz:Str=>z.cps.toList) ∘ toS)=id from funext λz=>oO z,List.map_id]
   rw[e2] at this;exact this
  rw[<- AD uL uK,Wv];have:(toS ∘ λz:Str=>z.cps.toList)=id:=funext λz=>(uC z).symm
  rw[this,List.map_id]
 obtain⟨ep,he⟩:=sortedAll_at s.heap ae out;have hv:Vals ((d_ ts).map λz=>V.str (toS z)) out.toList:=by
  have:=oV hS;rw[e,Wv] at this;exact this
 have mW:((d_ ts).map λz=>V.str (toS z)).length<=W8:=by
  rw[Wq,(qW ts).length_eq];exact WP (Js hz) (by rw[QF]; decide)
 refine⟨.ref (s.heap.objs.size + 1),_,I.laid (a:=s.heap.objs.size + 1) (o:=.lst ((d_ ts).map λz=>V.str (toS z))) (t':=s.toks) (λb u e=>sortedAll_old e) (JD _) ?_,rfl,q _ (I.aj.fresh (JD _))⟩;exact⟨mW,out.toList,ep,hv,by simpa[seqObj] using he⟩
end
def p2(p:D->D->Option S)(x y:D)(δ:Dl):Rs S:=match p x y with
 | some s=>.ok s δ
 | none=>.stuck
def a_(p:D->D->Option S)(fa:DE)(fb:BE):DE:=λδ=>(fa δ).bind λx δ1=>(fb δ1).bind λy δ2=>p2 p x.d y δ2
def bz(p:D->D->Option S)(i:Nat)(fb:BE):DE:=λδ=>(fb δ).bind λy δ1=>(ao i δ1).bind λx δ2=>p2 p x y δ2
def cq(r:R2)(p:D->D->Option S):Prop:=∀ (c:Fc) (σ:St) (δ:Dl) (H:Hp) (x y:V) (d e:D) (s:S) (Q:VK),Ok c σ δ H->cn c σ δ H x d->cn c σ δ H y e->p d e=some s ->
 (∀ v H',aG c σ δ H σ δ H'->aU c σ δ H H' v s->Q v H')->r x y H Q
section
variable {X:Cx} {c:Fc} {a b:Expr} {fa:DE} {fb:BE} {r:R2} {p:D->D->Option S} {pos:Pos}
theorem AE(hp:cq r p)(k:Ok c σ δ H)(rx:cn c σ δ H x d)(ry:cn c σ δ H y e)
  (h:post c (p2 p d e δ) λs δ'=>∀ v H',aG c σ δ H σ δ' H'->aU c σ δ' H H' v s->Q v H'):r x y H Q:=by
 unfold p2 at h
 cases e1:p d e with
 | none=>rw[e1] at h; exact h.elim
 | some s=>rw[e1] at h; exact hp c σ δ H x y d e s Q k rx ry e1 h
theorem uM(hp:cq r p)(h:tD c (a_ p fa fb) σ H Q):lA r (tD c fa) (tB c fb) σ H Q:=by
 obtain⟨δ,k,q⟩:=h;refine⟨δ,k,?_⟩;unfold a_ at q;rw[aY] at q;refine aN q λx δ1 q1 v H1 a1 r1=>⟨δ1,a1.ok,?_⟩
 rw[aY] at q1;refine aN q1 λy δ2 q2 u H2 a2 r2=>?_
 exact AE hp a2.ok (.inl (Rep.dF r1.rep a2)) r2 (aN q2 λs δ3 q3 v' H3 a3 r3=>q3 v' H3 (a1.trans (a2.trans a3)) (aU.back r3 (a1.trans a2)))
theorem Ij(hp:cq r p)(h:tD c (bz p i fb) σ H Q)(hv:∀ δ,Ok c σ δ H->post c (fb δ) (λ_ _=>True)->∃ v,σ[i]? = some (some v)):lA r (de i) (tB c fb) σ H Q:=by
 obtain⟨δ,k,q⟩:=h;unfold bz at q;rw[aY] at q;obtain⟨v,ev⟩:=hv δ k (aN q λ_ _ _=>trivial);refine⟨v,ev,δ,k,aN q λy δ1 q1 u H1 a1 r1=>?_⟩;rw[aY] at q1;unfold ao at q1
 cases e:δ1[i]? with
 | none=>rw[e] at q1; exact q1.elim
 | some o =>
  cases o with
  | none=>rw[e] at q1; exact q1.elim
  | some w =>
   rw[e] at q1;have uN:post c (p2 p w.d y δ1) λs δ'=>∀ v H',aG c σ δ H σ δ' H'->aU c σ δ' H H' v s->Q v H':=q1
   have rb:cn c σ δ1 H1 v w.d:=by
    cases w with
    | pure d =>
     obtain⟨v',e1,r⟩:=a1.ok.slot i d e;rw[ev] at e1; cases e1
     exact .inl r
    | own d =>
     obtain⟨a,e1,r,_⟩:=a1.ok.own i d e;rw[ev] at e1; cases e1
     exact .inr ⟨a,rfl,r⟩
   exact AE hp a1.ok rb r1 (aN uN λs δ3 q3 v' H3 a3 r3=>q3 v' H3 (a1.trans a3) (aU.back r3 a1))
theorem qY{i:Nat}{σ:St}{δ:Dl}{H:Hp}(k:Ok c σ δ H){w:S}(e:δ[i]? = some (some w)):∃ v,σ[i]? = some (some v):=by
 cases w with
 | pure d=>obtain⟨v,e1,_⟩:=k.slot i d e; exact⟨v,e1⟩
 | own d=>obtain⟨a,e1,_⟩:=k.own i d e; exact⟨_,e1⟩
end
def aq(p:D->D->Option S)(i:Nat)(fb:BE):DE:=λδ=>match δ[i]? with
 | some (some _)=>bz p i fb δ
 | _=>.stuck
section
variable {X:Cx} {c:Fc} {a b:Expr} {fa:DE} {fb:BE} {r:R2} {p:D->D->Option S} {pos:Pos}
theorem qZ(hp:cq r p){i:Nat}{σ:St}{H:Hp}{Q:VK}(h:tD c (aq p i fb) σ H Q):lA r (de i) (tB c fb) σ H Q:=by
 obtain⟨δ,k,q⟩:=h;unfold aq at q
 cases e:δ[i]? with
 | none=>rw[e] at q; exact q.elim
 | some o =>
  cases o with
  | none=>rw[e] at q; exact q.elim
  | some w =>
   rw[e] at q;obtain⟨v,ev⟩:=qY k e;exact Ij hp (i:=i) ⟨δ,k,q⟩ λ_ _ _=>⟨v,ev⟩
theorem dO{op:Operator}(ho:bh X (Qo op) r)(hp:cq r p)(ha:SE X c a fa)(hb:SB X c b fb):SE X c (.BinOp a op b pos) (a_ p fa fb):=PE.weak (y8 ho ha hb) λ_ _ _ h=>uM hp h
theorem kG{op:Operator}{i:Nat}(ho:bh X (Qo op) r)(hp:cq r p)(ha:PE X a (de i))(hb:SB X c b fb):SE X c (.BinOp a op b pos) (aq p i fb):=PE.weak (y8 ho ha hb) λ_ _ _ h=>qZ hp h
theorem Ik{op:CmpOp}{i:Nat}(ho:bh X (WE op) r)(hp:cq r p)(ha:PE X a (de i))(hb:SB X c b fb)(hm:Qy op b=false):SE X c (.Compare a [op] [b] pos) (aq p i fb):=PE.weak (FL ho ha hb hm) λ_ _ _ h=>qZ hp h
theorem Il(hr:fW X r)(hp:cq r p)(ha:SE X c a fa)(hb:SB X c b fb)(hs:t8 b):SE X c (.Subscript a b pos) (a_ p fa fb):=PE.weak (zB hr ha hb hs) λ_ _ _ h=>uM hp h
theorem cy{i:Nat}(hr:fW X r)(hp:cq r p)(ha:PE X a (de i))(hb:SB X c b fb)(hs:t8 b):SE X c (.Subscript a b pos) (aq p i fb):=PE.weak (zB hr ha hb hs) λ_ _ _ h=>qZ hp h
end
abbrev DT:=Dl->Rs Bool
def tT(c:Fc)(f:DT):TT:=λσ H Q=>∃ δ,Ok c σ δ H/\post c (f δ) λb δ'=>∀ H',aG c σ δ H σ δ' H'->Q b H'
abbrev ST(X:Cx)(c:Fc)(e:Expr)(f:DT):Prop:=PT X e (tT c f)
theorem PT.weak(h:PT X e t)(w:∀ σ H Q,t' σ H Q->t σ H Q):PT X e t':=λpins s σ H Q I q=>h pins s σ H Q I (w σ H Q q)
def aH(f:DE):DT:=λδ=>(f δ).bind λr δ'=>match r with
 | .pure (.bl b)=>.ok b δ'
 | _=>.stuck
section
variable {X:Cx} {c:Fc} {a b:Expr} {fa f:DE} {fb:BE} {r:R2} {p:D->D->Option S} {pos:Pos}
theorem uO(h:tT c (aH f) σ H Q):tD c f σ H λx H'=>∃ k,x = .bl k/\Q k H':=by
 obtain⟨δ,k,q⟩:=h;refine⟨δ,k,?_⟩;unfold aH at q;rw[aY] at q;refine aN q λr δ1 q1 v H1 a1 r1=>?_
 cases r with
 | own d=>exact q1.elim
 | pure d =>
  cases d <;> first | exact q1.elim | skip
  rename_i b
  cases r1;exact⟨b,rfl,q1 H1 a1⟩
theorem gc{op:CmpOp}(ho:bh X (WE op) r)(hp:cq r p)(ha:SE X c a fa)(hb:SB X c b fb)(hm:Qy op b=false):ST X c (.Compare a [op] [b] pos) (aH (a_ p fa fb)) :=
 PT.weak (zc ho ha hb hm) λσ H Q h=>uM hp (uO h)
theorem mY{op:CmpOp}{i:Nat}(ho:bh X (WE op) r)(hp:cq r p)(ha:PE X a (de i))(hb:SB X c b fb)(hm:Qy op b=false):ST X c (.Compare a [op] [b] pos) (aH (aq p i fb)) :=
 PT.weak (zc ho ha hb hm) λσ H Q h=>qZ hp (uO h)
theorem q_{e:Expr}(h:SE X c e f)(he:∀ whole,isTrue e X.env whole=(do let v <- whole; standAt e.pos; holding [v] (truthy v)):=by intro _; rfl):ST X c e (aH f) :=
 PT.weak (ER h he) λσ H Q h=>uO h
def rg(t u:DT):DT:=λδ=>(t δ).bind λb δ1=>if b then u δ1 else .ok false δ1
def jh(t u:DT):DT:=λδ=>(t δ).bind λb δ1=>if b then .ok true δ1 else u δ1
def ji(t:DT):DT:=λδ=>(t δ).bind λb δ1=>.ok (!b) δ1
abbrev SW(X:Cx)(c:Fc)(e:Expr)(f:DT):Prop:=PW X e (tT c f)
theorem PW.weak(h:PW X e t)(w:∀ σ H Q,t' σ H Q->t σ H Q):PW X e t':=λwh pins s σ H Q I q=>h wh pins s σ H Q I (w σ H Q q)
variable {t u:DT} {rest:List Expr}
theorem Im(ha:ST X c a t):SW X c (.BoolOp .And [a] pos) t:=EV ha
theorem AF(ha:ST X c a t):SW X c (.BoolOp .Or [a] pos) t:=EW ha
theorem Io(ha:ST X c a t)(hb:SW X c (.BoolOp .And (b :: rest) pos) u):SW X c (.BoolOp .And (a :: b :: rest) pos) (rg t u):=PW.weak (EX ha hb) λσ H Q ⟨δ,k,q⟩=>by
 unfold rg at q;rw[aY] at q;refine⟨δ,k,aN q λx δ1 q1 H1 a1=>?_⟩
 cases x with
 | true=>exact⟨δ1,a1.ok,aN q1 λy δ2 q2 H2 a2=>q2 H2 (a1.trans a2)⟩
 | false=>exact q1 H1 a1
theorem rh(ha:ST X c a t)(hb:SW X c (.BoolOp .Or (b :: rest) pos) u):SW X c (.BoolOp .Or (a :: b :: rest) pos) (jh t u):=PW.weak (pw_or ha hb) λσ H Q ⟨δ,k,q⟩=>by
 unfold jh at q;rw[aY] at q;refine⟨δ,k,aN q λx δ1 q1 H1 a1=>?_⟩
 cases x with
 | false=>exact⟨δ1,a1.ok,aN q1 λy δ2 q2 H2 a2=>q2 H2 (a1.trans a2)⟩
 | true=>exact q1 H1 a1
theorem uP(h:SW X c a t):ST X c a t:=PW.pt h
theorem rj(ha:ST X c a t):ST X c (.UnaryOp .Not a pos) (ji t):=PT.weak (EY ha) λσ H Q ⟨δ,k,q⟩=>by
 unfold ji at q;rw[aY] at q;exact⟨δ,k,q⟩
def Ip(t:DT)(f g:DE):DE:=λδ=>(t δ).bind λb δ1=>if b then f δ1 else g δ1
variable {g:DE}
end
section
variable {c:Fc} {σ:St} {δ:Dl} {H:Hp} {x:V}
theorem cn.int(h:cn c σ δ H x (.int i)):x = .int i:=by
 rcases h with h | ⟨_,_,h⟩
 ·cases h; rfl
 ·exact h.elim
theorem cn.bl(h:cn c σ δ H x (.bl b)):x = .bl b:=by
 rcases h with h | ⟨_,_,h⟩
 ·cases h; rfl
 ·exact h.elim
theorem cn.str(h:cn c σ δ H x (.str z)):x = .str (toS z):=by
 rcases h with h | ⟨_,_,h⟩
 ·cases h; rfl
 ·exact h.elim
theorem cn.tup(h:cn c σ δ H x (.tup ds)):∃ a vs,x = .ref a/\H a=some (.tup vs)/\ax H (Av c σ δ) vs ds:=by
 rcases h with h | ⟨_,_,h⟩
 ·cases h with
  | tup h1 h2 h3 h4=>exact⟨_,_,rfl,h2,h3,h4⟩
 ·exact h.elim
theorem cn.lst(h:cn c σ δ H x (.lst ds)):∃ a vs,x = .ref a/\Rd H a (.lst vs)/\ax H (Av c σ δ) vs ds:=by
 rcases h with h | ⟨a,e,h⟩
 ·cases h with
  | lst h1 h2 h3 h4=>exact⟨_,_,rfl,h2,h3,h4⟩
 ·obtain⟨vs,h1,h2⟩:=h;exact⟨a,vs,e,.inl h1,h2⟩
theorem cn.az(h:cn c σ δ H x (.az ds)):∃ a ws,x = .ref a/\H a=some (.dK ws)/\ws.map (·.1)=ds.map (λp=>ck p.1)/\∀ (i:Nat) p q,ws[i]? = some p->ds[i]? = some q->Rep H (Av c σ δ) p.2 q.2:=by
 rcases h with h | ⟨a,e,h⟩
 ·cases h with
  | az h1 h2 h3 h4=>exact⟨_,_,rfl,h2,h3,h4⟩
 ·obtain⟨ws,h1,h2,h3⟩:=h;exact⟨a,ws,e,h1,h2,h3⟩
end
theorem AG(h:z.length<=W8):(toS z).length<=W8:=by rw[jf]; exact h
theorem Iq(x y:Tx):toS x ++ toS y=toS (x ++ y):=by
 show Str.append (toS x) (toS y)=_;simp[toS,Str.append]
def bA:D->D->Option S
 | .int i,.int j=>some (.pure (.int (i + j)))
 | .str x,.str y=>if x.length + y.length<=W8 then some (.pure (.str (x ++ y))) else none
 | .tup xs,.tup ys=>if xs.length + ys.length<=W8 then some (.pure (.tup (xs ++ ys))) else none
 | .lst xs,.lst ys=>if xs.length + ys.length<=W8 then some (.own (.lst (xs ++ ys))) else none
 | _,_=>none
def AH(K:W2):R2:=λx y H Q=>iL (λi j=>V.int (i + j)) x y H Q\/(∃ i j,x = .str i/\y = .str j/\i.length + j.length<=W8/\Q (.str (i ++ j)) H) \/
 (∃ a b ys,x = .ref a/\y = .ref b/\b9 K H a []/\b9 K H b ys/\Q (.ref b) H)\/zy K x y H Q\/Aw K x y H Q
theorem gf:bh X (Qo .Add) (AH X.K):=Fy.or (FO.or (Ib.or (Gn.or Ic)))
theorem gh{K:W2}:cq (AH K) bA:=by
 intro c σ δ H x y d e s Q k rx ry hp q
 cases d <;> cases e <;> first
  | (simp[bA] at hp; done)
  | skip
 ·rename_i i j;simp only[bA,Wa] at hp;subst hp;exact .inl ⟨i,j,rx.int,ry.int,q _ H (.refl k) (.int _)⟩
 ·rename_i u w;simp only[bA] at hp;split at hp
  ·rename_i hz;simp only[Wa] at hp;subst hp;refine .inr (.inl ⟨toS u,toS w,rx.str,ry.str,by rw[jf,jf]; exact hz,?_⟩);rw[Iq];exact q _ H (.refl k) (.str _)
  ·cases hp
 ·rename_i us ws;simp only[bA] at hp;split at hp
  ·rename_i hz;simp only[Wa] at hp;subst hp;obtain⟨a,vs,ea,ha,ra⟩:=rx.tup;obtain⟨b,zs,eb,hb,rb⟩:=ry.tup
   cases vs with
   | nil =>
    have:us=[]:=by have:=ra.1; simpa using this.symm
    subst this;refine .inr (.inr (.inl ⟨a,b,zs,ea,eb,.of ha,.of hb,?_⟩));rw[eb] at ry;rcases ry with ry | ⟨_,_,ry⟩
    ·exact q _ H (.refl k) ry
    ·exact ry.elim
   | cons v0 vr =>
    refine .inr (.inr (.inr (.inl ⟨a,b,_,zs,ea,eb,.of ha,.of hb,by simp,by rw[ra.1,rb.1]; exact hz,λe0=>?_,λ_ p hp=>?_⟩)))
    ·subst e0;have:ws=[]:=by have:=rb.1; simpa using this.symm
     subst this;rw[ea] at rx;rcases rx with rx | ⟨_,_,rx⟩
     ·rw[Q7] at q;exact q _ H (.refl k) rx
     ·exact rx.elim
    ·exact q _ _ (.alloc k hp _) (aU.mV k (ra.append rb) hp)
  ·cases hp
 ·rename_i us ws;simp only[bA] at hp;split at hp
  ·rename_i hz;simp only[Wa] at hp;subst hp;obtain⟨a,vs,ea,ha,ra⟩:=rx.lst;obtain⟨b,zs,eb,hb,rb⟩:=ry.lst;exact .inr (.inr (.inr (.inr ⟨a,b,vs,zs,ea,eb,.inl ha,.inl hb,by rw[ra.1,rb.1]; exact hz,λp hp=>q _ _ (.alloc k hp _) (aU.jO k (ra.append rb) hp)⟩)))
  ·cases hp
def ef(C:Int->Int->Bool)(g:Int->Int->D):D->D->Option S
 | .int i,.int j=>if C i j then some (.pure (g i j)) else none
 | _,_=>none
theorem oW(hC:∀ i j,C' i j=true->C i j)(hg:∀ i j H O,Rep H O (g i j) (g' i j)):cq (rI C g) (ef C' g'):=by
 intro c σ δ H x y d e s Q k rx ry hp q
 cases d <;> cases e <;> first
  | (simp[ef] at hp; done)
  | skip
 rename_i i j;simp only[ef] at hp;split at hp
 ·rename_i hc;simp only[Wa] at hp;subst hp;exact⟨i,j,rx.int,ry.int,hC i j hc,q _ H (.refl k) (hg i j H _)⟩
 ·cases hp
theorem Ir(hg:∀ i j H O,Rep H O (g i j) (g' i j)):cq (iL g) (ef (λ_ _=>true) g'):=by
 intro c σ δ H x y d e s Q k rx ry hp q
 cases d <;> cases e <;> first
  | (simp[ef] at hp; done)
  | skip
 rename_i i j;simp only[ef,if_true,Wa] at hp;subst hp;exact⟨i,j,rx.int,ry.int,q _ H (.refl k) (hg i j H _)⟩
def uQ:=ef (λ_ _=>true) λi j=>.int (i - j)
theorem Iu:cq (iL λi j=>V.int (i - j)) uQ:=Ir λ_ _ _ _=>.int _
def jj(i j:Int):Bool:=(decide (-(2 ^ 64) < i) && decide (i < 2 ^ 64)) || (decide (-(2 ^ 64) < j) && decide (j < 2 ^ 64))
def oX:=ef jj λi j=>.int (i * j)
theorem Iw:cq (rI oA λi j=>V.int (i * j)) oX:=oW (λi j h=>by
 unfold jj at h;simp only[Bool.or_eq_true,Ws,decide_eq_true_eq] at h;exact h) λ_ _ _ _=>.int _
def oY(_ j:Int):Bool:=decide (0 < j) && decide (j < 1073741824)
def rm:=ef oY λi j=>.int (i / j)
theorem Iy:cq (rI y_ λi j=>V.int (i / j)) rm:=oW (λi j h=>by
 unfold oY at h;simp only[Ws,decide_eq_true_eq] at h;exact h) λ_ _ _ _=>.int _
def fz:=ef (λ_ j=>decide (0 < j)) λi j=>.int (i % j)
theorem lQ:cq (rI (λ_ j=>0 < j) λi j=>V.int (i % j)) fz:=oW (λi j h=>by simpa using h) λ_ _ _ _=>.int _
def uR(i j:Int):Bool:=decide (0<=j) && decide (j<=1000000) && decide (i.natAbs < 2 ^ 64)
def uS:=ef uR λi j=>.int (i ^ j.toNat)
theorem Iz:cq (rI zb λi j=>V.int (i ^ j.toNat)) uS:=oW (λi j h=>by
 unfold uR at h;simp only[Ws,decide_eq_true_eq] at h;exact⟨h.1.1,h.1.2,h.2⟩) λ_ _ _ _=>.int _
def bQ(d e:D):Option S:=if flat 50 d && flat 50 e then some (.pure (.bl (ak d e))) else none
def kH(d e:D):Option S:=if flat 50 d && flat 50 e then some (.pure (.bl (!ak d e))) else none
theorem jR:cq Am bQ:=by
 intro c σ δ H x y d e s Q k rx ry hp q;unfold bQ at hp;split at hp
 ·rename_i hf;rw[Ws] at hf;simp only[Wa] at hp;subst hp;exact⟨d,e,rx.un,ry.un,hf.1,hf.2,q _ H (.refl k) (.bl _)⟩
 ·cases hp
theorem AI:cq An kH:=by
 intro c σ δ H x y d e s Q k rx ry hp q;unfold kH at hp;split at hp
 ·rename_i hf;rw[Ws] at hf;simp only[Wa] at hp;subst hp;exact⟨d,e,rx.un,ry.un,hf.1,hf.2,q _ H (.refl k) (.bl _)⟩
 ·cases hp
def hU(f:Int->Int->Bool)(g:Tx->Tx->Bool):D->D->Option S
 | .int i,.int j=>some (.pure (.bl (f i j)))
 | .str x,.str y=>some (.pure (.bl (g x y)))
 | _,_=>none
def oZ(f:Int->Int->Bool)(g:List Nat->List Nat->Bool):R2:=λx y H Q=>iL (λi j=>V.bl (f i j)) x y H Q\/∃ i j,x = .str i/\y = .str j/\Q (.bl (g i.cps.toList j.cps.toList)) H
theorem uT:cq (oZ f g) (hU f g):=by
 intro c σ δ H x y d e s Q k rx ry hp q
 cases d <;> cases e <;> first
  | (simp[hU] at hp; done)
  | skip
 ·rename_i i j;simp only[hU,Wa] at hp;subst hp;exact .inl ⟨i,j,rx.int,ry.int,q _ H (.refl k) (.bl _)⟩
 ·rename_i i j;simp only[hU,Wa] at hp;subst hp;refine .inr ⟨toS i,toS j,rx.str,ry.str,?_⟩;rw[oO,oO];exact q _ H (.refl k) (.bl _)
theorem AJ{X:Cx}{op:CmpOp}{g:List Nat->List Nat->Bool}(rule:∀ (i j:Str) (t u:Tok) (Q:Value->W1->Prop) (s:W1),Q (.bool (g i.cps.toList j.cps.toList)) s->W6 (model X.prog X.w) X.A (WE op (.str i t) (.str j u)) Q X.xe s) :
  bh X (WE op) (λx y H Q=>∃ i j,x = .str i/\y = .str j/\Q (.bl (g i.cps.toList j.cps.toList)) H):=by
 intro pins s σ H x y v u Q I rx ry h;obtain⟨i,j,rfl,rfl,q⟩:=h;obtain⟨t,rfl⟩:=rx;obtain⟨t',rfl⟩:=ry;exact rule i j t t' _ s ⟨.bl _,H,I,rfl,q⟩
def rn:=hU (λi j=>decide (i < j)) λx y=>decide (x < y)
theorem IA:bh X (WE .Lt) (oZ (λi j=>decide (i < j)) λx y=>decide (x < y)):=FE.or FH
theorem IB:cq (oZ (λi j=>decide (i < j)) λx y=>decide (x < y)) rn:=uT
def aS:D->D->Option S
 | .lst ds,.int i=>(cU ds i).map .pure
 | .tup ds,.int i=>(cU ds i).map .pure
 | .str x,.int i=>if x.length<=W8 then(cU x i).map λn=>.pure (.str [n]) else none
 | _,_=>none
theorem AK(r:ax H O vs ds)(h:cU ds i=some d):∃ v,cU vs i=some v/\Rep H O v d:=by
 unfold cU at h ⊢;rw[r.1]
 cases e:e7 ds.length i with
 | none=>rw[e] at h; cases h
 | some j =>
  rw[e] at h;exact r.get h
theorem c8{K:W2}:cq (qB K) aS:=by
 intro c σ δ H x y d e s Q k rx ry hp q
 cases d <;> cases e <;> first
  | (simp[aS] at hp; done)
  | skip
 ·rename_i z i;simp only[aS] at hp;split at hp
  ·rename_i hz
   cases e1:cU z i with
   | none=>rw[e1] at hp; cases hp
   | some n =>
    rw[e1] at hp;simp only[Wz,Wa] at hp;subst hp;refine .inr (.inr ⟨toS z,i,n,rx.str,ry.int,AG hz,by rw[oO]; exact e1,?_⟩);exact q (.str (toS [n])) H (.refl k) (.str [n])
  ·cases hp
 ·rename_i ds i;simp only[aS] at hp
  cases e1:cU ds i with
  | none=>rw[e1] at hp; cases hp
  | some n =>
   rw[e1] at hp;simp only[Wz,Wa] at hp;subst hp;obtain⟨a,vs,ea,ha,ra⟩:=rx.tup;obtain⟨v,e2,r2⟩:=AK ra e1;exact .inr (.inl ⟨a,vs,i,v,ea,ry.int,.of ha,e2,q v H (.refl k) r2⟩)
 ·rename_i ds i;simp only[aS] at hp
  cases e1:cU ds i with
  | none=>rw[e1] at hp; cases hp
  | some n =>
   rw[e1] at hp;simp only[Wz,Wa] at hp;subst hp;obtain⟨a,vs,ea,ha,ra⟩:=rx.lst;obtain⟨v,e2,r2⟩:=AK ra e1;exact .inl ⟨a,vs,i,v,ea,ry.int,.inl ha,e2,q v H (.refl k) r2⟩
def rA:=hU (λi j=>decide (j < i)) λx y=>decide (y < x)
def AL:=hU (λi j=>decide (j<=i)) λx y=>!decide (x < y)
theorem IC:bh X (WE .Gt) (oZ (λi j=>decide (j < i)) λx y=>decide (y < x)):=FF.or (AJ (g:=λx y=>decide (y < x)) λ_ _ _ _ _ _ h=>PySem.P.gt_str h)
theorem ID:bh X (WE .GtE) (oZ (λi j=>decide (j<=i)) λx y=>!decide (x < y)):=FG.or (AJ (g:=λx y=>!decide (x < y)) λ_ _ _ _ _ _ h=>PySem.P.ge_str h)
abbrev DA:=Dl->Rs (List D)
def IE(c:Fc)(f:DA):TA:=λσ H Q=>∃ δ,Ok c σ δ H/\post c (f δ) λds δ'=>∀ vs H',aG c σ δ H σ δ' H'->ax H' (Av c σ δ') vs ds->Q vs H'
structure SA(X:Cx)(c:Fc)(es:List Expr)(f:DA):Prop where
 pa:PA X es (IE c f)
 len:∀ δ ds δ',f δ = .ok ds δ'->ds.length=es.length
theorem PA.weak(h:PA X es t)(w:∀ σ H Q,t' σ H Q->t σ H Q):PA X es t':=λpos pins s σ H Q I q=>h pos pins s σ H Q I (w σ H Q q)
def cV:DA:=λδ=>.ok [] δ
def cb(f:DE)(g:DA):DA:=λδ=>(f δ).bind λx δ1=>(g δ1).bind λxs δ2=>.ok (x.d :: xs) δ2
section
variable {X:Cx} {c:Fc} {e:Expr} {es:List Expr} {f:DE} {g:DA} {pos:Pos}
theorem e9:SA X c [] cV:=⟨PA.weak fV λσ H Q ⟨δ,k,q⟩=>q [] H (.refl k) .nil,λδ ds δ' h=>by cases h; rfl⟩
theorem AM(ha:SE X c e f)(hr:SA X c es g)(hs:We (e :: es) X.env=(false,eval e X.env) :: We es X.env:=by rfl):SA X c (e :: es) (cb f g):=by
 refine⟨PA.weak (dY ha hr.pa hs) λσ H Q ⟨δ,k,q⟩=>?_,λδ ds δ' h=>?_⟩
 ·unfold cb at q;rw[aY] at q;refine⟨δ,k,aN q λx δ1 q1 v H1 a1 r1=>⟨δ1,a1.ok,?_⟩⟩;rw[aY] at q1;exact aN q1 λxs δ2 q2 vs H2 a2 r2=>q2 (v :: vs) H2 (a1.trans a2) (.cons (Rep.dF r1.rep a2) r2)
 ·unfold cb at h
  cases h1:f δ with
  | ok x δ1 =>
   rw[h1] at h
   cases h2:g δ1 with
   | ok xs δ2 =>
    simp only[Rs.bind,h2] at h
    cases h;simp[hr.len _ _ _ h2]
   | exc x δx=>simp only[Rs.bind,h2] at h; cases h
   | stuck=>simp only[Rs.bind,h2] at h; cases h
  | exc x δx=>rw[h1] at h; cases h
  | stuck=>rw[h1] at h; cases h
def e_(f:DA):DE:=λδ=>(f δ).bind λds δ'=>.ok (.pure (.tup ds)) δ'
def hV(f:DA):DE:=λδ=>(f δ).bind λds δ'=>.ok (.own (.lst ds)) δ'
theorem AN(h:n<=1000):n<=W8:=Js (Hh h)
theorem AO(h:post c r k):post c r λa δ=>r = .ok a δ/\k a δ:=by
 cases r with
 | ok a δ=>exact⟨rfl,h⟩
 | exc x δx=>exact h
 | stuck=>exact h
theorem jk{x1}(h:SA X c es g)(hz:es.length<=1000:=by decide):SE X c (.Tuple es x1 pos) (e_ g):=PE.weak (FX h.pa) λσ H Q ⟨δ,k,q⟩=>by
 unfold e_ at q;rw[aY] at q;refine⟨δ,k,aN (AO q) λds δ1 ⟨e1,q1⟩ vs H1 a1 r1=>?_⟩;have hl:=h.len _ _ _ e1;exact⟨by rw[r1.1,hl]; exact AN hz,λp hp=>q1 _ _ (a1.trans (.alloc a1.ok hp _)) (aU.back (aU.mV a1.ok r1 hp) a1)⟩
theorem kI(h:SA X c es g)(hz:es.length<=1000:=by decide):SE X c (.List es pos) (hV g):=PE.weak (FY h.pa) λσ H Q ⟨δ,k,q⟩=>by
 unfold hV at q;rw[aY] at q;refine⟨δ,k,aN (AO q) λds δ1 ⟨e1,q1⟩ vs H1 a1 r1=>?_⟩;have hl:=h.len _ _ _ e1;exact⟨by rw[r1.1,hl]; exact AN hz,λp hp=>q1 _ _ (a1.trans (.alloc a1.ok hp _)) (aU.back (aU.jO a1.ok r1 hp) a1)⟩
end
def p1(p:D->Option S)(x:D)(δ:Dl):Rs S:=match p x with
 | some s=>.ok s δ
 | none=>.stuck
def aT(p:D->Option S)(fb:BE):DE:=λδ=>(fb δ).bind λx δ1=>p1 p x δ1
def kJ(r:V->Hp->VK->Prop)(p:D->Option S):Prop:=∀ (c:Fc) (σ:St) (δ:Dl) (H:Hp) (x:V) (d:D) (s:S) (Q:VK),Ok c σ δ H->cn c σ δ H x d->p d=some s ->
 (∀ v H',aG c σ δ H σ δ H'->aU c σ δ H H' v s->Q v H')->r x H Q
section
variable {X:Cx} {c:Fc} {e:Expr} {fb:BE} {r:V->Hp->VK->Prop} {p:D->Option S} {x:Str} {id T:String} {pp pos:Pos}
theorem AQ(hp:kJ r p)(k:Ok c σ δ H)(rx:cn c σ δ H v d)
  (h:post c (p1 p d δ) λs δ'=>∀ v H',aG c σ δ H σ δ' H'->aU c σ δ' H H' v s->Q v H'):r v H Q:=by
 unfold p1 at h
 cases e1:p d with
 | none=>rw[e1] at h; exact h.elim
 | some s=>rw[e1] at h; exact hp c σ δ H v d s Q k rx e1 h
theorem uU(hp:kJ r p)(h:tD c (aT p fb) σ H Q):Fx r (tB c fb) σ H Q:=by
 obtain⟨δ,k,q⟩:=h;unfold aT at q;rw[aY] at q;exact⟨δ,k,aN q λy δ1 q1 v H1 a1 r1=>AQ hp a1.ok r1 (aN q1 λs δ2 q2 w H2 a2 r2=>q2 w H2 (a1.trans a2) (aU.back r2 a1))⟩
theorem uV(hc:dg X (.builtin id) rl)(hl:∀ v H Q,r v H Q->rl [v] H Q)(hp:kJ r p)(hg:Gl X x)(hm:X.mg x=none)(hv:Qs x=some (.builtin id))(he:SB X c e fb)
  (hn:x≠"__name__":=by decide) (eW:(x == ("__debug__" : Str))=false:=by decide) (hs:We [e] X.env=(false,eval e X.env) :: We [] X.env:=by rfl) (cN:(Qg pos (We [] X.env)).any (·.1)=false:=by rfl) :
  SE X c (.Call (.Name x pp) [e] [] pos) (aT p fb):=PE.weak (qy hc hg hm hv (dY he fV hs) hn eW hs cN) λσ H Q h=>by
 obtain⟨δ,k,q⟩:=uU hp h;exact⟨δ,k,aN q λy δ1 q1 v H1 a1 r1=>hl _ _ _ (q1 v H1 a1 r1)⟩
theorem o8(hc:dg X (.type T) rl)(hl:∀ v H Q,r v H Q->rl [v] H Q)(hp:kJ r p)(hg:Gl X x)(hm:X.mg x=none)(hv:Qs x=some (.type T))(he:SB X c e fb)
  (hn:x≠"__name__":=by decide) (eW:(x == ("__debug__" : Str))=false:=by decide) (hs:We [e] X.env=(false,eval e X.env) :: We [] X.env:=by rfl) (cN:(Qg pos (We [] X.env)).any (·.1)=false:=by rfl) :
  SE X c (.Call (.Name x pp) [e] [] pos) (aT p fb):=PE.weak (zt hc hg hm hv (dY he fV hs) hn eW hs cN) λσ H Q h=>by
 obtain⟨δ,k,q⟩:=uU hp h;exact⟨δ,k,aN q λy δ1 q1 v H1 a1 r1=>hl _ _ _ (q1 v H1 a1 r1)⟩
def cu:D->Option S
 | .lst ds=>some (.pure (.int ds.length))
 | .tup ds=>some (.pure (.int ds.length))
 | .str z=>if z.length<=W8 then some (.pure (.int z.length)) else none
 | .az ds=>some (.pure (.int ds.length))
 | _=>none
def IF(K:W2):V->Hp->VK->Prop:=λv H Q=>((∃ p ys,v = .ref p/\(bS K H p ys\/b9 K H p ys)/\Q (.int ys.length) H)\/∃ z,v = .str z/\z.length<=W8/\Q (.int z.length) H)\/∃ a kvs,v=V.ref a/\H a=some (.dK kvs)/\Q (.int kvs.length) H
theorem IG{K:W2}:kJ (IF K) cu:=by
 intro c σ δ H x d s Q k rx hp q
 cases d with
 | lst ds =>
  simp only[cu,Wa] at hp;subst hp;obtain⟨a,vs,ea,ha,ra⟩:=rx.lst;exact .inl (.inl ⟨a,vs,ea,.inl (.inl ha),by rw[ra.1]; exact q _ H (.refl k) (.int _)⟩)
 | tup ds =>
  simp only[cu,Wa] at hp;subst hp;obtain⟨a,vs,ea,ha,ra⟩:=rx.tup;exact .inl (.inl ⟨a,vs,ea,.inr (.of ha),by rw[ra.1]; exact q _ H (.refl k) (.int _)⟩)
 | str z =>
  simp only[cu] at hp;split at hp
  ·rename_i hz;simp only[Wa] at hp;subst hp;exact .inl (.inr ⟨toS z,rx.str,AG hz,by rw[jf]; exact q _ H (.refl k) (.int _)⟩)
  ·cases hp
 | az ds =>
  simp only[cu,Wa] at hp;subst hp;obtain⟨a,ws,ea,ha,h1,h2⟩:=rx.az;have hl:ws.length=ds.length:=by have:=congrArg Qx h1; simpa using this
  exact .inr ⟨a,ws,ea,ha,by rw[hl]; exact q _ H (.refl k) (.int _)⟩
 | _=>simp[cu] at hp
theorem lR (hg:Gl X "len") (hm:X.mg "len" = none) (he:SB X c e fb) (hs:We [e] X.env=(false,eval e X.env) :: We [] X.env:=by rfl):SE X c (.Call (.Name "len" pp) [e] [] pos) (aT cu fb) :=
 uV ((GF.or GH).or Hi) (λv H Q h=>by
  rcases h with (⟨p,ys,e,h⟩ | ⟨z,e,h⟩) | ⟨a,kvs,e,h⟩
  ·exact .inl (.inl ⟨p,ys,by rw[e],h⟩)
  ·exact .inl (.inr ⟨z,by rw[e],h⟩)
  ·exact .inr ⟨a,kvs,by rw[e],h⟩) (IG (K:=X.K)) hg hm PySem.boot_len he (by decide) (by decide) hs
def fc:D->Option S
 | .lst ds=>some (.pure (.tup ds))
 | .tup ds=>some (.pure (.tup ds))
 | _=>none
def IH(K:W2):V->Hp->VK->Prop:=λv H Q=>∃ p ys,v = .ref p/\((bS K H p ys/\∀ l,H l=none->Q (.ref l) (upd H l (.tup ys)))\/(b9 K H p ys/\Q (.ref p) H))
theorem II{K:W2}:kJ (IH K) fc:=by
 intro c σ δ H x d s Q k rx hp q
 cases d with
 | lst ds =>
  simp only[fc,Wa] at hp;subst hp;obtain⟨a,vs,ea,ha,ra⟩:=rx.lst;exact⟨a,vs,ea,.inl ⟨.inl ha,λl hl=>q _ _ (.alloc k hl _) (aU.mV k ra hl)⟩⟩
 | tup ds =>
  simp only[fc,Wa] at hp;subst hp;obtain⟨a,vs,ea,ha,ra⟩:=rx.tup;refine⟨a,vs,ea,.inr ⟨.of ha,?_⟩⟩;rw[ea] at rx;rcases rx with rx | ⟨_,_,rx⟩
  ·exact q _ H (.refl k) rx
  ·exact rx.elim
 | _=>simp[fc] at hp
theorem rB (hg:Gl X "tuple") (hm:X.mg "tuple" = none) (he:SB X c e fb) (hs:We [e] X.env=(false,eval e X.env) :: We [] X.env:=by rfl):SE X c (.Call (.Name "tuple" pp) [e] [] pos) (aT fc fb) :=
 o8 GJ (λv H Q ⟨p,ys,e,h⟩=>⟨p,ys,by rw[e],h⟩) (II (K:=X.K)) hg hm PyProof.Rows.boot_tuple he (by decide) (by decide) hs
def mZ:D->Option S
 | .int i=>some (.pure (.int i))
 | .bl b=>some (.pure (.int (if b then 1 else 0)))
 | _=>none
theorem IJ (hg:Gl X "int") (hm:X.mg "int" = none) (he:SB X c e fb) (hs:We [e] X.env=(false,eval e X.env) :: We [] X.env:=by rfl):SE X c (.Call (.Name "int" pp) [e] [] pos) (aT mZ fb) :=
 o8 (r:=λv H Q=>(∃ i,v = .int i/\Q (.int i) H)\/∃ k,v = .bl k/\Q (.int (if k then 1 else 0)) H) FQ (λv H Q h=>by
  rcases h with ⟨i,e,q⟩ | ⟨k,e,q⟩
  ·exact .inl ⟨i,by rw[e],q⟩
  ·exact .inr ⟨k,by rw[e],q⟩) (λc σ δ H x d s Q k rx hp q=>by
  cases d with
  | int i =>
   simp only[mZ,Wa] at hp;subst hp;exact .inl ⟨i,rx.int,q _ H (.refl k) (.int _)⟩
  | bl b =>
   simp only[mZ,Wa] at hp;subst hp;exact .inr ⟨b,rx.bl,q _ H (.refl k) (.int _)⟩
  | _=>simp[mZ] at hp) hg hm PyProof.Rows.boot_int he (by decide) (by decide) hs
def jl:List D->Option (List Bool)
 | []=>some []
 | .bl b :: r=>(jl r).map (b :: ·)
 | _ :: _=>none
def fg:List D->Option (List Tx)
 | []=>some []
 | .str x :: r=>(fg r).map (x :: ·)
 | _ :: _=>none
theorem AR:∀ {ds:List D} {vs:List V} {bs:List Bool},jl ds=some bs->ax H O vs ds->vs=bs.map V.bl
 | [],vs,bs,h,r=>by
  simp only[jl,Wa] at h;subst h;have:=r.1;simpa using this
 | d :: ds,[],bs,h,r=>by have:=r.1; simp at this
 | d :: ds,v :: vs,bs,h,r=>by
  cases d with
  | bl b =>
   simp only[jl] at h
   cases e:jl ds with
   | none=>rw[e] at h; cases h
   | some bs' =>
    rw[e] at h;simp only[Wz,Wa] at h;subst h;have:=r.head
    cases this;rw[AR e r.tail];rfl
  | _=>simp[jl] at h
theorem o9:∀ {ds:List D} {vs:List V} {bs:List Tx},fg ds=some bs->ax H O vs ds->vs=bs.map λz=>V.str (toS z)
 | [],vs,bs,h,r=>by
  simp only[fg,Wa] at h;subst h;have:=r.1;simpa using this
 | d :: ds,[],bs,h,r=>by have:=r.1; simp at this
 | d :: ds,v :: vs,bs,h,r=>by
  cases d with
  | str b =>
   simp only[fg] at h
   cases e:fg ds with
   | none=>rw[e] at h; cases h
   | some bs' =>
    rw[e] at h;simp only[Wz,Wa] at h;subst h;have:=r.head
    cases this;rw[o9 e r.tail];rfl
  | _=>simp[fg] at h
theorem uW:∀ ts:List Tx,ax H O (ts.map λz=>V.str (toS z)) (ts.map D.str)
 | []=>.nil
 | t :: ts=>.cons (.str t) (uW ts)
def jS:D->Option S
 | .lst ds=>(jl ds).map λbs=>.pure (.bl (bs.all (λb=>b)))
 | _=>none
def jT:D->Option S
 | .lst ds=>match fg ds with
  | some ts=>if ts.length < 64 then some (.own (.lst ((d_ ts).map D.str))) else none
  | none=>none
 | _=>none
theorem IK:Qs "all" = some (.builtin "all"):=by decide +kernel
theorem IL (hc:X.calm=true) (hg:Gl X "all") (hm:X.mg "all" = none) (he:SB X c e fb) (hs:We [e] X.env=(false,eval e X.env) :: We [] X.env:=by rfl):SE X c (.Call (.Name "all" pp) [e] [] pos) (aT jS fb) :=
 uV (r:=λv H Q=>∃ (a:Addr) (bs:List Bool),v = .ref a/\bS X.K H a (bs.map V.bl)/\Q (.bl (bs.all (λb=>b))) H) (Ig hc) (λv H Q ⟨a,bs,e,h⟩=>⟨a,bs,by rw[e],h⟩) (λc σ δ H x d s Q k rx hp q=>by
  cases d with
  | lst ds =>
   simp only[jS] at hp
   cases e:jl ds with
   | none=>rw[e] at hp; cases hp
   | some bs =>
    rw[e] at hp;simp only[Wz,Wa] at hp;subst hp;obtain⟨a,vs,ea,ha,ra⟩:=rx.lst;have:=AR e ra;subst this;exact⟨a,bs,ea,.inl ha,q _ H (.refl k) (.bl _)⟩
  | _=>simp[jS] at hp) hg hm IK he (by decide) (by decide) hs
theorem uX (hg:Gl X "sorted") (hm:X.mg "sorted" = none) (he:SB X c e fb) (hs:We [e] X.env=(false,eval e X.env) :: We [] X.env:=by rfl):SE X c (.Call (.Name "sorted" pp) [e] [] pos) (aT jT fb) :=
 uV (r:=λv H Q=>∃ (a:Addr) (ts:List Tx),v = .ref a/\bS X.K H a (ts.map λz=>V.str (toS z))/\ts.length < 64/\∀ p,H p=none->Q (.ref p) (upd H p (.lst ((d_ ts).map λz=>V.str (toS z))))) Ii (λv H Q ⟨a,bs,e,h⟩=>⟨a,bs,by rw[e],h⟩) (λc σ δ H x d s Q k rx hp q=>by
  cases d with
  | lst ds =>
   simp only[jT] at hp
   cases e:fg ds with
   | none=>rw[e] at hp; cases hp
   | some ts =>
    rw[e] at hp;simp only at hp;split at hp
    ·rename_i hz;simp only[Wa] at hp;subst hp;obtain⟨a,vs,ea,ha,ra⟩:=rx.lst;have:=o9 e ra;subst this;exact⟨a,ts,ea,.inl ha,hz,λp hp=>q _ _ (.alloc k hp _) (aU.jO k (uW _) hp)⟩
    ·cases hp
  | _=>simp[jT] at hp) hg hm PyProof.Rows.boot_sorted he (by decide) (by decide) hs
def uY:D->D->Option S
 | .int i,.int j=>some (.pure (.int (if j > i then j else i)))
 | _,_=>none
def rC(f g:DE):DE:=λδ=>(f δ).bind λx δ1=>(g δ1).bind λy δ2=>p2 uY x.d y.d δ2
theorem IM {a b:Expr} {f g:DE} (hc:X.calm=true) (hg:Gl X "max") (hm:X.mg "max" = none) (ha:SE X c a f) (hb:SE X c b g) (hs:We [a,b] X.env=(false,eval a X.env) :: We [b] X.env:=by rfl)
  (h8:We [b] X.env=(false,eval b X.env) :: We [] X.env:=by rfl) (cN:(Qg pos (We [b] X.env)).any (·.1)=false:=by rfl):SE X c (.Call (.Name "max" pp) [a,b] [] pos) (rC f g) :=
 PE.weak (qy (FP hc) hg hm PyProof.Rows.boot_max (dY ha (dY hb fV h8) hs) (by decide) (by decide) hs cN) λσ H Q ⟨δ,k,q⟩=>by
  unfold rC at q;rw[aY] at q;refine⟨δ,k,aN q λx δ1 q1 v H1 a1 r1=>⟨δ1,a1.ok,?_⟩⟩;rw[aY] at q1;refine aN q1 λy δ2 q2 u H2 a2 r2=>?_
  unfold p2 at q2;have hx:cn c σ δ2 H2 v x.d:=.inl (Rep.dF r1.rep a2);have hy:=r2.b;generalize x.d=dx at q2 hx;generalize y.d=dy at q2 hy
  cases dx <;> cases dy <;> first
   | exact q2.elim
   | skip
  rename_i i j;exact⟨i,j,by rw[hx.int,hy.int],q2 _ H2 (a1.trans a2) (.int _)⟩
def lT(T:String):D->Option Bool
 | .ay=>some (T == "NoneType")
 | .bl _=>some (T == "bool" || T == "int")
 | .int _=>some (T == "int")
 | .str _=>some (T == "str")
 | .tup _=>some (T == "tuple")
 | .lst _=>some (T == "list")
 | .az _=>some (T == "dict")
 | .exc _ _=>none
 | .xd _=>none
 | .fn _=>none
 | .dic _=>none
structure jU(K:W2)(T:String):Prop where
 ay:QB K (.type "NoneType") (.type T)=some (T == "NoneType")
 bl:QB K (.type "bool") (.type T)=some (T == "bool" || T == "int")
 int:QB K (.type "int") (.type T)=some (T == "int")
 str:QB K (.type "str") (.type T)=some (T == "str")
 tup:QB K (.type "tuple") (.type T)=some (T == "tuple")
 lst:QB K (.type "list") (.type T)=some (T == "list")
 az:QB K (.type "dict") (.type T)=some (T == "dict")
def gJ(T:String)(fb:BE):DE:=λδ=>(fb δ).bind λd δ'=>match lT T d with
 | some b=>.ok (.pure (.bl b)) δ'
 | none=>.stuck
theorem IP(ty:jU X.K T)(I:Inv X pins σ H s)(ru:RelV v u)(r:Rep H cx v d)(e:lT T d=some b)(q:Q (.bl b) H) :
  W6 (model X.prog X.w) X.A (call (.builtin "isinstance") [u,.type T]) (EP X pins σ Q) X.xe s:=by
 have fin:∀ tk,EP X pins σ Q (.bool b) { s with toks:=tk }:=λtk=>⟨.bl b,H,I.tok tk,rfl,q⟩
 cases r with
 | ay=>exact ku I ru .ay (ty.ay.trans e) fin
 | bl x=>exact ku I ru (.bl x) (ty.bl.trans e) fin
 | int x=>exact ku I ru (.int x) (ty.int.trans e) fin
 | str x=>exact ku I ru (.str _) (ty.str.trans e) fin
 | tup _ h2 _ _=>exact ku I ru (.tup h2) (ty.tup.trans e) fin
 | lst _ h2 _ _ =>
  rcases h2 with h2 | ⟨o,h2⟩
  ·exact ku I ru (.lst h2) (ty.lst.trans e) fin
  ·exact ku I ru (.frz h2) (ty.lst.trans e) fin
 | az _ h2 _ _=>exact ku I ru (.dK h2) (ty.az.trans e) fin
 | exc _ _=>cases e
 | xd _ _=>cases e
 | fn _=>cases e
 | dic _=>cases e
theorem IQ (ty:jU X.K T):dg X (.builtin "isinstance") (λxs H Q=>∃ v d b,xs=[v,.ty T]/\Rep H cx v d/\lT T d=some b/\Q (.bl b) H):=by
 intro pins s σ H xs us Q I r h;obtain⟨v,d,b,rfl,rp,e,q⟩:=h;obtain⟨u,w',rfl,r1,r2⟩:=zd r
 cases r2;exact IP ty I r1 rp e q
theorem rD {y:Str} {py:Pos} (ty:jU X.K T) (hg:Gl X "isinstance") (hm:X.mg "isinstance" = none) (IS:Gl X y) (IT:X.mg y=none) (IU:Qs y=some (.type T)) (he:SB X c e fb)
  (IV:y≠"__name__":=by decide) (IW:(y == ("__debug__" : Str))=false:=by decide)
  (hs:We [e,.Name y py] X.env=(false,eval e X.env) :: We [.Name y py] X.env:=by rfl) (cN:(Qg pos (We [.Name y py] X.env)).any (·.1)=false:=by rfl) :
  SE X c (.Call (.Name "isinstance" pp) [e,.Name y py] [] pos) (gJ T fb) :=
 PE.weak (qy (IQ ty) hg hm PyProof.Rows.boot_isinstance (dY he (dY (EM (v:=.ty T) IS IT IU rfl IV IW) fV) hs) (by decide) (by decide) hs cN) λσ H Q ⟨δ,k,q⟩=>by
  unfold gJ at q;rw[aY] at q;refine⟨δ,k,aN q λd δ1 q1 v H1 a1 r1=>?_⟩
  cases e1:lT T d with
  | none=>rw[e1] at q1; exact q1.elim
  | some b =>
   rw[e1] at q1;exact⟨v,d,b,rfl,r1.un,e1,q1 _ H1 a1 (.bl _)⟩
end
abbrev kK:=Dl->Rs (Option Int)
def IX(c:Fc)(f:kK):TO:=λσ H Q=>∃ δ,Ok c σ δ H/\post c (f δ) λo δ'=>∀ H',aG c σ δ H σ δ' H'->Q o H'
abbrev SO(X:Cx)(c:Fc)(e:Option Expr)(f:kK):Prop:=PO X e (IX c f)
theorem PO.weak(h:PO X e t)(w:∀ σ H Q,t' σ H Q->t σ H Q):PO X e t':=λpins s σ H Q I q=>h pins s σ H Q I (w σ H Q q)
def IY:kK:=λδ=>.ok none δ
def lU(f:DE):kK:=λδ=>(f δ).bind λr δ'=>match r with
 | .pure (.int i)=>.ok (some i) δ'
 | _=>.stuck
section
variable {X:Cx} {c:Fc} {e:Expr} {f:DE} {fb:BE} {fl fh:kK} {lo hi:Option Expr} {pos p2:Pos}
theorem AS(h:SE X c e f):SO X c (some e) (lU f):=PO.weak (Gg h) λσ H Q ⟨δ,k,q⟩=>by
 unfold lU at q;rw[aY] at q;refine⟨δ,k,aN q λr δ1 q1 v H1 a1 r1=>?_⟩
 cases r with
 | own d=>exact q1.elim
 | pure d =>
  cases d <;> first | exact q1.elim | skip
  rename_i i
  cases r1;exact⟨i,rfl,q1 H1 a1⟩
def jm(lo hi:Option Int):D->Option S
 | .str x=>if x.length<=W8 then some (.pure (.str (cH x lo hi))) else none
 | .tup ds=>some (.pure (.tup (cH ds lo hi)))
 | .lst ds=>some (.own (.lst (cH ds lo hi)))
 | _=>none
def AU(K:W2):V->Option Int->Option Int->Hp->VK->Prop:=λx lo hi H Q=>As x lo hi H Q\/Aq K x lo hi H Q\/zF K x lo hi H Q
theorem IZ:jb X (AU X.K):=Ia.or (HY.or Gz)
theorem I0{K:W2}(lo hi:Option Int):kJ (λx H Q=>AU K x lo hi H Q) (jm lo hi):=by
 intro c σ δ H x d s Q k rx hp q
 cases d with
 | str z =>
  simp only[jm] at hp;split at hp
  ·rename_i hz;simp only[Wa] at hp;subst hp;exact .inl ⟨z,rx.str,hz,q _ H (.refl k) (.str _)⟩
  ·cases hp
 | tup ds =>
  simp only[jm,Wa] at hp;subst hp;obtain⟨a,vs,ea,ha,ra⟩:=rx.tup;refine .inr (.inl ⟨a,vs,ea,.of ha,λhw=>?_,λ_ p hp=>?_⟩)
  ·rw[ra.1] at hw;rw[HW hw] at q;rw[ea] at rx;rcases rx with rx | ⟨_,_,rx⟩
   ·exact q _ H (.refl k) rx
   ·exact rx.elim
  ·rw[<- Ap];exact q _ _ (.alloc k hp _) (aU.mV k (ra.cut lo hi) hp)
 | lst ds =>
  simp only[jm,Wa] at hp;subst hp;obtain⟨a,vs,ea,ha,ra⟩:=rx.lst;refine .inr (.inr ⟨a,vs,ea,.inl ha,λp hp=>?_⟩);rw[<- Ap];exact q _ _ (.alloc k hp _) (aU.jO k (ra.cut lo hi) hp)
 | _=>simp[jm] at hp
def I_(f:DE)(fl fh:kK):DE:=λδ=>(f δ).bind λx δ1=>(fl δ1).bind λl δ2=>(fh δ2).bind λh δ3=>p1 (jm l h) x.d δ3
def o_(i:Nat)(fl fh:kK):DE:=λδ=>match δ[i]? with
 | some (some _)=>(fl δ).bind λl δ2=>(fh δ2).bind λh δ3=>(ao i δ3).bind λx δ4=>p1 (jm l h) x δ4
 | _=>.stuck
theorem uZ{i:Nat}{σ:St}{δ:Dl}{H:Hp}{v:V}{w:S}(k:Ok c σ δ H)(e:δ[i]? = some (some w))(ev:σ[i]? = some (some v)):cn c σ δ H v w.d:=by
 cases w with
 | pure d =>
  obtain⟨v',e1,r⟩:=k.slot i d e;rw[ev] at e1; cases e1
  exact .inl r
 | own d =>
  obtain⟨a,e1,r,_⟩:=k.own i d e;rw[ev] at e1; cases e1
  exact .inr ⟨a,rfl,r⟩
theorem J_(h:post c ((ao i δ).bind g) kk):∃ w,δ[i]? = some (some w)/\post c (g w.d δ) kk:=by
 unfold ao at h
 cases e:δ[i]? with
 | none=>rw[e] at h; exact h.elim
 | some o =>
  cases o with
  | none=>rw[e] at h; exact h.elim
  | some w=>rw[e] at h; exact⟨w,rfl,h⟩
theorem Ka{i:Nat}(he:PE X e (de i))(hl:SO X c lo fl)(hh:SO X c hi fh):SE X c (.Subscript e (.Slice lo hi none p2) pos) (o_ i fl fh):=PE.weak (Gj IZ he hl hh) λσ H Q ⟨δ,k,q⟩=>by
 unfold o_ at q
 cases e:δ[i]? with
 | none=>rw[e] at q; exact q.elim
 | some o =>
  cases o with
  | none=>rw[e] at q; exact q.elim
  | some w =>
   rw[e] at q;obtain⟨v,ev⟩:=qY k e;have q':post c ((fl δ).bind λl δ2=>(fh δ2).bind λh δ3=>(ao i δ3).bind λx δ4=>p1 (jm l h) x δ4) λr δ'=>∀ v H',aG c σ δ H σ δ' H'->aU c σ δ' H H' v r->Q v H':=q
   rw[aY] at q';refine⟨v,ev,δ,k,aN q' λl δ2 q2 H2 a2=>⟨δ2,a2.ok,?_⟩⟩;rw[aY] at q2;refine aN q2 λh δ3 q3 H3 a3=>?_
   obtain⟨w3,e3,q4⟩:=J_ q3;exact AQ (I0 l h) a3.ok (uZ a3.ok e3 ev) (aN q4 λs δ4 q4 w H4 a4 r4=>q4 w H4 (a2.trans (a3.trans a4)) (aU.back r4 (a2.trans a3)))
def iS(z:Tx):List Tx->Tx
 | []=>[]
 | [x]=>x
 | x :: y :: r=>x ++ z ++ iS z (y :: r)
theorem AV(z:Tx):∀ (r:List Tx) (acc:Tx),((r.map toS).foldl (λ(acc:Array Nat) p=>acc ++ (toS z).cps ++ p.cps) acc.toArray)=(match r with | []=>acc | x :: r'=>acc ++ z ++ iS z (x :: r')).toArray
 | [],acc=>rfl
 | x :: r,acc=>by
  rw[Wc,QW];have e:acc.toArray ++ (toS z).cps ++ (toS x).cps=(acc ++ z ++ x).toArray:=by simp[toS]
  rw[e,AV z r (acc ++ z ++ x)]
  cases r with
  | nil=>simp[iS]
  | cons y r'=>simp[iS]
theorem Kb(z:Tx)(ts:List Tx):Txt.join (toS z) (ts.map toS)=toS (iS z ts):=by
 show Builtin.Str.glued _ _=_;unfold Builtin.Str.glued
 cases ts with
 | nil=>rfl
 | cons x r =>
  rw[Wc];show(⟨(List.foldl _ (toS x).cps (r.map toS))⟩:Str)=_;have:=AV z r x;have e:(toS x).cps=x.toArray:=rfl;rw[e,this]
  cases r with
  | nil=>rfl
  | cons y r'=>rfl
def gi(ts:List Tx):Nat:=(ts.map (·.length)).sum
def di(z:Tx):D->Option S
 | .lst ds=>match fg ds with
  | some ts=>if gi ts + ts.length * z.length<=16777216 then some (.pure (.str (iS z ts))) else none
  | none=>none
 | .tup ds=>match fg ds with
  | some ts=>if gi ts + ts.length * z.length<=16777216 then some (.pure (.str (iS z ts))) else none
  | none=>none
 | _=>none
theorem Kc{K:W2}(z:Tx):kJ (λx H Q=>qV K (.str (toS z)) [x] H Q) (di z):=by
 intro c σ δ H x d s Q k rx hp q;have key:∀ (a:Addr) (vs:List V) (ds:List D),x = .ref a->(bS K H a vs\/b9 K H a vs)->ax H (Av c σ δ) vs ds->(match fg ds with | some ts=>if gi ts + ts.length * z.length<=16777216 then some (S.pure (.str (iS z ts))) else none | none=>none)=some s->qV K (.str (toS z)) [x] H Q:=by
  intro a vs ds ea ha ra hp
  cases e:fg ds with
  | none=>rw[e] at hp; cases hp
  | some ts =>
   rw[e] at hp;simp only at hp;split at hp
   ·rename_i hz;simp only[Wa] at hp;subst hp;have:=o9 e ra;subst this;refine⟨toS z,a,ts.map toS,rfl,by rw[ea],?_,?_,?_⟩
    ·rw[Wv]; exact ha
    ·rw[Wv,Wq,jf];have:((λx:Str=>x.length) ∘ toS)=λx:Tx=>x.length:=funext λx=>jf x
     rw[this];exact hz
    ·rw[Kb];exact q _ H (.refl k) (.str _)
   ·cases hp
 cases d with
 | lst ds =>
  obtain⟨a,vs,ea,ha,ra⟩:=rx.lst;exact key a vs ds ea (.inl (.inl ha)) ra hp
 | tup ds =>
  obtain⟨a,vs,ea,ha,ra⟩:=rx.tup;exact key a vs ds ea (.inr (.of ha)) ra hp
 | _=>simp[di] at hp
theorem pb{x:Str}{j}{p0 apos bb:Pos}(z:Tx)(he:SB X c e fb)(hx:x=toS z:=by decide +kernel)
  (oD:QY (.Constant (.str x) j p0) "join" X.env (eval (.Constant (.str x) j p0) X.env)=eval (.Constant (.str x) j p0) X.env:=by rfl)
  (oE:((Qg bb (We [e] X.env)).all (λx=>!x.1) && (backToKw bb (JB [] X.env)).all (λx=>x.1.isSome)
   && decide ([e].length + ([]:List Keyword).length + (if ([]:List Keyword).isEmpty then 0 else 1) < 30))=true:=by rfl)
  (hJ:(apos.endLine == bb.line)=true:=by rfl) (hs:We [e] X.env=(false,eval e X.env) :: We [] X.env:=by rfl) :
  SE X c (.Call (.Attribute (.Constant (.str x) j p0) "join" apos) [e] [] bb) (aT (di z) fb):=by
 subst hx;refine PE.weak (zJ PySem.F.plainAttrs_str PySem.F.slot_str_join PySem.F.type_str_join Ie yP (dY he fV hs) oD oE hJ hs rfl) λσ H Q h=>?_
 obtain⟨δ,k,q⟩:=uU (r:=λx H Q=>qV X.K (.str (toS z)) [x] H Q) (Kc z) h;refine⟨?_,δ,k,q⟩;show("str" : String) = "str";rfl
end
inductive Fl where
 | next | ret (r:S) | brk | cont
abbrev DS:=Dl->Rs Fl
def fin(c:Fc)(D:Ends)(σ:St)(δ:Dl)(H:Hp):Fl->Prop
 | .next=>D.nx σ H
 | .ret r=>∀ v,aU c σ δ c.H₀ H v r->D.rt v H
 | .brk=>D.bk σ H
 | .cont=>D.ct σ H
def dw(c:Fc)(D:Ends)(σ:St)(δ:Dl)(H:Hp)(r:Rs Fl):Prop:=post c r λfl δ'=>∀ σ' H',aG c σ δ H σ' δ' H'->fin c D σ' δ' H' fl
def m_(c:Fc)(f:DS):TS:=λD σ H=>∃ δ,Ok c σ δ H/\dw c D σ δ H (f δ)
abbrev SS(X:Cx)(c:Fc)(st:Stmt)(f:DS):Prop:=PS X st (m_ c f)
abbrev gK(X:Cx)(c:Fc)(st:List Stmt)(f:DS):Prop:=dq X st (m_ c f)
theorem PS.weak{X:Cx}{st:Stmt}{t t':TS}(h:PS X st t)(w:∀ D σ H,t' D σ H->t D σ H):PS X st t':=λpins s σ H D I q=>h pins s σ H D I (w D σ H q)
theorem dq.weak{X:Cx}{st:List Stmt}{t t':TS}(h:dq X st t)(w:∀ D σ H,t' D σ H->t D σ H):dq X st t':=λpins s σ H D I q=>h pins s σ H D I (w D σ H q)
def dP:DS:=λδ=>.ok .next δ
def aI(f g:DS):DS:=λδ=>(f δ).bind λfl δ1=>match fl with
 | .next=>g δ1
 | .ret r=>.ok (.ret r) δ1
 | .brk=>.ok .brk δ1
 | .cont=>.ok .cont δ1
def nc(f:DE):DS:=λδ=>(f δ).bind λ_ δ1=>.ok .next δ1
def cB(f:DE):DS:=λδ=>(f δ).bind λr δ1=>.ok (.ret r) δ1
def dG(t:DT)(f g:DS):DS:=λδ=>(t δ).bind λb δ1=>if b then f δ1 else g δ1
def AW:DS:=λ_=>.stuck
def R4(np:List Nat)(i:Nat):DE:=λδ=>match δ[i]? with
 | some (some (.own d))=>if np.contains i then .ok (.pure d) (δ.set i (some (.pure d))) else .ok (.own d) (δ.set i none)
 | some (some (.pure d))=>.ok (.pure d) δ
 | _=>.stuck
section
variable {X:Cx} {c:Fc} {st:Stmt} {AX:List Stmt} {e a:Expr} {f g:DS} {fe:DE} {t:DT} {pos pos':Pos}
theorem gL:gK X c [] dP:=dq.weak E4 λD σ H ⟨δ,k,q⟩=>q σ H (.refl k)
theorem a0(h1:SS X c st f)(h2:gK X c AX g):gK X c (st :: AX) (aI f g):=dq.weak (E5 h1 h2) λD σ H ⟨δ,k,q⟩=>by
 unfold aI dw at q;rw[aY] at q;refine⟨δ,k,aN q λfl δ1 q1 σ1 H1 a1=>?_⟩
 cases fl with
 | next=>exact⟨δ1,a1.ok,aN q1 λR5 δ2 q2 σ2 H2 a2=>q2 σ2 H2 (a1.trans a2)⟩
 | ret r=>exact q1 σ1 H1 a1
 | brk=>exact q1 σ1 H1 a1
 | cont=>exact q1 σ1 H1 a1
theorem bq(h1:SS X c st f):gK X c [st] f:=dq.weak (E6 h1) λD σ H h=>h
theorem Kd:SS X c st AW:=PS.weak Fb λD σ H ⟨δ,k,q⟩=>q
theorem c9(he:SE X c e fe):SS X c (.Return (some e) pos) (cB fe):=PS.weak (yT he) λD σ H ⟨δ,k,q⟩=>by
 unfold cB dw at q;rw[aY] at q;exact⟨δ,k,aN q λr δ1 q1 v H1 a1 r1=>q1 σ H1 a1 v r1.HL⟩
theorem gM{b1 b2:List Stmt}(ht:ST X c e t)(h1:gK X c b1 f)(h2:gK X c b2 g):SS X c (.If e b1 b2 pos) (dG t f g):=PS.weak (E9 ht h1 h2) λD σ H ⟨δ,k,q⟩=>by
 unfold dG dw at q;rw[aY] at q;refine⟨δ,k,aN q λb δ1 q1 H1 a1=>?_⟩
 cases b with
 | true=>exact⟨δ1,a1.ok,aN q1 λfl δ2 q2 σ2 H2 a2=>q2 σ2 H2 (a1.trans a2)⟩
 | false=>exact⟨δ1,a1.ok,aN q1 λfl δ2 q2 σ2 H2 a2=>q2 σ2 H2 (a1.trans a2)⟩
theorem Own.pe(h:Own (σ.set i (some v)) (δ.set i (some r)) b):Own σ δ b\/(v = .ref b/\∃ d,r = .own d):=by
 obtain⟨j,d,e1,e2⟩:=h;by_cases hj:i=j
 ·subst hj;right
  rw[Q5] at e1 e2;simp at e1 e2;obtain⟨_,h1⟩:=e1;obtain⟨_,h2⟩:=e2;exact⟨h2,d,h1⟩
 ·rw[W9 hj] at e1 e2;exact .inl ⟨j,d,e1,e2⟩
theorem Ok.set(x:aG c σ₀ δ₀ H₁ σ δ H)(hr:aU c σ δ H₁ H v r)(hp:∀ p ∈ c.pin,p.1≠i):aG c σ₀ δ₀ H₁ (σ.set i (some v)) (δ.set i (some r)) H:=by
 have k:=x.ok;-- all slots avoid the new address,too
 have all:∃ c':Fc,c'.H₀=c.H₀/\c'.pin=c.pin/\Ok c' σ δ H/\(∀ b,Av c (σ.set i (some v)) (δ.set i (some r)) b->Av c' σ δ b):=by
  cases r with
  | pure d =>
   refine⟨c,rfl,rfl,k,λb z=>?_⟩;rcases z with z | z
   ·exact .inl z
   ·rcases z.pe with z | ⟨_,d',e⟩
    ·exact .inr z
    ·cases e
  | own d =>
   obtain⟨a,ea,o,n,f,k2,_⟩:=hr;refine⟨c.plus a,rfl,rfl,k2,λb z=>?_⟩;rcases z with z | z
   ·exact .inl (.inl z)
   ·rcases z.pe with z | ⟨e,_⟩
    ·exact .inr z
    ·rw[ea] at e; cases e
     exact .inl (.inr rfl)
 obtain⟨c',eH,eP,k2,sub⟩:=all;have eI:∀ a,c'.I a ↔ c.I a:=λa=>by unfold Fc.I; rw[eP]
 have Ke:Rep H (Av c (σ.set i (some v)) (δ.set i (some r))) v r.d\/∃ d,r = .own d:=by
  cases r with
  | pure d =>
   left
   refine Rep.aE hr λb z=>?_
   rcases z with z | z
   ·exact .inl (.inl z)
   ·rcases z.pe with z | ⟨_,d',e⟩
    ·exact .inl (.inr z)
    ·cases e
  | own d=>exact .inr ⟨d,rfl⟩
 refine⟨⟨k.keep,k.bd,k.dh,by rw[Qp,Qp]; exact k.len,λj d e=>?_,λj d e=>?_,λj l a d d' e1 e2 e3 e4=>?_,λp hm=>?_⟩,x.keep,λb z=>?_,x.there⟩
 ·by_cases hj:i=j
  ·subst hj;rw[Q5] at e;simp at e;obtain⟨hi,rfl⟩:=e;have jn:i < σ.length:=by rw[<- k.len]; exact hi
   rcases Ke with h | ⟨_,h⟩
   ·exact⟨v,by rw[Wp jn],h⟩
   ·cases h
  ·rw[W9 hj] at e;obtain⟨w,e1,q⟩:=k2.slot j d e;exact⟨w,by rw[W9 hj]; exact e1,q.aE λb z=>.inl (sub b z)⟩
 ·by_cases hj:i=j
  ·subst hj;rw[Q5] at e;simp at e;obtain⟨hi,rfl⟩:=e;have jn:i < σ.length:=by rw[<- k.len]; exact hi
   obtain⟨a,ea,o,n,f,k3,_⟩:=hr;refine⟨a,by rw[Wp jn,ea],o.aE λb z=>.inl ?_,.inr f,n⟩;rcases z with z | z
   ·exact .inl (.inl z)
   ·rcases z.pe with z | ⟨e,_⟩
    ·exact .inr z
    ·rw[ea] at e; cases e
     exact .inl (.inr rfl)
  ·rw[W9 hj] at e;obtain⟨a,e1,q,q2,q3⟩:=k.own j d e;obtain⟨a',pf,q',_,_⟩:=k2.own j d e;rw[e1] at pf; cases pf
   exact⟨a,by rw[W9 hj]; exact e1,q'.aE λb z=>.inl (sub b z),q2,q3⟩
 ·by_cases hj:i=j
  ·subst hj;by_cases hl:i=l
   ·exact hl
   ·rw[W9 hl] at e2 e4;rw[Q5] at e1 e3;simp at e1 e3;obtain⟨_,rfl⟩:=e1;obtain⟨_,rfl⟩:=e3;obtain⟨a',ea,o,n,f,k3,_⟩:=hr
    cases ea;exact absurd ⟨l,d',e2,e4⟩ (mU k3)
  ·rw[W9 hj] at e1 e3;by_cases hl:i=l
   ·subst hl;rw[Q5] at e2 e4;simp at e2 e4;obtain⟨_,rfl⟩:=e2;obtain⟨_,rfl⟩:=e4;obtain⟨a',ea,o,n,f,k3,_⟩:=hr
    cases ea;exact absurd ⟨j,d,e1,e3⟩ (mU k3)
   ·rw[W9 hl] at e2 e4;exact k.inj j l a d d' e1 e2 e3 e4
 ·rw[W9 (Ne.symm (hp p hm))];exact k.pinned p hm
 ·rcases z.pe with z | ⟨e,d,ed⟩
  ·exact x.own b z
  ·subst ed;obtain⟨a,ea,_,_,_,_,hs⟩:=hr;rw[ea] at e; cases e
   exact .inr hs
abbrev DG:=S->Dl->Option Dl
def u0(c:Fc)(g:DG):TG:=λv σ H Q=>∃ σ₀ δ₀ H₁ δ r δ',aG c σ₀ δ₀ H₁ σ δ H/\aU c σ δ H₁ H v r/\g r δ=some δ'/\∀ σ',aG c σ₀ δ₀ H₁ σ' δ' H->Q σ' H
abbrev SG(X:Cx)(c:Fc)(tg:Expr)(g:DG):Prop:=PG X tg (u0 c g)
def ag(np:List Nat)(i:Nat):DG:=λr δ=>if np.contains i then none else some (δ.set i (some r))
def Np(c:Fc)(np:List Nat):Prop:=∀ p ∈ c.pin,np.contains p.1=true
theorem AY(hp:Np c np)(h:u0 c (ag np i) v σ H Q):tG i v σ H Q:=by
 obtain⟨σ₀,δ₀,H₁,δ,r,δ',x,rr,e,q⟩:=h;unfold ag at e;split at e
 ·cases e
 ·rename_i hn
  cases e;exact q _ (Ok.set x rr λp hm e=>hn (by rw[<- e]; exact hp p hm))
theorem PG.weak{tg:Expr}{t t':TG}(h:PG X tg t)(w:∀ v σ H Q,t' v σ H Q->t v σ H Q):PG X tg t':=λpins s σ H v u Q I r q=>h pins s σ H v u Q I r (w v σ H Q q)
theorem gC.weak{tg:List Expr}{t t':ko}(h:gC X tg t)(w:∀ v σ H Q,t' v σ H Q->t v σ H Q):gC X tg t':=λpins s σ H v u Q I r q=>h pins s σ H v u Q I r (w v σ H Q q)
theorem cO{np:List Nat}{i:Nat}{x:Str}(hp:Np c np)(hN:X.N.Nodup)(hi:X.N[i]? = some x)(hx:Loc X.env.scope x)(hf:X.fn x=true\/X.env.scope.names.lookup x=some .local):SG X c (.Name x pos) (ag np i) :=
 PG.weak (yW hN hi hx hf) λv σ H Q h=>AY hp h
abbrev h9:=List D->Dl->Option Dl
def Kf(c:Fc)(g:h9):ko:=λvs σ H Q=>∃ δ ds δ',Ok c σ δ H/\ax H (Av c σ δ) vs ds/\g ds δ=some δ'/\∀ σ',aG c σ δ H σ' δ' H->Q σ' H
abbrev rE(X:Cx)(c:Fc)(tg:List Expr)(g:h9):Prop:=gC X tg (Kf c g)
def bT:h9:=λds δ=>match ds with
 | []=>some δ
 | _=>none
def aX(g:DG)(gs:h9):h9:=λds δ=>match ds with
 | []=>none
 | d :: r=>(g (.pure d) δ).bind λδ1=>gs r δ1
theorem kL:rE X c [] bT:=gC.weak yX λvs σ H Q ⟨δ,ds,δ',k,r,e,q⟩=>by
 cases ds with
 | nil =>
  cases e;have:vs=[]:=by have:=r.1; simpa using this
  exact⟨this,q σ (.refl k)⟩
 | cons d r=>cases e
theorem fA{es:List Expr}{g:DG}{gs:h9}(h1:SG X c e g)(h2:rE X c es gs)(hs:(Qk (e :: es) X.env).map (·.2)=assign e X.env :: (Qk es X.env).map (·.2):=by rfl):rE X c (e :: es) (aX g gs) :=
 gC.weak (yY h1 h2 hs) λvs σ H Q ⟨δ,ds,δ',k,r,e,q⟩=>by
  cases ds with
  | nil=>cases e
  | cons d ds =>
   cases vs with
   | nil=>have:=r.1; simp at this
   | cons v vs =>
    simp only[aX] at e
    cases e1:g (.pure d) δ with
    | none=>rw[e1] at e; cases e
    | some δ1 =>
     rw[e1] at e;refine⟨v,vs,rfl,σ,δ,H,δ,.pure d,δ1,.refl k,r.head,e1,λσ1 a1=>?_⟩;exact⟨δ1,ds,δ',a1.ok,ax.dF r.tail a1,e,λσ2 a2=>q σ2 (a1.trans a2)⟩
def bN(n:Nat)(gs:h9):DG:=λr δ=>match r.d with
 | .tup ds=>if ds.length=n then gs ds δ else none
 | _=>none
theorem kM{es:List Expr}{k:Nat}{gs:h9}{n:Nat}(hc:X.calm=true)(h:rE X c es gs)(hn:(Qk es X.env).length=n:=by rfl)(fw:(Qk es X.env).findIdx? (·.1)=none:=by rfl) :
  SG X c (.Tuple es k pos) (bN n gs):=PG.weak (yZ hc h hn fw) λv σ H Q hw=>by
 obtain⟨σ₀,δ₀,H₁,δ,r,δ',x,rr,e,q⟩:=hw;have hb:=rr.b;unfold bN at e;generalize r.d=d at e hb
 cases d <;> first | (cases e; done) | skip
 rename_i ds;simp only at e;split at e
 ·rename_i hl;obtain⟨a,vs,ea,ha,ra⟩:=hb.tup;exact⟨a,vs,ea,.of ha,by rw[ra.1]; exact hl,δ,ds,δ',x.ok,ra,e,λσ' a1=>q σ' (x.trans a1)⟩
 ·cases e
def aF(f:DE)(g:DG):DS:=λδ=>(f δ).bind λr δ1=>match g r δ1 with
 | some δ2=>.ok .next δ2
 | none=>.stuck
theorem AZ{g:DG}{D:Ends}{σ:St}{H:Hp}{te:TE}{tg:TG}(he:∀ σ H Q,tD c fe σ H Q->te σ H Q)(hg:∀ v σ H Q,u0 c g v σ H Q->tg v σ H Q)(h:m_ c (aF fe g) D σ H):tH te tg D σ H:=by
 obtain⟨δ,k,q⟩:=h;unfold aF dw at q;rw[aY] at q;refine he _ _ _ ⟨δ,k,aN q λr δ1 q1 v H1 a1 r1=>hg _ _ _ _ ?_⟩
 cases e:g r δ1 with
 | none=>rw[e] at q1; exact q1.elim
 | some δ2 =>
  rw[e] at q1;exact⟨σ,δ,H,δ1,r,δ2,a1,r1,e,λσ' a2=>q1 σ' H1 a2⟩
theorem rF{tg:Expr}{g:DG}(he:SE X c e fe)(hg:SG X c tg g)(hs:swapsWithSole [tg] e pos.line X.env=pure false:=by rfl)(hw:swappedStores [tg] e X.env=pure none:=by rfl)
  (h1:(Qk [tg] X.env).map (·.2)=[assign tg X.env]:=by rfl):SS X c (.Assign [tg] e pos) (aF fe g):=PS.weak (y0 he hg hs hw h1) λD σ H h=>AZ (λ_ _ _ h=>h) (λ_ _ _ _ h=>h) h
theorem bX{np:List Nat}{i:Nat}{x:Str}(hp:Np c np)(hN:X.N.Nodup)(hi:X.N[i]? = some x)(hx:Loc X.env.scope x)(he:SE X c e fe)(hs:J7 e (some (.Name x pos')) pos.line X.env=pure false)(hf:X.fn x=true\/X.env.scope.names.lookup x=some .local) :
  SS X c (.Assign [.Name x pos'] e pos) (aF fe (ag np i)):=PS.weak (Fi hN hi hx he hs hf) λD σ H h=>AZ (λ_ _ _ h=>h) (λ_ _ _ _ h=>AY hp h) h
theorem Kg(he:SE X c e fe)(hs:∀ (x:Value),J7 e none pos.line X.env=pure false:=by intro _; rfl)(hd:True:=trivial)(h:PS X (.Expr e pos) (tE (tD c fe))):SS X c (.Expr e pos) (nc fe):=PS.weak h λD σ H ⟨δ,k,q⟩=>by
 unfold nc dw at q;rw[aY] at q;exact⟨δ,k,aN q λr δ1 q1 v H1 a1 r1=>q1 σ H1 a1⟩
theorem Ok.A0{σ:St}{δ:Dl}{H:Hp}{i:Nat}{ds bx:List D}{a:Addr}{gH:List V}(k:Ok c σ δ H)(e:δ[i]? = some (some (.own (.lst ds))))(ea:σ[i]? = some (some (.ref a)))(r:ax H (Av c σ δ) gH bx) :
  aG c σ δ H σ (δ.set i (some (.own (.lst bx)))) (upd H a (.lst gH)):=by
 have hi:i < δ.length:=(W5.mp e).1;obtain⟨a',cF,oa,ia,nb⟩:=k.own i _ e;rw[ea] at cF; cases cF
 obtain⟨vs,ha,_⟩:=oa;have kO:Own σ δ a:=⟨i,_,e,ea⟩
 have ph:Av c σ δ a:=.inr kO;have kP:∀ b,Own σ (δ.set i (some (.own (.lst bx)))) b ↔ Own σ δ b:=λb=>by
  constructor
  ·rintro ⟨j,d,e1,e2⟩;by_cases hj:i=j
   ·subst hj;exact⟨i,_,e,e2⟩
   ·rw[W9 hj] at e1;exact⟨j,d,e1,e2⟩
  ·rintro ⟨j,d,e1,e2⟩;by_cases hj:i=j
   ·subst hj;exact⟨i,_,by rw[Wp hi],e2⟩
   ·exact⟨j,d,by rw[W9 hj]; exact e1,e2⟩
 have iT:∀ b,Av c σ (δ.set i (some (.own (.lst bx)))) b->Av c σ δ b:=λb z=>z.elim .inl λz=>.inr ((kP b).mp z)
 have ne:∀ b,¬ Av c σ δ b->b≠a:=λb n z=>n (by rw[z]; exact ph)
 have kp:∀ b o,H b=some o->¬ Av c σ δ b->upd H a (.lst gH) b=some o:=λb o h n=>by rw[aP (ne b n)]; exact h
 have eB:∀ b o,H b=some o->∃ o',upd H a (.lst gH) b=some o':=λb o h=>by
  by_cases hb:b=a
  ·exact⟨_,by rw[hb]; exact cA⟩
  ·exact⟨o,by rw[aP hb]; exact h⟩
 refine⟨⟨λb o h n=>?_,λb z=>?_,λb z=>?_,by rw[Qp]; exact k.len,λj d h=>?_,λj d h=>?_,λj l b d d' h1 h2 h3 h4=>?_,k.pinned⟩,λb o h n=>?_,λb z=>.inl ((kP b).mp z),eB⟩
 ·have hb:b≠a:=λz=>by
   subst z;rcases ia with z | z
   ·exact n z
   ·rw[z] at h; cases h
  rw[aP hb];exact k.keep b o h n
 ·obtain⟨o,h⟩:=k.bd b z;exact eB b o h
 ·obtain⟨o,h⟩:=k.dh b z;exact eB b o h
 ·have hj:i≠j:=λz=>by subst z; rw[Wp hi] at h; cases h
  rw[W9 hj] at h;obtain⟨v,h1,h2⟩:=k.slot j d h;exact⟨v,h1,(h2.keep kp).aE λb z=>.inl (iT b z)⟩
 ·by_cases hj:i=j
  ·subst hj;rw[Wp hi] at h
   cases h;exact⟨a,ea,⟨gH,cA,ax.aE (ax.keep r kp) λb z=>.inl (iT b z)⟩,ia,nb⟩
  ·rw[W9 hj] at h;obtain⟨b,h1,h2,h3,h4⟩:=k.own j d h;have hb:b≠a:=λz=>by subst z; exact hj (k.inj i j b _ d e h ea h1)
   exact⟨b,h1,(h2.keep kp λo q=>by rw[aP hb]; exact q).aE λb z=>.inl (iT b z),h3,h4⟩
 ·have f1:∃ d,δ[j]? = some (some (.own d)):=by
   by_cases hj:i=j
   ·subst hj; exact⟨_,e⟩
   ·rw[W9 hj] at h1; exact⟨d,h1⟩
  have f2:∃ d,δ[l]? = some (some (.own d)):=by
   by_cases hj:i=l
   ·subst hj; exact⟨_,e⟩
   ·rw[W9 hj] at h2; exact⟨d',h2⟩
  obtain⟨_,f1⟩:=f1;obtain⟨_,f2⟩:=f2;exact k.inj j l b _ _ f1 f2 h3 h4
 ·have hb:b≠a:=λz=>n (by rw[z]; exact kO)
  rw[aP hb]; exact h
def gN(δ:Dl)(i:Nat):Bool:=match δ[i]? with
 | some (some (.own (.lst _)))=>true
 | _=>false
def putL(δ:Dl)(i:Nat)(f:List D->Option (List D)):Rs Fl:=match δ[i]? with
 | some (some (.own (.lst ds)))=>match f ds with
  | some bx=>.ok .next (δ.set i (some (.own (.lst bx))))
  | none=>.stuck
 | _=>.stuck
theorem A1(h:gN δ i=true):∃ ds,δ[i]? = some (some (.own (.lst ds))):=by
 unfold gN at h;split at h
 ·rename_i ds e; exact⟨ds,e⟩
 ·cases h
theorem A2{δ:Dl}{i:Nat}{g:List D->Option (List D)}{kk:Fl->Dl->Prop}(h:post c (putL δ i g) kk):∃ ds bx,δ[i]? = some (some (.own (.lst ds)))/\g ds=some bx/\kk .next (δ.set i (some (.own (.lst bx)))):=by
 unfold putL at h;split at h
 ·rename_i ds e;split at h
  ·rename_i bx e2;exact⟨ds,bx,e,e2,h⟩
  ·exact h.elim
 ·exact h.elim
def c_(i:Nat)(f:DE):DS:=λδ=>if gN δ i then(f δ).bind λr δ1=>putL δ1 i λds=>if ds.length < W8 then some (ds ++ [r.d]) else none else .stuck
theorem Kh{i:Nat}{o:Expr}{p0 apos bb:Pos}(ho:PE X o (de i))(he:SE X c e fe)
  (h:PS X (.Expr (.Call (.Attribute o "append" apos) [e] [] bb) pos) (tE (zI X.K "list" zL (de i) (tR (tD c fe) zf)))):SS X c (.Expr (.Call (.Attribute o "append" apos) [e] [] bb) pos) (c_ i fe) :=
 PS.weak h λD σ H ⟨δ,k,q⟩=>by
  unfold c_ dw at q;split at q
  ·rename_i h_;obtain⟨ds0,e0⟩:=A1 h_;rw[aY] at q;obtain⟨a,ea,oa,_⟩:=k.own i _ e0;refine⟨.ref a,ea,?_,δ,k,aN q λr δ1 q1 v H1 a1 r1=>?_⟩
   ·obtain⟨vs,ha,_⟩:=oa;exact .inl ⟨rfl,vs,.of ha⟩
   ·obtain⟨ds,bx,e1,e2,q2⟩:=A2 q1;split at e2
    ·rename_i hz
     cases e2;obtain⟨a',cF,oa1,_⟩:=a1.ok.own i _ e1;rw[ea] at cF; cases cF
     obtain⟨vs,ha,ra⟩:=id oa1;refine⟨a,vs,v,rfl,rfl,ha,by rw[ra.1]; exact hz,?_⟩;exact q2 σ _ (a1.trans (Ok.A0 a1.ok e1 ea (ra.append (.cons r1.rep .nil))))
    ·cases e2
  ·exact q.elim
def ng(i:Nat)(fi:DE)(fe:DE):DS:=λδ=>if gN δ i then(fe δ).bind λr δ1=>(fi δ1).bind λk δ2=>match k with
 | .pure (.int j)=>putL δ2 i λds=>(e7 ds.length j).map λn=>ds.set n r.d
 | _=>.stuck else .stuck
theorem A3{i:Nat}{o ix:Expr}{fi:DE}{sp:Pos}(ho:PE X o (de i))(hi:SE X c ix fi)(he:SE X c e fe)
  (ha:∀ v,assign (.Subscript o ix sp) X.env v=(do
   let ov <- holding [v] (eval o X.env)
   let iv <- holding [v,ov] (eval ix X.env)
   standAt sp
   holding [v,ov,iv] (setItem ov iv v)
   release [v,ov,iv] []):=by intro _; rfl)
  (hs:swapsWithSole [.Subscript o ix sp] e pos.line X.env=pure false:=by rfl) (hw:swappedStores [.Subscript o ix sp] e X.env=pure none:=by rfl)
  (h1:(Qk [.Subscript o ix sp] X.env).map (·.2)=[assign (.Subscript o ix sp) X.env]:=by rfl):SS X c (.Assign [.Subscript o ix sp] e pos) (ng i fi fe) :=
 PS.weak (y0 he (Fh ho hi Gw ha) hs hw h1) λD σ H ⟨δ,k,q⟩=>by
  unfold ng dw at q;split at q
  ·rename_i h_;obtain⟨ds0,e0⟩:=A1 h_;rw[aY] at q;obtain⟨a,ea,_,_⟩:=k.own i _ e0;refine⟨δ,k,aN q λr δ1 q1 v H1 a1 r1=>⟨.ref a,ea,δ1,a1.ok,?_⟩⟩;rw[aY] at q1;refine aN q1 λkx δ2 q2 u H2 a2 r2=>?_
   cases kx with
   | own d=>exact q2.elim
   | pure d =>
    cases d <;> first | exact q2.elim | skip
    rename_i j
    cases r2;obtain⟨ds,bx,e1,e2,q3⟩:=A2 q2
    cases e3:e7 ds.length j with
    | none=>rw[e3] at e2; cases e2
    | some n =>
     rw[e3] at e2
     cases e2;obtain⟨a',cF,oa1,_⟩:=a2.ok.own i _ e1;rw[ea] at cF; cases cF
     obtain⟨vs,ha,ra⟩:=id oa1;refine⟨a,vs,j,n,rfl,rfl,ha,by rw[ra.1]; exact e3,?_⟩;exact q3 σ _ (a1.trans (a2.trans (Ok.A0 a2.ok e1 ea (ra.set (Rep.dF r1.rep a2) n))))
  ·exact q.elim
end
abbrev DI:=Dl->Rs (List D)
def lV(c:Fc)(σ:St)(δ:Dl)(H:Hp)(J:It)(ds:List D):Prop:=∀ H2,(∀ a o,H a=some o->¬ Own σ δ a->H2 a=some o)->J.stop ds.length H2 /\
 ∀ (i:Nat) d,ds[i]? = some d->J.go i H2/\∀ x H3,J.ou i H2 x H3->(H3=H2/\Rep H (Av c σ δ) x d) \/
  ∃ p vs es,H2 p=none/\H3=upd H2 p (.tup vs)/\x = .ref p/\d = .tup es/\ax H (Av c σ δ) vs es
def tI(c:Fc)(f:DI):TI:=λσ H R=>∃ δ,Ok c σ δ H/\post c (f δ) λds δ'=>∀ J H',aG c σ δ H σ δ' H'->lV c σ δ' H' J ds->R J H'
abbrev SI(X:Cx)(c:Fc)(tg iter:Expr)(f:DI):Prop:=PI X tg iter (tI c f)
theorem PI.weak(h:PI X tg iter t)(w:∀ σ H R,t' σ H R->t σ H R):PI X tg iter t':=λpins s σ H R I q=>h pins s σ H R I (w σ H R q)
section
variable {X:Cx} {c:Fc} {tg e:Expr} {fe:DE} {pos pp:Pos}
theorem Ki(K:W2)(h:H a=some (.tup vs))(n:¬ Own σ δ a)(r:ax H (Av c σ δ) vs ds):lV c σ δ H (qu K a) ds:=by
 intro H2 kp;have h2:=kp a _ h n;refine⟨⟨vs,.of h2,by rw[r.1]; exact Wb _⟩,λi d e=>?_⟩;obtain⟨v,ev,rv⟩:=r.get e;refine⟨⟨vs,v,.of h2,ev⟩,λx H3 ⟨e3,y⟩=>.inl ⟨e3,?_⟩⟩;have:=y vs (.of h2);rw[ev] at this
 cases this;exact rv
def bY(lo:Int)(n:Nat):List D:=(Wu n).map λk:Nat=>D.int (lo + k)
theorem Kj{lo:Int}{n i:Nat}{d:D}(h:(bY lo n)[i]? = some d):i < n/\d = .int (lo + i):=by
 unfold bY at h;rw[Wy] at h;by_cases hi:i < n
 ·rw[List.getElem?_range hi] at h;simp at h;exact⟨hi,h.symm⟩
 ·rw[WX (by simpa using hi)] at h
  cases h
theorem A4(lo:Int)(n:Nat):lV c σ δ H (ly lo n) (bY lo n):=by
 intro H2 kp;refine⟨by show n<=(bY lo n).length; simp[bY],λi d e=>?_⟩;obtain⟨hi,rfl⟩:=Kj e;exact⟨hi,λx H3 ⟨e3,ex⟩=>.inl ⟨e3,by rw[ex]; exact .int _⟩⟩
def nh(j:Int):Bool:=decide (-(2 ^ 62)<=j) && decide (j < 2 ^ 62)
def gj(f:DE):DI:=λδ=>(f δ).bind λr δ1=>match r with
 | .pure (.int j)=>if nh j then .ok (bY 0 j.toNat) δ1 else .stuck
 | _=>.stuck
theorem pj (hg:Gl X "range") (hm:X.mg "range" = none) (he:SE X c e fe) (hs:We [e] X.env=[(false,eval e X.env)]:=by rfl):SI X c tg (.Call (.Name "range" pp) [e] [] pos) (gj fe) :=
 PI.weak (Fs hg hm (dY he fV hs) hs) λσ H R ⟨δ,k,q⟩=>by
  unfold gj at q;rw[aY] at q;refine⟨δ,k,aN q λr δ1 q1 v H1 a1 r1=>?_⟩
  cases r with
  | own d=>exact q1.elim
  | pure d =>
   cases d <;> first | exact q1.elim | skip
   rename_i j
   cases r1;simp only at q1;split at q1
   ·rename_i hj;unfold nh at hj;simp only[Ws,decide_eq_true_eq] at hj;exact⟨j,rfl,hj.1,hj.2,q1 _ H1 a1 (A4 0 j.toNat)⟩
   ·exact q1.elim
def forL(g:DG)(b:DS):List D->DS
 | [],δ=>.ok .next δ
 | d :: r,δ=>match g (.pure d) δ with
  | none=>.stuck
  | some δ1=>(b δ1).bind λfl δ2=>match fl with
   | .next=>forL g b r δ2
   | .cont=>forL g b r δ2
   | .brk=>.ok .next δ2
   | .ret v=>.ok (.ret v) δ2
def cW(it:DI)(g:DG)(b:DS):DS:=λδ=>(it δ).bind λds δ1=>forL g b ds δ1
theorem A5(io:lV c σ δ H J ds)(a:aG c σ δ H σ2 δ2 H2)(e:ds[i]? = some d)(y:J.ou i H2 x H3):aG c σ2 δ2 H2 σ2 δ2 H3/\Rep H3 (Av c σ2 δ2) x d:=by
 obtain⟨_,t⟩:=io H2 a.keep;rcases (t i d e).2 x H3 y with ⟨e3,r⟩ | ⟨p,vs,es,hp,e3,ex,ed,r⟩
 ·subst e3;exact⟨.refl a.ok,Rep.dF r a⟩
 ·subst e3 ex ed;have:=aU.mV a.ok (ax.dF r a) hp;exact⟨.alloc a.ok hp _,this⟩
theorem gk{iter:Expr}{body:List Stmt}{it:DI}{g:DG}{b:DS}(hp:PassesOwn (model X.prog X.w) X.A X.env X.xe)(hc:X.calm=true)(hi:SI X c tg iter it)(hg:SG X c tg g)(hb:gK X c body b)
  (hs:∀ x,JT iter X.env x=pure x:=by intro _; rfl):SS X c (.For tg iter body [] pos) (cW it g b):=PS.weak (Fv hp hc hi hg hb hs) λD σ H ⟨δ,k,q⟩=>by
 unfold cW dw at q;rw[aY] at q;refine⟨δ,k,aN q λds δ1 q1 J H1 a1 io=>?_⟩;refine⟨λi m σ2 H2=>∃ δ2,m=ds.length - i/\i<=ds.length/\aG c σ δ1 H1 σ2 δ2 H2/\dw c D σ2 δ2 H2 (forL g b (ds.drop i) δ2),⟨ds.length,δ1,by simp,Qm _,.refl a1.ok,?_⟩,?_⟩
 ·rw[List.drop_zero];exact aN q1 λfl δ2 q2 σ2 H2 a2=>q2 σ2 H2 (a1.trans a2)
 ·rintro i m σ2 H2 ⟨δ2,rfl,kQ,a2,p2⟩;by_cases aQ:i < ds.length
  ·right
   have e:ds[i]? = some ds[i]:=by simp[aQ]
   rw[J3 aQ] at p2;refine⟨((io H2 a2.keep).2 i _ e).1,λσ4 H4=>∃ δ4,aG c σ δ1 H1 σ4 δ4 H4/\dw c D σ4 δ4 H4 (forL g b (ds.drop (i + 1)) δ4),λσ4 H4 ⟨δ4,a4,p4⟩=>⟨ds.length - (i + 1),by omega,δ4,rfl,aQ,a4,p4⟩,λx H3 y=>?_⟩;obtain⟨a3,r3⟩:=A5 io a2 e y;simp only[forL,dw] at p2
   cases eg:g (.pure ds[i]) δ2 with
   | none=>rw[eg] at p2; exact p2.elim
   | some δ3 =>
    rw[eg] at p2;refine⟨σ2,δ2,H3,δ2,.pure ds[i],δ3,.refl a3.ok,r3,eg,λσ3 a3'=>?_⟩;have p3:post c ((b δ3).bind λfl δ2=>match fl with
     | .next=>forL g b (ds.drop (i + 1)) δ2
     | .cont=>forL g b (ds.drop (i + 1)) δ2
     | .brk=>.ok .next δ2
     | .ret v=>.ok (.ret v) δ2) λfl δ'=>∀ σ' H',aG c σ2 δ2 H2 σ' δ' H'->fin c D σ' δ' H' fl:=p2
    rw[aY] at p3;have Kk:aG c σ2 δ2 H2 σ3 δ3 H3:=a3.trans a3';refine⟨δ3,a3'.ok,aN p3 λfl δ4 p4 σ4 H4 a4=>?_⟩;have gO:=Kk.trans a4
    cases fl with
    | next=>exact⟨δ4,a2.trans gO,aN p4 λfl δ5 p5 σ5 H5 a5=>p5 σ5 H5 (gO.trans a5)⟩
    | cont=>exact⟨δ4,a2.trans gO,aN p4 λfl δ5 p5 σ5 H5 a5=>p5 σ5 H5 (gO.trans a5)⟩
    | brk=>exact p4 σ4 H4 gO
    | ret r=>exact p4 σ4 H4 gO
  ·left
   have u3:i=ds.length:=by omega
   subst u3;rw[List.drop_length] at p2;exact⟨(io H2 a2.keep).1,p2 σ2 H2 (.refl a2.ok)⟩
def gP(t:DT)(b:DS):Nat->DS
 | 0,_=>.stuck
 | n + 1,δ=>(t δ).bind λx δ1=>if x then(b δ1).bind λfl δ2=>match fl with
   | .next=>gP t b n δ2
   | .cont=>gP t b n δ2
   | .brk=>.ok .next δ2
   | .ret v=>.ok (.ret v) δ2
  else .ok .next δ1
theorem Kl{e:Expr}{body:List Stmt}{t:DT}{b:DS}(n:Nat)(hw:∀ {tt:TT} {tb:TS},PT X e tt->dq X body tb->PS X (.While e body [] pos) (y4 tt tb))(ht:ST X c e t)(hb:gK X c body b):SS X c (.While e body [] pos) (gP t b n) :=
 PS.weak (hw ht hb) λD σ H ⟨δ,k,q⟩=>by
  refine⟨λm σ2 H2=>∃ δ2,Ok c σ2 δ2 H2/\dw c D σ2 δ2 H2 (gP t b m δ2),⟨n,δ,k,q⟩,?_⟩;rintro m σ2 H2 ⟨δ2,k2,q2⟩
  cases m with
  | zero=>exact q2.elim
  | succ m =>
   simp only[gP,dw] at q2;rw[aY] at q2;refine⟨δ2,k2,aN q2 λx δ3 q3 H3 a3=>?_⟩
   cases x with
   | false=>exact q3 σ2 H3 a3
   | true =>
    have p3:post c ((b δ3).bind λfl δ2=>match fl with
     | .next=>gP t b m δ2
     | .cont=>gP t b m δ2
     | .brk=>.ok .next δ2
     | .ret v=>.ok (.ret v) δ2) λfl δ'=>∀ σ' H',aG c σ2 δ2 H2 σ' δ' H'->fin c D σ' δ' H' fl:=q3
    rw[aY] at p3;refine⟨λσ4 H4=>∃ δ4,Ok c σ4 δ4 H4/\dw c D σ4 δ4 H4 (gP t b m δ4),λσ4 H4 w=>⟨m,U2 _,w⟩,δ3,a3.ok,aN p3 λfl δ4 p4 σ4 H4 a4=>?_⟩;have gO:=a3.trans a4
    cases fl with
    | next=>exact⟨δ4,a4.ok,aN p4 λfl δ5 p5 σ5 H5 a5=>p5 σ5 H5 (gO.trans a5)⟩
    | cont=>exact⟨δ4,a4.ok,aN p4 λfl δ5 p5 σ5 H5 a5=>p5 σ5 H5 (gO.trans a5)⟩
    | brk=>exact p4 σ4 H4 gO
    | ret r=>exact p4 σ4 H4 gO
end
def bc(cs:List Nat)(δ:Dl):Dl:=cs.foldl (λδ i=>δ.set i none) δ
def dj(cs:List Nat)(δ₁ δ:Dl):Dl:=cs.foldl (λδ i=>match δ₁[i]? with | some o=>δ.set i o | none=>δ) δ
def bH(δ:Dl)(i:Nat):Bool:=match δ[i]? with
 | some (some (.own _))=>true
 | _=>false
theorem A6(cs:List Nat):∀ δ:Dl,(bc cs δ).length=δ.length:=by
 induction cs with
 | nil=>intro δ; rfl
 | cons i r ih =>
  intro δ;show(bc r (δ.set i none)).length=_;rw[ih]; simp
theorem ib:∀ (cs:List Nat) (δ:Dl) (i:Nat) (v:S),(bc cs δ)[i]? = some (some v)->δ[i]? = some (some v)/\i ∉ cs:=by
 intro cs;induction cs with
 | nil=>intro δ i v h; exact⟨h,by simp⟩
 | cons j r ih =>
  intro δ i v h;have h':(bc r (δ.set j none))[i]? = some (some v):=h;obtain⟨h1,h2⟩:=ih _ i v h';by_cases e:j=i
  ·subst e;rw[Q5] at h1;simp at h1
  ·rw[W9 e] at h1;exact⟨h1,by simp only[Wl,not_or]; exact⟨Ne.symm e,h2⟩⟩
theorem jV:∀ (cs:List Nat) (σ:St) (i:Nat),i ∉ cs->(bo cs σ)[i]? = σ[i]?:=by
 intro cs;induction cs with
 | nil=>intro σ i _; rfl
 | cons j r ih =>
  intro σ i h;simp only[Wl,not_or] at h;show(bo r (σ.set j none))[i]? = _;rw[ih _ _ h.2,W9 (Ne.symm h.1)]
theorem Km:∀ (cs:List Nat) (δ:Dl) (i:Nat),i ∉ cs->(bc cs δ)[i]? = δ[i]?:=by
 intro cs;induction cs with
 | nil=>intro σ i _; rfl
 | cons j r ih =>
  intro σ i h;simp only[Wl,not_or] at h;show(bc r (σ.set j none))[i]? = _;rw[ih _ _ h.2,W9 (Ne.symm h.1)]
theorem Kn(cs:List Nat)(δ₁:Dl):∀ δ:Dl,(dj cs δ₁ δ).length=δ.length:=by
 induction cs with
 | nil=>intro δ; rfl
 | cons i r ih =>
  intro δ;unfold dj;rw[QW];have:=ih (match δ₁[i]? with | some o=>δ.set i o | none=>δ);unfold dj at this;rw[this]
  cases δ₁[i]? <;> simp
theorem rG:∀ (cs:List Nat) (δ₁ δ:Dl) (i:Nat),i ∉ cs->(dj cs δ₁ δ)[i]? = δ[i]?:=by
 intro cs δ₁;induction cs with
 | nil=>intro δ i _; rfl
 | cons j r ih =>
  intro δ i h;simp only[Wl,not_or] at h;unfold dj;rw[QW];have:=ih (match δ₁[j]? with | some o=>δ.set j o | none=>δ) i h.2;unfold dj at this;rw[this]
  cases δ₁[j]? with
  | none=>rfl
  | some o=>simp only; rw[W9 (Ne.symm h.1)]
theorem u4:∀ (cs:List Nat) (δ₁ δ:Dl) (i:Nat),δ₁.length=δ.length->i ∈ cs->(dj cs δ₁ δ)[i]? = δ₁[i]?:=by
 intro cs δ₁;induction cs with
 | nil=>intro δ i _ h; simp at h
 | cons j r ih =>
  intro δ i hl h;unfold dj;rw[QW];have mW:δ₁.length=(match δ₁[j]? with | some o=>δ.set j o | none=>δ).length:=by cases δ₁[j]? <;> simp[hl]
  by_cases hr:i ∈ r
  ·have:=ih (match δ₁[j]? with | some o=>δ.set j o | none=>δ) i mW hr;unfold dj at this;exact this
  ·have e:i=j:=by
    rcases Wl.mp h with e | e
    ·exact e
    ·exact absurd e hr
   subst e;have:=rG r δ₁ (match δ₁[i]? with | some o=>δ.set i o | none=>δ) i hr;unfold dj at this;rw[this]
   cases e:δ₁[i]? with
   | none =>
    simp only;have:=List.getElem?_eq_none_iff.mp e;exact WX (by omega)
   | some o =>
    simp only;have:=(W5.mp e).1;rw[Wp (by omega)]
section
variable {c:Fc} {σ:St} {δ δ':Dl} {H H':Hp} {l:Addr} {cs:List Nat}
theorem Ok.less(k:Ok (c.plus l) σ δ H):Ok c σ δ H:=by
 have sub:∀ b,Av c σ δ b->Av (c.plus l) σ δ b:=λb z=>z.elim (λz=>.inl (.inl z)) .inr
 refine⟨k.keep,λa z=>k.bd a (.inl z),k.dh,k.len,λi d e=>?_,λi d e=>?_,k.inj,k.pinned⟩
 ·obtain⟨v,h1,h2⟩:=k.slot i d e;exact⟨v,h1,h2.aE λb z=>.inl (sub b z)⟩
 ·obtain⟨a,h1,h2,h3,h4⟩:=k.own i d e;exact⟨a,h1,h2.aE λb z=>.inl (sub b z),h3,λz=>h4 (.inl z)⟩
theorem Ok.Ko(k:Ok c σ δ H)(hb:c.B l)(h0:c.H₀ l=none)(o:HO):Ok c σ δ (upd H l o):=by
 have kp:∀ b w,H b=some w->¬ Av c σ δ b->upd H l o b=some w:=λb w e n=>by
  rw[aP (λz=>n (by rw[z]; exact .inl hb))]; exact e
 have eB:∀ b w,H b=some w->∃ w',upd H l o b=some w':=λb w h=>by
  by_cases hb:b=l
  ·exact⟨_,by rw[hb]; exact cA⟩
  ·exact⟨w,by rw[aP hb]; exact h⟩
 refine⟨λa w e n=>?_,λa z=>?_,λa z=>?_,k.len,λi d e=>?_,λi d e=>?_,k.inj,k.pinned⟩
 ·have:a≠l:=λz=>by rw[z,h0] at e; cases e
  rw[aP this]; exact k.keep a w e n
 ·obtain⟨w,e⟩:=k.bd a z; exact eB a w e
 ·obtain⟨w,e⟩:=k.dh a z; exact eB a w e
 ·obtain⟨v,h1,h2⟩:=k.slot i d e;exact⟨v,h1,h2.keep kp⟩
 ·obtain⟨a,h1,h2,h3,h4⟩:=k.own i d e;have:a≠l:=λz=>h4 (by rw[z]; exact hb)
  exact⟨a,h1,h2.keep kp λw q=>by rw[aP this]; exact q,h3,h4⟩
theorem Own.bo(h:Own (bo cs σ) (bc cs δ) l):Own σ δ l:=by
 obtain⟨i,d,e1,e2⟩:=h;exact⟨i,d,(ib cs δ i _ e1).1,(kF cs σ i _ e2).1⟩
theorem Ok.bo(k:Ok c σ δ H)(hp:∀ p ∈ c.pin,p.1 ∉ cs):Ok c (L2.bo cs σ) (bc cs δ) H:=by
 have sub:∀ b,Av c (L2.bo cs σ) (bc cs δ) b->Av c σ δ b:=λb z=>z.elim .inl λz=>.inr z.bo
 refine⟨k.keep,k.bd,k.dh,by rw[A6,qI]; exact k.len,λi d e=>?_,λi d e=>?_,λi j a d d' e1 e2 e3 e4=>?_,λp hm=>?_⟩
 ·obtain⟨e',hi⟩:=ib cs δ i _ e;obtain⟨v,h1,h2⟩:=k.slot i d e';exact⟨v,by rw[jV cs σ i hi]; exact h1,h2.aE λb z=>.inl (sub b z)⟩
 ·obtain⟨e',hi⟩:=ib cs δ i _ e;obtain⟨a,h1,h2,h3⟩:=k.own i d e';exact⟨a,by rw[jV cs σ i hi]; exact h1,h2.aE λb z=>.inl (sub b z),h3⟩
 ·exact k.inj i j a d d' (ib cs δ i _ e1).1 (ib cs δ j _ e2).1 (kF cs σ i _ e3).1 (kF cs σ j _ e4).1
 ·rw[jV cs σ _ (hp p hm)]; exact k.pinned p hm
theorem aG.back(k:Ok c₀ σ δ H)(rH:c.pin=c₀.pin)(hB:∀ b,c.B b->c₀.B b\/H b=none)(cT:cs.any (bH δ)=false)(x:aG c (L2.bo cs σ) (bc cs δ) H (L2.bo cs σ) δ' H'):aG c σ δ H σ (dj cs δ δ') H':=by
 have len:δ.length=δ'.length:=by
  have:=x.ok.len;rw[qI] at this;rw[this]; exact k.len
 have gy:∀ i d,i ∈ cs->δ[i]?≠some (some (.own d)):=λi d hi e=>by
  have:=List.any_eq_false.mp cT i hi;unfold bH at this;rw[e] at this;simp at this
 have ownOut:∀ i d,(dj cs δ δ')[i]? = some (some (.own d))->i ∉ cs/\δ'[i]? = some (some (.own d)):=λi d e=>by
  by_cases hi:i ∈ cs
  ·rw[u4 cs δ δ' i len hi] at e;exact absurd e (gy i d hi)
  ·rw[rG cs δ δ' i hi] at e;exact⟨hi,e⟩
 have sub:∀ b,Own σ (dj cs δ δ') b->Own (L2.bo cs σ) δ' b:=λb ⟨i,d,e1,e2⟩=>by
  obtain⟨hi,e⟩:=ownOut i d e1;exact⟨i,d,e,by rw[jV cs σ i hi]; exact e2⟩
 have lW:∀ b,Av c σ (dj cs δ δ') b->Av c (L2.bo cs σ) δ' b:=λb z=>z.elim .inl λz=>.inr (sub b z)
 have ownEq:∀ b,Own σ δ b->Own (L2.bo cs σ) (bc cs δ) b:=λb ⟨i,d,e1,e2⟩=>by
  have hi:i ∉ cs:=λz=>gy i d z e1
  exact⟨i,d,by rw[Km cs δ i hi]; exact e1,by rw[jV cs σ i hi]; exact e2⟩
 refine⟨⟨x.ok.keep,x.ok.bd,x.ok.dh,by rw[Kn,<- len]; exact k.len,λi d e=>?_,λi d e=>?_,λi j a d d' e1 e2 e3 e4=>?_,by rw[rH]; exact k.pinned⟩,λa o e n=>?_,λa z=>?_,x.there⟩
 ·by_cases hi:i ∈ cs
  ·rw[u4 cs δ δ' i len hi] at e;obtain⟨v,h1,h2⟩:=k.slot i d e;have h3:Rep H (Av c (L2.bo cs σ) (bc cs δ)) v d:=h2.aE λb z=>by
    rcases z with z | z
    ·exact(hB b z).elim (λz=>.inl (.inl z)) .inr
    ·exact .inl (.inr z.bo)
   exact⟨v,h1,(Rep.dF h3 x).aE λb z=>.inl (lW b z)⟩
  ·rw[rG cs δ δ' i hi] at e;obtain⟨v,h1,h2⟩:=x.ok.slot i d e;exact⟨v,(kF cs σ i v h1).1,h2.aE λb z=>.inl (lW b z)⟩
 ·obtain⟨hi,e'⟩:=ownOut i d e;obtain⟨a,h1,h2,h3⟩:=x.ok.own i d e';exact⟨a,(kF cs σ i _ h1).1,h2.aE λb z=>.inl (lW b z),h3⟩
 ·obtain⟨hi,f1⟩:=ownOut i d e1;obtain⟨hj,f2⟩:=ownOut j d' e2;exact x.ok.inj i j a d d' f1 f2 (by rw[jV cs σ i hi]; exact e3) (by rw[jV cs σ j hj]; exact e4)
 ·exact x.keep a o e λz=>n z.bo
 ·rcases x.own a (sub a z) with q | q
  ·exact .inl q.bo
  ·exact .inr q
end
def da(cs:List Nat)(g:DG)(t:DT)(el:DE):List D->Dl->List D->Rs (List D)
 | [],δ,acc=>.ok acc δ
 | d :: r,δ,acc=>match g (.pure d) δ with
  | none=>.stuck
  | some δ1=>(t δ1).bind λb δ2=>if b then(el δ2).bind λx δ3=>if acc.length < W8 then da cs g t el r (bc cs δ3) (acc ++ [x.d]) else .stuck
   else da cs g t el r (bc cs δ2) acc
def cI(cs:List Nat)(it:DI)(g:DG)(t:DT)(el:DE):DE:=λδ=>(it δ).bind λds δ1=>if cs.any (bH δ1) then .stuck else
 (da cs g t el ds (bc cs δ1) []).bind λacc δ2=>.ok (.own (.lst acc)) (dj cs δ1 δ2)
def dH:DT:=λδ=>.ok true δ
abbrev u5(X:Cx)(c:Fc)(ifs:List Expr)(t:DT):Prop:=oN X ifs (tT c t)
theorem lX{X:Cx}{c:Fc}:u5 X c [] dH:=λpins s σ H Q I ⟨δ,k,q⟩=>Hz pins s σ H Q I (q H (.refl k))
theorem pk{X:Cx}{c:Fc}{e:Expr}{t:DT}(h:ST X c e t):u5 X c [e] t:=HA h
section
variable {X:Cx} {c:Fc} {cs:List Nat} {tg iter elt:Expr} {ifs:List Expr} {scope:Scope} {pos:Pos} {it:DI} {g:DG} {t:DT} {el:DE}
theorem aG.clear(x:aG c (L2.bo cs σ) δ H σ4 δ4 H4)(le:Le (L2.bo cs σ) σ4)(hp:∀ p ∈ c.pin,p.1 ∉ cs)(hs:∀ (i:Nat) v,σ4[i]? = some (some v)->i ∉ cs->σ[i]? = some (some v)):aG c (L2.bo cs σ) δ H (L2.bo cs σ) (bc cs δ4) H4:=by
 have eq:∀ i,i ∉ cs->∀ v,σ4[i]? = some (some v)->(L2.bo cs σ)[i]? = some (some v):=λi hi v e=>by rw[jV cs σ i hi]; exact hs i v e hi
 have own:∀ b,Own (L2.bo cs σ) (bc cs δ4) b->Own σ4 δ4 b:=λb ⟨i,d,e1,e2⟩=>by
  exact⟨i,d,(ib cs δ4 i _ e1).1,le.2 i _ e2⟩
 have sub:∀ b,Av c (L2.bo cs σ) (bc cs δ4) b->Av c σ4 δ4 b:=λb z=>z.elim .inl λz=>.inr (own b z)
 have k:=x.ok;refine⟨⟨k.keep,k.bd,k.dh,by rw[A6,k.len]; exact le.1,λi d e=>?_,λi d e=>?_,λi j a d d' e1 e2 e3 e4=>?_,λp hm=>?_⟩,x.keep,λa z=>x.own a (own a z),x.there⟩
 ·obtain⟨e',hi⟩:=ib cs δ4 i _ e;obtain⟨v,h1,h2⟩:=k.slot i d e';exact⟨v,eq i hi v h1,h2.aE λb z=>.inl (sub b z)⟩
 ·obtain⟨e',hi⟩:=ib cs δ4 i _ e;obtain⟨a,h1,h2,h3⟩:=k.own i d e';exact⟨a,eq i hi _ h1,h2.aE λb z=>.inl (sub b z),h3⟩
 ·exact k.inj i j a d d' (ib cs δ4 i _ e1).1 (ib cs δ4 j _ e2).1 (le.2 i _ e3) (le.2 j _ e4)
 ·exact eq p.1 (hp p hm) _ (k.pinned p hm)
def Out(cs:List Nat)(σ σ':St):Prop:=σ'.length=σ.length/\∀ i,i ∉ cs->σ'[i]? = σ[i]?
theorem Out.trans(a:Out cs σ σ')(b:Out cs σ' σ''):Out cs σ σ'':=⟨b.1.trans a.1,λi h=>(b.2 i h).trans (a.2 i h)⟩
def u6(cs:List Nat)(c:Fc)(g:DG):TG:=λv σ H Q=>∃ σ₀ δ₀ H₁ δ r δ',aG c σ₀ δ₀ H₁ σ δ H/\aU c σ δ H₁ H v r/\g r δ=some δ'/\∀ σ',aG c σ₀ δ₀ H₁ σ' δ' H->Out cs σ σ'->Q σ' H
abbrev rJ(X:Cx)(c:Fc)(cs:List Nat)(tg:Expr)(g:DG):Prop:=PG X tg (u6 cs c g)
theorem fN{np:List Nat}{i:Nat}{x:Str}(hp:Np c np)(hN:X.N.Nodup)(hi:X.N[i]? = some x)(hx:Loc X.env.scope x)(hf:X.fn x=true\/X.env.scope.names.lookup x=some .local)(hc:i ∈ cs):rJ X c cs (.Name x pos) (ag np i) :=
 PG.weak (yW hN hi hx hf) λv σ H Q ⟨σ₀,δ₀,H₁,δ,r,δ',x,rr,e,q⟩=>by
  unfold ag at e;split at e
  ·cases e
  ·rename_i hn
   cases e;refine q _ (Ok.set x rr λp hm e=>hn (by rw[<- e]; exact hp p hm)) ⟨by simp,λj hj=>?_⟩;rw[W9 (λz=>hj (by rw[<- z]; exact hc))]
def Kp(cs:List Nat)(c:Fc)(g:h9):ko:=λvs σ H Q=>∃ δ ds δ',Ok c σ δ H/\ax H (Av c σ δ) vs ds/\g ds δ=some δ'/\∀ σ',aG c σ δ H σ' δ' H->Out cs σ σ'->Q σ' H
abbrev rK(X:Cx)(c:Fc)(cs:List Nat)(tg:List Expr)(g:h9):Prop:=gC X tg (Kp cs c g)
theorem u7:rK X c cs [] bT:=gC.weak yX λvs σ H Q ⟨δ,ds,δ',k,r,e,q⟩=>by
 cases ds with
 | nil =>
  cases e;have:vs=[]:=by have:=r.1; simpa using this
  exact⟨this,q σ (.refl k) ⟨rfl,λ_ _=>rfl⟩⟩
 | cons d r=>cases e
theorem ni{e:Expr}{es:List Expr}{g:DG}{gs:h9}(h1:rJ X c cs e g)(h2:rK X c cs es gs)(hs:(Qk (e :: es) X.env).map (·.2)=assign e X.env :: (Qk es X.env).map (·.2):=by rfl):rK X c cs (e :: es) (aX g gs) :=
 gC.weak (yY h1 h2 hs) λvs σ H Q ⟨δ,ds,δ',k,r,e,q⟩=>by
  cases ds with
  | nil=>cases e
  | cons d ds =>
   cases vs with
   | nil=>have:=r.1; simp at this
   | cons v vs =>
    simp only[aX] at e
    cases e1:g (.pure d) δ with
    | none=>rw[e1] at e; cases e
    | some δ1 =>
     rw[e1] at e;refine⟨v,vs,rfl,σ,δ,H,δ,.pure d,δ1,.refl k,r.head,e1,λσ1 a1 o1=>?_⟩;exact⟨δ1,ds,δ',a1.ok,ax.dF r.tail a1,e,λσ2 a2 o2=>q σ2 (a1.trans a2) (o1.trans o2)⟩
theorem u9{es:List Expr}{k:Nat}{gs:h9}{n:Nat}(hc:X.calm=true)(h:rK X c cs es gs)(hn:(Qk es X.env).length=n:=by rfl)(fw:(Qk es X.env).findIdx? (·.1)=none:=by rfl) :
  rJ X c cs (.Tuple es k pos) (bN n gs):=PG.weak (yZ hc h hn fw) λv σ H Q hw=>by
 obtain⟨σ₀,δ₀,H₁,δ,r,δ',x,rr,e,q⟩:=hw;have hb:=rr.b;unfold bN at e;generalize r.d=d at e hb
 cases d <;> first | (cases e; done) | skip
 rename_i ds;simp only at e;split at e
 ·rename_i hl;obtain⟨a,vs,ea,ha,ra⟩:=hb.tup;exact⟨a,vs,ea,.of ha,by rw[ra.1]; exact hl,δ,ds,δ',x.ok,ra,e,λσ' a1 o1=>q σ' (x.trans a1) o1⟩
 ·cases e
theorem aG.less(x:aG (c.plus l) σ δ H σ' δ' H'):aG c σ δ H σ' δ' H':=⟨x.ok.less,x.keep,x.own,x.there⟩
theorem Kq(Kr:∀ σ H R,tI c it σ H R->wi σ H R)(hg:∀ l v σ H Q,u6 cs (c.plus l) g v σ H Q->gt v σ H Q)(ht:∀ l σ H Q,tT (c.plus l) t σ H Q->tt σ H Q)(he:∀ l σ H Q,tD (c.plus l) el σ H Q->te σ H Q)
  (hp:∀ p ∈ c.pin,p.1 ∉ cs) (h:tD c (cI cs it g t el) σ H Q):z7 cs wi gt tt te σ H Q:=by
 obtain⟨δ,k,q⟩:=h;unfold cI at q;rw[aY] at q;refine Kr _ _ _ ⟨δ,k,aN q λds δ1 q1 J H1 a1 io=>?_⟩;intro l hl;split at q1
 ·exact q1.elim
 ·rename_i cT;have A7:cs.any (bH δ1)=false:=by simpa using cT
  rw[aY] at q1;have k1:=a1.ok;have kp:=k1.plus hl (.lst []);have k0:Ok (c.plus l) (L2.bo cs σ) (bc cs δ1) (upd H1 l (.lst [])):=kp.bo hp;have up:∀ a w,H1 a=some w->upd H1 l (.lst []) a=some w:=λa w e=>by
   rw[aP (eU e hl)]; exact e
  have h0:c.H₀ l=none:=k1.lN hl;-- the walked things,as the block sees them
  have u_:lV (c.plus l) (L2.bo cs σ) (bc cs δ1) H1 J ds:=by
   intro H2 vb;obtain⟨s1,s2⟩:=io H2 λa o e n=>vb a o e λz=>n z.bo
   have cv:∀ {x:V} {d:D},Rep H1 (Av c σ δ1) x d->Rep H1 (Av (c.plus l) (L2.bo cs σ) (bc cs δ1)) x d:=λ{x d} r =>
    r.aE λb z=>by
     rcases z with (z | z) | z
     ·exact .inl (.inl z)
     ·exact .inr (by rw[z]; exact hl)
     ·exact .inl (.inr z.bo)
   refine⟨s1,λi d e=>⟨(s2 i d e).1,λx H3 y=>?_⟩⟩;rcases (s2 i d e).2 x H3 y with ⟨e3,r⟩ | ⟨p,vs,es,hp,e3,ex,ed,r⟩
   ·exact .inl ⟨e3,cv r⟩
   ·exact .inr ⟨p,vs,es,hp,e3,ex,ed,r.1,λi v d e1 e2=>cv (r.2 i v d e1 e2)⟩
  let Fin:List D->Dl->Prop:=λacc δ'=>∀ H' vs,aG (c.plus l) (L2.bo cs σ) (bc cs δ1) H1 (L2.bo cs σ) δ' H'->H' l=some (.lst vs)->ax H' (Av (c.plus l) (L2.bo cs σ) δ') vs acc->Q (.ref l) H'
  have q2:post c (da cs g t el ds (bc cs δ1) []) Fin:=aN q1 λacc δ2 q2 H' vs x hv r=>by
   have b1:aG (c.plus l) σ δ1 H1 σ (dj cs δ1 δ2) H':=aG.back k1 rfl (λb z=>z.elim .inl λz=>.inr (by rw[z]; exact hl)) A7 x;have b2:aG c σ δ1 H1 σ (dj cs δ1 δ2) H':=b1.less;have len:δ1.length=δ2.length:=by
    have:=x.ok.len;rw[qI] at this;rw[this]; exact k1.len
   have Ks:H l=none:=by
    cases e:H l with
    | none=>rfl
    | some o =>
     obtain⟨o',e'⟩:=a1.there l o e;rw[hl] at e'; cases e'
   refine q2 _ H' (a1.trans b2) ⟨l,rfl,⟨vs,hv,ax.aE r λb z=>.inl ?_⟩,λz=>k1.iQ hl (.inl z),h0,b1.ok,Ks⟩;rcases z with z | ⟨i,d,e1,e2⟩
   ·exact .inl z
   ·have hi:i ∉ cs:=λhi=>by
     rw[u4 cs δ1 δ2 i len hi] at e1;have:=List.any_eq_false.mp A7 i hi;unfold bH at this;rw[e1] at this;simp at this
    rw[rG cs δ1 δ2 i hi] at e1;exact .inr ⟨i,d,e1,by rw[jV cs σ i hi]; exact e2⟩
  refine⟨λi m H2=>∃ δ2 acc vs,m=ds.length - i/\i<=ds.length/\aG (c.plus l) (L2.bo cs σ) (bc cs δ1) H1 (L2.bo cs σ) δ2 H2/\H2 l=some (.lst vs)/\ax H2 (Av (c.plus l) (L2.bo cs σ) δ2) vs acc /\
   post c (da cs g t el (ds.drop i) δ2 acc) Fin,⟨ds.length,bc cs δ1,[],[],by simp,Qm _,⟨k0,λa w e _=>up a w e,λa z=>.inl z,λa w e=>⟨w,up a w e⟩⟩,cA,.nil,by rw[List.drop_zero]; exact q2⟩,?_⟩
  rintro i m H2 ⟨δ2,acc,vs,rfl,kQ,a2,hv,rv,p2⟩;by_cases aQ:i < ds.length
  ·right
   have e:ds[i]? = some ds[i]:=by simp[aQ]
   rw[J3 aQ] at p2;refine⟨((u_ H2 a2.keep).2 i _ e).1,λx H3 y=>hg l _ _ _ _ ?_⟩;obtain⟨a3,r3⟩:=A5 u_ a2 e y;simp only[da] at p2
   cases eg:g (.pure ds[i]) δ2 with
   | none=>rw[eg] at p2; exact p2.elim
   | some δ3 =>
    rw[eg] at p2;have p3:post c ((t δ3).bind λb δ2=>if b then(el δ2).bind λx δ3=>if acc.length < W8 then da cs g t el (ds.drop (i + 1)) (bc cs δ3) (acc ++ [x.d]) else .stuck
     else da cs g t el (ds.drop (i + 1)) (bc cs δ2) acc) Fin:=p2
    refine⟨L2.bo cs σ,δ2,H3,δ2,.pure ds[i],δ3,.refl a3.ok,r3,eg,λσ4 a4 o4=>?_⟩;have le:Le (L2.bo cs σ) σ4:=⟨o4.1,λj v ej=>by
     rw[o4.2 j (kF cs σ j v ej).2]; exact ej⟩
    have hs:∀ (j:Nat) v,σ4[j]? = some (some v)->j ∉ cs->σ[j]? = some (some v):=λj v ej hj=>by
     rw[o4.2 j hj] at ej;exact(kF cs σ j v ej).1
    refine⟨le,ht l _ _ _ ⟨δ3,a4.ok,?_⟩⟩;rw[aY] at p3;have A8:∀ p ∈ (c.plus l).pin,p.1 ∉ cs:=hp;have gO:=a2.trans (a3.trans a4);have ln:∀ {σ':St} {δ':Dl} {H':Hp},Ok (c.plus l) σ' δ' H'->¬ Own σ' δ' l:=λ{σ' δ' H'} k=>mU k
    have Kt:post (c.plus l) (t δ3) λb δ5=>post c (if b then(el δ5).bind λx δ3=>if acc.length < W8 then da cs g t el (ds.drop (i + 1)) (bc cs δ3) (acc ++ [x.d]) else .stuck
     else da cs g t el (ds.drop (i + 1)) (bc cs δ5) acc) Fin:=p3
    refine aN Kt λb δ5 p5 H5 a5=>?_
    have A9:=gO.trans a5;have Ku:H3 l=some (.lst vs):=a3.keep l _ hv (ln a2.ok);have A_:H5 l=some (.lst vs):=a5.keep l _ Ku (ln a4.ok);have Ba:=ax.dF (ax.dF (ax.dF rv a3) a4) a5
    cases b with
    | false =>
     have c5:=A9.clear le A8 hs;refine⟨ds.length - (i + 1),by omega,bc cs δ5,acc,vs,rfl,aQ,c5,A_,ax.aE Ba λb z=>.inl ?_,p5⟩;exact z.elim .inl λ⟨j,d,e1,e2⟩=>.inr ⟨j,d,(ib cs δ5 j _ e1).1,le.2 j _ e2⟩
    | true =>
     have Bb:post c ((el δ5).bind λx δ3=>if acc.length < W8 then da cs g t el (ds.drop (i + 1)) (bc cs δ3) (acc ++ [x.d]) else .stuck) Fin:=p5;rw[aY] at Bb;refine he l _ _ _ ⟨δ5,a5.ok,?_⟩;have p6:post (c.plus l) (el δ5) λx δ6=>post c (if acc.length < W8 then da cs g t el (ds.drop (i + 1)) (bc cs δ6) (acc ++ [x.d]) else .stuck) Fin:=Bb
     refine aN p6 λx δ6 p7 v H6 a6 r6=>?_
     split at p7
     ·rename_i hz;have Kv:=A9.trans a6;have Kw:H6 l=some (.lst vs):=a6.keep l _ A_ (ln a5.ok);have Bc:=ax.dF Ba a6;have rr:ax H6 (Av (c.plus l) σ4 δ6) (vs ++ [v]) (acc ++ [x.d]):=Bc.append (.cons r6.rep .nil);have c6:=Kv.clear le A8 hs;have rL:∀ b o,H6 b=some o->¬ Av (c.plus l) σ4 δ6 b->upd H6 l (.lst (vs ++ [v])) b=some o:=λb o e n=>by
       rw[aP (λz=>n (by rw[z]; exact .inl (.inr rfl)))]; exact e
      have Kx:∀ b,Av (c.plus l) (L2.bo cs σ) (bc cs δ6) b->Av (c.plus l) σ4 δ6 b:=λb z=>z.elim .inl λ⟨j,d,e1,e2⟩=>.inr ⟨j,d,(ib cs δ6 j _ e1).1,le.2 j _ e2⟩
      refine⟨vs,ds.length - (i + 1),Kw,by rw[Bc.1]; exact hz,by omega,bc cs δ6,acc ++ [x.d],vs ++ [v],rfl,aQ,?_,cA,ax.aE (ax.keep rr rL) λb z=>.inl (Kx b z),p7⟩;-- the list that is built has grown
      refine⟨c6.ok.Ko (.inr rfl) h0 _,λa o ea n=>?_,λa z=>c6.own a z,λa o ea=>?_⟩
      ·have rM:a≠l:=λz=>by rw[z,hl] at ea; cases ea
       rw[aP rM]; exact c6.keep a o ea n
      ·by_cases rM:a=l
       ·exact⟨_,by rw[rM]; exact cA⟩
       ·obtain⟨o',e'⟩:=c6.there a o ea;exact⟨o',by rw[aP rM]; exact e'⟩
     ·exact p7.elim
  ·left
   have u3:i=ds.length:=by omega
   subst u3;rw[List.drop_length] at p2;exact⟨(u_ H2 a2.keep).1,p2 H2 vs a2 hv rv⟩
theorem ic(hc:X.calm=true)(S:oM X scope cs)(hi:SI X c tg iter it)(hg:∀ l s₀ H₀ ex,rJ (gF X scope s₀ H₀ ex) (c.plus l) cs tg g)(ht:∀ l s₀ H₀ ex,u5 (gF X scope s₀ H₀ ex) (c.plus l) ifs t)
  (he:∀ l s₀ H₀ ex,SE (gF X scope s₀ H₀ ex) (c.plus l) elt el) (hp:∀ p ∈ c.pin,p.1 ∉ cs) (hs:∀ x,JT iter X.env x=pure x:=by intro _; rfl) :
  SE X c (.ListComp elt [⟨tg,iter,ifs,0⟩] scope pos) (cI cs it g t el) :=
 PE.weak (HI (g:=λv σ H Q=>∃ l,u6 cs (c.plus l) g v σ H Q) (tt:=λσ H Q=>∃ l,tT (c.plus l) t σ H Q) (te:=λσ H Q=>∃ l,tD (c.plus l) el σ H Q) hc S hi
  (λs₀ H₀ ex pins s σ H v u Q I r ⟨l,q⟩=>hg l s₀ H₀ ex pins s σ H v u Q I r q) (λs₀ H₀ ex pins s σ H Q I ⟨l,q⟩=>ht l s₀ H₀ ex pins s σ H Q I q) (λs₀ H₀ ex pins s σ H Q I ⟨l,q⟩=>he l s₀ H₀ ex pins s σ H Q I q) hs)
  λσ H Q h=>Kq (λ_ _ _ h=>h) (λl _ _ _ _ h=>⟨l,h⟩) (λl _ _ _ h=>⟨l,h⟩) (λl _ _ _ h=>⟨l,h⟩) hp h
end
abbrev DF:=List S->Option (S×List S)
def bZ:Nat->List S->List V->List (Nat×Addr)
 | n,.own _ :: ss,.ref a :: vs=>(n,a) :: bZ (n + 1) ss vs
 | n,_ :: ss,_ :: vs=>bZ (n + 1) ss vs
 | _,_,_=>[]
theorem lY:∀ {n:Nat} {ss:List S} {vs:List V} {i:Nat} {a:Addr},(i,a) ∈ bZ n ss vs->∃ j d,i=n + j/\ss[j]? = some (.own d)/\vs[j]? = some (.ref a)
 | n,[],vs,i,a,h=>by simp[bZ] at h
 | n,s :: ss,[],i,a,h=>by cases s <;> simp[bZ] at h
 | n,s :: ss,v :: vs,i,a,h=>by
  have vc:(i,a) ∈ bZ (n + 1) ss vs->∃ j d,i=n + j/\(s :: ss)[j]? = some (.own d)/\(v :: vs)[j]? = some (.ref a):=λh=>by
   obtain⟨j,d,e,h1,h2⟩:=lY h;exact⟨j + 1,d,by omega,by simpa using h1,by simpa using h2⟩
  cases s with
  | pure d=>exact vc h
  | own d =>
   cases v with
   | ref b =>
    rcases Wl.mp h with e | h
    ·cases e;exact⟨0,d,rfl,rfl,rfl⟩
    ·exact vc h
   | _=>exact vc h
theorem rN:∀ {n:Nat} {ss:List S} {vs:List V} {j:Nat} {d:D} {a:Addr},ss[j]? = some (.own d)->vs[j]? = some (.ref a)->(n + j,a) ∈ bZ n ss vs
 | n,[],vs,j,d,a,h,_=>by simp at h
 | n,s :: ss,[],j,d,a,_,h=>by simp at h
 | n,s :: ss,v :: vs,0,d,a,h1,h2=>by
  simp at h1 h2;subst h1 h2;exact Wi
 | n,s :: ss,v :: vs,j + 1,d,a,h1,h2=>by
  have ih:=rN (n:=n + 1) (ss:=ss) (vs:=vs) (j:=j) (d:=d) (a:=a) (by simpa using h1) (by simpa using h2);have e:n + 1 + j=n + (j + 1):=by omega
  rw[e] at ih
  cases s with
  | pure d=>exact ih
  | own d =>
   cases v with
   | ref b=>exact Wg _ ih
   | _=>exact ih
abbrev cf(vs:List V):St:=vs.map some
abbrev cg(ss:List S):Dl:=ss.map some
theorem eh{ss:List S}{i:Nat}{r:S}:(cg ss)[i]? = some (some r) ↔ ss[i]? = some r:=by
 rw[Wy]
 cases ss[i]? <;> simp
theorem eE{vs:List V}{i:Nat}{v:V}:(cf vs)[i]? = some (some v) ↔ vs[i]? = some v:=by
 rw[Wy]
 cases vs[i]? <;> simp
def kR(n:Nat)(G:DF):Sp:=λvs H Q _=>∃ ss B,vs.length=n/\Ok ⟨H,B,bZ 0 ss vs,λ_ _=>False⟩ (cf vs) (cg ss) H/\∃ r aA,G ss=some (r,aA) /\
 ∀ v H',aG ⟨H,B,bZ 0 ss vs,λ_ _=>False⟩ (cf vs) (cg ss) H (cf vs) (cg aA) H'->aU ⟨H,B,bZ 0 ss vs,λ_ _=>False⟩ (cf vs) (cg aA) H H' v r->Q v H'
def bU(P:Wj)(w:Wm)(K:W2)(mg:Str->Option Value)(base:Heap)(k:Nat)(x:Str)(n:Nat)(G:DF):Prop :=
 ∃ (f:Addr) (fd:WQ) (ps:List Str),mg x=some (.ref f)/\QA K (.ref f)=true/\Binds K fd ps []/\fK P w K mg base cG k f fd ps (kR n G)
def br(n:Nat)(ss:List S):Dl:=cg ss ++ Wf (n - ss.length) none
def bI:Nat->List S->Dl->Option (List S)
 | _,[],_=>some []
 | n,.pure d :: ss,δ=>(bI (n + 1) ss δ).map (.pure d :: ·)
 | n,.own _ :: ss,δ=>match δ[n]? with
  | some (some (.own d'))=>(bI (n + 1) ss δ).map (.own d' :: ·)
  | _=>none
def cz:Fl->Option S
 | .next=>some (.pure .ay)
 | .ret r=>some r
 | _=>none
def dz(f:DS)(n:Nat)(ss:List S):Option (S×List S):=match f (br n ss) with
 | .ok fl δ=>(cz fl).bind λr=>(bI 0 ss δ).map λaA=>(r,aA)
 | _=>none
def b7(np:List Nat):Nat->List S->Bool
 | _,[]=>true
 | n,.own _ :: ss=>np.contains n && b7 np (n + 1) ss
 | n,.pure _ :: ss=>b7 np (n + 1) ss
theorem vd:∀ {n:Nat} {ss:List S} {j:Nat} {d:D},b7 np n ss=true->ss[j]? = some (.own d)->np.contains (n + j)=true
 | n,[],j,d,_,h=>by simp at h
 | n,s :: ss,0,d,h,e=>by
  simp at e;subst e;simp only[b7,Ws] at h;exact h.1
 | n,s :: ss,j + 1,d,h,e=>by
  have h':b7 np (n + 1) ss=true:=by
   cases s with
   | pure d=>exact h
   | own d=>simp only[b7,Ws] at h; exact h.2
  have:=vd (n:=n + 1) (j:=j) h' (by simpa using e);rw[show n + (j + 1)=n + 1 + j by omega];exact this
theorem rO:∀ {n:Nat} {ss aA:List S} {δ:Dl},bI n ss δ=some aA->aA.length=ss.length/\∀ (i:Nat) s,ss[i]? = some s->(∃ d,s = .pure d/\aA[i]? = some (.pure d))\/∃ d d',s = .own d/\δ[n + i]? = some (some (.own d'))/\aA[i]? = some (.own d')
 | n,[],aA,δ,h=>by
  simp only[bI,Wa] at h;subst h;exact⟨rfl,λi s e=>by simp at e⟩
 | n,.pure d :: ss,aA,δ,h=>by
  simp only[bI] at h
  cases e:bI (n + 1) ss δ with
  | none=>rw[e] at h; cases h
  | some os =>
   rw[e] at h;simp only[Wz,Wa] at h;subst h;obtain⟨h1,h2⟩:=rO e;refine⟨by simp[h1],λi s es=>?_⟩
   cases i with
   | zero=>simp at es; subst es; exact .inl ⟨d,rfl,rfl⟩
   | succ i =>
    rcases h2 i s (by simpa using es) with ⟨d,z1,z2⟩ | ⟨d,d',z1,z2,z3⟩
    ·exact .inl ⟨d,z1,by simpa using z2⟩
    ·exact .inr ⟨d,d',z1,by rw[show n + (i + 1)=n + 1 + i by omega]; exact z2,by simpa using z3⟩
 | n,.own d :: ss,aA,δ,h=>by
  simp only[bI] at h;split at h
  ·rename_i d' ed
   cases e:bI (n + 1) ss δ with
   | none=>rw[e] at h; cases h
   | some os =>
    rw[e] at h;simp only[Wz,Wa] at h;subst h;obtain⟨h1,h2⟩:=rO e;refine⟨by simp[h1],λi s es=>?_⟩
    cases i with
    | zero=>simp at es; subst es; exact .inr ⟨d,d',rfl,ed,rfl⟩
    | succ i =>
     rcases h2 i s (by simpa using es) with ⟨d,z1,z2⟩ | ⟨d,d',z1,z2,z3⟩
     ·exact .inl ⟨d,z1,by simpa using z2⟩
     ·exact .inr ⟨d,d',z1,by rw[show n + (i + 1)=n + 1 + i by omega]; exact z2,by simpa using z3⟩
  ·cases h
section
variable {c:Fc} {H H':Hp} {vs:List V} {ss aA:List S} {σ':St} {δ':Dl}
theorem kS{α:Type}{l:List (Option α)}{k i:Nat}{v:α}(h:(l ++ Wf k none)[i]? = some (some v)):l[i]? = some (some v):=by
 by_cases hi:i < l.length
 ·rw[J1 hi] at h; exact h
 ·rw[List.getElem?_append_right (by omega),List.getElem?_replicate] at h;split at h <;> cases h
theorem jW{α:Type}{l:List (Option α)}{k i:Nat}{v:α}(h:l[i]? = some (some v)):(l ++ Wf k none)[i]? = some (some v):=by
 have hi:i < l.length:=(W5.mp h).1;rw[J1 hi]; exact h
theorem Own.ext{σ:St}{δ:Dl}{k:Nat}{a:Addr}:Own (σ ++ Wf k none) (δ ++ Wf k none) a ↔ Own σ δ a :=
 ⟨λ⟨i,d,e1,e2⟩=>⟨i,d,kS e1,kS e2⟩,λ⟨i,d,e1,e2⟩=>⟨i,d,jW e1,jW e2⟩⟩
theorem Ok.ext{σ:St}{δ:Dl}(k:Ok c σ δ H)(n:Nat):Ok c (σ ++ Wf n none) (δ ++ Wf n none) H:=by
 have sub:∀ b,Av c (σ ++ Wf n none) (δ ++ Wf n none) b->Av c σ δ b:=λb z=>z.elim .inl λz=>.inr (Own.ext.mp z)
 refine⟨k.keep,k.bd,k.dh,by simp[k.len],λi d e=>?_,λi d e=>?_,λi j a d d' e1 e2 e3 e4=>k.inj i j a d d' (kS e1) (kS e2) (kS e3) (kS e4),λp hm=>jW (k.pinned p hm)⟩
 ·obtain⟨v,h1,h2⟩:=k.slot i d (kS e);exact⟨v,jW h1,h2.aE λb z=>.inl (sub b z)⟩
 ·obtain⟨a,h1,h2,h3⟩:=k.own i d (kS e);exact⟨a,jW h1,h2.aE λb z=>.inl (sub b z),h3⟩
theorem nj{B:Addr->Prop}{n:Nat}(hc:c = ⟨H,B,bZ 0 ss vs,λ_ _=>False⟩)(k:Ok c (cf vs) (cg ss) H)(x:aG c (cf vs ++ Wf n none) (cg ss ++ Wf n none) H σ' δ' H')(ho:bI 0 ss δ'=some aA) :
  aG c (cf vs) (cg ss) H (cf vs) (cg aA) H'/\∀ v r,aU c σ' δ' H H' v r->aU c (cf vs) (cg aA) H H' v r:=by
 obtain⟨hlen,hat⟩:=rO ho;have lZ:ss.length=vs.length:=by have:=k.len; simpa using this
 have pin:∀ (i:Nat) (a:Addr) (d:D),ss[i]? = some (.own d)->vs[i]? = some (.ref a)->σ'[i]? = some (some (.ref a)):=λi a d h1 h2=>by
  have:=rN (n:=0) h1 h2;rw[Jb] at this;exact x.ok.pinned (i,a) (by rw[hc]; exact this)
 have rP:∀ (i:Nat) (d:D),aA[i]? = some (.own d)->(∃ d₀,ss[i]? = some (.own d₀))/\δ'[i]? = some (some (.own d)):=λi d e=>by
  have hi:i < ss.length:=by rw[<- hlen]; exact(W5.mp e).1
  rcases hat i ss[i] (by simp[hi]) with ⟨d₁,z1,z2⟩ | ⟨d₁,d',z1,z2,z3⟩
  ·rw[e] at z2; cases z2
  ·rw[e] at z3; cases z3
   rw[Jb] at z2;exact⟨⟨d₁,by rw[W7 hi,z1]⟩,z2⟩
 have sub:∀ b,Own (cf vs) (cg aA) b->Own σ' δ' b:=λb ⟨i,d,e1,e2⟩=>by
  obtain⟨⟨d₀,h0⟩,h1⟩:=rP i d (eh.mp e1);exact⟨i,d,h1,pin i b d₀ h0 (eE.mp e2)⟩
 have lW:∀ b,Av c (cf vs) (cg aA) b->Av c σ' δ' b:=λb z=>z.elim .inl λz=>.inr (sub b z)
 have Be:∀ {c':Fc},c'.pin=c.pin->Ok c' σ' δ' H'->(∀ b,c.B b->c'.B b)->(∀ (i:Nat) d v,ss[i]? = some (.pure d)->vs[i]? = some v->Rep H' (Av c' σ' δ') v d)->Ok c' (cf vs) (cg aA) H':=λ{c'} ep k' hB hsl=>by
  have Bf:∀ b,Av c' (cf vs) (cg aA) b->Av c' σ' δ' b:=λb z=>z.elim .inl λz=>.inr (sub b z)
  refine⟨k'.keep,k'.bd,k'.dh,by simp[hlen,lZ],λi d e=>?_,λi d e=>?_,λi j a d d' e1 e2 e3 e4=>?_,λp hm=>?_⟩
  ·have e':=eh.mp e;have hi:i < ss.length:=by rw[<- hlen]; exact(W5.mp e').1
   have hv:i < vs.length:=by omega
   rcases hat i ss[i] (by simp[hi]) with ⟨d₁,z1,z2⟩ | ⟨d₁,d',z1,z2,z3⟩
   ·rw[e'] at z2; cases z2
    exact⟨vs[i],by simp[hv],(hsl i d vs[i] (by rw[W7 hi,z1]) (by simp[hv])).aE λb z=>.inl (Bf b z)⟩
   ·rw[e'] at z3; cases z3
  ·have e':=eh.mp e;obtain⟨⟨d₀,h0⟩,h1⟩:=rP i d e';obtain⟨a₀,h2,_⟩:=k.own i d₀ (eh.mpr h0);obtain⟨a,h3,h4,h5⟩:=k'.own i d h1;rw[pin i a₀ d₀ h0 (eE.mp h2)] at h3
   cases h3;exact⟨a₀,h2,h4.aE λb z=>.inl (Bf b z),h5⟩
  ·obtain⟨⟨d₀,h0⟩,h1⟩:=rP i d (eh.mp e1);obtain⟨⟨d₁,h2⟩,h3⟩:=rP j d' (eh.mp e2);exact k'.inj i j a d d' h1 h3 (pin i a d₀ h0 (eE.mp e3)) (pin j a d₁ h2 (eE.mp e4))
  ·exact k.pinned p (by rw[<- ep]; exact hm)
 have slots:∀ (i:Nat) d v,ss[i]? = some (.pure d)->vs[i]? = some v->Rep H' (Av c σ' δ') v d:=λi d v h1 h2=>by
  obtain⟨w,e1,r⟩:=(k.ext n).slot i d (jW (eh.mpr h1));rw[jW (eE.mpr h2)] at e1
  cases e1;exact Rep.dF r x
 refine⟨⟨Be rfl x.ok (λ_ z=>z) slots,λa o e m=>x.keep a o e λz=>m (Own.ext.mp z),λa z=>(x.own a (sub a z)).elim (λz=>.inl (Own.ext.mp z)) .inr,x.there⟩,λv r hr=>?_⟩
 cases r with
 | pure d=>exact Rep.aE hr λb z=>.inl (lW b z)
 | own d =>
  obtain⟨a,ea,o,nb,h0,kp,hs⟩:=hr;refine⟨a,ea,o.aE λb z=>.inl (z.elim .inl λz=>.inr (sub b z)),nb,h0,Be rfl kp (λ_ z=>.inl z) λi d v h1 h2=>?_,hs⟩;obtain⟨w,e1,r⟩:=(k.ext n).slot i d (jW (eh.mpr h1));rw[jW (eE.mpr h2)] at e1
  cases e1;have nq:H a=none:=hs;have r1:Rep H (Av c (cf vs ++ Wf n none) (cg ss ++ Wf n none)) v d:=r;have r2:Rep H (λb=>Av c (cf vs ++ Wf n none) (cg ss ++ Wf n none) b\/Av (c.plus a) σ' δ' b) v d:=r1.aE λb z=>by
   rcases z with z | (z | z) | z
   ·exact .inl z
   ·exact .inl (.inl z)
   ·exact .inr (by rw[z]; exact nq)
   ·rcases x.own b z with q | q
    ·exact .inl (.inr q)
    ·exact .inr q
  exact(r2.keep λb o e m=>x.keep b o e λz=>m (.inl (.inr z))).aE λb z=>.inl (.inr z)
end
section
variable {P:Wj} {w:Wm} {K:W2} {mg:Str->Option Value} {base:Heap}
theorem Ky{x qual:Str}{st:Stmt}{f:Addr}{fd:WQ}{N ps:List Str}{k:Nat}{np:List Nat}{fb:DS}{G:DF}(F:bM K x qual st f fd)(S:cj N ps (aV st))
  (dE:∀ (c:Fc) (aB:Value) (A:Wn) (outer:List Env) (s:W1) (H:Hp) (E:XK),bP k (A.deeper (J8 qual (aV st) s.heap.objs.size f aB))->Np c np->gK (eZ cG P w K mg base N qual (aV st) f aB A outer s H E).fH c (du st) fb)
  (hG:∀ ss y,G ss=some y->b7 np 0 ss=true/\dz fb N.length ss=some y):fK P w K mg base cG (k + 1) f fd ps (kR ps.length G):=by
 refine F.ok S (λvs H Q E h=>?_) λaB A outer s H vs Q E hr h=>?_
 ·obtain⟨ss,B,hl,_⟩:=h;exact hl
 ·obtain⟨ss,B,hl,ok,r,aA,hg,q⟩:=h;obtain⟨fj,hrun⟩:=hG ss _ hg;have lZ:ss.length=vs.length:=by have:=ok.len; simpa using this
  have vf:Np ⟨H,B,bZ 0 ss vs,λ_ _=>False⟩ np:=λp hp=>by
   obtain⟨j,d,e,h1,_⟩:=lY (i:=p.1) (a:=p.2) hp;rw[e];exact vd fj h1
  refine⟨m_ ⟨H,B,bZ 0 ss vs,λ_ _=>False⟩ fb,dE ⟨H,B,bZ 0 ss vs,λ_ _=>False⟩ aB A outer s H E hr vf,?_⟩;have fw:eX N vs=cf vs ++ Wf (N.length - ss.length) none:=by rw[lZ]; rfl
  refine⟨br N.length ss,by rw[fw]; exact ok.ext _,?_⟩;unfold dz at hrun;unfold dw
  cases e:fb (br N.length ss) with
  | exc x δx=>rw[e] at hrun; cases hrun
  | stuck=>rw[e] at hrun; cases hrun
  | ok fl δ' =>
   rw[e] at hrun;show ∀ σ' H',aG _ (eX N vs) (br N.length ss) H σ' δ' H'->fin _ _ σ' δ' H' fl;intro σ' H' a;rw[fw] at a;simp only at hrun
   cases fl with
   | brk=>cases hrun
   | cont=>cases hrun
   | next =>
    simp only[cz,WL] at hrun
    cases eo:bI 0 ss δ' with
    | none=>rw[eo] at hrun; cases hrun
    | some os =>
     rw[eo] at hrun
     cases hrun;obtain⟨l1,l2⟩:=nj rfl ok a eo;exact q .ay H' l1 .ay
   | ret r' =>
    simp only[cz,WL] at hrun
    cases eo:bI 0 ss δ' with
    | none=>rw[eo] at hrun; cases hrun
    | some os =>
     rw[eo] at hrun
     cases hrun;obtain⟨l1,l2⟩:=nj rfl ok a eo;exactλv rv=>q v H' l1 (l2 v _ rv)
theorem gm{x qual:Str}{st:Stmt}{f:Addr}{fd:WQ}{N ps:List Str}{k:Nat}{np:List Nat}{fb:DS}{G:DF}(F:bM K x qual st f fd)(hm:mg x=some (.ref f))(hb:Binds K fd ps [])(S:cj N ps (aV st))
  (dE:∀ (c:Fc) (aB:Value) (A:Wn) (outer:List Env) (s:W1) (H:Hp) (E:XK),bP k (A.deeper (J8 qual (aV st) s.heap.objs.size f aB))->Np c np->gK (eZ cG P w K mg base N qual (aV st) f aB A outer s H E).fH c (du st) fb)
  (hG:∀ ss y,G ss=some y->b7 np 0 ss=true/\dz fb N.length ss=some y):bU P w K mg base (k + 1) x ps.length G:=⟨f,fd,ps,hm,F.kp,hb,Ky F S dE hG⟩
end
inductive Ak where
 | val (f:DE)
 | io (i:Nat)
def bC:List Ak->Dl->Rs (List (Option D))
 | [],δ=>.ok [] δ
 | .val f :: r,δ=>(f δ).bind λx δ1=>(bC r δ1).bind λxs δ2=>.ok (some x.d :: xs) δ2
 | .io _ :: r,δ=>(bC r δ).bind λxs δ2=>.ok (none :: xs) δ2
inductive ie (c:Fc) (σ:St) (δ:Dl) (H:Hp):List V->List Ak->List (Option D)->Prop
 | nil:ie c σ δ H [] [] []
 | val {v:V} {d:D} {f:DE} {vs:List V} {as:List Ak} {ds:List (Option D)}:Rep H (Av c σ δ) v d->ie c σ δ H vs as ds->ie c σ δ H (v :: vs) (.val f :: as) (some d :: ds)
 | io {v:V} {i:Nat} {vs:List V} {as:List Ak} {ds:List (Option D)}:σ[i]? = some (some v)->ie c σ δ H vs as ds->ie c σ δ H (v :: vs) (.io i :: as) (none :: ds)
def tX(c:Fc)(as:List Ak):TA:=λσ H Q=>∃ δ,Ok c σ δ H/\(∀ i,Ak.io i ∈ as->∃ v,σ[i]? = some (some v))/\post c (bC as δ) λds δ'=>∀ vs H',aG c σ δ H σ δ' H'->ie c σ δ' H' vs as ds->Q vs H'
abbrev SX(X:Cx)(c:Fc)(es:List Expr)(as:List Ak):Prop:=PA X es (tX c as)
section
variable {X:Cx} {c:Fc} {e:Expr} {es:List Expr} {fe:DE} {as:List Ak} {pos pp:Pos}
theorem b8:SX X c [] []:=PA.weak fV λσ H Q ⟨δ,k,_,q⟩=>q [] H (.refl k) .nil
theorem Kz(ha:SE X c e fe)(hr:SX X c es as)(hs:We (e :: es) X.env=(false,eval e X.env) :: We es X.env:=by rfl):SX X c (e :: es) (.val fe :: as):=PA.weak (dY ha hr hs) λσ H Q ⟨δ,k,fj,q⟩=>by
 unfold bC at q;rw[aY] at q;refine⟨δ,k,aN q λx δ1 q1 v H1 a1 r1=>⟨δ1,a1.ok,λi hi=>fj i (Wg _ hi),?_⟩⟩;rw[aY] at q1;exact aN q1 λxs δ2 q2 vs H2 a2 r2=>q2 (v :: vs) H2 (a1.trans a2) (.val (Rep.dF r1.rep a2) r2)
theorem KA(ha:PE X e (de i))(hr:SX X c es as)(hs:We (e :: es) X.env=(false,eval e X.env) :: We es X.env:=by rfl):SX X c (e :: es) (.io i :: as):=PA.weak (dY ha hr hs) λσ H Q ⟨δ,k,fj,q⟩=>by
 obtain⟨v,ev⟩:=fj i Wi;unfold bC at q;rw[aY] at q;exact⟨v,ev,δ,k,λi hi=>fj i (Wg _ hi),aN q λxs δ2 q2 vs H2 a2 r2=>q2 (v :: vs) H2 a2 (.io ev r2)⟩
end
def bf:List Ak->List (Option D)->Dl->Option (List S)
 | [],[],_=>some []
 | .val _ :: as,some d :: ds,δ=>(bf as ds δ).map (.pure d :: ·)
 | .io i :: as,none :: ds,δ=>match δ[i]? with
  | some (some (.own d))=>(bf as ds δ).map (.own d :: ·)
  | _=>none
 | _,_,_=>none
def aW:List Ak->List Nat
 | []=>[]
 | .val _ :: as=>aW as
 | .io i :: as=>i :: aW as
def aR:List Ak->List S->Dl->Dl
 | .io i :: as,r :: rs,δ=>aR as rs (δ.set i (some r))
 | .val _ :: as,_ :: rs,δ=>aR as rs δ
 | _,_,δ=>δ
def bO:List Nat->Bool
 | []=>true
 | i :: r=>!r.contains i && bO r
def aD(G:DF)(as:List Ak):DE:=λδ=>if (aW as).all (bH δ) && bO (aW as) then(bC as δ).bind λds δ1=>match bf as ds δ1 with
  | none=>.stuck
  | some ss=>match G ss with
   | none=>.stuck
   | some (r,aA)=>.ok r (aR as aA δ1)
 else .stuck
theorem Bg:∀ {l:List Nat},bO l=true->l.Nodup
 | [],_=>.nil
 | i :: r,h=>by
  simp only[bO,Ws,Bool.not_eq_true'] at h;exact List.nodup_cons.mpr ⟨λhm=>by have:=h.1; simp at this; exact this hm,Bg h.2⟩
theorem kT:∀ {as:List Ak} {i:Nat},i ∈ aW as ↔ Ak.io i ∈ as
 | [],i=>by simp[aW]
 | .val f :: as,i=>by simp[aW,kT (as:=as)]
 | .io j :: as,i=>by simp[aW,kT (as:=as)]
theorem vg:∀ {as:List Ak} {i j k:Nat},(aW as).Nodup->as[j]? = some (.io i)->as[k]? = some (.io i)->j=k
 | [],i,j,k,_,h,_=>by simp at h
 | .val f :: as,i,j,k,nd,h1,h2=>by
  cases j with
  | zero=>simp at h1
  | succ j =>
   cases k with
   | zero=>simp at h2
   | succ k=>exact congrArg (· + 1) (vg (as:=as) nd (by simpa using h1) (by simpa using h2))
 | .io n :: as,i,j,k,nd,h1,h2=>by
  have gQ:=Q2.mp nd
  cases j with
  | zero =>
   simp at h1;subst h1
   cases k with
   | zero=>rfl
   | succ k=>exact absurd (kT.mpr (WB (by simpa using h2))) gQ.1
  | succ j =>
   cases k with
   | zero =>
    simp at h2;subst h2;exact absurd (kT.mpr (WB (by simpa using h1))) gQ.1
   | succ k=>exact congrArg (· + 1) (vg (as:=as) gQ.2 (by simpa using h1) (by simpa using h2))
section
variable {c:Fc} {σ:St} {δ:Dl} {H:Hp} {vs:List V} {as:List Ak} {ds:List (Option D)} {ss:List S}
theorem rQ(h:ie c σ δ H vs as ds):∀ {ss:List S},bf as ds δ=some ss->ss.length=vs.length/\as.length=vs.length/\∀ (j:Nat) s v,ss[j]? = some s->vs[j]? = some v ->
  (∃ d f,s = .pure d/\as[j]? = some (.val f)/\Rep H (Av c σ δ) v d)\/∃ d i,s = .own d/\as[j]? = some (.io i)/\σ[i]? = some (some v)/\δ[i]? = some (some (.own d)):=by
 induction h with
 | nil =>
  intro ss h;simp only[bf,Wa] at h;subst h;exact⟨rfl,rfl,λj s v e _=>by simp at e⟩
 | @val v d f vs as ds r _ ih =>
  intro ss h;simp only[bf] at h
  cases e:bf as ds δ with
  | none=>rw[e] at h; cases h
  | some rs =>
   rw[e] at h;simp only[Wz,Wa] at h;subst h;obtain⟨h1,h2,h3⟩:=ih e;refine⟨by simp[h1],by simp[h2],λj s v' e1 e2=>?_⟩
   cases j with
   | zero=>simp at e1 e2; subst e1 e2; exact .inl ⟨d,f,rfl,rfl,r⟩
   | succ j=>simpa using h3 j s v' (by simpa using e1) (by simpa using e2)
 | @io v i vs as ds ev _ ih =>
  intro ss h;simp only[bf] at h;split at h
  ·rename_i d ed
   cases e:bf as ds δ with
   | none=>rw[e] at h; cases h
   | some rs =>
    rw[e] at h;simp only[Wz,Wa] at h;subst h;obtain⟨h1,h2,h3⟩:=ih e;refine⟨by simp[h1],by simp[h2],λj s v' e1 e2=>?_⟩
    cases j with
    | zero=>simp at e1 e2; subst e1 e2; exact .inr ⟨d,i,rfl,rfl,ev,ed⟩
    | succ j=>simpa using h3 j s v' (by simpa using e1) (by simpa using e2)
  ·cases h
theorem vh:∀ (as:List Ak) (rs:List S) (δ:Dl),(aR as rs δ).length=δ.length
 | [],rs,δ=>by simp[aR]
 | .val f :: as,[],δ=>by simp[aR]
 | .io i :: as,[],δ=>by simp[aR]
 | .val f :: as,r :: rs,δ=>by simp[aR,vh as rs δ]
 | .io i :: as,r :: rs,δ=>by simp[aR,vh as rs]
theorem pq:∀ (as:List Ak) (rs:List S) (δ:Dl) (i:Nat),i ∉ aW as->(aR as rs δ)[i]? = δ[i]?
 | [],rs,δ,i,_=>by simp[aR]
 | .val f :: as,[],δ,i,_=>by simp[aR]
 | .io j :: as,[],δ,i,_=>by simp[aR]
 | .val f :: as,r :: rs,δ,i,h=>by rw[aR]; exact pq as rs δ i h
 | .io j :: as,r :: rs,δ,i,h=>by
  simp only[aW,Wl,not_or] at h;rw[aR,pq as rs _ i h.2,W9 (Ne.symm h.1)]
theorem rR:∀ (as:List Ak) (rs:List S) (δ:Dl) (i j:Nat) (r:S),(aW as).Nodup->as[j]? = some (.io i)->rs[j]? = some r->i < δ.length->(aR as rs δ)[i]? = some (some r)
 | [],rs,δ,i,j,r,_,h,_,_=>by simp at h
 | a :: as,[],δ,i,j,r,_,_,h,_=>by simp at h
 | .val f :: as,r0 :: rs,δ,i,j,r,nd,h1,h2,hi=>by
  cases j with
  | zero=>simp at h1
  | succ j=>rw[aR]; exact rR as rs δ i j r nd (by simpa using h1) (by simpa using h2) hi
 | .io k :: as,r0 :: rs,δ,i,j,r,nd,h1,h2,hi=>by
  have gQ:=Q2.mp nd
  cases j with
  | zero =>
   simp at h1 h2;subst h1 h2;rw[aR,pq as rs _ k gQ.1,Wp hi]
  | succ j=>rw[aR]; exact rR as rs _ i j r gQ.2 (by simpa using h1) (by simpa using h2) (by simpa using hi)
theorem Bh(k:Ok c σ δ H)(hr:ie c σ δ H vs as ds)(hm:bf as ds δ=some ss)(nd:(aW as).Nodup) :
  Ok ⟨H,λa=>Av c σ δ a/\¬ ∃ (j:Nat) (d:D),ss[j]? = some (S.own d)/\vs[j]? = some (V.ref a),bZ 0 ss vs,λ_ _=>False⟩ (cf vs) (cg ss) H:=by
 obtain⟨h1,h2,h3⟩:=rQ hr hm;have at':∀ (j:Nat) s,ss[j]? = some s->∃ v,vs[j]? = some v:=λj s e=>by
  have:j < vs.length:=by rw[<- h1]; exact(W5.mp e).1
  exact⟨vs[j],by simp[this]⟩
 have Bi:∀ a,Own (cf vs) (cg ss) a ↔ ∃ (j:Nat) (d:D),ss[j]? = some (S.own d)/\vs[j]? = some (V.ref a):=λa =>
  ⟨λ⟨j,d,e1,e2⟩=>⟨j,d,eh.mp e1,eE.mp e2⟩,λ⟨j,d,e1,e2⟩=>⟨j,d,eh.mpr e1,eE.mpr e2⟩⟩
 have Bj:∀ a,Own (cf vs) (cg ss) a->Own σ δ a:=λa z=>by
  obtain⟨j,d,e1,e2⟩:=(Bi a).mp z;rcases h3 j _ _ e1 e2 with ⟨d',f,e,_⟩ | ⟨d',i,e,_,es,ed⟩
  ·cases e
  ·exact⟨i,d',ed,es⟩
 have sub:∀ a,Av ⟨H,λa=>Av c σ δ a/\¬ ∃ (j:Nat) (d:D),ss[j]? = some (S.own d)/\vs[j]? = some (V.ref a),bZ 0 ss vs,λ_ _=>False⟩ (cf vs) (cg ss) a->Av c σ δ a:=λa z=>z.elim (λz=>z.1) λz=>.inr (Bj a z)
 refine⟨λa o e _=>e,λa z=>k.qM z.1,λa ⟨i,hi⟩=>?_,by simp[h1],λj d e=>?_,λj d e=>?_,λi j a d d' e1 e2 e3 e4=>?_,λp hp=>?_⟩
 ·obtain⟨j,d,_,e1,e2⟩:=lY hi;exact k.oQ (Bj a ((Bi a).mpr ⟨j,d,e1,e2⟩))
 ·have e':=eh.mp e;obtain⟨v,ev⟩:=at' j _ e';rcases h3 j _ v e' ev with ⟨d',f,e,_,r⟩ | ⟨d',i,e,_⟩
  ·cases e;exact⟨v,eE.mpr ev,r.aE λb z=>.inl (sub b z)⟩
  ·cases e
 ·have e':=eh.mp e;obtain⟨v,ev⟩:=at' j _ e';rcases h3 j _ v e' ev with ⟨d',f,e,_,r⟩ | ⟨d',i,e,_,es,ed⟩
  ·cases e
  ·cases e;obtain⟨a,g1,g2,g3⟩:=k.own i d ed;rw[es] at g1
   cases g1;refine⟨a,eE.mpr ev,g2.aE λb z=>.inl (sub b z),.inl ⟨0 + j,rN e' ev⟩,λz=>z.2 ⟨j,d,e',ev⟩⟩
 ·have f1:=eh.mp e1;have f2:=eh.mp e2;rcases h3 i _ _ f1 (eE.mp e3) with ⟨_,_,e,_⟩ | ⟨d1,i1,e,a1,s1,x1⟩
  ·cases e
  ·rcases h3 j _ _ f2 (eE.mp e4) with ⟨_,_,e',_⟩ | ⟨d2,i2,e',a2,s2,x2⟩
   ·cases e'
   ·have:=k.inj i1 i2 a d1 d2 x1 x2 s1 s2;subst this;exact vg nd a1 a2
 ·obtain⟨j,d,e,e1,e2⟩:=lY (i:=p.1) (a:=p.2) hp;rw[Jb] at e;rw[e];exact eE.mpr e2
theorem Bk(k:Ok c σ δ H)(hr:ie c σ δ H vs as ds)(hm:bf as ds δ=some ss)(nd:(aW as).Nodup)(hB:B=λa=>Av c σ δ a/\¬ ∃ (j:Nat) (d:D),ss[j]? = some (S.own d)/\vs[j]? = some (V.ref a))
  (x:aG ⟨H,B,bZ 0 ss vs,λ_ _=>False⟩ (cf vs) (cg ss) H (cf vs) (cg aA) H') (fj:∀ (j:Nat) d,ss[j]? = some (.own d)->∃ d',aA[j]? = some (.own d')) (R6:∀ (j:Nat) d,ss[j]? = some (.pure d)->∃ d',aA[j]? = some (.pure d')) :
  aG c σ δ H σ (aR as aA δ) H'/\∀ v r,aU ⟨H,B,bZ 0 ss vs,λ_ _=>False⟩ (cf vs) (cg aA) H H' v r->aU c σ (aR as aA δ) H H' v r:=by
 obtain⟨h1,h2,h3⟩:=rQ hr hm;have rS:∀ i,i ∈ aW as->∃ (j:Nat) (d:D) (a:Addr),as[j]? = some (.io i)/\ss[j]? = some (.own d)/\vs[j]? = some (.ref a)/\σ[i]? = some (some (.ref a))/\δ[i]? = some (some (.own d)):=λi hi=>by
  obtain⟨j,hj,ej⟩:=List.mem_iff_getElem.mp (kT.mp hi);have hv:j < vs.length:=by omega
  have hs:j < ss.length:=by omega
  have vi:as[j]? = some (.io i):=by rw[W7 hj,ej]
  rcases h3 j ss[j] vs[j] (by simp[hs]) (by simp[hv]) with ⟨d,f,e,a1,_⟩ | ⟨d,i',e,a1,s1,x1⟩
  ·rw[vi] at a1; cases a1
  ·rw[vi] at a1; cases a1
   obtain⟨a,g1,_⟩:=k.own i d x1;rw[s1] at g1;have g2:vs[j] = .ref a:=by
    have:=Wx g1;exact Wx this
   exact⟨j,d,a,vi,by rw[W7 hs,e],by rw[W7 hv,g2],by rw[s1,g2],x1⟩
 have pw:∀ a,(∃ (j:Nat) (d:D),ss[j]? = some (S.own d)/\vs[j]? = some (V.ref a))->Own σ δ a:=λa ⟨j,d,e1,e2⟩=>by
  rcases h3 j _ _ e1 e2 with ⟨d',f,e,_⟩ | ⟨d',i,e,_,es,ed⟩
  ·cases e
  ·exact⟨i,d',ed,es⟩
 have R7:∀ a,(⟨H,B,bZ 0 ss vs,λ_ _=>False⟩:Fc).I a ↔ ∃ (j:Nat) (d:D),ss[j]? = some (S.own d)/\vs[j]? = some (V.ref a):=λa =>
  ⟨λ⟨i,hi⟩=>by obtain⟨j,d,_,e1,e2⟩:=lY hi; exact⟨j,d,e1,e2⟩,λ⟨j,d,e1,e2⟩=>⟨0 + j,rN e1 e2⟩⟩
 have ownIn:∀ a,Own (cf vs) (cg ss) a->∃ (j:Nat) (d:D),ss[j]? = some (S.own d)/\vs[j]? = some (V.ref a):=λa ⟨j,d,e1,e2⟩=>⟨j,d,eh.mp e1,eE.mp e2⟩
 -- the owned addresses are the same
 have rT:∀ (i:Nat) (d:D),(aR as aA δ)[i]? = some (some (.own d))->(i ∉ aW as/\δ[i]? = some (some (.own d)))\/(i ∈ aW as/\∃ (j:Nat) (d0:D) (a:Addr),as[j]? = some (.io i)/\ss[j]? = some (.own d0)/\vs[j]? = some (.ref a)/\σ[i]? = some (some (.ref a))/\aA[j]? = some (.own d)):=λi d e=>by
  by_cases hi:i ∈ aW as
  ·right
   obtain⟨j,d0,a,a1,a2,a3,a4,a5⟩:=rS i hi;obtain⟨d',ed'⟩:=fj j d0 a2;have aQ:i < δ.length:=(W5.mp a5).1;have:=rR as aA δ i j (.own d') nd a1 ed' aQ;rw[e] at this
   cases this;exact⟨hi,j,d0,a,a1,a2,a3,a4,ed'⟩
  ·rw[pq as aA δ i hi] at e;exact .inl ⟨hi,e⟩
 have px:∀ b,Own σ (aR as aA δ) b->Own σ δ b:=λb ⟨i,d,e1,e2⟩=>by
  rcases rT i d e1 with ⟨_,e⟩ | ⟨hi,j,d0,a,_,a2,a3,a4,_⟩
  ·exact⟨i,d,e,e2⟩
  ·rw[e2] at a4;have:b=a:=by injection (Wx (Wx a4))
   subst this;exact pw b ⟨j,d0,a2,a3⟩
 have KC:∀ (i:Nat) (d:D),(aR as aA δ)[i]? = some (some (.pure d))->i ∉ aW as/\δ[i]? = some (some (.pure d)):=λi d e=>by
  by_cases hi:i ∈ aW as
  ·obtain⟨j,d0,a,a1,a2,a3,a4,a5⟩:=rS i hi;obtain⟨d',ed'⟩:=fj j d0 a2;have aQ:i < δ.length:=(W5.mp a5).1;have:=rR as aA δ i j (.own d') nd a1 ed' aQ;rw[e] at this
   cases this
  ·rw[pq as aA δ i hi] at e;exact⟨hi,e⟩
 have Bl:∀ a o,H a=some o->¬ Av c σ δ a->H' a=some o:=λa o e n=>x.keep a o e λz=>n (.inr (pw a (ownIn a z)))
 have lW:∀ b,Av c σ (aR as aA δ) b->Av c σ δ b:=λb z=>z.elim .inl λz=>.inr (px b z)
 -- the callee's set holds ours
 have big:∀ {c':Fc},c'.B=B->∀ b,Av c σ δ b->Av c' (cf vs) (cg aA) b:=λ{c'} hB' b z=>by
  by_cases hp:∃ (j:Nat) (d:D),ss[j]? = some (S.own d)/\vs[j]? = some (V.ref b)
  ·obtain⟨j,d,e1,e2⟩:=hp;obtain⟨d',ed'⟩:=fj j d e1;exact .inr ⟨j,d',eh.mpr ed',eE.mpr e2⟩
  ·exact .inl (by rw[hB',hB]; exact⟨z,hp⟩)
 have Bm:∀ (c1 c2:Fc),c1.H₀=c.H₀->c1.pin=c.pin->(∀ b,c1.B b->c.B b\/(c2.B b/\H b=none))->c2.pin=bZ 0 ss vs->(∀ b,B b->c2.B b)->Ok c2 (cf vs) (cg aA) H'->(∀ b,c1.B b->∃ o,H' b=some o)->Ok c1 σ (aR as aA δ) H':=λc1 c2 e0 e1 e2 e3 e4 k2 hex=>by
  have Bn:∀ b,Av c1 σ (aR as aA δ) b->Av c σ δ b\/H b=none:=λb z=>by
   rcases z with z | z
   ·rcases e2 b z with z | ⟨_,z⟩
    ·exact .inl (.inl z)
    ·exact .inr z
   ·exact .inl (.inr (px b z))
  have qN:∀ b,Av c1 σ (aR as aA δ) b->Av c2 (cf vs) (cg aA) b:=λb z=>by
   have bg:∀ b,Av c σ δ b->Av c2 (cf vs) (cg aA) b:=λb z=>by
    by_cases hp:∃ (j:Nat) (d:D),ss[j]? = some (S.own d)/\vs[j]? = some (V.ref b)
    ·obtain⟨j,d,e1,e2⟩:=hp;obtain⟨d',ed'⟩:=fj j d e1;exact .inr ⟨j,d',eh.mpr ed',eE.mpr e2⟩
    ·exact .inl (e4 b (by rw[hB]; exact⟨z,hp⟩))
   rcases z with z | z
   ·rcases e2 b z with z | ⟨z,_⟩
    ·exact bg b (.inl z)
    ·exact .inl z
   ·exact bg b (.inr (px b z))
  have KD:∀ {v:V} {d:D},Rep H (Av c σ δ) v d->Rep H' (Av c1 σ (aR as aA δ)) v d:=λ{v d} r=>by
   have r1:Rep H (λb=>Av c σ δ b\/Av c1 σ (aR as aA δ) b) v d:=r.aE λb z=>z.elim .inl (Bn b)
   exact(r1.keep λb o e n=>Bl b o e λz=>n (.inl z)).aE λb z=>.inl (.inr z)
  refine⟨λa o e n=>?_,hex,λa z=>?_,by rw[vh]; exact k.len,λi d e=>?_,λi d e=>?_,λi j a d d' f1 f2 f3 f4=>?_,by rw[e1]; exact k.pinned⟩
  ·rw[e0] at e;have n':¬ c.I a:=λz=>n (by unfold Fc.I at z ⊢; rw[e1]; exact z)
   refine x.keep a o (k.keep a o e n') λz=>?_
   obtain⟨i,d,g1,g2⟩:=pw a (ownIn a z);obtain⟨a',g3,_,g4,_⟩:=k.own i d g1;rw[g2] at g3; cases g3
   rcases g4 with g4 | g4
   ·exact n' g4
   ·rw[g4] at e; cases e
  ·have z':c.I a:=by unfold Fc.I at z ⊢; rw[<- e1]; exact z
   obtain⟨o,e⟩:=k.dh a z';exact x.there a o e
  ·obtain⟨hi,e'⟩:=KC i d e;obtain⟨v,g1,g2⟩:=k.slot i d e';exact⟨v,g1,KD g2⟩
  ·rcases rT i d e with ⟨hi,e'⟩ | ⟨hi,j,d0,a,b1,b2,b3,b4,b5⟩
   ·obtain⟨a,g1,g2,g3,g4⟩:=k.own i d e';have na:¬ Own (cf vs) (cg ss) a:=λz=>by
     obtain⟨j,d1,q1,q2⟩:=ownIn a z;rcases h3 j _ _ q1 q2 with ⟨d',f,ee,_⟩ | ⟨d',i',ee,ai,es,ed⟩
     ·cases ee
     ·have:=k.inj i i' a d d' e' ed g1 es;subst this;exact hi (kT.mpr (WB ai))
    have KG:dZ H' (Av c1 σ (aR as aA δ)) a d:=by
     have o1:dZ H (λb=>Av c σ δ b\/Av c1 σ (aR as aA δ) b) a d:=g2.aE λb z=>z.elim .inl (Bn b)
     exact(o1.keep (λb o e n=>Bl b o e λz=>n (.inl z)) λo e=>x.keep a o e na).aE λb z=>.inl (.inr z)
    refine⟨a,g1,KG,by unfold Fc.I at g3 ⊢; rw[e0,e1]; exact g3,λz=>?_⟩;rcases e2 a z with z | ⟨_,z⟩
    ·exact g4 z
    ·obtain⟨o,eo⟩:=g2.some;rw[z] at eo; cases eo
   ·obtain⟨a',g1,g2,g3,g4⟩:=k2.own j d (eh.mpr b5);rw[eE.mpr b3] at g1
    cases g1;obtain⟨i0,d1,q1,q2⟩:=pw a ⟨j,d0,b2,b3⟩;obtain⟨a'',q3,q4,q5,q6⟩:=k.own i0 d1 q1;rw[q2] at q3; cases q3
    refine⟨a,b4,g2.aE λb z=>.inl (qN b z),by unfold Fc.I at q5 ⊢; rw[e0,e1]; exact q5,λz=>?_⟩;rcases e2 a z with z | ⟨_,z⟩
    ·exact q6 z
    ·obtain⟨o,eo⟩:=q4.some;rw[z] at eo; cases eo
  ·obtain⟨d1,g1⟩:∃ d1,δ[i]? = some (some (.own d1)):=by
    rcases rT i d f1 with ⟨_,e'⟩ | ⟨hi,_⟩
    ·exact⟨d,e'⟩
    ·obtain⟨_,d1,_,_,_,_,_,a5⟩:=rS i hi;exact⟨d1,a5⟩
   obtain⟨d2,g2⟩:∃ d2,δ[j]? = some (some (.own d2)):=by
    rcases rT j d' f2 with ⟨_,e'⟩ | ⟨hi,_⟩
    ·exact⟨d',e'⟩
    ·obtain⟨_,d1,_,_,_,_,_,a5⟩:=rS j hi;exact⟨d1,a5⟩
   exact k.inj i j a d1 d2 g1 g2 f3 f4
 have KH:Ok c σ (aR as aA δ) H':=Bm c ⟨H,B,bZ 0 ss vs,λ_ _=>False⟩ rfl rfl (λb z=>.inl z) rfl (λb z=>z) x.ok λb z=>by
  obtain⟨o,e⟩:=k.bd b z;exact x.there b o e
 refine⟨⟨KH,λa o e n=>x.keep a o e λz=>n (pw a (ownIn a z)),λa z=>.inl (px a z),x.there⟩,λv r hr=>?_⟩
 cases r with
 | pure d=>exact Rep.aE hr λb z=>.inl (big rfl b (lW b z))
 | own d =>
  obtain⟨a,ea,o,nb,h0,kp,hs⟩:=hr;have nq:H a=none:=hs;have iQ:¬ Av c σ δ a:=k.iQ nq;refine⟨a,ea,o.aE λb z=>.inl ?_,λz=>iQ (.inl z),k.lN nq,?_,nq⟩
  ·rcases z with (z | z) | z
   ·exact(big rfl b (.inl z)).elim (λz=>.inl (.inl z)) .inr
   ·exact .inl (.inr z)
   ·exact(big rfl b (.inr (px b z))).elim (λz=>.inl (.inl z)) .inr
  ·refine Bm (c.plus a) (Fc.plus ⟨H,B,bZ 0 ss vs,λ_ _=>False⟩ a) rfl rfl (λb z=>?_) rfl (λb z=>.inl z) kp λb z=>?_
   ·rcases z with z | z
    ·exact .inl z
    ·exact .inr ⟨.inr z,by rw[z]; exact nq⟩
   ·rcases z with z | z
    ·obtain⟨o,e⟩:=k.bd b z;exact x.there b o e
    ·rw[z]; exact o.some
end
def cJ(G:DF):Prop:=∀ ss r aA,G ss=some (r,aA)->aA.length=ss.length/\∀ (j:Nat),(∀ d,ss[j]? = some (.own d)->∃ d',aA[j]? = some (.own d'))/\∀ d,ss[j]? = some (.pure d)->∃ d',aA[j]? = some (.pure d')
theorem KI(hG:∀ ss y,G ss=some y->dz fb n ss=some y):cJ G:=λss r aA h=>by
 have:=hG ss _ h;unfold dz at this
 cases e:fb (br n ss) with
 | exc x δx=>rw[e] at this; cases this
 | stuck=>rw[e] at this; cases this
 | ok fl δ =>
  rw[e] at this;simp only at this
  cases e1:cz fl with
  | none=>rw[e1] at this; cases this
  | some r' =>
   rw[e1] at this;simp only[WL] at this
   cases e2:bI 0 ss δ with
   | none=>rw[e2] at this; cases this
   | some os =>
    rw[e2] at this
    cases this;obtain⟨h1,h2⟩:=rO e2;refine⟨h1,λj=>⟨λd ed=>?_,λd ed=>?_⟩⟩
    ·rcases h2 j _ ed with ⟨d',z,_⟩ | ⟨d',d'',_,_,z⟩
     ·cases z
     ·exact⟨d'',z⟩
    ·rcases h2 j _ ed with ⟨d',z,z'⟩ | ⟨d',d'',z,_⟩
     ·exact⟨d',z'⟩
     ·cases z
section
variable {X:Cx} {c:Fc} {e:Expr} {es:List Expr} {as:List Ak} {k n:Nat} {x:Str} {G:DF} {pp pos:Pos}
theorem Bo{ps:List Str}(hK:cJ G){σ:St}{H:Hp}{Q:VK}(hl:as.length=n)(h:tD c (aD G as) σ H Q):tU (kR n G) [] E0 (tX c as) σ H Q:=by
 obtain⟨δ,kk,q⟩:=h;unfold aD at q;split at q
 ·rename_i hc;rw[Ws] at hc;have nd:=Bg hc.2;rw[aY] at q;refine⟨δ,kk,λi hi=>?_,aN q λds δ1 q1 vs H1 a1 r1=>?_⟩
  ·have:=Q8.mp hc.1 i (kT.mpr hi);unfold bH at this;split at this
   ·rename_i d ed;exact qY kk ed
   ·cases this
  ·cases em:bf as ds δ1 with
   | none=>rw[em] at q1; exact q1.elim
   | some ss =>
    rw[em] at q1;simp only at q1
    cases eg:G ss with
    | none=>rw[eg] at q1; exact q1.elim
    | some y =>
     obtain⟨r,aA⟩:=y;rw[eg] at q1;have fO:=Bh a1.ok r1 em nd;obtain⟨m1,m2,_⟩:=rQ r1 em;obtain⟨g1,g2⟩:=hK ss r aA eg;refine⟨ss,_,by rw[Q7,<- m2]; exact hl,by rw[Q7]; exact fO,r,aA,eg,λv H2 a2 r2=>?_⟩;rw[Q7] at a2 r2;obtain⟨o1,o2⟩:=Bk a1.ok r1 em nd rfl a2 (λj d ed=>(g2 j).1 d ed) λj d ed=>(g2 j).2 d ed
     exact q1 v H2 (a1.trans o1) (aU.back (o2 v r r2) a1)
 ·exact q.elim
theorem cP (F:bU X.prog X.w X.K X.mg X.base k x n G) (hK:cJ G) (hr:bP k X.A) (hg:Gl X x) (ha:SX X c (e :: es) as) (hl:as.length=n) (eW:(x == ("__debug__" : Str))=false:=by decide)
  (he:We (e :: es) X.env=(false,eval e X.env) :: We es X.env:=by rfl) (cN:(Qg pos (We es X.env)).any (·.1)=false:=by rfl):SE X c (.Call (.Name x pp) (e :: es) [] pos) (aD G as):=by
 obtain⟨f,fd,ps,hm,hk,hb,ok⟩:=F;exact PE.weak (tW ok hr hg hm hk hb .nil uq ha eW he cN) λσ H Q h=>Bo (ps:=ps) hK hl h
end
def bW(np:List Nat)(n:Nat)(b:DS):DF:=λss=>if b7 np 0 ss then dz b n ss else none
theorem dI(h:bW np n b ss=some y):b7 np 0 ss=true/\dz b n ss=some y:=by
 unfold bW at h;split at h
 ·rename_i hi; exact⟨hi,h⟩
 ·cases h
theorem dQ:cJ (bW np n b):=KI λ_ _ h=>(dI h).2
theorem dA(r:bP k A):A.units + 64 < WI:=by have:=r.un; omega
theorem ig{c:Fc}{np cs:List Nat}(h:Np c np)(hc:cs.all (λi=>!np.contains i)=true):∀ p ∈ c.pin,p.1 ∉ cs:=λp hp z=>by
 have h1:=h p hp;have h2:=Q8.mp hc p.1 z;rw[h1] at h2
 cases h2
def rU:List Str->Bool
 | []=>true
 | x :: r=>!r.contains x && rU r
theorem Bp:∀ {l:List Str},rU l=true->l.Nodup
 | [],_=>.nil
 | x :: r,h=>by
  simp only[rU,Ws,Bool.not_eq_true'] at h;exact List.nodup_cons.mpr ⟨λhm=>by have:=h.1; simp at this; exact this hm,Bp h.2⟩
def gR(names:List (Str×NameKind))(x:Str)(k:NameKind):Bool:=match names.lookup x with
 | some j=>j == k
 | none=>false
theorem vj(h:gR names x k=true):names.lookup x=some k:=by
 unfold gR at h;split at h
 ·rename_i j e; rw[e,eq_of_beq h]
 ·cases h
def Bq(names:List (Str×NameKind))(N:List Str)(sc:List (Str×NameKind))(cs:List Nat):Bool :=
 sc.all (λx=>!(x.2 == .local) || gR sc x.1 .local) && sc.all (λx=>!(x.2 == .free) || (gR names x.1 .cell || gR names x.1 .free)) && rU (sc.map (·.1)) &&
 (Wu N.length).all λi=>match N[i]? with
  | some x=>!(gR sc x .local || gR sc x .cell) || cs.contains i
  | none=>true
theorem Br(h:names.lookup x=some k):gR names x k=true:=by
 unfold gR; rw[h]; simp
theorem ij{X:Cx}{scope:Scope}{cs:List Nat}(hk:scope.kind = .function)(h:Bq X.env.scope.names X.N scope.names cs=true):oM X scope cs:=by
 unfold Bq at h;simp only[Ws] at h;obtain⟨⟨⟨h1,h2⟩,h3⟩,h4⟩:=h;refine⟨hk,λx hx hl=>?_,λx hx hf=>?_,Bp h3,λi x hi hl=>?_⟩
 ·have:=Q8.mp h1 x hx;rw[hl] at this;exact vj (by simpa using this)
 ·have:=Q8.mp h2 x hx;rw[hf] at this;have:gR X.env.scope.names x.1 .cell=true\/gR X.env.scope.names x.1 .free=true:=by simpa using this
  exact this.elim (λz=>.inl (vj z)) λz=>.inr (vj z)
 ·have kQ:i < X.N.length:=(W5.mp hi).1;have:=Q8.mp h4 i (QQ.mpr kQ);rw[hi] at this;have fG:(gR scope.names x .local || gR scope.names x .cell)=true:=by
   rcases hl with z | z
   ·rw[Br z]; rfl
   ·rw[Br z]; simp
  simp only[fG,Bool.not_true,Bool.false_or] at this;simpa using this
theorem KJ {K:W2}:jU K "str":=⟨rfl,rfl,rfl,rfl,rfl,rfl,rfl⟩
theorem KN {K:W2}:jU K "tuple":=⟨rfl,rfl,rfl,rfl,rfl,rfl,rfl⟩
theorem KO {K:W2}:jU K "list":=⟨rfl,rfl,rfl,rfl,rfl,rfl,rfl⟩
def kU:Expr->Bool
 | .Starred ..=>false
 | _=>true
theorem l0(h:kU e=true):We (e :: es) env=(false,eval e env) :: We es env:=by
 cases e <;> first | (cases h; done) | rw[We] | rfl
 all_goals (intros; contradiction)
section
variable {X:Cx} {c:Fc} {e:Expr} {es:List Expr} {f fe:DE} {g:DA} {as:List Ak}
theorem dR(ha:SE X c e f)(hr:SA X c es g)(hs:kU e=true:=by rfl):SA X c (e :: es) (cb f g):=AM ha hr (l0 hs)
theorem bD(ha:SE X c e fe)(hr:SX X c es as)(hs:kU e=true:=by rfl):SX X c (e :: es) (.val fe :: as):=Kz ha hr (l0 hs)
theorem ik{i:Nat}(ha:PE X e (de i))(hr:SX X c es as)(hs:kU e=true:=by rfl):SX X c (e :: es) (.io i :: as):=KA ha hr (l0 hs)
end
mutual
def jo:Nat->Expr->Option D
 | _,.Constant (.int i) _ _=>some (.int i)
 | _,.Constant (.bool b) _ _=>some (.bl b)
 | _,.Constant .none _ _=>some .ay
 | _,.Constant (.str x) _ _=>some (.str x.cps.toList)
 | n + 1,.Tuple es _ _=>if es.length<=1000 then(l5 n es).map .tup else none
 | _,_=>none
def l5:Nat->List Expr->Option (List D)
 | _,[]=>some []
 | n,e :: es=>match jo n e,l5 n es with
  | some d,some ds=>some (d :: ds)
  | _,_=>none
end
theorem KP:∀ {n:Nat} {e:Expr} {d:D},jo n e=some d->kU e=true:=λ{n e d} h=>by
 cases e <;> first | rfl | (cases n <;> simp[jo] at h)
mutual
theorem KQ:∀ {n:Nat} {e:Expr} {d:D},jo n e=some d->SE X c e (eD d)
 | _,.Constant (.int i) _ _,d,h=>by
  simp only[jo,Wa] at h; subst h; exact aZ
 | _,.Constant (.bool b) _ _,d,h=>by
  simp only[jo,Wa] at h; subst h; exact oR
 | _,.Constant .none _ _,d,h=>by
  simp only[jo,Wa] at h; subst h; exact Ag
 | _,.Constant (.str x) _ _,d,h=>by
  simp only[jo,Wa] at h; subst h; exact Ah _ (uC x)
 | 0,.Tuple es k pos,d,h=>by simp[jo] at h
 | n + 1,.Tuple es k pos,d,h=>by
  simp only[jo] at h;split at h
  ·rename_i hl
   cases e:l5 n es with
   | none=>rw[e] at h; cases h
   | some ds =>
    rw[e] at h;simp only[Wz,Wa] at h;subst h;exact jk (vk e) hl
  ·cases h
theorem vk:∀ {n:Nat} {es:List Expr} {ds:List D},l5 n es=some ds->SA X c es (λδ=>.ok ds δ)
 | _,[],ds,h=>by
  simp only[l5,Wa] at h; subst h; exact e9
 | n,e :: es,ds,h=>by
  simp only[l5] at h;split at h
  ·rename_i d bx h1 h2
   cases h;exact AM (KQ h1) (vk h2) (l0 (KP h1))
  ·cases h
end
def vm(ds:List D):DE:=λδ=>.ok (.own (.lst ds)) δ
theorem KR{X:Cx}{c:Fc}{es:List Expr}{ds:List D}{pos:Pos}(h:l5 9 es=some ds)(hl:es.length<=1000):SE X c (.List es pos) (vm ds):=kI (vk h) hl
section
variable {X:Cx} {c:Fc} {e:Expr} {fe:DE} {pos:Pos} {tg:Expr}
theorem KS(he:SE X c e fe)(hs:J7 e none pos.line X.env=pure false:=by rfl):SS X c (.Expr e pos) (nc fe) :=
 Kg he (λ_=>hs) trivial (tF he hs)
theorem nr{i:Nat}{o:Expr}{apos bb:Pos}(ho:PE X o (de i))(he:SE X c e fe)
  (oD:QY o "append" X.env (eval o X.env)=eval o X.env:=by rfl)
  (oE:((Qg bb (We [e] X.env)).all (λx=>!x.1) && (backToKw bb (JB [] X.env)).all (λx=>x.1.isSome)
   && decide ([e].length + ([]:List Keyword).length + (if ([]:List Keyword).isEmpty then 0 else 1) < 30))=true:=by rfl)
  (hJ:(apos.endLine == bb.line)=true:=by rfl) (hs:We [e] X.env=(false,eval e X.env) :: We [] X.env:=by rfl)
  (vn:J7 (.Call (.Attribute o "append" apos) [e] [] bb) none pos.line X.env=pure false:=by rfl):SS X c (.Expr (.Call (.Attribute o "append" apos) [e] [] bb) pos) (c_ i fe) :=
 Kh (p0:=apos) ho he (tF (zJ PySem.F.plainAttrs_list PySem.F.slot_list_append PySem.F.type_list_append zM ho (dY he fV hs) oD oE hJ hs rfl) vn)
end
def pA(K:W2):Bool:=K.all λp=>match p.2.cls with
 | .type t=>!(t == "list")
 | _=>true
theorem Bs[BEq α][LawfulBEq α]:∀ {K:List (α×β)} {a:α} {o:β},K.lookup a=some o->(a,o) ∈ K
 | [],a,o,e=>by simp at e
 | (b,o') :: r,a,o,e=>by
  rw[Ql] at e
  cases hb:a == b with
  | true =>
   rw[hb] at e;have h1:o'=o:=Wx e;have h2:a=b:=eq_of_beq hb;rw[h1,h2];exact Wi
  | false =>
   rw[hb] at e;exact Wg _ (Bs e)
theorem Bt {K:W2} {a:Addr} {o:Obj} (h:pA K=true) (e:K.lookup a=some o) (hc:o.cls = .type "list"):False:=by
 have hm:(a,o) ∈ (K:List (Addr×Obj)):=Bs e;have h1:=Q8.mp h (a,o) hm;have h2:(match o.cls with | .type t=>!(t == "list") | _=>true)=true:=h1;rw[hc] at h2;have h3:(!(("list" : String) == "list"))=true:=h2;rw[beq_self_eq_true] at h3
 cases h3
theorem KU{K:W2}{G:DF}{H:Hp}{a:Addr}{ns:List Int}{E:XK}(hK:pA K=true)(hS:bS K H a (ns.map V.int))(hG:∃ aA,G [.pure (.lst (ns.map .int))]=some (.pure (.bl true),aA)) :
  kR 1 G [.ref a] H (λv _=>v = .bl true) E:=by
 have hR:Rd H a (.lst (ns.map V.int)):=by
  rcases hS with h | ⟨o,ae,n,e,hc,_⟩
  ·exact h
  ·exact(Bt hK e hc).elim
 obtain⟨aA,hg⟩:=hG;have rep:∀ O:Addr->Prop,¬ O a->Rep H O (.ref a) (.lst (ns.map D.int)):=λO hO=>.lst hO hR (by simp) λi v d e1 e2=>by
  rw[Wy] at e1 e2
  cases e:ns[i]? with
  | none=>rw[e] at e1; cases e1
  | some k=>rw[e] at e1 e2; cases e1; cases e2; exact .int k
 refine⟨[.pure (.lst (ns.map .int))],λ_=>False,rfl,⟨λb o e _=>e,λb z=>z.elim,λb ⟨i,z⟩=>?_,rfl,λi d e=>?_,λi d e=>?_,λi j b d d' e1 e2 e3 e4=>?_,λp z=>?_⟩,_,aA,hg,λv H' x r=>?_⟩
 ·simp[bZ] at z
 ·cases i with
  | zero =>
   simp at e;subst e;refine⟨.ref a,rfl,rep _ λz=>?_⟩;rcases z with z | ⟨j,d',z1,z2⟩
   ·exact z
   ·cases j with
    | zero=>simp at z1
    | succ j=>simp at z1
  | succ i=>simp at e
 ·cases i with
  | zero=>simp at e
  | succ i=>simp at e
 ·cases i with
  | zero=>simp at e1
  | succ i=>simp at e1
 ·simp[bZ] at z
 ·cases r;rfl
theorem Bu{l:U7}{q:Wj}{loose:List Str}{XP:(Str->Option Value)->Heap->Prop}{YP:Wm->Heap->Prop}{d:DefRec}{K:Params->W2}{k:Nat}{G:DF}(hn:l.most=some 63)(lH:d.params.defaults=[])(hr:bP k callerA)
  (hY:∀ (w:Wm) (h:Heap),YP w h->(K w.params).In h) (hL:∀ p:Params,pA (K p)=true)
  (hG:∀ ns:List Int,ns.length<=63->∃ aA,G [.pure (.lst (ns.map .int))]=some (.pure (.bl true),aA))
  (F:∀ (w:Wm) (mg:Str->Option Value) (fa:Addr) (h:Heap),(K w.params).In h->h.Ns Wt mg->mg d.name=some (.ref fa) ->
   ∃ fd:WQ,(∀ (s:W1) (u:Value),BindsTo s fd ⟨[u],[]⟩ [("script",u)])/\∀ base:Heap,(K w.params).In base->base.Ns Wt mg->fK l.prog w (K w.params) mg base cG k fa fd ["script"] (kR 1 G)) :
  PySem.W.WalkO q loose XP YP l.row.toRowW d [] (λf vs=>PySem.call f vs) :=
 L2.Hf (n:=63) (k:=k) (x:="script") (CX:=λ_=>cG) (sp:=λ_=>kR 1 G) hn (by decide) lH hr hY F (λw H a ns hl _ hS=>KU (hL w.params) hS (hG ns hl)) λ_ _ _ _ _ z=>z
end DV
set_option maxHeartbeats 400000
namespace L2
open PySem PySem.Spec PyProof.Rows
def vo(x:Str):It:=⟨λi _=>i < x.cps.size,λi H y H'=>H'=H/\∃ c,x.cps[i]? = some c/\y = .str ⟨#[c]⟩,λi _=>i=x.cps.size⟩
theorem KW {P:Wj} {w:Wm} {K:W2} {tg:Expr} (x:Str) (t:Tok) (it:Addr) (T:String) (hT:T = "str_ascii_iterator"\/T = "str_iterator"):Turn P w K tg (vo x) [it] it (λi h=>h.IsStrIter it T x t i):=by
 have W:∀ A:Wn,A.handled=none->Walks P w A it [it] [it] x.cps.size (SignAt x) (λi h=>h.IsStrIter it T x t i):=λA hh=>by
  rcases hT with rfl | rfl
  ·exact Walks.strAscii hh it x t
  ·exact Walks.strWide hh it x t
 refine⟨by simp,λi h st b hb=>?_,λi h h' st k=>?_,?_,?_,λA i s Q E st h=>?_⟩
 ·have e:b=it:=by simpa using hb
  subst e;obtain⟨o,e,c,d⟩:=st;exact⟨o,e,λv z=>by rw[d] at z; cases z⟩
 ·obtain⟨o,e,r⟩:=st;exact⟨o,k it (by simp) o e,r⟩
 ·intro X hP hw hK hc i pins s σ H E I hf st hg;subst hP hw hK;obtain⟨f0,f1,f2,f3,f4,f5⟩:=hf it (by simp);refine(W X.A (I.ok.hd hc)).item i s _ _ hg st λv h' tk hv df kk=>?_
  obtain⟨c,u,hx,rfl⟩:=hv;have I1:Inv X pins σ H { s with heap:=h',toks:=tk }:=I.turned (λb o hb e=>kk b o (by simpa using hb) e) f0 f1 f3 f4 f5;obtain⟨o,e,c',d⟩:=id df;refine⟨_,rfl,ox (s:={ s with heap:=h',toks:=tk }) e c' d (by rcases hT with rfl | rfl <;> decide) ⟨.str ⟨#[c]⟩,H,I1,⟨u,rfl⟩,⟨rfl,c,hx,rfl⟩,df,λb hb=>(hf b hb).1⟩⟩
 ·intro X hP hw hK hc i pins s σ H E I hf st hg;subst hP hw hK;have mT:i=x.cps.size:=hg;subst mT;obtain⟨f0,f1,f2,f3,f4,f5⟩:=hf it (by simp);exact(W X.A (I.ok.hd hc)).done s _ _ st λh' tk eb=>⟨rfl,I.turned (λb o hb e=>eb b o (by simpa using hb) e) f0 f1 f3 f4 f5⟩
 ·rcases hT with rfl | rfl
  ·exact wpAny_pyIter_striter_ascii st h
  ·exact wpAny_pyIter_striter_wide st h
end L2
namespace DV
open PySem PySem.Spec PyProof.Rows L2
section
variable {X:Cx} {c:Fc} {tg e:Expr} {fe:DE} {pos pp:Pos}
def KY(K:W2)(tl:TE):TI:=λσ H R=>tl σ H λx H1=>(∃ a,x = .ref a/\(∃ xs,bS K H1 a xs)/\R (tL K a) H1)\/(∃ a,x = .ref a/\(∃ xs,b9 K H1 a xs)/\R (qu K a) H1)\/∃ z,x = .str z/\R (vo z) H1
theorem KZ{l:Expr}{tl:TE}(hl:PE X l tl):PI X tg l (KY X.K tl):=by
 intro pins s σ H R I h;refine aJ (hl pins s σ H _ I h) λv s1 ⟨x,H1,I1,r1,q1⟩=>?_
 rcases q1 with q1 | q1 | ⟨z,e,q⟩
 ·obtain⟨a,e,⟨xs,hq⟩,q⟩:=q1;subst e
  cases r1;obtain⟨ae,rv,p,hz⟩:=I1.list hq;refine wpAny_pyIter_list p.isList ?_;refine⟨s1.heap.objs.size,[s1.heap.objs.size],_,_,H1,rfl,I1.kept (t':=s1.toks) λb o e=>W4 _ e,Fm a _,⟨_,Wh _ rfl,rfl,rfl⟩,λb hb=>?_,q⟩;have e:b=s1.heap.objs.size:=by simpa using hb
  subst e;exact I1.iK (Wb _) (I1.aj.fresh (Wb _))
 ·obtain⟨a,e,⟨xs,hq⟩,q⟩:=q1;subst e
  cases r1;obtain⟨ae,rv,p,hz⟩:=I1.tuple hq;refine Jl (show s1.heap.IsTuple a ae.toArray from p) ?_;refine⟨s1.heap.objs.size,[s1.heap.objs.size],_,_,H1,rfl,I1.kept (t':=s1.toks) λb o e=>W4 _ e,Fo a _,⟨_,Wh _ rfl,rfl,rfl⟩,λb hb=>?_,q⟩;have e:b=s1.heap.objs.size:=by simpa using hb
  subst e;exact I1.iK (Wb _) (I1.aj.fresh (Wb _))
 ·subst e;obtain⟨t,rfl⟩:=r1;refine wpAny_pyIter_strU ?_;have hT:strIterType z = "str_ascii_iterator"\/strIterType z = "str_iterator":=by
   unfold strIterType;split
   ·exact .inl rfl
   ·exact .inr rfl
  refine⟨s1.heap.objs.size,[s1.heap.objs.size],_,_,H1,rfl,I1.kept (t':=s1.toks) λb o e=>W4 _ e,KW z t _ _ hT,⟨_,Wh _ rfl,rfl,rfl⟩,λb hb=>?_,q⟩;have e:b=s1.heap.objs.size:=by simpa using hb
  subst e;exact I1.iK (Wb _) (I1.aj.fresh (Wb _))
theorem K0(z:Tx):lV c σ δ H (vo (toS z)) (z.map λn=>D.str [n]):=by
 intro H2 kp;have hsz:(toS z).cps.size=z.length:=by simp[toS]
 refine⟨by show(z.map _).length=_; rw[hsz]; simp,λi d e=>?_⟩;rw[Wy] at e
 cases ez:z[i]? with
 | none=>rw[ez] at e; cases e
 | some n =>
  rw[ez] at e
  cases e;have hi:i < z.length:=(W5.mp ez).1;refine⟨by show i < _; rw[hsz]; exact hi,λx H3 ⟨e3,cc,hc,hx⟩=>.inl ⟨e3,?_⟩⟩;have:(toS z).cps[i]? = z[i]?:=by simp[toS]
  rw[this,ez] at hc
  cases hc;rw[hx];exact .str [n]
def bu(f:DE):DI:=λδ=>(f δ).bind λr δ1=>match r.d with
 | .lst ds=>.ok ds δ1
 | .tup ds=>.ok ds δ1
 | .str x=>.ok (x.map λn=>.str [n]) δ1
 | _=>.stuck
theorem eF(he:SE X c e fe):SI X c tg e (bu fe):=PI.weak (KZ he) λσ H R ⟨δ,k,q⟩=>by
 unfold bu at q;rw[aY] at q;refine⟨δ,k,aN q λr δ1 q1 v H1 a1 r1=>?_⟩;have rr:=r1.rep;generalize r.d=d at q1 rr
 cases d <;> first | exact q1.elim | skip
 ·cases rr;exact .inr (.inr ⟨_,rfl,q1 _ H1 a1 (K0 _)⟩)
 ·cases rr with
  | tup h1 h2 h3 h4=>exact .inr (.inl ⟨_,rfl,⟨_,.of h2⟩,q1 _ H1 a1 (Ki _ h2 (λz=>h1 (.inr z)) ⟨h3,h4⟩)⟩)
 ·cases rr with
  | lst h1 h2 h3 h4 =>
   refine .inl ⟨_,rfl,⟨_,.inl h2⟩,q1 _ H1 a1 ?_⟩;intro H2 kp;rename_i a vs;have h5:Rd H2 a (.lst vs):=Rd.keep h2 λo e=>kp a o e λz=>h1 (.inr z)
   have r':ax H1 (Av c σ δ1) vs _:=⟨h3,h4⟩
   refine⟨⟨vs,.inl h5,by rw[r'.1]; exact Wb _⟩,λi d e=>?_⟩;obtain⟨v,ev,rv⟩:=r'.get e;refine⟨⟨vs,v,.inl h5,ev⟩,λx H3 ⟨e3,y⟩=>.inl ⟨e3,?_⟩⟩;have:=y vs (.inl h5);rw[ev] at this
   cases this;exact rv
end
end DV
namespace L2
open PySem PySem.Spec PyProof.Rows
theorem K1(a:Int)(t:Tok)(l:Addr)(dd:Option Addr)(items:Array Value)(n:Nat)(sl:Array (Option Value)) :
  Meets (Builtin.«int.__rmul__» ⟨[.int a t,.ref l],[]⟩) (λ_ R s=>s.heap.get? l=some { cls:=.type "tuple",dict:=dd,data:=.seq items n,slots:=sl }/\R (.ok (.ret Value.notImplemented)) s) :=
 .of_wp λprog w A R s h=>by obtain⟨hp,g,d,tk,os⟩:=s; obtain⟨hl,h⟩:=h; wp_walk; exact⟨_,rfl,h⟩
theorem K2:fillsNumberSlot (.type "tuple") "mul" = pure false :=
 PySem.fillsNumberSlot_seq (id:="tuple.__mul__") (r:=some (.builtin "tuple.__rmul__")) F.slot_tuple_mul.lookup (by decide +kernel) F.slot_tuple_rmul.lookup (by decide +kernel)
theorem K3:seqRepeat? (.type "tuple")=pure (some (.builtin "tuple.__mul__")):=by
 unfold seqRepeat?;rw[PySem.seqSlot_of (T:="tuple") (name:="__mul__") (id:="tuple.__mul__") F.slot_tuple_mul.lookup (by decide +kernel),PySem.seqSlot_of (T:="tuple") (name:="__rmul__") (id:="tuple.__rmul__") F.slot_tuple_rmul.lookup (by decide +kernel)];rfl
theorem K4(l:Addr)(dd:Option Addr)(items:Array Value)(n:Nat)(sl:Array (Option Value))(x:Int)(u:Tok)(h1:¬ (decide (x < -(2 ^ 63)) || decide (x ≥ 2 ^ 63))=true)(h2:¬ (items.isEmpty || x == 1)=true)(h3:¬ (decide (x<=0) || items.isEmpty)=true)(h4:¬ items.size * x > (2 ^ 63 - 1) / 8)(h5:¬ Builtin.Tuple.tupleTooMany (items.size * x)=true)(h6:((Wf x.toNat items).foldl (· ++ ·) #[]).size<=W8) :
  Meets (Builtin.«tuple.__mul__» ⟨[.ref l,.int x u],[]⟩) (λ_ R s=>s.heap.get? l=some { cls:=.type "tuple",dict:=dd,data:=.seq items n,slots:=sl } /\
   R (.ok (.ret (.ref s.heap.objs.size))) { s with heap:=s.heap.push { cls:=.type "tuple",data:=.seq ((Wf x.toNat items).foldl (· ++ ·) #[]) } }) :=
 .of_wp λprog w A R s h=>by
  obtain⟨hp,g,d,tk,os⟩:=s; obtain⟨hl,h⟩:=h
  wp_walk
  rw[if_neg h1];wp_walk
  try rw[if_neg h2]
  try wp_walk
  try rw[if_neg h3]
  try wp_walk
  try rw[if_neg h4]
  try wp_walk
  try rw[if_neg h5]
  try wp_walk
  exact⟨_,rfl,h⟩
theorem vp(ae:List α):∀ (k:Nat) (acc:List α),List.foldl (λx1 x2:Array α=>x1 ++ x2) acc.toArray (Wf k ae.toArray)=(acc ++ (Wf k ae).flatten).toArray
 | 0,acc=>by simp
 | k + 1,acc=>by
  rw[WY,QW,show acc.toArray ++ ae.toArray=(acc ++ ae).toArray by simp,vp ae k];simp[WY]
section
variable {X:Cx}
def Bv(K:W2):R2:=λx y H Q=>∃ l k xs,x = .ref l/\y = .int k/\b9 K H l xs/\xs≠[]/\2<=k/\k<=1000000/\xs.length * k.toNat<=W8/\∀ p,H p=none->Q (.ref p) (upd H p (.tup (Wf k.toNat xs).flatten))
theorem K5:bh X (Qo .Mult) (Bv X.K):=by
 intro pins s σ H x y v u Q I rx ry h;obtain⟨l,k,xs,rfl,rfl,hH,cX,h1,h2,hz,q⟩:=h
 cases rx;obtain⟨t,rfl⟩:=ry;obtain⟨ae,r,pl,hl⟩:=I.tuple hH;obtain⟨⟨cls,dd,data,sl⟩,ho,hc,n,hd⟩:=id pl;simp only at hc hd;subst hc hd;have hlen:ae.toArray.size=xs.length:=by rw[Wo]; exact r.length.symm
 have nt:ae.toArray.isEmpty=false:=by
  cases ae with
  | nil=>exact absurd (r.qA.mp rfl) cX
  | cons a b=>rfl
 have hJ:W8=16777216:=rfl;have hk:(k.toNat:Int)=k:=by omega
 have hmul:((ae.toArray.size:Nat):Int) * k=((xs.length * k.toNat:Nat):Int):=by rw[hlen,Int.natCast_mul,hk]
 have Bw:List.foldl (λx1 x2=>x1 ++ x2) #[] (Wf k.toNat ae.toArray)=(Wf k.toNat ae).flatten.toArray:=by
  have:=zK ae k.toNat [];rw[Q3] at this;exact this
 refine wpAny_binaryOp_repeat_ref (T:="tuple") (U:="int") (by decide) ⟨_,ho,rfl⟩ (λs'=>JQ s' k t) K2 F.fills_int_mul F.slot_int_rmul K3 F.slot_int_index.lookup
  (call_meets F.slot_int_rmul (JQ s k t) F.entry_int_rmul (F.args_int_rmul_2 _ _) (K1 k t l dd ae.toArray n sl)
   ⟨ho,rfl,⟨_,ho,rfl⟩,call_meets F.slot_tuple_mul ⟨_,ho,rfl⟩ F.entry_tuple_mul (F.args_tuple_mul_2 _ _) (K4 l dd ae.toArray n sl k t ?_ ?_ ?_ ?_ ?_ ?_) ⟨ho,?_⟩⟩)
 ·simp; omega
 ·rw[nt]; simp; omega
 ·rw[nt]; simp; omega
 ·rw[hmul]; omega
 ·rw[hmul];unfold Builtin.Tuple.tupleTooMany;rw[hJ] at hz;generalize xs.length * k.toNat=m at hz;simp only[hJ,decide_eq_true_eq];omega
 ·rw[Bw,Wo,ua,<- r.length,Nat.mul_comm]; exact hz
 ·rw[Bw];have I1:Inv X pins σ (upd H s.heap.objs.size (.tup (Wf k.toNat xs).flatten)) { s with heap:=s.heap.push { cls:=.type "tuple",data:=.seq (Wf k.toNat ae).flatten.toArray } } :=
   I.laid (t':=s.toks) (λb o e=>W4 _ e) (Wb _) (show bw X.prog X.w _ _ _ (.tup (Wf k.toNat xs).flatten) from⟨by rw[ua,Nat.mul_comm]; exact hz,(Wf k.toNat ae).flatten,r.rep k.toNat,gx.new _ _⟩)
  exact⟨.ref _,_,I1,rfl,q _ (I.aj.fresh (Wb _))⟩
def Bx:R2:=λx y H Q=>∃ z k,x = .str z/\y = .int k/\2<=k/\k<=1000000/\0 < z.length/\z.length * k.toNat<=W8/\Q (.str ⟨(Wf k.toNat z.cps).foldl (· ++ ·) #[]⟩) H
theorem K6:bh X (Qo .Mult) Bx:=by
 intro pins s σ H x y v u Q I rx ry h;obtain⟨z,k,rfl,rfl,h1,h2,h0,hz,q⟩:=h;obtain⟨t,rfl⟩:=rx;obtain⟨t',rfl⟩:=ry;have hJ:W8=16777216:=rfl;have c1:¬ k < 1:=by omega
 have c2:(k == 1 || z.length == 0)=false:=by
  simp;omega
 refine PySem.P.mul_str (by simp; omega) (λ_ _=>?_) (λ_ _=>?_) ?_
 ·have hm:(z.length:Int) * k<=16777216:=by
   have:(z.length:Int) * k=((z.length * k.toNat:Nat):Int):=by rw[Int.natCast_mul,show(k.toNat:Int)=k by omega]
   rw[this];rw[hJ] at hz;omega
  have:(z.length:Int)<=(2 ^ 63 - 1) / k:=(Int.le_ediv_iff_mul_le (by omega)).mpr (by omega);omega
 ·unfold Builtin.Str.tooLong;rw[hJ] at hz;generalize z.length * k.toNat=m at hz;simp only[hJ,decide_eq_false_iff_not];omega
 ·rw[if_neg c1,if_neg (by rw[c2]; simp)];have hsz:((Wf k.toNat z.cps).foldl (· ++ ·) #[]).size=k.toNat * z.length:=by
   have h:=vp z.cps.toList k.toNat [];simp only[Q3,Array.toArray_toList] at h;rw[h,Wo,ua];simp[Str.length]
  exact⟨by show((Wf k.toNat z.cps).foldl (· ++ ·) #[]).size<=_; rw[hsz,Nat.mul_comm]; exact hz,.str _,H,I.tok _,⟨_,rfl⟩,q⟩
theorem By:∀ {xs:List Nat} {us:List Value},us.length=xs.length->(∀ (j n:Nat) (v:Value),xs[j]? = some n->us[j]? = some v->∃ w,v = .str ⟨#[n]⟩ w)->Vals (xs.map λn=>V.str ⟨#[n]⟩) us
 | [],[],_,_=>.nil
 | [],u :: us,h,_=>by simp at h
 | x :: xs,[],h,_=>by simp at h
 | x :: xs,u :: us,h,k=>.cons (by obtain⟨w,e⟩:=k 0 x u rfl rfl; exact⟨w,e⟩) (By (by simpa using h) λj n v h1 h2=>k (j + 1) n v (by simpa using h1) (by simpa using h2))
theorem K7 (hc:X.calm=true):dg X (.type "list") (λxs H Q=>∃ z:Str,xs=[.str z]/\z.cps.size<=W8/\∀ l,H l=none->Q (.ref l) (upd H l (.lst (z.cps.toList.map λn=>V.str ⟨#[n]⟩)))):=by
 intro pins s σ H xs us Q I r h;obtain⟨z,rfl,hz,q⟩:=h;obtain⟨u,rfl,t,rfl⟩:=fJ r;refine call_list_str (hn:=hz) (I.ok.hd hc) z t λh' tk acc c' kp e pB=>?_
 have hv:Vals (z.cps.toList.map λn=>V.str ⟨#[n]⟩) acc.toList:=By (by simp[pB.1]) λj n v h1 h2=>by
  obtain⟨c,w,h3,h4⟩:=pB.2 j v (by simpa using h2);rw[show z.cps[j]? = some n by simpa using h1] at h3
  cases h3;exact⟨w,h4⟩
 exact⟨.ref s.heap.objs.size,_,I.laid (t':=tk) kp (Wb _) (show bw X.prog X.w _ h' _ (.lst _) from⟨by simpa using hz,acc.toList,c',hv,by simpa using e⟩),rfl,q _ (I.aj.fresh (Wb _))⟩
end
end L2
namespace DV
open PySem PySem.Spec PyProof.Rows L2
def gU:D->D->Option S
 | .int i,.int j=>oX (.int i) (.int j)
 | .str x,.int k=>if 2<=k/\k<=1000000/\0 < x.length/\x.length * k.toNat<=W8 then some (.pure (.str (Wf k.toNat x).flatten)) else none
 | .tup xs,.int k=>if 2<=k/\k<=1000000/\0 < xs.length/\xs.length * k.toNat<=W8 then some (.pure (.tup (Wf k.toNat xs).flatten)) else none
 | _,_=>none
def Bz(K:W2):R2:=λx y H Q=>rI oA (λi j=>V.int (i * j)) x y H Q\/Bx x y H Q\/Bv K x y H Q
theorem vq:bh X (Qo .Mult) (Bz X.K):=FA.or (K6.or K5)
theorem ax.rep(h:ax H O vs ds):∀ k:Nat,ax H O (Wf k vs).flatten (Wf k ds).flatten
 | 0=>.nil
 | k + 1=>by rw[WY,WY,QL,QL]; exact h.append (ax.rep h k)
theorem vt{K:W2}:cq (Bz K) gU:=by
 intro c σ δ H x y d e s Q k rx ry hp q
 cases d <;> cases e <;> first | (simp[gU] at hp; done) | skip
 ·exact .inl (Iw c σ δ H x y _ _ s Q k rx ry hp q)
 ·rename_i z n;simp only[gU] at hp;split at hp
  ·rename_i h
   cases hp;refine .inr (.inl ⟨toS z,n,rx.str,ry.int,h.1,h.2.1,by rw[jf]; exact h.2.2.1,by rw[jf]; exact h.2.2.2,?_⟩);have e:(⟨(Wf n.toNat (toS z).cps).foldl (· ++ ·) #[]⟩:Str)=toS (Wf n.toNat z).flatten:=by
    unfold toS;congr 1
    have:=vp z n.toNat [];rw[Q3] at this;exact this
   rw[e];exact q _ H (.refl k) (.str _)
  ·cases hp
 ·rename_i ds n;simp only[gU] at hp;split at hp
  ·rename_i h
   cases hp;obtain⟨a,vs,ex,ha,r⟩:=rx.tup;refine .inr (.inr ⟨a,n,vs,ex,ry.int,.of ha,?_,h.1,h.2.1,by rw[r.1]; exact h.2.2.2,λp BA=>?_⟩)
   ·intro z;rw[z] at r;have:=r.1;simp at this;omega
   ·exact q _ _ (.alloc k BA _) (aU.mV k (ax.rep r _) BA)
  ·cases hp
theorem aU.newD(k:Ok c σ δ H)(hp:H p=none):aU c σ δ H (upd H p (.dK [])) (.ref p) (.own (.az [])):=by
 refine⟨p,rfl,⟨[],cA,rfl,λi p q e=>by simp at e⟩,λz=>k.iQ hp (.inl z),k.lN hp,k.plus hp _,hp⟩
def jX:DE:=λδ=>.ok (.own (.az [])) δ
theorem rV{X:Cx}{c:Fc}{pos:Pos}:SE X c (.Dict [] [] pos) jX:=PE.weak G1 λσ H Q ⟨δ,k,q⟩=>λp hp=>q _ _ (.alloc k hp _) (aU.newD k hp)
def nu:D->Option S
 | .lst ds=>some (.own (.lst ds))
 | .tup ds=>some (.own (.lst ds))
 | .str x=>if x.length<=W8 then some (.own (.lst (x.map λn=>.str [n]))) else none
 | _=>none
section
variable {X:Cx} {c:Fc} {e a x y:Expr} {fb:BE} {f g fa:DE} {pos pp p p2:Pos}
theorem BC:∀ z:Tx,ax H O (z.map λn=>V.str ⟨#[n]⟩) (z.map λn=>D.str [n])
 | []=>.nil
 | n :: r=>.cons (.str [n]) (BC r)
theorem K8 (hc:X.calm=true) (hg:Gl X "list") (hm:X.mg "list" = none) (he:SB X c e fb) (hs:kU e=true:=by rfl):SE X c (.Call (.Name "list" pp) [e] [] pos) (aT nu fb) :=
 o8 (r:=λv H Q=>(∃ p ys,v = .ref p/\(bS X.K H p ys\/b9 X.K H p ys)/\∀ l,H l=none->Q (.ref l) (upd H l (.lst ys)))\/∃ z:Str,v = .str z/\z.cps.size<=W8/\∀ l,H l=none->Q (.ref l) (upd H l (.lst (z.cps.toList.map λn=>V.str ⟨#[n]⟩))))
  (GI.or (K7 hc)) (λv H Q h=>by
   rcases h with ⟨p,ys,e,h⟩ | ⟨z,e,h⟩
   ·exact .inl ⟨p,ys,by rw[e],h⟩
   ·exact .inr ⟨z,by rw[e],h⟩)
  (λc σ δ H x d s Q k rx hp q=>by
   cases d with
   | lst ds =>
    cases hp;obtain⟨a,vs,ex,ha,r⟩:=rx.lst;exact .inl ⟨a,vs,ex,.inl (.inl ha),λl hl=>q _ _ (.alloc k hl _) (aU.jO k r hl)⟩
   | tup ds =>
    cases hp;obtain⟨a,vs,ex,ha,r⟩:=rx.tup;exact .inl ⟨a,vs,ex,.inr (.of ha),λl hl=>q _ _ (.alloc k hl _) (aU.jO k r hl)⟩
   | str z =>
    simp only[nu] at hp;split at hp
    ·rename_i hz
     cases hp;refine .inr ⟨toS z,rx.str,by simpa[toS] using hz,λl hl=>?_⟩;have:(toS z).cps.toList=z:=by simp[toS]
     rw[this];exact q _ _ (.alloc k hl _) (aU.jO k (BC z) hl)
    ·cases hp
   | _=>simp[nu] at hp) hg hm PyProof.Rows.boot_list he (by decide) (by decide) (l0 hs)
def K9(neg:Bool)(fa f g:DE):DE:=λδ=>(fa δ).bind λv δ1=>(f δ1).bind λlo δ2=>(g δ2).bind λhi δ3=>match v.d,lo.d,hi.d with
 | .int i,.int l,.int h=>.ok (.pure (.bl (if neg then !(decide (l<=i) && decide (i < h)) else(decide (l<=i) && decide (i < h))))) δ3
 | _,_,_=>.stuck
end
end DV
set_option maxHeartbeats 1000000
namespace L2
open PySem PySem.Spec PyProof.Rows
theorem BD:entryFor table "dict.update.loop" = some Builtin.«dict.update.loop»:=entryFor_of_tree (by kernel_rfl)
theorem pC:plainId "dict.update.loop" = true:=by decide +kernel
theorem K_:typeLookup (.type "tuple") "keys" = pure none:=by rw[typeLookup_type,Ju]; kernel_rfl
theorem La:typeLookup (.type "list") "keys" = pure none:=by rw[typeLookup_type,Ju]; kernel_rfl
set_option maxRecDepth 8000 in
theorem Lb
  (hx:s.heap.get? a=some o) (hc:o.cls = .type "tuple") (kW:o.data = .seq xs k) (hd:o.dict=none) (hA:A.handled=none)
  (h:∀ h' tk,(∀ b ob,s.heap.get? b=some ob->h'.get? b=some ob)->Q none { s with heap:=h',toks:=tk }) :
  W6 (model prog w) A (getAttr? (.ref a) "keys") Q E s:=by
 obtain⟨c,az,dat,sl⟩:=o;simp only at hc kW hd;subst hc kW hd;obtain⟨hp,g,d,tk,os⟩:=s;have hT:∀ l6,(⟨hp,g,d,l6,os⟩:W1).TypeIs (.ref a) "tuple":=λ_=>⟨_,hx,rfl⟩
 have f1:=sub_AttributeError;have f3:=F.slot_tuple_getattribute.lookup;have f4:=F.slot_tuple_getattribute.bind (.ref a);have f5:=am_tuple_getattr_none;have vw:=K_;unfold getAttr? getAttrBy? getAttrBy;repeat (any_goals (first | assumption | exact hT _ | ((with_reducible show W6 _ _ (call (Value.builtin "tuple.__getattribute__") _ _) _ _ _); refine call_meets F.slot_tuple_getattribute (hT _) am_entry_tuple_getattribute (F.args_tuple_getattribute_2 _ _) (meets_getattribute_miss_tuple a xs k sl "keys" _ vw (by decide +kernel)) ⟨hx,hA,λh' l6 e jq=>?_⟩) | wp_step))
 obtain⟨t',u',he⟩:=jq.there;show W6 _ _ (JM _ _ _ _ _ _ _) _ _ _;unfold JM;repeat (any_goals (first | assumption | wp_step))
 exact h _ _ jq.keeps
set_option maxRecDepth 8000 in
theorem Lc
  (hx:s.heap.get? a=some o) (hc:o.cls = .type "list") (kW:o.data = .seq xs k) (hd:o.dict=none) (hA:A.handled=none)
  (h:∀ h' tk,(∀ b ob,s.heap.get? b=some ob->h'.get? b=some ob)->Q none { s with heap:=h',toks:=tk }) :
  W6 (model prog w) A (getAttr? (.ref a) "keys") Q E s:=by
 obtain⟨c,az,dat,sl⟩:=o;simp only at hc kW hd;subst hc kW hd;obtain⟨hp,g,d,tk,os⟩:=s;have hT:∀ l6,(⟨hp,g,d,l6,os⟩:W1).TypeIs (.ref a) "list":=λ_=>⟨_,hx,rfl⟩
 have f1:=sub_AttributeError;have f3:=F.slot_list_getattribute.lookup;have f4:=F.slot_list_getattribute.bind (.ref a);have f5:=am_list_getattr_none;have vw:=La;unfold getAttr? getAttrBy? getAttrBy;repeat (any_goals (first | assumption | exact hT _ | ((with_reducible show W6 _ _ (call (Value.builtin "list.__getattribute__") _ _) _ _ _); refine call_meets F.slot_list_getattribute (hT _) am_entry_list_getattribute (F.args_list_getattribute_2 _ _) (meets_getattribute_miss_list a xs k sl "keys" _ vw (by decide +kernel)) ⟨hx,hA,λh' l6 e jq=>?_⟩) | wp_step))
 obtain⟨t',u',he⟩:=jq.there;show W6 _ _ (JM _ _ _ _ _ _ _) _ _ _;unfold JM;repeat (any_goals (first | assumption | wp_step))
 exact h _ _ jq.keeps
def fo(kps:List (Key×V))(acc:List (Key×V)):List (Key×V):=kps.foldl (λa kv=>putK a kv.1 kv.2) acc
theorem Ld{prog:Wj}{w:Wm}{A:Wn}{R:Result->W1->Prop}{s:W1}{dl it:Addr}{i:Int}{t0:Tok}
  (hn:W6 (model prog w) A.in1 (Qh (.ref it)) (λr s1=>∃ (q:Addr) (k v:Value) (n:Nat),r=some (.ref q)/\s1.heap.get? q=some { cls:=.type "tuple",dict:=none,data:=.seq #[k,v] n,slots:=#[] } /\
   W6 (model prog w) A.in1 (dictSet dl k v) (λ_ s2=>Qi (model prog w) A (.builtin "dict.update.loop" ⟨[.ref dl,.ref it,Qu (i + 1),.none],[]⟩) R s2) (λ_ _=>False) s1) (λ_ _=>False) s) :
  Qi (model prog w) A (.builtin "dict.update.loop" ⟨[.ref dl,.ref it,.int i t0,.none],[]⟩) R s:=by
 refine Qq BD ?_;rw[Around.under_plainId pC _];show W6 _ A.in1 (Qh (.ref it) >>= _) _ _ s;refine W0 (WN hn (λr s1 hr=>?_) λ_ _ z=>z.elim);obtain⟨q,k,v,n,rfl,hq,hd⟩:=hr;dsimp only;refine W0 ?_;try with_reducible refine WK ?_
 refine W0 (wpAny_tryCatch ?_);have hT:s1.TypeIs (.ref q) "tuple":=⟨_,hq,rfl⟩
 unfold Builtin.Dict.pairItems;refine W0 (J9 hT ?_);rw[if_pos (by decide)];refine W0 ?_;unfold seqItems?;refine W0 (wpAny_load hq (W3 ?_));refine W3 ?_;show W6 _ A.in1 (holding [k,v] (dictSet dl k v)) _ _ s1;try with_reducible refine WK ?_
 refine WN hd (λ_ s2 h2=>?_) λ_ _ z=>z.elim
 exact W3 ⟨QM pC _,h2⟩
theorem Lf{prog:Wj}{w:Wm}{A:Wn}{R:Result->W1->Prop}{s:W1}{dl it:Addr}{i:Int}{t0:Tok}
  (hn:W6 (model prog w) A.in1 (Qh (.ref it)) (λr s1=>r=none/\R (.ok (.ret .none)) s1) (λ_ _=>False) s) :
  Qi (model prog w) A (.builtin "dict.update.loop" ⟨[.ref dl,.ref it,.int i t0,.none],[]⟩) R s:=by
 refine Qq BD ?_;rw[Around.under_plainId pC _];show W6 _ A.in1 (Qh (.ref it) >>= _) _ _ s;refine W0 (WN hn (λr s1 hr=>?_) λ_ _ z=>z.elim);obtain⟨rfl,hd⟩:=hr;dsimp only;show W6 _ A.in1 (Builtin.Dict.addKeywords dl [] >>= _) _ _ s1;exact W0 (W3 (W3 hd))
section
variable {X:Cx} {pins:List (Addr×Obj)} {σ:St} {H:Hp}
theorem Rd.sub(h:Rd H a u)(k:∀ b o,H b=some o->H' b=some o):Rd H' a u:=by
 rcases h with h | ⟨o,h⟩
 ·exact .inl (k _ _ h)
 ·exact .inr ⟨o,k _ _ h⟩
def rW(H:Hp)(ys:List V)(kps:List (Key×V)):Prop:=ys.length=kps.length/\∀ (i:Nat) y kv,ys[i]? = some y->kps[i]? = some kv->∃ q,y = .ref q/\H q=some (.tup [kV kv.1,kv.2])
theorem BG:∀ (kps acc:List (Key×V)),(fo kps acc).length<=acc.length + kps.length
 | [],acc=>Wb _
 | kv :: r,acc=>by
  have h1:=BG r (putK acc kv.1 kv.2);have h2:=mN acc kv.1 kv.2;show(fo r (putK acc kv.1 kv.2)).length<=_;simp only[WO];omega
theorem Lg(kps:List (Key×V))(kv:Key×V)(acc:List (Key×V)):fo (kps ++ [kv]) acc=putK (fo kps acc) kv.1 kv.2:=by
 unfold fo;rw[List.foldl_append];rfl
theorem BH{A:Wn}{R:Result->W1->Prop}{dl it:Addr}{ys:List V}{kps:List (Key×V)}{tn:Nat->Heap->Prop}(hP:rW H ys kps)(iU:H dl=none)(hz:kps.length<=W8)
  (item:∀ (i:Nat) (y:V) (H':Hp) (s:W1) (Q:Option Value->W1->Prop),(∀ b o,H b=some o->H' b=some o)->H' it=none->Inv X pins σ H' s->tn i s.heap->ys[i]? = some y->(∀ u s',RelV y u->Inv X pins σ H' s'->tn (i + 1) s'.heap->Q (some u) s')->W6 (model X.prog X.w) A.in1 (Qh (.ref it)) Q (λ_ _=>False) s)
  (done:∀ (H':Hp) (s:W1) (Q:Option Value->W1->Prop),(∀ b o,H b=some o->H' b=some o)->H' it=none->Inv X pins σ H' s->tn ys.length s.heap->(∀ s',Inv X pins σ H' s'->Q none s')->W6 (model X.prog X.w) A.in1 (Qh (.ref it)) Q (λ_ _=>False) s)
  (keep:∀ (i:Nat) (h h':Heap),tn i h->(∀ o,h.get? it=some o->h'.get? it=some o)->tn i h') (hit:H it=none) (cX:it≠dl) (hR:∀ s',Inv X pins σ (upd H dl (.dK (fo kps []))) s'->R (.ok (.ret .none)) s') :
  ∀ (k i:Nat) (s:W1) (j:Int) (t0:Tok),ys.length - i=k->i<=ys.length->Inv X pins σ (upd H dl (.dK (fo (kps.take i) []))) s->tn i s.heap ->
   Qi (model X.prog X.w) A (.builtin "dict.update.loop" ⟨[.ref dl,.ref it,.int j t0,.none],[]⟩) R s:=by
 have up:∀ (acc:List (Key×V)) b o,H b=some o->upd H dl (.dK acc) b=some o:=λacc b o e=>by rw[aP (eU e iU)]; exact e
 have km:∀ acc:List (Key×V),upd H dl (.dK acc) it=none:=λacc=>by rw[aP cX]; exact hit
 intro k;induction k with
 | zero =>
  intro i s j t0 hk hi I st;have e:i=ys.length:=by omega
  subst e;rw[hP.1,List.take_of_length_le (Wb _)] at I;refine Lf (done _ s _ (up _) (km _) I st λs' I'=>⟨rfl,hR s' I'⟩)
 | succ k ih =>
  intro i s j t0 hk hi I st;have aQ:i < ys.length:=by omega
  have fP:i < kps.length:=by rw[<- hP.1]; exact aQ
  obtain⟨q,ey,hq⟩:=hP.2 i ys[i] kps[i] (by simp[aQ]) (by simp[fP]);-- the item is a tuple of two
  have main:∀ s1,Inv X pins σ (upd H dl (.dK (fo (kps.take i) []))) s1->tn (i + 1) s1.heap->∃ (kk vv:Value) (n:Nat),s1.heap.get? q=some { cls:=.type "tuple",dict:=none,data:=.seq #[kk,vv] n,slots:=#[] }/\RelV (kV kps[i].1) kk/\RelV kps[i].2 vv:=λs1 I1 _=>by
   obtain⟨_,ae,r,n,e⟩:=(show bw X.prog X.w _ s1.heap q (.tup [kV kps[i].1,kps[i].2]) from I1.aj q _ (up _ q _ hq))
   obtain⟨u,v,rfl,r1,r2⟩:=Vals.two r;exact⟨u,v,n,e,r1,r2⟩
  refine Ld (item i ys[i] _ s _ (up _) (km _) I st (by simp[aQ]) λu s' ru I' df=>?_);rw[ey] at ru
  cases ru;obtain⟨kk,vv,n,e,r1,r2⟩:=main s' I' df;refine⟨q,kk,vv,n,rfl,e,?_⟩;obtain⟨z,hd,vs,rel,dd⟩:=oG I'.aj cA;have lZ:vs.length<=W8:=by rw[<- rel.length]; exact z
  have hl:(putK (fo (kps.take i) []) kps[i].1 kps[i].2).length<=W8:=by
   have h1:=mN (fo (kps.take i) []) kps[i].1 kps[i].2;have h2:=BG (kps.take i) [];simp at h2;omega
  refine wpAny_dictSet_pairs (hsz:=lZ) (jc r1) dd λh' gE hs=>?_
  have he:∃ q,h'.get? dl=some q:=let ⟨q,_,_,hq,_⟩:=gE; ⟨q,hq⟩
  have I2:=mQ (t':=s'.toks + 1) I' (by rw[cA]; exact True.intro) hs he (qF hl hd (rel.put kps[i].1 r2) gE);rw[Ex] at I2;have et:kps.take (i + 1)=kps.take i ++ [kps[i]]:=by rw[List.take_add_one]; simp[fP]
  rw[show putK (fo (kps.take i) []) kps[i].1 kps[i].2=fo (kps.take (i + 1)) [] by rw[et,Lg]] at I2;exact ih (i + 1) _ (j + 1) _ (by omega) aQ I2 (keep (i + 1) _ _ df λo eo=>(hs.2 it cX).trans eo)
theorem Lh (hc:X.calm=true):dg X (.type "dict") (λxs H Q=>∃ p ys kps,xs=[.ref p]/\(H p=some (.tup ys)\/Rd H p (.lst ys))/\rW H ys kps/\kps.length<=W8/\∀ l,H l=none->Q (.ref l) (upd H l (.dK (fo kps [])))):=by
 intro pins s σ H xs us Q I r h;obtain⟨p,ys,kps,rfl,hp,hP,hz,q⟩:=h;obtain⟨u,rfl,rx⟩:=fJ r
 cases rx;have hA:X.A.handled=none:=I.ok.hd hc;refine callType_codes (Q₁:=λobj s₁=>obj = .ref s.heap.objs.size/\s₁ = { s with heap:=s.heap.push { cls:=.type "dict",data:=.dict #[] } }) F.kt_called_dict (F.kt_typeCall_dict_1 _) F.entry_dict_init (kt_code_dict_new _ ⟨rfl,rfl⟩) ?_;rintro obj s₁ ⟨rfl,rfl⟩;have iU:H s.heap.objs.size=none:=I.aj.fresh (Wb _);have I1:Inv X pins σ (upd H s.heap.objs.size (.dK [])) { s with heap:=s.heap.push { cls:=.type "dict",data:=.dict #[] } }:=I.laid (t':=s.toks) (λ_ _ q=>W4 _ q) (Wb _) (ud s.heap I.big);generalize jg:s.heap.objs.size=dl at iU I1;have up:∀ (acc:List (Key×V)) b o,H b=some o->upd H dl (.dK acc) b=some o:=λacc b o e=>by rw[aP (eU e iU)]; exact e
 have BI:({ s with heap:=s.heap.push { cls:=.type "dict",data:=.dict #[] } }:W1).TypeIs (.ref dl) "dict":=⟨_,by rw[<- jg]; exact Wh _ rfl,rfl⟩
 refine⟨BI,F.args_dict_init_2 _ _,?_⟩;unfold Builtin.«dict.__init__»;refine W0 ?_;unfold Builtin.Dict.selfAndRest;refine W0 (wpAny_notOrdered_dict BI ?_);show W6 _ _ (pure (dl,[Value.ref p])) _ _ _;refine W3 ?_;show W6 _ _ (Builtin.Dict.updateFrom "dict.__init__" dl (.ref p) [] .none) _ _ _;unfold Builtin.Dict.updateFrom;have fin:∀ s',Inv X pins σ (upd H dl (.dK (fo kps []))) s'->EP X pins σ Q (.ref dl) s':=λs' I'=>⟨.ref dl,_,I',rfl,q dl iU⟩
 rcases hp with hp | hp
 ·obtain⟨_,ae,r,n,e⟩:=(show bw X.prog X.w _ (s.heap.push { cls:=.type "dict",data:=.dict #[] }) p (.tup ys) from I1.aj p _ (up _ p _ hp))
  refine W0 (J9 ⟨_,e,rfl⟩ ?_);rw[if_pos (by decide)];refine W0 (Lb e rfl rfl rfl hA λh' tk kp=>?_);rw[if_pos (show(none:Option Value).isNone=true from rfl)];refine W0 (Qz ?_);have I2:Inv X pins σ (upd H dl (.dK [])) { s with heap:=h',toks:=tk }:=I1.kept kp;have vx:h'.IsTuple p ae.toArray:=⟨_,kp _ _ e,rfl,n,rfl⟩
  refine W0 (Jl (s:={ s with heap:=h',toks:=tk }) vx ?_);refine W3 ⟨QM pC _,?_⟩;have fY:upd H dl (.dK []) h'.objs.size=none:=I2.aj.fresh (Wb _);have cX:h'.objs.size≠dl:=λz=>by rw[z,cA] at fY; cases fY
  have hit:H h'.objs.size=none:=by rw[aP cX] at fY; exact fY
  have fp:∀ H':Hp,H' h'.objs.size=none->eV X pins H' h'.objs.size:=λH' hn=>I2.iK (Wb _) hn
  refine BH (X:=X) (pins:=pins) (σ:=σ) (H:=H) (dl:=dl) (it:=h'.objs.size) (ys:=ys) (kps:=kps) (tn:=λi h=>h.IsTupleIter h'.objs.size p i) hP iU hz ?_ ?_ (λi h h2 st k=>st.at k) hit cX (λs' I'=>⟨rfl,fin s' I'⟩) ys.length 0 _ 0 _ (Nat.sub_zero _) (Qm _) ?_ ?_
  ·intro i y H' s' Q' sub hn I' st hy k;obtain⟨_,its2,r2,n2,e2⟩:=(show bw X.prog X.w _ s'.heap p (.tup ys) from I'.aj p _ (sub p _ hp))
   obtain⟨v,hv,rv⟩:=r2.get hy;obtain⟨f0,f1,f2,f3,f4,f5⟩:=fp H' hn;refine wpAny_pyNext_tuple_item st (items:=its2.toArray) ⟨_,e2,rfl,n2,rfl⟩ (x:=v) (by simpa using hv) λh3 kr sb=>?_
   exact k v { s' with heap:=h3 } rv (I'.turned (t':=s'.toks) (λb o hb e=>(sb.2 b hb).trans e) f0 f1 f3 f4 f5) kr
  ·intro H' s' Q' sub hn I' st k;obtain⟨_,its2,r2,n2,e2⟩:=(show bw X.prog X.w _ s'.heap p (.tup ys) from I'.aj p _ (sub p _ hp))
   obtain⟨f0,f1,f2,f3,f4,f5⟩:=fp H' hn;have mW:=r2.length;exact wpAny_pyNext_tuple_end (show X.A.in1.in1.handled=none from hA) st (items:=its2.toArray) ⟨_,e2,rfl,n2,rfl⟩ (by simp; omega) λh3 eb=>k { s' with heap:=h3 } (I'.turned (t':=s'.toks) (λb o hb e=>eb b o hb e) f0 f1 f3 f4 f5)
  ·exact I2.kept (t':=tk) λb o e=>W4 _ e
  ·exact⟨_,Wh _ rfl,rfl,rfl⟩
 ·obtain⟨_,ae,n,r,e⟩:=(show bw X.prog X.w _ (s.heap.push { cls:=.type "dict",data:=.dict #[] }) p (.lst ys) from(Rd.sub hp (up _)).ok I1.aj)
  refine W0 (J9 ⟨_,e,rfl⟩ ?_);rw[if_pos (by decide)];refine W0 (Lc e rfl rfl rfl hA λh' tk kp=>?_);rw[if_pos (show(none:Option Value).isNone=true from rfl)];refine W0 (Qz ?_);have I2:Inv X pins σ (upd H dl (.dK [])) { s with heap:=h',toks:=tk }:=I1.kept kp;have vx:h'.IsList p ae.toArray:=⟨_,kp _ _ e,rfl,n,rfl⟩
  refine W0 (wpAny_pyIter_list (s:={ s with heap:=h',toks:=tk }) vx ?_);refine W3 ⟨QM pC _,?_⟩;have fY:upd H dl (.dK []) h'.objs.size=none:=I2.aj.fresh (Wb _);have cX:h'.objs.size≠dl:=λz=>by rw[z,cA] at fY; cases fY
  have hit:H h'.objs.size=none:=by rw[aP cX] at fY; exact fY
  have fp:∀ H':Hp,H' h'.objs.size=none->eV X pins H' h'.objs.size:=λH' hn=>I2.iK (Wb _) hn
  refine BH (X:=X) (pins:=pins) (σ:=σ) (H:=H) (dl:=dl) (it:=h'.objs.size) (ys:=ys) (kps:=kps) (tn:=λi h=>h.IsListIter h'.objs.size p i) hP iU hz ?_ ?_ (λi h h2 st k=>st.at k) hit cX (λs' I'=>⟨rfl,fin s' I'⟩) ys.length 0 _ 0 _ (Nat.sub_zero _) (Qm _) ?_ ?_
  ·intro i y H' s' Q' sub hn I' st hy k;obtain⟨_,its2,n2,r2,e2⟩:=(show bw X.prog X.w _ s'.heap p (.lst ys) from(Rd.sub hp sub).ok I'.aj)
   obtain⟨v,hv,rv⟩:=r2.get hy;obtain⟨f0,f1,f2,f3,f4,f5⟩:=fp H' hn;refine wpAny_pyNext_list_item st (items:=its2.toArray) ⟨_,e2,rfl,n2,rfl⟩ (x:=v) (by simpa using hv) λh3 kr sb=>?_
   exact k v { s' with heap:=h3 } rv (I'.turned (t':=s'.toks) (λb o hb e=>(sb.2 b hb).trans e) f0 f1 f3 f4 f5) kr
  ·intro H' s' Q' sub hn I' st k;obtain⟨_,its2,n2,r2,e2⟩:=(show bw X.prog X.w _ s'.heap p (.lst ys) from(Rd.sub hp sub).ok I'.aj)
   obtain⟨f0,f1,f2,f3,f4,f5⟩:=fp H' hn;have mW:=r2.length;exact wpAny_pyNext_list_end (show X.A.in1.in1.handled=none from hA) st (items:=its2.toArray) ⟨_,e2,rfl,n2,rfl⟩ (by simp; omega) λh3 eb=>k { s' with heap:=h3 } (I'.turned (t':=s'.toks) (λb o hb e=>eb b o hb e) f0 f1 f3 f4 f5)
  ·exact I2.kept (t':=tk) λb o e=>W4 _ e
  ·exact⟨_,Wh _ rfl,rfl,rfl⟩
end
end L2
set_option maxHeartbeats 400000
namespace DV
open PySem PySem.Spec PyProof.Rows L2
def bj(kvs:List (aM×D))(k:aM):Option D:=(kvs.find? λkv=>decide (kv.1=k)).map (·.2)
def putD(kvs:List (aM×D))(k:aM)(v:D):List (aM×D) :=
 if (kvs.any λkv=>decide (kv.1=k))=true then kvs.map (λkv=>if kv.1=k then(kv.1,v) else kv) else kvs ++ [(k,v)]
def l7(kps acc:List (aM×D)):List (aM×D):=kps.foldl (λa kv=>putD a kv.1 kv.2) acc
theorem Li(h:ck k=ck j):k=j:=by
 cases k <;> cases j <;> simp[ck] at h
 ·rw[h]
 ·rw[qL h]
def DR(H:Hp)(O:Addr->Prop):List (Key×V)->List (aM×D)->Prop
 | [],[]=>True
 | p :: ws,q :: ds=>p.1=ck q.1/\Rep H O p.2 q.2/\DR H O ws ds
 | _,_=>False
section
variable {H H':Hp} {O O':Addr->Prop}
theorem DR.of:∀ {ws:List (Key×V)} {ds:List (aM×D)},ws.map (·.1)=ds.map (λp=>ck p.1)->(∀ (i:Nat) p q,ws[i]? = some p->ds[i]? = some q->Rep H O p.2 q.2)->DR H O ws ds
 | [],[],_,_=>trivial
 | [],_ :: _,h,_=>by simp at h
 | _ :: _,[],h,_=>by simp at h
 | p :: ws,q :: ds,h,k=>by
  simp only[Wc,List.cons.injEq] at h;exact⟨h.1,k 0 p q rfl rfl,DR.of h.2 λi p' q' e1 e2=>k (i + 1) p' q' (by simpa using e1) (by simpa using e2)⟩
theorem DR.keys:∀ {ws:List (Key×V)} {ds:List (aM×D)},DR H O ws ds->ws.map (·.1)=ds.map (λp=>ck p.1)
 | [],[],_=>rfl
 | [],_ :: _,h=>h.elim
 | _ :: _,[],h=>h.elim
 | p :: ws,q :: ds,h=>by simp only[Wc,h.1,DR.keys h.2.2]
theorem DR.vals:∀ {ws:List (Key×V)} {ds:List (aM×D)},DR H O ws ds->∀ (i:Nat) p q,ws[i]? = some p->ds[i]? = some q->Rep H O p.2 q.2
 | [],[],_,i,p,q,e,_=>by simp at e
 | [],_ :: _,h,_,_,_,_,_=>h.elim
 | _ :: _,[],h,_,_,_,_,_=>h.elim
 | p :: ws,q :: ds,h,i,p',q',e1,e2=>by
  cases i with
  | zero=>simp at e1 e2; subst e1 e2; exact h.2.1
  | succ i=>exact DR.vals h.2.2 i p' q' (by simpa using e1) (by simpa using e2)
theorem DR.map:∀ {ws:List (Key×V)} {ds:List (aM×D)},DR H O ws ds->(∀ v d,Rep H O v d->Rep H' O' v d)->DR H' O' ws ds
 | [],[],_,_=>trivial
 | [],_ :: _,h,_=>h.elim
 | _ :: _,[],h,_=>h.elim
 | p :: ws,q :: ds,h,k=>⟨h.1,k _ _ h.2.1,DR.map h.2.2 k⟩
theorem l8(h:p=ck q):(p=ck k) ↔ q=k:=⟨λe=>Li (by rw[<- h]; exact e),λe=>by rw[h,e]⟩
theorem DR.any:∀ {ws:List (Key×V)} {ds:List (aM×D)} (k:aM),DR H O ws ds->(ws.any λkv=>decide (kv.1=ck k))=ds.any λkv=>decide (kv.1=k)
 | [],[],_,_=>rfl
 | [],_ :: _,_,h=>h.elim
 | _ :: _,[],_,h=>h.elim
 | p :: ws,q :: ds,k,h=>by
  rw[WZ,WZ,DR.any k h.2.2];congr 1
  exact decide_eq_decide.mpr (l8 h.1)
theorem DR.val:∀ {ws:List (Key×V)} {ds:List (aM×D)} (k:aM),DR H O ws ds->(bj ds k=none/\c4 ws (ck k)=none)\/∃ v d,bj ds k=some d/\c4 ws (ck k)=some v/\Rep H O v d
 | [],[],_,_=>.inl ⟨rfl,rfl⟩
 | [],_ :: _,_,h=>h.elim
 | _ :: _,[],_,h=>h.elim
 | p :: ws,q :: ds,k,h=>by
  by_cases e:q.1=k
  ·have e':=(l8 h.1).mpr e;exact .inr ⟨p.2,q.2,by simp[bj,WH,e],qD e',h.2.1⟩
  ·have e':¬ p.1=ck k:=λz=>e ((l8 h.1).mp z)
   have ev:bj (q :: ds) k=bj ds k:=by simp[bj,WH,e]
   rw[ev,qE e'];exact DR.val k h.2.2
theorem DR.append:∀ {ws BJ:List (Key×V)} {ds bx:List (aM×D)},DR H O ws ds->DR H O BJ bx->DR H O (ws ++ BJ) (ds ++ bx)
 | [],_,[],_,_,h'=>h'
 | [],_,_ :: _,_,h,_=>h.elim
 | _ :: _,_,[],_,h,_=>h.elim
 | p :: ws,_,q :: ds,_,h,h'=>⟨h.1,h.2.1,DR.append h.2.2 h'⟩
theorem DR.store:∀ {ws:List (Key×V)} {ds:List (aM×D)} {k:aM} {v:V} {d:D},DR H O ws ds->Rep H O v d->DR H O (ws.map λkv=>if kv.1=ck k then(kv.1,v) else kv) (ds.map λkv=>if kv.1=k then(kv.1,d) else kv)
 | [],[],_,_,_,_,_=>trivial
 | [],_ :: _,_,_,_,h,_=>h.elim
 | _ :: _,[],_,_,_,h,_=>h.elim
 | p :: ws,q :: ds,k,v,d,h,r=>by
  refine⟨?_,?_,DR.store h.2.2 r⟩
  ·by_cases e:q.1=k
   ·dsimp only; rw[if_pos ((l8 h.1).mpr e),if_pos e]; exact h.1
   ·dsimp only; rw[if_neg λz=>e ((l8 h.1).mp z),if_neg e]; exact h.1
  ·by_cases e:q.1=k
   ·dsimp only; rw[if_pos ((l8 h.1).mpr e),if_pos e]; exact r
   ·dsimp only; rw[if_neg λz=>e ((l8 h.1).mp z),if_neg e]; exact h.2.1
theorem DR.put(h:DR H O ws ds)(r:Rep H O v d):DR H O (putK ws (ck k) v) (putD ds k d):=by
 unfold putK putD;rw[DR.any k h];split
 ·exact DR.store h r
 ·exact DR.append h ⟨rfl,r,trivial⟩
theorem DR.vy:∀ {kps:List (Key×V)} {rX:List (aM×D)} {ws:List (Key×V)} {ds:List (aM×D)},DR H O kps rX->DR H O ws ds->DR H O (fo kps ws) (l7 rX ds)
 | [],[],_,_,_,h=>h
 | [],_ :: _,_,_,h,_=>h.elim
 | _ :: _,[],_,_,h,_=>h.elim
 | p :: kps,q :: rX,ws,ds,h,h'=>by
  show DR H O (fo kps (putK ws p.1 p.2)) (l7 rX (putD ds q.1 q.2));rw[h.1];exact DR.vy h.2.2 (DR.put h' h.2.1)
end
def bJ:D->Option aM
 | .int i=>some (.inl i)
 | .str x=>some (.inr x)
 | _=>none
theorem BK(h:bJ d=some k)(r:Rep H O v d):v=kV (ck k):=by
 cases d <;> simp[bJ] at h <;> subst h <;> cases r <;> rfl
theorem nv(h:bJ d=some k)(r:cn c σ δ H v d):v=kV (ck k):=by
 rcases r with r | ⟨a,rfl,r⟩
 ·exact BK h r
 ·cases d <;> simp[bJ] at h <;> exact r.elim
def il:List D->Option (List (aM×D))
 | []=>some []
 | .tup [k,v] :: r=>match bJ k,il r with
  | some k',some r'=>some ((k',v) :: r')
  | _,_=>none
 | _ :: _=>none
def iV:D->Option S
 | .lst ds=>(il ds).bind λps=>if ps.length<=W8 then some (.own (.az (l7 ps []))) else none
 | .tup ds=>(il ds).bind λps=>if ps.length<=W8 then some (.own (.az (l7 ps []))) else none
 | _=>none
theorem vz:∀ {ds:List D} {vs:List V} {ps:List (aM×D)},il ds=some ps->ax H O vs ds->∃ kps,rW H vs kps/\DR H O kps ps/\kps.length=ps.length
 | [],[],ps,h,_=>by
  simp[il] at h;subst h;exact⟨[],⟨rfl,λi y kv e=>by simp at e⟩,trivial,rfl⟩
 | [],_ :: _,_,_,r=>by have:=r.1; simp at this
 | _ :: _,[],_,_,r=>by have:=r.1; simp at this
 | d :: ds,v :: vs,ps,h,r=>by
  unfold il at h;split at h
  ·rename_i heq; cases heq
  ·rename_i k w r' heq
   cases heq;split at h
   ·rename_i k' r'' hk hr
    cases h;obtain⟨kps,hP,hD,hL⟩:=vz hr r.tail;have rp:=r.head
    cases rp with
    | tup h1 h2 h3 h4 =>
     rename_i a us;match us,h3,h4,h2 with
     | [x,y],_,h4,h2 =>
      have rk:=h4 0 x k rfl rfl;have rv:=h4 1 y w rfl rfl;have ek:=BK hk rk;subst ek;refine⟨(ck k',y) :: kps,⟨by simp[hP.1],λi z kv e1 e2=>?_⟩,⟨rfl,rv,hD⟩,by simp[hL]⟩
      cases i with
      | zero=>simp at e1 e2; subst e1 e2; exact⟨a,rfl,h2⟩
      | succ i=>exact hP.2 i z kv (by simpa using e1) (by simpa using e2)
   ·cases h
  ·cases h
theorem aU.BL(k:Ok c σ δ H)(hp:H p=none)(r:DR H (Av c σ δ) ws ds):aU c σ δ H (upd H p (.dK ws)) (.ref p) (.own (.az ds)):=by
 have up:∀ a w,H a=some w->upd H p (.dK ws) a=some w:=λa w e=>by rw[aP (eU e hp)]; exact e
 have r1:DR (upd H p (.dK ws)) (Av (c.plus p) σ δ) ws ds:=r.map λv d h=>(h.aE λb z=>by
  rcases z with (z | z) | z
  ·exact .inl (.inl z)
  ·exact .inr (by rw[z]; exact hp)
  ·exact .inl (.inr z)).keep λb w e _=>up b w e
 exact⟨p,rfl,⟨ws,cA,r1.keys,r1.vals⟩,λz=>k.iQ hp (.inl z),k.lN hp,k.plus hp _,hp⟩
section
variable {X:Cx} {c:Fc} {e:Expr} {fb:BE} {pos pp:Pos}
theorem Lj:Qs "dict" = some (.type "dict"):=by decide +kernel
theorem vA (hc:X.calm=true) (hg:Gl X "dict") (hm:X.mg "dict" = none) (he:SB X c e fb) (hs:kU e=true:=by rfl):SE X c (.Call (.Name "dict" pp) [e] [] pos) (aT iV fb) :=
 o8 (r:=λv H Q=>∃ p ys kps,v = .ref p/\(H p=some (.tup ys)\/Rd H p (.lst ys))/\rW H ys kps/\kps.length<=W8/\∀ l,H l=none->Q (.ref l) (upd H l (.dK (fo kps []))))
  (Lh hc) (λv H Q ⟨p,ys,kps,e,h⟩=>⟨p,ys,kps,by rw[e],h⟩)
  (λc σ δ H x d s Q k rx hp q=>by
   cases d with
   | lst ds =>
    simp only[iV] at hp
    cases kX:il ds with
    | none=>rw[kX] at hp; cases hp
    | some ps =>
     rw[kX] at hp;simp only[WL] at hp;split at hp
     ·rename_i hz
      cases hp;obtain⟨a,vs,ex,ha,r⟩:=rx.lst;obtain⟨kps,hP,hD,hL⟩:=vz kX r;exact⟨a,vs,kps,ex,.inr ha,hP,by rw[hL]; exact hz,λl hl=>q _ _ (.alloc k hl _) (aU.BL k hl (DR.vy hD (ws:=[]) (ds:=[]) trivial))⟩
     ·cases hp
   | tup ds =>
    simp only[iV] at hp
    cases kX:il ds with
    | none=>rw[kX] at hp; cases hp
    | some ps =>
     rw[kX] at hp;simp only[WL] at hp;split at hp
     ·rename_i hz
      cases hp;obtain⟨a,vs,ex,ha,r⟩:=rx.tup;obtain⟨kps,hP,hD,hL⟩:=vz kX r;exact⟨a,vs,kps,ex,.inl ha,hP,by rw[hL]; exact hz,λl hl=>q _ _ (.alloc k hl _) (aU.BL k hl (DR.vy hD (ws:=[]) (ds:=[]) trivial))⟩
     ·cases hp
   | _=>simp[iV] at hp) hg hm Lj he (by decide) (by decide) (l0 hs)
end
theorem rY(r:cn c σ δ H v (.az ds)):∃ a ws,v = .ref a/\H a=some (.dK ws)/\DR H (Av c σ δ) ws ds:=by
 obtain⟨a,ws,e,h,k1,k2⟩:=r.az;exact⟨a,ws,e,h,DR.of k1 k2⟩
def vB(neg:Bool):R2:=λx y H Q=>∃ a kvs k,y = .ref a/\H a=some (.dK kvs)/\x=kV k/\Q (.bl (if neg then !(c4 kvs k).isSome else(c4 kvs k).isSome)) H
theorem Lk(hu:X.A.units + 64 < WI):bh X (WE .In) (vB false):=by
 intro pins s σ H x y v u Q I rx ry h;obtain⟨a,kvs,k,rfl,ha,rfl,q⟩:=h
 cases ry;exact GU (by omega) I (jd.k ha) rx λs' I'=>⟨.bl _,H,I',rfl,q⟩
theorem Ll(hu:X.A.units + 64 < WI):bh X (WE .NotIn) (vB true):=by
 intro pins s σ H x y v u Q I rx ry h;obtain⟨a,kvs,k,rfl,ha,rfl,q⟩:=h
 cases ry;exact GV (by omega) I (jd.k ha) rx λs' I'=>⟨.bl _,H,I',rfl,q⟩
def vC(K:W2)(neg:Bool):R2:=λx y H Q=>vB neg x y H Q\/t9 K neg x y H Q\/∃ i j,x = .str i/\y = .str j/\Q (.bl (if neg then !(!(Jf j i 0 j.length 1).isEmpty) else !(Jf j i 0 j.length 1).isEmpty)) H
theorem Lm{X:Cx}(hu:X.A.units + 64 < WI):bh X (WE .In) (vC X.K false):=(Lk hu).or (GB.or FI)
theorem vD{X:Cx}(hu:X.A.units + 64 < WI):bh X (WE .NotIn) (vC X.K true):=(Ll hu).or (GC.or FK)
def dU(neg:Bool)(x y:D):Option S:=match y with
 | .az ds=>(bJ x).map λk=>.pure (.bl (if neg then !(bj ds k).isSome else(bj ds k).isSome))
 | .str y=>match x with
  | .str [n]=>some (.pure (.bl (if neg then !decide (n ∈ y) else decide (n ∈ y))))
  | _=>none
 | .lst ds=>match x,fg ds with
  | .str z,some ts=>some (.pure (.bl (if neg then !ts.contains z else ts.contains z)))
  | _,_=>none
 | .tup ds=>match x,fg ds with
  | .str z,some ts=>some (.pure (.bl (if neg then !ts.contains z else ts.contains z)))
  | _,_=>none
 | _=>none
theorem BM(z:Tx)(ts:List Tx):qC (V.str (toS z)) (ts.map λz=>V.str (toS z))=ts.contains z:=by
 unfold qC;rw[List.any_map];induction ts with
 | nil=>rfl
 | cons t r ih =>
  rw[WZ,List.contains_cons,ih];congr 1
  show(toS t == toS z)=(z == t);rw[oS,Bool.beq_comm]
theorem BN(ts:List Tx):(ts.map λz=>V.str (toS z)).all jK=true:=by
 rw[JL];exact Q8.mpr λ_ _=>rfl
theorem rZ{K:W2}(neg:Bool):cq (vC K neg) (dU neg):=by
 intro c σ δ H x y d e s Q k rx ry hp q
 cases e <;> first | (simp[dU] at hp; done) | skip
 ·rename_i z;simp only[dU] at hp;split at hp <;> first | (cases hp; done) | skip
  rename_i n
  cases hp;refine .inr (.inr ⟨toS [n],toS z,rx.str,ry.str,?_⟩);rw[show toS [n] = ⟨#[n]⟩ from rfl,PySem.StrLaws.found_one,show(toS z).cps.toList=z by simp[toS]];exact q _ H (.refl k) (.bl _)
 ·rename_i ds;simp only[dU] at hp;split at hp <;> first | (cases hp; done) | skip
  rename_i z ts ht
  cases hp;obtain⟨a,vs,ea,ha,r⟩:=ry.tup;have ev:=o9 ht r;refine .inr (.inl ⟨a,vs,ea,.inr (.of ha),by rw[rx.str]; rfl,by rw[ev]; exact BN ts,?_⟩);rw[rx.str,ev,BM];exact q _ H (.refl k) (.bl _)
 ·rename_i ds;simp only[dU] at hp;split at hp <;> first | (cases hp; done) | skip
  rename_i z ts ht
  cases hp;obtain⟨a,vs,ea,ha,r⟩:=ry.lst;have ev:=o9 ht r;refine .inr (.inl ⟨a,vs,ea,.inl (.inl ha),by rw[rx.str]; rfl,by rw[ev]; exact BN ts,?_⟩);rw[rx.str,ev,BM];exact q _ H (.refl k) (.bl _)
 ·rename_i ds;simp only[dU] at hp
  cases hk:bJ d with
  | none=>rw[hk] at hp; cases hp
  | some kk =>
   rw[hk] at hp
   cases hp;obtain⟨a,ws,ea,ha,dr⟩:=rY ry;refine .inl ⟨a,ws,ck kk,ea,ha,nv hk rx,?_⟩;have:(c4 ws (ck kk)).isSome=(bj ds kk).isSome:=by
    rcases dr.val kk with ⟨e1,e2⟩ | ⟨v,d,e1,e2,_⟩
    ·rw[e1,e2]; rfl
    ·rw[e1,e2]; rfl
   rw[this];exact q _ H (.refl k) (.bl _)
def vE:R2:=λx y H Q=>∃ a kvs k v,x = .ref a/\H a=some (.dK kvs)/\y=kV k/\c4 kvs k=some v/\Q v H
def dm:D->D->Option S
 | .az ds,k=>(bJ k).bind λk=>(bj ds k).map .pure
 | x,y=>aS x y
theorem Ln(hu:X.A.units + 64 < WI):fW X vE:=by
 intro value slice pins s σ H x y v u Q I rx ry h hs;obtain⟨a,kvs,k,w,rfl,ha,rfl,hv,q⟩:=h
 cases rx;obtain⟨_,_,vs,_,dd⟩:=oG I.aj ha;have hT:s.TypeIs (.ref a) "dict":=dd.typeIs;exact tail_any hT F.slot_dict_getitem.lookup (GS (v:=w) (by omega) I (by rw[<- hv]; exact jd.k ha) ry λw' s' I' aC=>⟨w,H,I',aC,q⟩) hs
theorem ny{K:W2}:cq (λx y H Q=>vE x y H Q\/qB K x y H Q) dm:=by
 intro c σ δ H x y d e s Q k rx ry hp q
 cases d with
 | az ds =>
  simp only[dm] at hp
  cases hk:bJ e with
  | none=>rw[hk] at hp; cases hp
  | some kk =>
   rw[hk] at hp;simp only[WL,Q9] at hp;obtain⟨dv,hv,rfl⟩:=hp;obtain⟨a,ws,ea,ha,dr⟩:=rY rx;rcases dr.val kk with ⟨e1,e2⟩ | ⟨v,d',e1,e2,r⟩
   ·rw[e1] at hv; cases hv
   ·rw[e1] at hv; cases hv
    exact .inl ⟨a,ws,ck kk,v,ea,ha,nv hk ry,e2,q v H (.refl k) r⟩
 | _=>exact .inr (c8 c σ δ H x y _ e s Q k rx ry hp q)
end DV
namespace PySem
open Sem (wp)
open AutoSeq1 (wpAny_loadPart')
section
variable {prog:Wj} {w:Wm} {A:Wn} {E:Value->W1->Prop} {s:W1}
theorem Lo{items}(hit:s.heap.IsTupleIter it l i)(hl:s.heap.IsTuple l items)(hx:items[i]? = some x)
  (hQ:∀ h',h'.IsTupleIter it l (i + 1)->Q6 it s.heap h'->Q x { s with heap:=h' }):W6 (model prog w) A (J4 (.ref it)) Q E s:=by
 obtain⟨o,ho,hc,hd⟩:=id hit;obtain⟨ol,hol,_,nl,iU⟩:=hl;unfold J4;refine W0 (WJ (name:=Str.ofString "__next__") hit.typeIs QZ
  (WF QZ hit.typeIs F.entry_tuple_iterator_next ?_ (F.args_tuple_iterator_next_1 _)))
 show W6 _ _ (field (.ref it) 0 >>= _) _ _ s;refine W0 (QG ho hd (x:=.ref l) rfl ?_);show W6 _ _ (if (Value.ref l == Value.none)=true then _ else _) _ _ s;rw[if_neg (show ¬ ((Value.ref l == Value.none)=true) from WM)];show W6 _ _ (field (.ref it) 1 >>= _) _ _ s;refine W0 (QG ho hd (x:=.int i 0) rfl ?_);show W6 _ _ (seqItems? (.ref l) >>= _) _ _ s;refine W0 (JR hol iU ?_);simp only[Qc,hx];refine W0 (QS ho hd (by simp) (W3 ⟨x,rfl,W3 (hQ _ ?_ (Qa ..))⟩));exact⟨_,WC _ ho (Obj.isFreed_of_fields (Obj.data_mapFields hd _)),(Obj.cls_mapFields ..).trans hc,by
  rw[Obj.data_mapFields hd]; simp[Qu]⟩
theorem Lp{items}(hh:A.handled=none)(hit:s.heap.IsTupleIter it l i)(hl:s.heap.IsTuple l items)(hx:items[i]? = none)
  (hE:∀ h' e,Heap.ExtBut it s.heap h'->(∃ o,h'.get? e=some o/\o.cls = .type "StopIteration")->E (.ref e) { s with heap:=h' }):W6 (model prog w) A (J4 (.ref it)) Q E s:=by
 obtain⟨o,ho,hc,hd⟩:=id hit;obtain⟨ol,hol,_,nl,iU⟩:=hl;unfold J4;refine W0 (WJ (name:=Str.ofString "__next__") hit.typeIs QZ
  (WF QZ hit.typeIs F.entry_tuple_iterator_next ?_ (F.args_tuple_iterator_next_1 _)))
 show W6 _ _ (field (.ref it) 0 >>= _) _ _ s;refine W0 (QG ho hd (x:=.ref l) rfl ?_);show W6 _ _ (if (Value.ref l == Value.none)=true then _ else _) _ _ s;rw[if_neg (show ¬ ((Value.ref l == Value.none)=true) from WM)];show W6 _ _ (field (.ref it) 1 >>= _) _ _ s;refine W0 (QG ho hd (x:=.int i 0) rfl ?_);show W6 _ _ (seqItems? (.ref l) >>= _) _ _ s;refine W0 (JR hol iU ?_);simp only[Qc,hx];refine W0 (Qz (W0 (QS ho hd (by simp) ?_)));show W6 _ _ (newExc (.type "StopIteration") [] >>= _) _ _ _;refine W0 ?_;simp only[newExc,newTuple];refine W0 (WD ?_ (by size_fits));refine W0 (m:=Jv _ _) (wpAny_of_eq (a:=Value.none) (by first | rfl | (simp only[Jv]; rfl)) ?_);refine WD ?_ (by size_fits);simp only[raiseNew];refine W0 (wpAny_handled ?_);first | rw[show A.in1.handled=none from hh] | rw[hh]
 refine W0 (W3 (wpAny_throw ?_));exact hE _ _ (((Qa ..).extBut.push _).push _) ⟨_,Wh _ rfl,rfl⟩
end
theorem IsTuple.at'{h h':Heap}{l:Addr}{items:Array Value}(x:h.IsTuple l items)(k:∀ o,h.get? l=some o->h'.get? l=some o):h'.IsTuple l items:=by
 obtain⟨o,ho,r⟩:=x;exact⟨o,k o ho,r⟩
theorem Draws.tuple'{prog:Wj}{w:Wm}{A:Wn}(hh:A.handled=none)(it l:Addr)(cX:l≠it)(items:Array Value) :
  Draws prog w A it [it,l] items.size (λi v=>items[i]? = some v) (λi h=>h.IsTupleIter it l i/\h.IsTuple l items) where
 live:=λ_ _ st=>let ⟨o,ho,_⟩:=st.1; ⟨o,ho⟩
 frame:=λ_ _ _ st hk=>⟨st.1.at λo e=>hk it (by simp) o e,IsTuple.at' st.2 λo e=>hk l (by simp) o e⟩
 item:=λi s Q E hi st hQ=>by
  refine Lo st.1 st.2 (x:=items[i]) (by simp[hi]) λh' Lq je=>?_
  exact hQ _ h' s.toks (by simp[hi]) ⟨Lq,IsTuple.at' st.2 λo e=>(je.2 l cX).trans e⟩ je
 done:=λs Q E st hE=>Lp hh st.1 st.2 (by simp) hE
theorem Lr(l:Addr)(items:Array Value)(n:Nat)(az:Option Addr)(sl:Array (Option Value)) :
  Meets (Builtin.«enumerate.__new__» ⟨[.type "enumerate",.ref l],[]⟩) (λ_ R s=>s.heap.get? l=some { cls:=.type "tuple",dict:=az,data:=.seq items n,slots:=sl } /\
   R (.ok (.ret (.ref (s.heap.push { cls:=.type "tuple_iterator",data:=.fields #[.ref l,.int 0 0] }).objs.size)))
    { s with heap:=(s.heap.push { cls:=.type "tuple_iterator",data:=.fields #[.ref l,.int 0 0] }).push { cls:=.type "enumerate",data:=.fields #[.none,.bool false,.ref s.heap.objs.size,Qu 0,.none,.none] } }) :=
 .of_wp λprog w A R s h=>by
  obtain⟨hp,g,d,tk,os⟩:=s; obtain⟨hl,h⟩:=h
  have jY:=sub_enumerate;have hL:Heap.IsTuple (Shared.heap ⟨hp,g,d,tk,os⟩) l items:=⟨_,hl,rfl,n,rfl⟩
  wp_walk using Qf hl
  refine wpAny_stack_any λst=>W3 ?_
  split
  ·rename_i c _ _ _ _ _
   cases (c == Value.type "enumerate")
   ·wp_walk using Qf hl,Jl hL
    exact⟨_,rfl,h⟩
   ·wp_walk using Qf hl,Jl hL
    exact⟨_,rfl,h⟩
  ·wp_walk using Qf hl,Jl hL
   exact⟨_,rfl,h⟩
theorem Ls(hL:s.heap.IsTuple l items)
  (h:∀ h',IsEnum h' (s.heap.objs.size + 1) s.heap.objs.size 0 .none->h'.IsTupleIter s.heap.objs.size l 0->h'.objs.size=s.heap.objs.size + 2 ->
   (∀ b o,s.heap.get? b=some o->h'.get? b=some o)->Q (.ref (s.heap.objs.size + 1)) { s with heap:=h' }) :
  W6 (model prog w) A (call (.type "enumerate") [.ref l]) Q E s:=by
 obtain⟨⟨c,az,dt,sl⟩,hl,hc,n,hd⟩:=hL;replace hc:c = .type "tuple":=hc;replace hd:dt = .seq items n:=hd;subst hc hd;refine callType_new F.called_enumerate (by decide) (F.typeCall_enumerate_1 _) (F.newCall_enumerate_1 _) (λobj=>F.args_object_init_2 obj _) F.entry_enumerate_new
  (Lr l items n az sl) ⟨hl,?_⟩
 have hz:(s.heap.push { cls:=.type "tuple_iterator",data:=.fields #[.ref l,.int 0 0] }).objs.size=s.heap.objs.size + 1:=Qt ..;show _/\_;rw[hz];have he:IsEnum ((s.heap.push { cls:=.type "tuple_iterator",data:=.fields #[.ref l,.int 0 0] }).push
   { cls:=.type "enumerate",data:=.fields #[.none,.bool false,.ref s.heap.objs.size,Qu 0,.none,.none] }) (s.heap.objs.size + 1) s.heap.objs.size 0 .none:=by
  have:=Wh (s.heap.push { cls:=.type "tuple_iterator",data:=.fields #[.ref l,.int 0 0] })
   (o:={ cls:=.type "enumerate",data:=.fields #[.none,.bool false,.ref s.heap.objs.size,Qu 0,.none,.none] }) rfl
  rw[hz] at this; exact this
 refine⟨⟨_,he,rfl⟩,h _ he ⟨_,W4 _ (Wh _ rfl),rfl,rfl⟩ (by rw[Qt,hz]) λb o x=>W4 _ (W4 _ x)⟩
end PySem
namespace L2
open PySem PySem.Spec PyProof.Rows
section
variable {X:Cx} {pins:List (Addr×Obj)} {σ:St} {H:Hp} {s:W1} {h':Heap}
theorem Inv.vF(fp:List Addr)(I:Inv X pins σ H s)(k:∀ b o,b ∉ fp->s.heap.get? b=some o->h'.get? b=some o)(hf:∀ b ∈ fp,eV X pins H b):Inv X pins σ H { s with heap:=h',toks:=t' }:=by
 have km:∀ b u,H b=some u->b ∉ fp:=λb u e z=>by rw[(hf b z).1] at e; cases e
 refine I.step (g':=s.gens) (d':=s.drawn) (ch:=fp) (λb hb=>?_) (λb o _ _ hc e _=>k b o hc e) (λb o _ _ hc e _=>⟨o.slots,k b o hc e⟩) (λ_ _ _ _ n=>n)
  (λb o hc e=>⟨o,k b o hc e⟩) (λ_ _ e=>e) (λ_ _ _ e=>e) (λb ps e=>⟨#[],by rw[e]; simp⟩) (λm hm=>?_) (λb u e=>?_) I.bare
 ·obtain⟨f0,f1,f2,f3,f4,f5⟩:=hf b hb;exact⟨f3,f1,f4,f5⟩
 ·obtain⟨o,es,ep,ho,r⟩:=hm;exact⟨o,es,ep,k _ o (λz=>(hf _ z).2.1 rfl) ho,r⟩
 ·refine(I.aj b u e).lr (λc v hc q=>k c v ?_ q) (λ_ q=>q) (λ_ _ q=>q) λ_ _ _ q=>q
  rcases hc with z | z
  ·rw[z]; exact km b u e
  ·exact km c _ z
theorem Inv.BO(I:Inv X pins σ H s)(hf:∀ b ∈ [e,it],eV X pins H b)(aQ:∀ b ∈ [e,it],b < s.heap.objs.size)(ru:RelV y u)
  (hT:h'.get? s.heap.objs.size=some { cls:=.type "tuple",data:=.seq #[.int i tk,u] }) (k:∀ b o,b≠e->b≠it->s.heap.get? b=some o->h'.get? b=some o) :
  Inv X pins σ (upd H s.heap.objs.size (.tup [.int i,y])) { s with heap:=h',toks:=t' }:=by
 have I1:Inv X pins σ (upd H s.heap.objs.size (.tup [.int i,y])) { s with heap:=s.heap.push { cls:=.type "tuple",data:=.seq #[.int i tk,u] },toks:=t' } :=
  I.laid (t':=t') (λb o e=>W4 _ e) (Wb _) (show bw X.prog X.w _ _ _ (.tup [.int i,y]) from
   ⟨by simp only[WO,JE]; rw[QF]; decide,[.int i tk,u],.cons ⟨_,rfl⟩ (.cons ru .nil),gx.new _ _⟩)
 have:=Inv.vF (t':=t') (h':=h') [e,it] I1 (λb o hb eb=>?_) λb hb=>?_
 ·exact this
 ·have he:b≠e:=λz=>hb (by simp[z])
  have hi:b≠it:=λz=>hb (by simp[z])
  rcases Heap.get?_push_cases eb with ⟨z,z'⟩ | eb
  ·subst z z';exact hT
  ·exact k b o he hi eb
 ·obtain⟨f0,r⟩:=hf b hb;refine⟨?_,r⟩;have hl:=aQ b hb;rw[aP (Wr hl)];exact f0
def BP(K:W2)(a:Addr):It :=
 ⟨(tL K a).go,λi H x H'=>∃ p y,H p=none/\(∀ xs,bS K H a xs->xs[i]? = some y)/\H'=upd H p (.tup [.int i,y])/\x = .ref p,λi H=>∃ xs,bS K H a xs/\xs.length=i⟩
def BQ(K:W2)(a:Addr):It :=
 ⟨(qu K a).go,λi H x H'=>∃ p y,H p=none/\(∀ xs,b9 K H a xs->xs[i]? = some y)/\H'=upd H p (.tup [.int i,y])/\x = .ref p,λi H=>∃ xs,b9 K H a xs/\xs.length=i⟩
theorem Lu{P:Wj}{w:Wm}{K:W2}{elts:List Expr}{ctx}{pos:Pos}(a e it:Addr)(l9:e≠it)(vG:a≠e)(jr:a≠it):Turn P w K (.Tuple elts ctx pos) (BP K a) [e,it] e (λi h=>(∃ old,IsEnum h e it i old)/\h.IsListIter it a i) where
 mem:=by simp
 obj:=λi h st b hb=>by
  obtain⟨⟨old,he⟩,hi⟩:=st;have hb:b=e\/b=it:=by simpa using hb
  rcases hb with z | z
  ·subst z;exact⟨_,he,λv z=>by
    have z':Data.fields _=Data.cell v:=z
    cases z'⟩
  ·subst z;obtain⟨o,e,c,d⟩:=hi;exact⟨o,e,λv z=>by rw[d] at z; cases z⟩
 keep:=λi h h' st k=>⟨let ⟨old,he⟩:=st.1; ⟨old,k e (by simp) _ he⟩,st.2.at λo q=>k it (by simp) o q⟩
 item:=by
  intro X hP hw hK hc i pins s σ H E I hf st hg;subst hP hw hK;obtain⟨xs,x,hq,hx⟩:=hg;obtain⟨ae,rv,p,hz⟩:=I.list hq;obtain⟨u,hu,ru⟩:=rv.get hx;obtain⟨⟨old,he⟩,hi⟩:=st;have hL:s.heap.IsList a ae.toArray:=p.isList;have D:=Draws.list (prog:=X.prog) (w:=X.w) (A:=X.A.in1) (I.ok.hd hc) it a jr ae.toArray;have vH:i < ae.length:=(W5.mp hu).1;have aQ:∀ b ∈ [e,it],b < s.heap.objs.size:=λb hb=>by
   have hb:b=e\/b=it:=by simpa using hb
   rcases hb with z | z
   ·subst z; exact Wk he
   ·subst z; obtain⟨o,q,_⟩:=hi; exact Wk q
  refine wpAny_pyNext_enum_itemD D he ⟨hi,hL⟩ (by simpa using vH) l9 (by simp[l9,Ne.symm vG]) λx' h' tk hP ho je hT hsz hk=>?_
  have ex:x'=u:=by
   have:ae.toArray[i]? = some x':=hP;rw[List.getElem?_toArray,hu] at this
   cases this;rfl
  subst ex;refine⟨_,rfl,wpAny_letOwnedTupleGo_enum ho λh2 pD sb=>?_⟩;have k2:∀ b o,b≠e->b≠it->s.heap.get? b=some o->h2.get? b=some o:=λb o q1 q2 q=>(sb.2 b q1).trans (hk b o q1 q2 q)
  have vI:h2.get? s.heap.objs.size=some { cls:=.type "tuple",data:=.seq #[.int i tk,x'] }:=(sb.2 _ (QI (aQ e (by simp)))).trans hT;have I2:Inv X pins σ (upd H s.heap.objs.size (.tup [.int i,x])) { s with heap:=h2,toks:=tk + 1 }:=Inv.BO (t':=tk + 1) I hf aQ ru vI k2;refine⟨.ref s.heap.objs.size,_,I2,rfl,⟨s.heap.objs.size,x,I.aj.fresh (Wb _),λys hy=>by rw[I.yR hy hq]; exact hx,rfl,rfl⟩,⟨⟨x',by simpa using pD⟩,je.1.at λo q=>(sb.2 it (Ne.symm l9)).trans q⟩,λb hb=>?_⟩;rw[aP (Wr (aQ b hb))];exact(hf b hb).1
 done:=by
  intro X hP hw hK hc i pins s σ H E I hf st hg;subst hP hw hK;obtain⟨xs,hq,hx⟩:=hg;obtain⟨ae,rv,p,hz⟩:=I.list hq;obtain⟨⟨old,he⟩,hi⟩:=st;have hL:s.heap.IsList a ae.toArray:=p.isList;have hl:=rv.length;have D:=Draws.list (prog:=X.prog) (w:=X.w) (A:=X.A.in1) (I.ok.hd hc) it a jr ae.toArray;have hn:ae.toArray.size=i:=by simp; omega
  obtain⟨f0,f1,f2,f3,f4,f5⟩:=hf it (by simp);exact wpAny_pyNext_enum_endD D he ⟨by rw[hn]; exact hi,hL⟩ λh' eb=>⟨rfl,I.turned (t':=s.toks) (λb o hb q=>eb b o hb q) f0 f1 f3 f4 f5⟩
 self:=λ_ _ _ _ _ st h=>by
  obtain⟨⟨old,he⟩,_⟩:=st;exact JX he h
theorem Lv{P:Wj}{w:Wm}{K:W2}{elts:List Expr}{ctx}{pos:Pos}(a e it:Addr)(l9:e≠it)(vG:a≠e)(jr:a≠it):Turn P w K (.Tuple elts ctx pos) (BQ K a) [e,it] e (λi h=>(∃ old,IsEnum h e it i old)/\h.IsTupleIter it a i) where
 mem:=by simp
 obj:=λi h st b hb=>by
  obtain⟨⟨old,he⟩,hi⟩:=st;have hb:b=e\/b=it:=by simpa using hb
  rcases hb with z | z
  ·subst z;exact⟨_,he,λv z=>by
    have z':Data.fields _=Data.cell v:=z
    cases z'⟩
  ·subst z;obtain⟨o,e,c,d⟩:=hi;exact⟨o,e,λv z=>by rw[d] at z; cases z⟩
 keep:=λi h h' st k=>⟨let ⟨old,he⟩:=st.1; ⟨old,k e (by simp) _ he⟩,st.2.at λo q=>k it (by simp) o q⟩
 item:=by
  intro X hP hw hK hc i pins s σ H E I hf st hg;subst hP hw hK;obtain⟨xs,x,hq,hx⟩:=hg;obtain⟨ae,rv,p,hz⟩:=I.tuple hq;obtain⟨u,hu,ru⟩:=rv.get hx;obtain⟨⟨old,he⟩,hi⟩:=st;have hL:s.heap.IsTuple a ae.toArray:=p;have D:=Draws.tuple' (prog:=X.prog) (w:=X.w) (A:=X.A.in1) (I.ok.hd hc) it a jr ae.toArray;have vH:i < ae.length:=(W5.mp hu).1;have aQ:∀ b ∈ [e,it],b < s.heap.objs.size:=λb hb=>by
   have hb:b=e\/b=it:=by simpa using hb
   rcases hb with z | z
   ·subst z; exact Wk he
   ·subst z; obtain⟨o,q,_⟩:=hi; exact Wk q
  refine wpAny_pyNext_enum_itemD D he ⟨hi,hL⟩ (by simpa using vH) l9 (by simp[l9,Ne.symm vG]) λx' h' tk hP ho je hT hsz hk=>?_
  have ex:x'=u:=by
   have:ae.toArray[i]? = some x':=hP;rw[List.getElem?_toArray,hu] at this
   cases this;rfl
  subst ex;refine⟨_,rfl,wpAny_letOwnedTupleGo_enum ho λh2 pD sb=>?_⟩;have k2:∀ b o,b≠e->b≠it->s.heap.get? b=some o->h2.get? b=some o:=λb o q1 q2 q=>(sb.2 b q1).trans (hk b o q1 q2 q)
  have vI:h2.get? s.heap.objs.size=some { cls:=.type "tuple",data:=.seq #[.int i tk,x'] }:=(sb.2 _ (QI (aQ e (by simp)))).trans hT;have I2:Inv X pins σ (upd H s.heap.objs.size (.tup [.int i,x])) { s with heap:=h2,toks:=tk + 1 }:=Inv.BO (t':=tk + 1) I hf aQ ru vI k2;refine⟨.ref s.heap.objs.size,_,I2,rfl,⟨s.heap.objs.size,x,I.aj.fresh (Wb _),λys hy=>by rw[I.yS hy hq]; exact hx,rfl,rfl⟩,⟨⟨x',by simpa using pD⟩,je.1.at λo q=>(sb.2 it (Ne.symm l9)).trans q⟩,λb hb=>?_⟩;rw[aP (Wr (aQ b hb))];exact(hf b hb).1
 done:=by
  intro X hP hw hK hc i pins s σ H E I hf st hg;subst hP hw hK;obtain⟨xs,hq,hx⟩:=hg;obtain⟨ae,rv,p,hz⟩:=I.tuple hq;obtain⟨⟨old,he⟩,hi⟩:=st;have hL:s.heap.IsTuple a ae.toArray:=p;have hl:=rv.length;have D:=Draws.tuple' (prog:=X.prog) (w:=X.w) (A:=X.A.in1) (I.ok.hd hc) it a jr ae.toArray;have hn:ae.toArray.size=i:=by simp; omega
  obtain⟨f0,f1,f2,f3,f4,f5⟩:=hf it (by simp);exact wpAny_pyNext_enum_endD D he ⟨by rw[hn]; exact hi,hL⟩ λh' eb=>⟨rfl,I.turned (t':=s.toks) (λb o hb q=>eb b o hb q) f0 f1 f3 f4 f5⟩
 self:=λ_ _ _ _ _ st h=>by
  obtain⟨⟨old,he⟩,_⟩:=st;exact JX he h
end
end L2
namespace DV
open PySem PySem.Spec PyProof.Rows L2
section
variable {X:Cx} {c:Fc} {tg e:Expr} {fe:DE} {pos pp:Pos}
def Lw(K:W2)(ta:TA):TI:=λσ H R=>ta σ H λvs H1=>(∃ a,vs=[.ref a]/\(∃ xs,bS K H1 a xs)/\R (BP K a) H1)\/(∃ a,vs=[.ref a]/\(∃ xs,b9 K H1 a xs)/\R (BQ K a) H1)
theorem Lx {ctx} (hg:Gl X "enumerate") (hm:X.mg "enumerate" = none) (ha:PA X [a] ta) (hs:We [a] X.env=[(false,eval a X.env)]:=by rfl):PI X (.Tuple elts ctx tp) (.Call (.Name "enumerate" pp) [a] [] pos) (Lw X.K ta):=by
 intro pins s σ H R I h;refine Call_ (mL I hg hm boot_enumerate (QT (aJ (ha pos pins s σ H _ I h) λus s1 ⟨vs,H1,I1,r1,q1⟩=>?_) hs rfl));rcases q1 with ⟨a,ev,⟨xs,hq⟩,q⟩ | ⟨a,ev,⟨xs,hq⟩,q⟩
 ·subst ev
  cases r1 with
  | cons r rr =>
   cases rr
   cases r;obtain⟨ae,rv,p,hz⟩:=I1.list hq;have hL:s1.heap.IsList a ae.toArray:=p.isList;have aQ:a < s1.heap.objs.size:=by obtain⟨o,q,_⟩:=hL; exact Wk q
   refine call_enumerate_list hL λh' he hi hsz kp=>JX he ?_
   refine⟨s1.heap.objs.size + 1,[s1.heap.objs.size + 1,s1.heap.objs.size],_,_,H1,rfl,I1.kept (t':=s1.toks) kp,Lu a _ _ (Nat.succ_ne_self _) (Wr (Qn aQ)) (Wr aQ),⟨⟨_,he⟩,hi⟩,λb hb=>?_,q⟩;have hb:b=s1.heap.objs.size + 1\/b=s1.heap.objs.size:=by simpa using hb
   have hle:s1.heap.objs.size<=b:=by rcases hb with z | z <;> subst z <;> first | exact Wb _ | exact JD _
   exact I1.iK hle (I1.aj.fresh hle)
 ·subst ev
  cases r1 with
  | cons r rr =>
   cases rr
   cases r;obtain⟨ae,rv,p,hz⟩:=I1.tuple hq;have hL:s1.heap.IsTuple a ae.toArray:=p;have aQ:a < s1.heap.objs.size:=by obtain⟨o,q,_⟩:=hL; exact Wk q
   refine Ls hL λh' he hi hsz kp=>JX he ?_
   refine⟨s1.heap.objs.size + 1,[s1.heap.objs.size + 1,s1.heap.objs.size],_,_,H1,rfl,I1.kept (t':=s1.toks) kp,Lv a _ _ (Nat.succ_ne_self _) (Wr (Qn aQ)) (Wr aQ),⟨⟨_,he⟩,hi⟩,λb hb=>?_,q⟩;have hb:b=s1.heap.objs.size + 1\/b=s1.heap.objs.size:=by simpa using hb
   have hle:s1.heap.objs.size<=b:=by rcases hb with z | z <;> subst z <;> first | exact Wb _ | exact JD _
   exact I1.iK hle (I1.aj.fresh hle)
def ip(ds:List D):List D:=ds.mapIdx λi d=>D.tup [.int (i:Nat),d]
theorem vJ{ds:List D}{i:Nat}{d:D}(h:(ip ds)[i]? = some d):∃ d',ds[i]? = some d'/\d = .tup [.int i,d']:=by
 unfold ip at h;rw[List.getElem?_mapIdx] at h
 cases e:ds[i]? with
 | none=>rw[e] at h; cases h
 | some d' =>
  rw[e] at h
  cases h;exact⟨d',rfl,rfl⟩
theorem ax.pair(r:Rep H O v d):ax H O [.int i,v] [.int i,d]:=by
 refine⟨rfl,λj v' d' e1 e2=>?_⟩;match j with
 | 0=>simp at e1 e2; subst e1 e2; exact .int _
 | 1=>simp at e1 e2; subst e1 e2; exact r
 | j + 2=>simp at e1
def pE(f:DE):DI:=λδ=>(f δ).bind λr δ1=>match r.d with
 | .lst ds=>.ok (ip ds) δ1
 | .tup ds=>.ok (ip ds) δ1
 | _=>.stuck
theorem Ly {elts:List Expr} {ctx} {tp:Pos} (hg:Gl X "enumerate") (hm:X.mg "enumerate" = none) (he:SE X c e fe) (hs:We [e] X.env=[(false,eval e X.env)]:=by rfl):SI X c (.Tuple elts ctx tp) (.Call (.Name "enumerate" pp) [e] [] pos) (pE fe) :=
 PI.weak (Lx hg hm (dY he fV hs) hs) λσ H R ⟨δ,k,q⟩=>by
  unfold pE at q;rw[aY] at q;refine⟨δ,k,aN q λr δ1 q1 v H1 a1 r1=>?_⟩;have rr:=r1.rep;generalize r.d=d at q1 rr
  cases d <;> first | exact q1.elim | skip
  ·cases rr with
   | tup h1 h2 h3 h4 =>
    rename_i a vs;refine .inr ⟨_,rfl,⟨_,.of h2⟩,q1 _ H1 a1 ?_⟩;intro H2 kp;have h5:=kp _ _ h2 λz=>h1 (.inr z)
    have r':ax H1 (Av c σ δ1) vs _:=⟨h3,h4⟩
    refine⟨⟨vs,.of h5,by rw[r'.1]; simp[ip]⟩,λi d e=>?_⟩;obtain⟨d',e',rfl⟩:=vJ e;obtain⟨v,ev,rv⟩:=r'.get e';refine⟨⟨vs,v,.of h5,ev⟩,λx H3 ⟨p,y,hp,hy,e3,ex⟩=>.inr ⟨p,_,_,hp,e3,ex,rfl,?_⟩⟩;have:=hy vs (.of h5);rw[ev] at this
    cases this;exact ax.pair rv
  ·cases rr with
   | lst h1 h2 h3 h4 =>
    rename_i a vs;refine .inl ⟨_,rfl,⟨_,.inl h2⟩,q1 _ H1 a1 ?_⟩;intro H2 kp;have h5:Rd H2 a (.lst vs):=Rd.keep h2 λo e=>kp a o e λz=>h1 (.inr z)
    have r':ax H1 (Av c σ δ1) vs _:=⟨h3,h4⟩
    refine⟨⟨vs,.inl h5,by rw[r'.1]; simp[ip]⟩,λi d e=>?_⟩;obtain⟨d',e',rfl⟩:=vJ e;obtain⟨v,ev,rv⟩:=r'.get e';refine⟨⟨vs,v,.inl h5,ev⟩,λx H3 ⟨p,y,hp,hy,e3,ex⟩=>.inr ⟨p,_,_,hp,e3,ex,rfl,?_⟩⟩;have:=hy vs (.inl h5);rw[ev] at this
    cases this;exact ax.pair rv
end
end DV
namespace HT
open PySem PySem.Spec PyProof.Rows
section
variable {prog:Wj} {w:Wm} {A:Wn} {E:Value->W1->Prop} {s:W1}
end
end HT
namespace DV
open PySem PySem.Spec PyProof.Rows L2
section
variable {X:Cx} {c:Fc} {e:Expr} {fb:BE} {pos p2:Pos}
def r8:D->Bool
 | .ay=>true
 | _=>false
def l_(neg:Bool)(d e:D):Option S:=match e with
 | .ay=>some (.pure (.bl (neg != r8 d)))
 | _=>none
theorem Lz:cq (λx y H Q=>y = .ay/\Q (.bl (!decide (x = .ay))) H) (l_ true):=by
 intro c σ δ H x y d e s Q k rx ry hp q
 cases e with
 | ay =>
  simp only[l_,Wa] at hp;subst hp;have ey:y = .ay:=by
   rcases ry with r | ⟨a,e,o⟩
   ·cases r; rfl
   ·exact o.elim
  have:(!decide (x=V.ay))=(true != r8 d):=by
   rcases rx with r | ⟨a,e,o⟩
   ·cases r <;> simp[r8]
   ·subst e
    cases d <;> first | exact o.elim | simp[r8]
  exact⟨ey,by rw[this]; exact q _ H (.refl k) (.bl _)⟩
 | _=>simp[l_] at hp
end
def Fc.nA(c:Fc)(i:Nat)(a:Addr):Fc:=⟨c.H₀,λb=>c.B b\/b=a,(i,a) :: c.pin,c.xc⟩
section
variable {c:Fc} {σ σ':St} {δ δ':Dl} {H H':Hp} {i:Nat} {a:Addr} {ds:List D}
theorem Own.unset(h:Own σ (δ.set i none) b):Own σ δ b:=by
 obtain⟨j,d',e1,e2⟩:=h;by_cases hj:i=j
 ·subst hj;rw[Q5] at e1;split at e1
  ·split at e1 <;> cases e1
  ·rename_i q; exact absurd rfl q
 ·rw[W9 hj] at e1;exact⟨j,d',e1,e2⟩
theorem LA(k:Ok c σ δ H)(e:δ[i]? = some (some (.own (.lst ds))))(ea:σ[i]? = some (some (.ref a)))(b:Addr)(z:Av (c.nA i a) σ (δ.set i none) b):Av c σ δ b:=by
 rcases z with (z | z) | z
 ·exact .inl z
 ·subst z; exact .inr ⟨i,_,e,ea⟩
 ·exact .inr z.unset
theorem Ok.nA(k:Ok c σ δ H)(e:δ[i]? = some (some (.own (.lst ds))))(ea:σ[i]? = some (some (.ref a))):Ok (c.nA i a) σ (δ.set i none) H:=by
 have sub:=LA k e ea;have ne:∀ j d,(δ.set i none)[j]? = some (some d)->i≠j/\δ[j]? = some (some d):=λj d q=>by
  by_cases hj:i=j
  ·subst hj;rw[Wp (W5.mp e).1] at q; cases q
  ·rw[W9 hj] at q; exact⟨hj,q⟩
 refine⟨λb o h n=>k.keep b o h λ⟨j,z⟩=>n ⟨j,Wg _ z⟩,λb z=>?_,λb ⟨j,z⟩=>?_,by rw[Qp]; exact k.len,λj d q=>?_,λj d q=>?_,λj l b d d' q1 q2=>?_,λp hp=>?_⟩
 ·rcases z with z | z
  ·exact k.bd b z
  ·subst z; exact k.oQ ⟨i,_,e,ea⟩
 ·rcases Wl.mp z with z | z
  ·cases z; exact k.oQ ⟨i,_,e,ea⟩
  ·exact k.dh b ⟨j,z⟩
 ·obtain⟨_,q⟩:=ne j _ q;obtain⟨v,g1,g2⟩:=k.slot j d q;exact⟨v,g1,g2.aE λb z=>.inl (sub b z)⟩
 ·obtain⟨hj,q⟩:=ne j _ q;obtain⟨b,g1,g2,g3,g4⟩:=k.own j d q;refine⟨b,g1,g2.aE λb z=>.inl (sub b z),g3.imp (λ⟨l,z⟩=>⟨l,Wg _ z⟩) id,λz=>?_⟩;rcases z with z | z
  ·exact g4 z
  ·subst z; exact hj (k.inj i j b _ _ e q ea g1)
 ·exact k.inj j l b d d' (ne j _ q1).2 (ne l _ q2).2
 ·rcases Wl.mp hp with z | z
  ·subst z; exact ea
  ·exact k.pinned p z
end
def R8(i:Nat)(g:DG)(b:DS):DS:=λδ=>match δ[i]? with
 | some (some (.own (.lst ds)))=>(forL g b ds (δ.set i none)).bind λfl δ'=>match fl with
  | .ret (.own _)=>.stuck
  | fl=>.ok fl (δ'.set i (some (.own (.lst ds))))
 | _=>.stuck
section
variable {X:Cx} {c:Fc} {tg iter:Expr} {body:List Stmt} {g:DG} {b:DS} {i:Nat} {pos:Pos}
def kY(np:List Nat)(i:Nat):DS:=λδ=>match δ[i]? with
 | some (some (.own d))=>if np.contains i || !np.all (bH δ) then .ok (.ret (.pure d)) (δ.set i (some (.pure d))) else .ok (.ret (.own d)) (δ.set i none)
 | some (some (.pure d))=>.ok (.ret (.pure d)) δ
 | _=>.stuck
theorem vK{np:List Nat}{e:Expr}(aw:Np c np)(he:PE X e (de i)):SS X c (.Return (some e) pos) (kY np i):=PS.weak (yT he) λD σ H ⟨δ,k,q⟩=>by
 unfold kY dw at q;split at q
 ·rename_i d e;obtain⟨a,ea,oa,ia,nb⟩:=k.own i d e;refine⟨.ref a,ea,?_⟩;split at q
  ·obtain⟨a',cF,x,r⟩:=k.give e;rw[ea] at cF; cases cF
   exact q σ H x _ r
  ·rename_i hc;simp only[Bool.or_eq_true,not_or,Bool.not_eq_true,Bool.not_eq_false',List.all_eq_true] at hc;obtain⟨hc1,hc2⟩:=hc;have nI:¬ c.I a:=λ⟨j,z⟩=>by
    have z1:=aw (j,a) z;have z2:=k.pinned (j,a) z;have z3:=hc2 j (by simpa using z1);unfold bH at z3;split at z3
    ·rename_i d' ej;have:=k.inj i j a _ _ e ej ea z2;subst this;rw[z1] at hc1; cases hc1
    ·cases z3
   have h0:c.H₀ a=none:=ia.resolve_left nI;have hi:i < δ.length:=(W5.mp e).1;have ne:∀ j d,(δ.set i none)[j]? = some (some d)->i≠j/\δ[j]? = some (some d):=λj d q=>by
    by_cases hj:i=j
    ·subst hj;rw[Wp hi] at q; cases q
    ·rw[W9 hj] at q; exact⟨hj,q⟩
   have sub:∀ b,Av (c.plus a) σ (δ.set i none) b->Av c σ δ b:=λb z=>by
    rcases z with (z | z) | z
    ·exact .inl z
    ·subst z; exact .inr ⟨i,_,e,ea⟩
    ·exact .inr z.unset
   have kp:Ok (c.plus a) σ (δ.set i none) H:=by
    refine⟨k.keep,λb z=>?_,k.dh,by rw[Qp]; exact k.len,λj d q=>?_,λj d q=>?_,λj l b d d' q1 q2=>k.inj j l b d d' (ne j _ q1).2 (ne l _ q2).2,k.pinned⟩
    ·rcases z with z | z
     ·exact k.bd b z
     ·subst z; exact k.oQ ⟨i,_,e,ea⟩
    ·obtain⟨_,q⟩:=ne j _ q;obtain⟨v,g1,g2⟩:=k.slot j d q;exact⟨v,g1,g2.aE λb z=>.inl (sub b z)⟩
    ·obtain⟨hj,q⟩:=ne j _ q;obtain⟨b,g1,g2,g3,g4⟩:=k.own j d q;refine⟨b,g1,g2.aE λb z=>.inl (sub b z),g3,λz=>?_⟩;rcases z with z | z
     ·exact g4 z
     ·subst z; exact hj (k.inj i j b _ _ e q ea g1)
   have x:aG c σ δ H σ (δ.set i none) H:=by
    refine⟨⟨k.keep,k.bd,k.dh,by rw[Qp]; exact k.len,λj d q=>?_,λj d q=>?_,λj l b d d' q1 q2=>k.inj j l b d d' (ne j _ q1).2 (ne l _ q2).2,k.pinned⟩,λ_ _ w _=>w,λb z=>.inl z.unset,λ_ o w=>⟨o,w⟩⟩
    ·obtain⟨_,q⟩:=ne j _ q;obtain⟨v,g1,g2⟩:=k.slot j d q;exact⟨v,g1,g2.aE λb z=>.inl (z.elim .inl λz=>.inr z.unset)⟩
    ·obtain⟨hj,q⟩:=ne j _ q;obtain⟨b,g1,g2,g3,g4⟩:=k.own j d q;exact⟨b,g1,g2.aE λb z=>.inl (z.elim .inl λz=>.inr z.unset),g3,g4⟩
   exact q σ H x _ ⟨a,rfl,oa.aE λb z=>.inl (sub b z),nb,h0,kp,h0⟩
 ·rename_i d e;obtain⟨v,e1,r⟩:=k.slot i d e;exact⟨v,e1,q σ H (.refl k) v r⟩
 ·exact q.elim
end
theorem nB(hu:X.A.units + 64 < WI):fW X (λx y H Q=>vE x y H Q\/qB X.K x y H Q):=(Ln hu).or cZ
end DV
namespace L2
open PySem PySem.Spec PyProof.Rows
section
variable {X:Cx}
end
end L2
namespace DV
open PySem PySem.Spec PyProof.Rows L2
section
variable {X:Cx} {c:Fc} {e:Expr} {fe:DE} {pos:Pos}
end
section
variable {c:Fc} {σ:St} {δ δ':Dl} {H H':Hp} {i:Nat} {a p:Addr} {ds:List D}
end
open Classical in
noncomputable def itAt (δ₀:Dl) (ds:List D):DI:=λδ=>if δ=δ₀ then .ok ds δ else .stuck
section
variable {X:Cx} {c:Fc} {cs:List Nat} {tg iter elt:Expr} {ifs:List Expr} {scope:Scope} {pos:Pos} {g:DG} {t:DT} {el:DE} {i:Nat}
end
section
variable {X:Cx} {c:Fc} {e:Expr} {fe:DE} {pos pos':Pos}
end
section
variable {X:Cx} {c:Fc} {pp pos:Pos}
end
section
variable {c:Fc} {σ:St} {δ:Dl} {H:Hp} {a:Addr} {d:D}
theorem gn(h:(xs ++ [x])[i]? = some y):xs[i]? = some y\/(i=xs.length/\y=x):=by
 rw[List.getElem?_append] at h;split at h
 ·exact .inl h
 ·rename_i hi;right
  have:i - xs.length=0:=by
   cases hk:i - xs.length with
   | zero=>rfl
   | succ k=>rw[hk] at h; simp at h
  rw[this] at h;simp at h;exact⟨by omega,h.symm⟩
theorem getL{α:Type}{xs:List α}{x y:α}{i:Nat}(h:xs[i]? = some y):(xs ++ [x])[i]? = some y:=by
 rw[J1 (W5.mp h).1]; exact h
theorem BR(hl:δ.length=σ.length):Own (σ ++ [some (V.ref a)]) (δ ++ [some (S.own d)]) b->Own σ δ b\/b=a:=by
 rintro ⟨i,d',e1,e2⟩;rcases gn e1 with e1 | ⟨hi,_⟩
 ·rcases gn e2 with e2 | ⟨hi,_⟩
  ·exact .inl ⟨i,d',e1,e2⟩
  ·have:=(W5.mp e1).1; omega
 ·rcases gn e2 with e2 | ⟨_,e2⟩
  ·have:=(W5.mp e2).1; omega
  ·cases e2; exact .inr rfl
theorem r9(hl:δ.length=σ.length)(h:Av c (σ ++ [some (V.ref a)]) (δ ++ [some (S.own d)]) b):Av (c.plus a) σ δ b:=by
 rcases h with h | h
 ·exact .inl (.inl h)
 ·rcases BR hl h with h | h
  ·exact .inr h
  ·exact .inl (.inr h)
theorem Ok.LB(k:Ok (c.plus a) σ δ H)(o:dZ H (Av (c.plus a) σ δ) a d)(nb:¬ c.B a)(h0:c.H₀ a=none):Ok c (σ ++ [some (.ref a)]) (δ ++ [some (.own d)]) H:=by
 have hl:=k.len;refine⟨k.keep,λb z=>k.bd b (.inl z),k.dh,by simp[hl],λi d' e=>?_,λi d' e=>?_,λi j b d1 d2 e1 e2 s1 s2=>?_,λp hp=>getL (k.pinned p hp)⟩
 ·rcases gn e with e | ⟨_,e⟩
  ·obtain⟨v,g1,g2⟩:=k.slot i d' e;exact⟨v,getL g1,g2.aE λb z=>.inl (r9 hl z)⟩
  ·cases e
 ·rcases gn e with e | ⟨hi,e⟩
  ·obtain⟨b,g1,g2,g3,g4⟩:=k.own i d' e;exact⟨b,getL g1,g2.aE λb z=>.inl (r9 hl z),g3,λz=>g4 (.inl z)⟩
  ·cases e;subst hi;exact⟨a,by rw[hl]; simp,o.aE λb z=>.inl (r9 hl z),.inr h0,nb⟩
 ·have na:∀ (i:Nat) (d:D),δ[i]? = some (some (.own d))->σ[i]? = some (some (.ref a))->False:=λi d q1 q2=>mU k ⟨i,d,q1,q2⟩
  rcases gn e1 with e1 | ⟨h1,_⟩ <;> rcases gn e2 with e2 | ⟨h2,_⟩
  ·have i1:=(W5.mp e1).1;have i2:=(W5.mp e2).1;rcases gn s1 with s1 | ⟨z,_⟩
   ·rcases gn s2 with s2 | ⟨z,_⟩
    ·exact k.inj i j b d1 d2 e1 e2 s1 s2
    ·omega
   ·omega
  ·subst h2;rw[hl] at s2;have hb:b=a:=by simpa using s2.symm
   subst hb;rcases gn s1 with s1 | ⟨z,_⟩
   ·exact(na i d1 e1 s1).elim
   ·have:=(W5.mp e1).1; omega
  ·subst h1;rw[hl] at s1;have hb:b=a:=by simpa using s1.symm
   subst hb;rcases gn s2 with s2 | ⟨z,_⟩
   ·exact(na j d2 e2 s2).elim
   ·have:=(W5.mp e2).1; omega
  ·rw[h1,h2]
theorem Ok.vL(hl:δ.length=σ.length)(k:Ok c (σ ++ [some (.ref a)]) (δ ++ [some (.own d)]) H)(hp:∀ p ∈ c.pin,p.1 < σ.length):Ok c σ δ H:=by
 have sub:∀ b,Av c σ δ b->Av c (σ ++ [some (.ref a)]) (δ ++ [some (.own d)]) b:=λb z=>z.elim .inl λ⟨i,d',e1,e2⟩=>.inr ⟨i,d',getL e1,getL e2⟩
 refine⟨k.keep,k.bd,k.dh,hl,λi d' e=>?_,λi d' e=>?_,λi j b d1 d2 e1 e2 s1 s2=>k.inj i j b d1 d2 (getL e1) (getL e2) (getL s1) (getL s2),λp hm=>?_⟩
 ·obtain⟨v,g1,g2⟩:=k.slot i d' (getL e);have hi:=(W5.mp e).1;rcases gn g1 with g1 | ⟨z,_⟩
  ·exact⟨v,g1,g2.aE λb z=>.inl (sub b z)⟩
  ·omega
 ·obtain⟨b,g1,g2,g3⟩:=k.own i d' (getL e);have hi:=(W5.mp e).1;rcases gn g1 with g1 | ⟨z,_⟩
  ·exact⟨b,g1,g2.aE λb z=>.inl (sub b z),g3⟩
  ·omega
 ·rcases gn (k.pinned p hm) with g | ⟨z,_⟩
  ·exact g
  ·have:=hp p hm; omega
end
def nC(G:DF)(f0:DE)(as:List Ak):DE:=λδ=>if (aW as).isEmpty then(f0 δ).bind λr δ1=>match r with
  | .own d=>(bC as δ1).bind λds δ2=>match bf as ds δ2 with
   | none=>.stuck
   | some ss=>match G (.own d :: ss) with
    | none=>.stuck
    | some (r,_)=>.ok r δ2
  | _=>.stuck
 else .stuck
theorem BS:∀ {as:List Ak} {ds:List (Option D)} {δ:Dl},aW as=[]->bf as ds (δ ++ [x])=bf as ds δ
 | [],[],δ,_=>rfl
 | [],_ :: _,δ,_=>rfl
 | .val f :: as,[],δ,_=>rfl
 | .val f :: as,none :: ds,δ,_=>rfl
 | .val f :: as,some d :: ds,δ,h=>by
  simp only[bf];rw[BS (as:=as) (ds:=ds) (δ:=δ) (by simpa[aW] using h)]
 | .io i :: as,ds,δ,h=>by simp[aW] at h
theorem LC{c:Fc}{σ:St}{δ:Dl}{H:Hp}{a:Addr}{d:D}{vs:List V}{as:List Ak}{ds:List (Option D)}(hl:δ.length=σ.length)(h:ie (c.plus a) σ δ H vs as ds):ie c (σ ++ [some (.ref a)]) (δ ++ [some (.own d)]) H vs as ds:=by
 induction h with
 | nil=>exact .nil
 | val r _ ih=>exact .val (r.aE λb z=>.inl (r9 hl z)) ih
 | io e _ ih=>exact .io (getL e) ih
section
variable {X:Cx} {c:Fc} {e:Expr} {es:List Expr} {as:List Ak} {f0:DE} {k n:Nat} {x:Str} {G:DF} {pp pos:Pos}
theorem LD(hK:cJ G){σ:St}{H:Hp}{Q:VK}(hl:as.length + 1=n)(h:tD c (nC G f0 as) σ H Q):tU (kR n G) [] E0 (tR (tD c f0) (λσ H Q=>∃ a,tX (c.plus a) as σ H Q)) σ H Q:=by
 obtain⟨δ,kk,q⟩:=h;unfold nC at q;split at q
 case isFalse=>exact q.elim
 rename_i fj;have r_:aW as=[]:=by simpa using fj
 rw[aY] at q;refine⟨δ,kk,aN q λr δ1 q1 v0 H1 a1 r1=>?_⟩
 cases r with
 | pure d=>exact q1.elim
 | own d =>
  obtain⟨a,rfl,oa,nb,h0,kp,hs⟩:=r1;simp only at q1;rw[aY] at q1;refine⟨a,δ1,kp,λi hi=>absurd (kT.mpr hi) (by rw[r_]; simp),?_⟩;have uN:post (c.plus a) (bC as δ1) λds δ2=>post c (match bf as ds δ2 with
   | none=>.stuck
   | some ss=>match G (.own d :: ss) with
    | none=>.stuck
    | some (r,_)=>.ok r δ2) λr δ'=>∀ v H',aG c σ δ H σ δ' H'->aU c σ δ' H H' v r->Q v H':=by
   cases hf:bC as δ1 with
   | ok fl δ'=>rw[hf] at q1; exact q1
   | exc x δx=>rw[hf] at q1; exact q1
   | stuck=>rw[hf] at q1; exact q1
  refine aN uN λds δ2 q2 vs H2 a2 r2=>?_
  cases em:bf as ds δ2 with
  | none=>rw[em] at q2; exact q2.elim
  | some ss =>
   rw[em] at q2;simp only at q2
   cases eg:G (.own d :: ss) with
   | none=>rw[eg] at q2; exact q2.elim
   | some y =>
    obtain⟨r,aA⟩:=y;rw[eg] at q2;have ma:=a2.ok.len;have LF:dZ H2 (Av (c.plus a) σ δ2) a d:=by
     have o1:dZ H1 (λb=>Av (c.plus a) σ δ1 b\/Av (c.plus a) σ δ2 b) a d:=oa.aE λb z=>z.elim .inl (a2.av b)
     exact(o1.keep (λb o e n=>a2.keep b o e λz=>n (.inl (.inr z))) λo e=>a2.keep a o e (mU kp)).aE λb z=>.inl (.inr z)
    have k':=Ok.LB a2.ok LF nb h0;have r':ie c (σ ++ [some (.ref a)]) (δ2 ++ [some (.own d)]) H2 (.ref a :: vs) (.io σ.length :: as) (none :: ds):=.io (by simp) (LC ma r2);have vM:bf (.io σ.length :: as) (none :: ds) (δ2 ++ [some (.own d)])=some (.own d :: ss):=by
     simp only[bf];rw[<- ma,show(δ2 ++ [some (S.own d)])[δ2.length]? = some (some (.own d)) by simp];simp only[BS r_,em,Wz]
    have nd:(aW (.io σ.length :: as)).Nodup:=by simp[aW,r_]
    have fO:=Bh k' r' vM nd;obtain⟨m1,m2,_⟩:=rQ r' vM;obtain⟨g1,g2⟩:=hK _ r aA eg;refine⟨.own d :: ss,_,by rw[Q7]; rw[<- m2]; simpa using hl,by rw[Q7]; exact fO,r,aA,eg,λv H3 a3 r3=>?_⟩;rw[Q7] at a3 r3;obtain⟨o1,o2⟩:=Bk k' r' vM nd rfl a3 (λj d ed=>(g2 j).1 d ed) λj d ed=>(g2 j).2 d ed
    have o3:=o2 v r r3;-- the virtual slot holds what came of the list
    obtain⟨d',ed'⟩:=(g2 0).1 d rfl;obtain⟨rs,ers⟩:∃ rs,aA = .own d' :: rs:=by
     cases aA with
     | nil=>simp at ed'
     | cons z rs=>simp at ed'; subst ed'; exact⟨rs,rfl⟩
    subst ers;have LG:aR (.io σ.length :: as) (.own d' :: rs) (δ2 ++ [some (.own d)])=δ2 ++ [some (.own d')]:=by
     have hp:∀ (as:List Ak) (rs:List S) (δ:Dl),aW as=[]->aR as rs δ=δ:=by
      intro as;induction as with
      | nil=>intro rs δ _; cases rs <;> rfl
      | cons x as ih =>
       intro rs δ h
       cases x with
       | val f=>cases rs with
        | nil=>rfl
        | cons y rs=>simp only[aR]; exact ih rs δ (by simpa[aW] using h)
       | io i=>simp[aW] at h
     simp only[aR];rw[hp as rs _ r_,<- ma];simp
    rw[LG] at o1 o3;have vN:∀ p ∈ c.pin,p.1 < σ.length:=λp hm=>(W5.mp (kk.pinned p hm)).1
    have kc:Ok c σ δ2 H3:=Ok.vL ma o1.ok vN;have BU:∀ b,Own σ δ2 b->Own (σ ++ [some (.ref a)]) (δ2 ++ [some (.own d')]) b:=λb ⟨i,d1,e1,e2⟩=>⟨i,d1,getL e1,getL e2⟩
    have pF:aG c σ δ H σ δ2 H2:=a1.trans ⟨Ok.vL ma k' vN,a2.keep,a2.own,a2.there⟩;have fin:aG c σ δ H σ δ2 H3:=by
     refine⟨kc,λb o eb nO=>?_,pF.own,λb o eb=>?_⟩
     ·have LH:=pF.keep b o eb nO;refine o1.keep b o LH λz=>?_
      rcases BR ma z with z | z
      ·rcases pF.own b z with w | w
       ·exact nO w
       ·rw[w] at eb; cases eb
      ·subst z; rw[hs] at eb; cases eb
     ·obtain⟨o',e'⟩:=pF.there b o eb;exact o1.there b o' e'
    have sub:∀ b,Av c σ δ2 b->Av c (σ ++ [some (.ref a)]) (δ2 ++ [some (.own d')]) b:=λb z=>z.elim .inl λz=>.inr (BU b z)
    refine q2 v H3 fin ?_
    cases r with
    | pure dr=>exact Rep.aE (show Rep H3 (Av c (σ ++ [some (.ref a)]) (δ2 ++ [some (.own d')])) v dr from o3) λb z=>.inl (sub b z)
    | own dr =>
     obtain⟨p,e1,oo,np,f,kq,h8⟩:=o3;have LI:δ2.length=σ.length:=ma;refine⟨p,e1,oo.aE λb z=>.inl ?_,np,f,Ok.vL LI kq vN,?_⟩
     ·rcases z with z | z
      ·exact .inl z
      ·exact .inr (BU b z)
     ·cases eH:H p with
      | none=>rfl
      | some o =>
       obtain⟨o',e'⟩:=pF.there p o eH;rw[h8] at e'; cases e'
theorem LJ (F:bU X.prog X.w X.K X.mg X.base k x n G) (hK:cJ G) (hr:bP k X.A) (hg:Gl X x) (h0:SE X c e f0) (ha:∀ a,SX X (c.plus a) es as) (hl:as.length + 1=n) (eW:(x == ("__debug__" : Str))=false:=by decide)
  (he:We (e :: es) X.env=(false,eval e X.env) :: We es X.env:=by rfl) (cN:(Qg pos (We es X.env)).any (·.1)=false:=by rfl):SE X c (.Call (.Name x pp) (e :: es) [] pos) (nC G f0 as):=by
 obtain⟨f,fd,ps,hm,hk,hb,ok⟩:=F;exact PE.weak (tW ok hr hg hm hk hb .nil uq (dY h0 (t:=λσ H Q=>∃ a,tX (c.plus a) as σ H Q) (λppp pins s σ H Q I ⟨a,q⟩=>ha a ppp pins s σ H Q I q) he) eW he cN) λσ H Q h=>LD hK hl h
end
section
variable {X:Cx} {c:Fc} {e:Expr} {fe:DE} {pos:Pos}
theorem Ok.BV(k:Ok c σ δ H)(e:δ[i]? = some (some (.own (.az ds))))(ea:σ[i]? = some (some (.ref a)))(r:DR H (Av c σ δ) gH bx) :
  aG c σ δ H σ (δ.set i (some (.own (.az bx)))) (upd H a (.dK gH)):=by
 have hi:i < δ.length:=(W5.mp e).1;obtain⟨a',cF,oa,ia,nb⟩:=k.own i _ e;rw[ea] at cF; cases cF
 obtain⟨vs,ha,_⟩:=oa;have kO:Own σ δ a:=⟨i,_,e,ea⟩
 have ph:Av c σ δ a:=.inr kO;have kP:∀ b,Own σ (δ.set i (some (.own (.az bx)))) b ↔ Own σ δ b:=λb=>by
  constructor
  ·rintro ⟨j,d,e1,e2⟩;by_cases hj:i=j
   ·subst hj;exact⟨i,_,e,e2⟩
   ·rw[W9 hj] at e1;exact⟨j,d,e1,e2⟩
  ·rintro ⟨j,d,e1,e2⟩;by_cases hj:i=j
   ·subst hj;exact⟨i,_,by rw[Wp hi],e2⟩
   ·exact⟨j,d,by rw[W9 hj]; exact e1,e2⟩
 have iT:∀ b,Av c σ (δ.set i (some (.own (.az bx)))) b->Av c σ δ b:=λb z=>z.elim .inl λz=>.inr ((kP b).mp z)
 have ne:∀ b,¬ Av c σ δ b->b≠a:=λb n z=>n (by rw[z]; exact ph)
 have kp:∀ b o,H b=some o->¬ Av c σ δ b->upd H a (.dK gH) b=some o:=λb o h n=>by rw[aP (ne b n)]; exact h
 have eB:∀ b o,H b=some o->∃ o',upd H a (.dK gH) b=some o':=λb o h=>by
  by_cases hb:b=a
  ·exact⟨_,by rw[hb]; exact cA⟩
  ·exact⟨o,by rw[aP hb]; exact h⟩
 refine⟨⟨λb o h n=>?_,λb z=>?_,λb z=>?_,by rw[Qp]; exact k.len,λj d h=>?_,λj d h=>?_,λj l b d d' h1 h2 h3 h4=>?_,k.pinned⟩,λb o h n=>?_,λb z=>.inl ((kP b).mp z),eB⟩
 ·have hb:b≠a:=λz=>by
   subst z;rcases ia with z | z
   ·exact n z
   ·rw[z] at h; cases h
  rw[aP hb];exact k.keep b o h n
 ·obtain⟨o,h⟩:=k.bd b z;exact eB b o h
 ·obtain⟨o,h⟩:=k.dh b z;exact eB b o h
 ·have hj:i≠j:=λz=>by subst z; rw[Wp hi] at h; cases h
  rw[W9 hj] at h;obtain⟨v,h1,h2⟩:=k.slot j d h;exact⟨v,h1,(h2.keep kp).aE λb z=>.inl (iT b z)⟩
 ·by_cases hj:i=j
  ·subst hj;rw[Wp hi] at h
   cases h;exact⟨a,ea,(let r':=r.map λv d h=>(Rep.keep h kp).aE λb z=>.inl (iT b z); ⟨gH,cA,r'.keys,r'.vals⟩),ia,nb⟩
  ·rw[W9 hj] at h;obtain⟨b,h1,h2,h3,h4⟩:=k.own j d h;have hb:b≠a:=λz=>by subst z; exact hj (k.inj i j b _ d e h ea h1)
   exact⟨b,h1,(h2.keep kp λo q=>by rw[aP hb]; exact q).aE λb z=>.inl (iT b z),h3,h4⟩
 ·have f1:∃ d,δ[j]? = some (some (.own d)):=by
   by_cases hj:i=j
   ·subst hj; exact⟨_,e⟩
   ·rw[W9 hj] at h1; exact⟨d,h1⟩
  have f2:∃ d,δ[l]? = some (some (.own d)):=by
   by_cases hj:i=l
   ·subst hj; exact⟨_,e⟩
   ·rw[W9 hj] at h2; exact⟨d',h2⟩
  obtain⟨_,f1⟩:=f1;obtain⟨_,f2⟩:=f2;exact k.inj j l b _ _ f1 f2 h3 h4
 ·have hb:b≠a:=λz=>n (by rw[z]; exact kO)
  rw[aP hb]; exact h
def ir(δ:Dl)(i:Nat):Bool:=match δ[i]? with
 | some (some (.own (.az _)))=>true
 | _=>false
def eJ(i:Nat)(fi fe:DE):DS:=λδ=>if ir δ i then(fe δ).bind λr δ1=>if ir δ1 i then(fi δ1).bind λk δ2=>match δ2[i]? with
  | some (some (.own (.az ds)))=>match bJ k.d with
   | some kk=>if ds.length < W8 then .ok .next (δ2.set i (some (.own (.az (putD ds kk r.d))))) else .stuck
   | none=>.stuck
  | _=>.stuck else .stuck else .stuck
theorem BW(h:ir δ i=true):∃ ds,δ[i]? = some (some (.own (.az ds))):=by
 unfold ir at h;split at h
 ·rename_i ds e; exact⟨ds,e⟩
 ·cases h
theorem se{i:Nat}{o ix:Expr}{fi:DE}{sp:Pos}(hu:X.A.units + 64 < WI)(ho:PE X o (de i))(hi:SE X c ix fi)(he:SE X c e fe)
  (hs:J7 e (some (.Subscript o ix sp)) pos.line X.env=pure false:=by rfl):SS X c (.Assign [.Subscript o ix sp] e pos) (eJ i fi fe) :=
 PS.weak (GZ (by omega) ho hi he hs) λD σ H ⟨δ,k,q⟩=>by
  unfold eJ dw at q;split at q
  case isFalse=>exact q.elim
  rename_i h_;rw[aY] at q;refine⟨δ,k,aN q λr δ1 q1 v H1 a1 r1=>?_⟩;split at q1
  case isFalse=>exact q1.elim
  rename_i hown1;obtain⟨ds1,e1⟩:=BW hown1;obtain⟨a,ea,_,_⟩:=a1.ok.own i _ e1;refine⟨.ref a,ea,δ1,a1.ok,?_⟩;rw[aY] at q1;refine aN q1 λkx δ2 q2 u H2 a2 r2=>?_
  split at q2
  ·rename_i ds e2;split at q2
   ·rename_i kk hk;split at q2
    ·rename_i hz;obtain⟨a',cF,oa,_⟩:=a2.ok.own i _ e2;rw[ea] at cF; cases cF
     obtain⟨ws,ha,hk1,hk2⟩:=id oa;have dr:DR H2 (Av c σ δ2) ws ds:=DR.of hk1 hk2;have oU:=nv hk r2.b;subst oU;have hlen:ws.length=ds.length:=by have:=congrArg Qx hk1; simpa using this
     have rv:Rep H2 (Av c σ δ2) v r.d:=Rep.dF r1.rep a2;refine⟨a,_,rfl,oH.k ha (by rw[hlen]; exact hz),?_⟩;exact q2 σ _ (a1.trans (a2.trans (Ok.BV a2.ok e2 ea (dr.put rv))))
    ·exact q2.elim
   ·exact q2.elim
  ·exact q2.elim
end
section
variable {X:Cx} {c:Fc} {o e f:Expr} {fe ff:DE} {i:Nat} {apos bb:Pos}
def sf(δ:Dl)(i:Nat):Bool:=match δ[i]? with
 | some (some s)=>match s.d with
  | .az _=>true
  | _=>false
 | _=>false
theorem LK(k:Ok c σ δ H)(h:sf δ i=true):∃ a ws ds s,δ[i]? = some (some s)/\s.d = .az ds/\σ[i]? = some (some (.ref a))/\H a=some (.dK ws)/\DR H (Av c σ δ) ws ds:=by
 unfold sf at h;split at h
 ·rename_i s e;split at h
  ·rename_i ds hs;obtain⟨v,ev⟩:=qY k e;have rb:=uZ k e ev;rw[hs] at rb;obtain⟨a,ws,rfl,ha,dr⟩:=rY rb;exact⟨a,ws,ds,s,e,hs,ev,ha,dr⟩
  ·cases h
 ·cases h
def pG(i:Nat)(fe:DE):DE:=λδ=>if sf δ i then(fe δ).bind λk δ1=>match δ1[i]? with
  | some (some s)=>match s.d,bJ k.d with
   | .az ds,some kk=>.ok (.pure ((bj ds kk).getD .ay)) δ1
   | _,_=>.stuck
  | _=>.stuck else .stuck
theorem LL (hu:X.A.units + 64 < WI) (ho:PE X o (de i)) (he:SE X c e fe) (hb:QY o "get" X.env (eval o X.env)=eval o X.env:=by rfl)
  (hf:((Qg bb (We [e] X.env)).all (λx=>!x.1) && (backToKw bb (JB [] X.env)).all (λx=>x.1.isSome)
   && decide (([e]:List Expr).length + ([]:List Keyword).length + (if ([]:List Keyword).isEmpty then 0 else 1) < 30))=true:=by rfl) (hl:(apos.endLine == bb.line)=true:=by rfl)
  (ht:Qg bb (We [e] X.env)=[(false,eval e X.env)]:=by rfl):SE X c (.Call (.Attribute o "get" apos) [e] [] bb) (pG i fe) :=
 PE.weak (G9 (by omega) ho he ⟨hb,hf,hl,ht⟩) λσ H Q ⟨δ,k,q⟩=>by
  unfold pG at q;split at q
  case isFalse=>exact q.elim
  rename_i hd;obtain⟨a,ws,ds,s,e1,e2,e3,e4,_⟩:=LK k hd;rw[aY] at q;refine⟨.ref a,e3,a,rfl,.inl ⟨ws,.inl e4⟩,δ,k,aN q λkx δ1 q1 v H1 a1 r1=>?_⟩;split at q1
  ·rename_i s1 es1;split at q1
   ·rename_i ds1 kk hs1 hk;have rb:=uZ a1.ok es1 e3;rw[hs1] at rb;obtain⟨a',ws1,ea,ha1,dr1⟩:=rY rb
    cases ea;have hv:=nv hk r1.b;subst hv;refine⟨_,.inl ⟨ws1,_,.inl ha1,rfl,rfl⟩,?_⟩;rcases dr1.val kk with ⟨z1,z2⟩ | ⟨v,d,z1,z2,z3⟩
    ·rw[z1] at q1; rw[z2]
     exact q1 _ H1 a1 .ay
    ·rw[z1] at q1; rw[z2]
     exact q1 _ H1 a1 z3
   ·exact q1.elim
  ·exact q1.elim
end
def nD:Int:=2 ^ 1000
def BX(_ j:Int):Prop:=0 < j/\j < nD
theorem LM(h0:0 < j)(h1:j < nD):j.natAbs.log2 < 9000:=by
 have e:j.natAbs < 2 ^ 1000:=by
  unfold nD at h1;have:((2 ^ 1000:Nat):Int)=(2:Int) ^ 1000:=by exact_mod_cast rfl
  omega
 have:=(Nat.log2_lt (by omega:j.natAbs≠0)).mpr e;omega
section
variable {X:Cx}
theorem LN:bh X (Qo .FloorDiv) (rI BX λi j=>.int (i / j)):=oz λi j _ _ _ _ _ hc q=>by
 have h1:(0:Int) < j:=hc.1;exact floordiv_int (by omega) (by rw[Int.fdiv_eq_ediv_of_nonneg i (by omega)]; exact q) (.inl (PyProof.noPylong_of_log2 (LM h1 hc.2)))
end
def pH(_ j:Int):Bool:=decide (0 < j) && decide (j < nD)
def vO:=ef pH λi j=>.int (i / j)
theorem LO:cq (rI BX λi j=>V.int (i / j)) vO:=oW (λi j h=>by
 unfold pH at h;simp only[Ws,decide_eq_true_eq] at h;exact h) λ_ _ _ _=>.int _
theorem LP(i j:Int)(h0:0 < j)(h1:j < nD):vO (.int i) (.int j)=some (.pure (.int (i / j))):=by
 show(if pH i j then some (S.pure (.int (i / j))) else none)=_;have:pH i j=true:=by unfold pH; simp only[h0,h1,decide_true,Bool.and_self]
 rw[this]; rfl
end DV
namespace L2
open PySem PySem.Spec PyProof.Rows
theorem LQ{P:Wj}{w:Wm}{K:W2}{tg:Expr}(it:Addr)(lo:Int)(n:Nat):Turn P w K tg (ly lo n) [it] it (λi h=>IsLongIter h it (lo + (i:Nat) * 1) ((n:Int) - (i:Nat)) 1) where
 mem:=by simp
 obj:=λi h st b hb=>by
  have e:b=it:=by simpa using hb
  subst e;exact⟨_,st,λv z=>by
   have z':Data.fields _=Data.cell v:=z
   cases z'⟩
 keep:=λi h h' st k=>k it (by simp) _ st
 item:=by
  intro X hP hw hK hc i pins s σ H E I hf st hg;subst hP hw hK;obtain⟨f0,f1,f2,f3,f4,f5⟩:=hf it (by simp);have W:=Walks.longrange (prog:=X.prog) (w:=X.w) (I.ok.hd hc) it lo 1 n;refine W.item i s _ _ hg st λv h' tk hv df kk=>?_
  obtain⟨t,rfl⟩:=hv;have I1:Inv X pins σ H { s with heap:=h',toks:=tk }:=I.turned (λb o hb e=>kk b o (by simpa using hb) e) f0 f1 f3 f4 f5;refine⟨_,rfl,ox (s:={ s with heap:=h',toks:=tk }) (n:="longrange_iterator") df rfl rfl (by decide) ⟨.int (lo + i),H,I1,⟨t,?_⟩,⟨rfl,rfl⟩,df,λb hb=>(hf b hb).1⟩⟩;rw[Int.mul_one]
 done:=by
  intro X hP hw hK hc i pins s σ H E I hf st hg;subst hP hw hK;obtain⟨f0,f1,f2,f3,f4,f5⟩:=hf it (by simp);exact wpAny_pyNext_long_end (I.ok.hd hc) st (by have:n<=i:=hg; omega) λh' eb=>⟨rfl,I.turned (t':=s.toks) (λb o hb e=>eb b o hb e) f0 f1 f3 f4 f5⟩
 self:=λ_ _ _ _ _ st h=>wpAny_pyIter_longiter st h
section
variable {X:Cx} {tg:Expr}
theorem LR{pins:List (Addr×Obj)}{σ:St}{H:Hp}{s:W1}{R:It->Hp->Prop}{E:Value->W1->Prop}{lo hi:Int}{t u v:Tok}{tk:Nat}(I:Inv X pins σ H s)
  (q:R (ly lo (hi - lo).toNat) H):W6 (model X.prog X.w) X.A (pyIter (.ref s.heap.objs.size)) (tJ X pins σ tg R) E { s with heap:=s.heap.push { cls:=.type "range",data:=.fields #[.int lo t,.int hi u,.int 1 v] },toks:=tk }:=by
 have e1:lo + ((0:Nat):Int) * 1=lo:=by simp
 have e2:(((hi - lo).toNat:Nat):Int) - ((0:Nat):Int)=Builtin.Range.rangeSize lo hi 1:=by rw[rangeSize_one]; split <;> omega
 have I1:Inv X pins σ H { s with heap:=s.heap.push { cls:=.type "range",data:=.fields #[.int lo t,.int hi u,.int 1 v] },toks:=tk }:=I.kept λb o e=>W4 _ e
 have fp:∀ (o':Obj) (b:Addr),b ∈ [(s.heap.push { cls:=.type "range",data:=.fields #[.int lo t,.int hi u,.int 1 v] }).objs.size]->eV X pins H b:=λ_ b hb=>by
  have e:b=(s.heap.push { cls:=.type "range",data:=.fields #[.int lo t,.int hi u,.int 1 v] }).objs.size:=by simpa using hb
  subst e;exact I1.iK (Wb _) (I1.aj.fresh (Wb _))
 by_cases hsm:Builtin.Range.small lo hi 1=true
 ·refine wpAny_pyIter_range (IsRange.new ..) hsm ?_;refine⟨(s.heap.push { cls:=.type "range",data:=.fields #[.int lo t,.int hi u,.int 1 v] }).objs.size,[(s.heap.push { cls:=.type "range",data:=.fields #[.int lo t,.int hi u,.int 1 v] }).objs.size],_,_,H,rfl,
   I1.kept (t':=tk) λb o e=>W4 _ e,y6 _ lo (hi - lo).toNat,?_,fp ⟨.type "range",none,.fields #[],#[]⟩,q⟩
  show IsRangeIter _ _ (lo + ((0:Nat):Int) * 1) ((((hi - lo).toNat:Nat):Int) - ((0:Nat):Int)) 1;rw[e1,e2];exact Wh _ rfl
 ·refine wpAny_pyIter_longrange (IsRange.new ..) (by simpa using hsm) ?_;refine⟨(s.heap.push { cls:=.type "range",data:=.fields #[.int lo t,.int hi u,.int 1 v] }).objs.size,[(s.heap.push { cls:=.type "range",data:=.fields #[.int lo t,.int hi u,.int 1 v] }).objs.size],_,_,H,rfl,
   I1.kept (t':=tk) λb o e=>W4 _ e,LQ _ lo (hi - lo).toNat,?_,fp ⟨.type "range",none,.fields #[],#[]⟩,q⟩
  show IsLongIter _ _ (lo + ((0:Nat):Int) * 1) ((((hi - lo).toNat:Nat):Int) - ((0:Nat):Int)) 1;rw[e1,e2];exact Wh _ rfl
def LS(ta:TA):TI:=λσ H R=>ta σ H λvs H1=>∃ i j:Int,vs=[.int i,.int j]/\R (ly i (j - i).toNat) H1
theorem LU (hg:Gl X "range") (hm:X.mg "range" = none) (ha:PA X [a,b] ta) (hs:We [a,b] X.env=[(false,eval a X.env),(false,eval b X.env)]:=by rfl) (h8:We [b] X.env=[(false,eval b X.env)]:=by rfl) :
  PI X tg (.Call (.Name "range" p) [a,b] [] pos) (LS ta):=by
 intro pins s σ H R I h;refine Call_ (mL I hg hm boot_range (QT (aJ (ha pos pins s σ H _ I h) λus s1 ⟨vs,H1,I1,r1,q1⟩=>?_) (by rw[hs,h8]) (by rw[h8]; rfl)));obtain⟨i,j,e,q⟩:=q1;subst e
 cases r1 with
 | cons r rr =>
  cases rr with
  | cons r' rr =>
   cases rr;obtain⟨t,rfl⟩:=r;obtain⟨t',rfl⟩:=r';exact call_range_2 (LR I1 q)
end
end L2
namespace DV
open PySem PySem.Spec PyProof.Rows L2
variable {X:Cx} {c:Fc} {tg e:Expr} {fe:DE} {pp pos:Pos}
def pI(f g:DE):DI:=λδ=>(f δ).bind λr δ1=>(g δ1).bind λs δ2=>match r,s with
 | .pure (.int i),.pure (.int j)=>.ok (bY i (j - i).toNat) δ2
 | _,_=>.stuck
theorem LV {e2:Expr} {BY:DE} (hg:Gl X "range") (hm:X.mg "range" = none) (he:SE X c e fe) (pD:SE X c e2 BY) (hs:We [e,e2] X.env=[(false,eval e X.env),(false,eval e2 X.env)]:=by rfl) (h8:We [e2] X.env=[(false,eval e2 X.env)]:=by rfl)
  (uA:We [e,e2] X.env=(false,eval e X.env) :: We [e2] X.env:=by rfl):SI X c tg (.Call (.Name "range" pp) [e,e2] [] pos) (pI fe BY) :=
 PI.weak (LU hg hm (dY he (dY pD fV h8) uA) hs h8) λσ H R ⟨δ,k,q⟩=>by
  unfold pI at q;rw[aY] at q;refine⟨δ,k,aN q λr δ1 q1 v H1 a1 r1=>⟨δ1,a1.ok,?_⟩⟩;rw[aY] at q1;refine aN q1 λr2 δ2 q2 v2 H2 a2 LW=>?_
  cases r with
  | own d=>exact q2.elim
  | pure d =>
   cases d <;> first | exact q2.elim | skip
   rename_i i
   cases r1
   cases r2 with
   | own d=>exact q2.elim
   | pure d =>
    cases d <;> first | exact q2.elim | skip
    rename_i j
    cases LW;exact⟨i,j,rfl,q2 _ H2 (a1.trans a2) (A4 i (j - i).toNat)⟩
section
variable {X:Cx}
end
theorem oJ:∀ {ns:List Int} {us:List Value},Vals (ns.map V.int) us->∃ ys:List (Int×Tok),us=(ys.map λp=>Value.int p.1 p.2)/\ns=ys.map (·.1)
 | [],us,r=>by cases r; exact⟨[],rfl,rfl⟩
 | n :: ns,us,r=>by
  cases r with
  | cons r1 r2 =>
   obtain⟨ys,e1,e2⟩:=oJ r2;obtain⟨t,rfl⟩:=r1;exact⟨(n,t) :: ys,by rw[e1]; rfl,by rw[e2]; rfl⟩
section
variable {X:Cx}
end
section
variable {X:Cx} {c:Fc} {e:Expr} {fb:BE} {pos pp:Pos}
end
end DV
namespace L2
open PySem PySem.Spec PyProof.Rows
section
variable {prog:Wj} {w:Wm} {A:Wn} {E:Value->W1->Prop} {s:W1}
end
section
variable {X:Cx} {pos:Pos}
end
end L2
namespace DV
open PySem PySem.Spec PyProof.Rows L2
section
variable {X:Cx} {c:Fc} {pos:Pos}
end
open PySem PySem.Builtin PySem.Builtin.Str PySem.StrLaws
section
variable {X:Cx}
end
section
variable {X:Cx} {c:Fc} {e:Expr} {fb:BE}
end
end DV
set_option maxHeartbeats 1000000
namespace PySem
open Sem (wp)
open AutoSeq1 (wpAny_loadPart')
section
variable {prog:Wj} {w:Wm} {A:Wn} {E:Value->W1->Prop} {s:W1}
end
end PySem
namespace PyProof.Rows
open PySem
section
variable {M:Model} {A:Wn} {E:Value->W1->Prop} {s:W1} {env:Env}
end
end PyProof.Rows
set_option maxHeartbeats 400000
namespace L2
open PySem PySem.Spec PyProof.Rows
end L2
namespace DV
open PySem PySem.Spec PyProof.Rows L2
section
variable {X:Cx} {c:Fc} {tg e:Expr} {fe:DE} {pos pp:Pos}
end
end DV
namespace L2
open PySem PySem.Spec PyProof.Rows
structure R9(h h':Heap)(fs:List Addr)(a T:Addr)(old:Value):Prop where
 new:h.get? T=none
 keep:∀ b o,h.get? b=some o->b≠a->old≠.ref b->b ∉ fs->h'.get? b=some o
 frame:∀ b o,h.get? b=some o->(∀ vs,o.data≠.fields vs)->∃ sl,h'.get? b=some { o with slots:=sl }
section
variable {M:Model} {A:Wn} {E:Value->W1->Prop} {s:W1}
end
abbrev LX:List Value:=[.type "ValueError",.type "Exception",.type "BaseException",.type "object"]
section
variable {X:Cx} {x:Str} {C:Addr} {np bb pos:Pos}
end
section
variable {X:Cx} {pins:List (Addr×Obj)} {σ:St} {H:Hp} {s:W1} {h':Heap}
end
structure Apart(X:Cx)(pins:List (Addr×Obj))(H:Hp)(b:Addr):Prop where
 old:X.s₀.heap.get? b=none
 free:H b=none
 loc:b≠X.env.locals
 mS:∀ x c,X.env.cells.lookup x=some c->c≠b
 pin:∀ p ∈ X.pn ++ pins,p.1≠b
section
variable {X:Cx} {pins:List (Addr×Obj)} {σ:St} {H:Hp} {s:W1} {h':Heap} {a T:Addr}
end
section
variable {prog:Wj} {w:Wm} {A:Wn} {E:Value->W1->Prop} {K:W2}
end
section
variable {X:Cx} {pins ps:List (Addr×Obj)} {σ:St} {H:Hp} {s:W1} {a:Addr} {xe:Value->W1->Prop} {pn:List (Addr×Obj)}
section
variable {M:Model} {E:Value->W1->Prop} {C L:Addr} {dx:Option Addr} {Q:Unit->W1->Prop}
end
end
section
variable {X:Cx} {pins:List (Addr×Obj)} {σ:St} {H:Hp} {s:W1} {b:Addr}
end
section
variable {X:Cx} {k:Nat} {f:Addr} {fd:WQ} {ps:List Str} {sp:Sp} {x:Str} {p pos:Pos} {e:Expr} {es:List Expr} {t:TA} {W:Addr->Option Addr->St->Hp->Prop}
end
section
variable {P:Wj} {w:Wm} {K:W2} {mg:Str->Option Value} {base:Heap} {N:List Str} {qual:Str} {scope:Scope} {f:Addr} {cd:Value} {A:Wn} {outer:List Env} {s₀:W1} {H₀:Hp} {E:XK}
end
def Cx.loop(X:Cx):Cx:={ X with xe:=notedBy (model X.prog X.w) X.A X.env (cameBackBy (model X.prog X.w) X.A X.env X.xe) }
section
variable {X:Cx} {pins ps:List (Addr×Obj)} {σ:St} {H:Hp} {s:W1}
end
end L2
namespace DV
open PySem PySem.Spec PyProof.Rows L2
section
variable {c:Fc} {σ σ':St} {δ δ':Dl} {H H':Hp} {g:Xc->Dl->Prop}
end
abbrev DX:=List S->Option ((S×List S) ⊕ (Xc×List S))
section
variable {P:Wj} {w:Wm} {K:W2} {mg:Str->Option Value} {base:Heap}
end
section
variable {X:Cx} {c:Fc} {e:Expr} {es:List Expr} {as:List Ak} {k n:Nat} {x:Str} {G:DX} {pp pos:Pos}
end
def unset(i:Nat):Rs Fl->Rs Fl
 | .ok fl δ=>.ok fl (δ.set i none)
 | r=>r
section
variable {c:Fc} {σ σ':St} {δ δ':Dl} {H H':Hp}
end
section
variable {c:Fc} {σ σ':St} {δ δ':Dl} {H H':Hp} {B':Addr->Prop} {g:Xc->Dl->Prop}
end
end DV
namespace L2
open PySem PySem.Spec PyProof.Rows PySem.W Builtin Builtin.ObjectAttr Builtin.Getset_descriptor
section
variable {prog:Wj} {w:Wm} {A:Wn} {E:Value->W1->Prop} {K:W2} {C e:Addr} {oe:Obj} {h:Heap} {g:Array GenState} {d:Drawn} {t:Nat} {os:OsState}
structure BZ(K:W2)(C:Addr):Prop where
 ga:findIn K (.ref C) "__getattribute__" = some (some (.builtin "BaseException.__getattribute__"))
 gt:findIn K (.ref C) "__getattr__" = some none
 cl:findIn K (.ref C) "__class__" = some (some (.builtin "object.__class__"))
 sp:specialIn K (.builtin "object.__class__") "__get__" = some (some (.builtin "getset_descriptor.__get__"))
 tk:takesIn K (.builtin "object.__class__")=some true
 mo:mroIn K C (.type "object")=some true
 mb:mroIn K C (.type "BaseException")=some true
end
section
variable {X:Cx} {y:Str} {D:Addr} {pos:Pos}
structure IsT(K:W2)(ce:DV.Tx->Nat)(ys:List DV.Tx)(cv:Value)(tab:DV.Tx->Bool):Prop where
 k:∀ z ∈ ys,BZ K (ce z)
 c:∀ z ∈ ys,(PySem.W.clsIn K (ce z)).isSome=true
 one:∀ z ∈ ys,QB K (.ref (ce z)) cv=some (tab z)
end
structure LY(k:Nat)(A:Wn):Prop where
 dp:A.depth + 3 * k + 5 < recursionLimit
 un:A.units + 16 * k + 200 < WI
structure R_(P:Wj)(w:Wm)(K:W2)(mg:Str->Option Value)(base:Heap)(k:Nat)(f:Addr)(fd:WQ)(ps:List Str)(sp:Sp):Prop where
 len:∀ vs H Q E,sp vs H Q E->vs.length=ps.length
 run:∀ (A:Wn) (outer:List Env) (s:W1) (H:Hp) (args:Args) (us:List Value) (vs:List V) (Q:VK),LY k A->lC P w K mg base A outer s H->BindsTo s fd args (ps.zip us)->Vals vs us->sp vs H Q E0 ->
  Qi (model P w) A (.call (.ref f) args) (CR cG outer P w H s Q E0) s
section
variable {P:Wj} {w:Wm} {K:W2} {mg:Str->Option Value} {base:Heap} {k:Nat} {f:Addr}
end
section
variable {X:Cx} {k:Nat} {f:Addr} {fd:WQ} {ps:List Str} {sp:Sp} {x:Str} {p pos:Pos} {e:Expr} {es:List Expr} {t:TA}
end
end L2
namespace DV
open PySem PySem.Spec PyProof.Rows L2
section
variable {X:Cx} {c:Fc} {e:Expr} {fb:BE} {pp py pos:Pos} {y:Str} {ce:Tx->Nat} {ys:List Tx} {tab:Tx->Bool}
end
section
variable {P:Wj} {w:Wm} {K:W2} {mg:Str->Option Value} {base:Heap}
end
section
variable {X:Cx} {c:Fc} {e:Expr} {es:List Expr} {as:List Ak} {k n:Nat} {x:Str} {G:DF} {pp pos:Pos}
end
end DV
namespace L2
open PySem PySem.Spec PyProof.Rows PySem.SeqAt
section
variable {X:Cx}
end
end L2
namespace DV
open PySem PySem.Spec PyProof.Rows L2
section
variable {X:Cx} {c:Fc} {e:Expr} {fb:BE}
end
end DV
namespace L2
open PySem PySem.Spec PyProof.Rows
section
variable {X:Cx}
end
end L2
namespace DV
open PySem PySem.Spec PyProof.Rows L2
end DV
namespace PySem
open Sem (wp)
structure ZA(z TI TO i1 i2:Addr)(f1 f2:List Addr):Prop where
 m1:i1 ∈ f1
 m2:i2 ∈ f2
 z1:z ∉ f1
 z2:z ∉ f2
 t1:TO ∉ f1
 t2:TO ∉ f2
 k1:i1 ∉ f2
 k2:i2 ∉ f1
 tz:TO≠z
 iz:TI≠z
 io:TI≠TO
 n1:TI≠i1
 n2:TI≠i2
section
variable {prog:Wj} {w:Wm} {A:Wn} {E:Value->W1->Prop} {s:W1}
end
def bR (b:Bool) (a:Addr):Obj:={ cls:=.type (match b with | true=>"list_iterator" | false=>"tuple_iterator"),data:=.fields #[.ref a,.int 0 0] }
end PySem
namespace L2
open PySem PySem.Spec PyProof.Rows
section
variable {X:Cx} {pins:List (Addr×Obj)} {σ:St} {H:Hp} {s:W1} {h':Heap}
theorem Inv.LZ(fp:List Addr)(I:Inv X pins σ H s)(hf:∀ b ∈ fp,eV X pins H b)(aQ:∀ b ∈ fp,b < s.heap.objs.size)(ru:RelV x u)(rv:RelV y v)
  (hT:h'.get? s.heap.objs.size=some { cls:=.type "tuple",data:=.seq #[u,v] }) (k:∀ b o,b ∉ fp->s.heap.get? b=some o->h'.get? b=some o) :
  Inv X pins σ (upd H s.heap.objs.size (.tup [x,y])) { s with heap:=h',toks:=t' }:=by
 have I1:Inv X pins σ (upd H s.heap.objs.size (.tup [x,y])) { s with heap:=s.heap.push { cls:=.type "tuple",data:=.seq #[u,v] },toks:=t' } :=
  I.laid (t':=t') (λb o e=>W4 _ e) (Wb _) (show bw X.prog X.w _ _ _ (.tup [x,y]) from
   ⟨by simp only[WO,JE]; rw[QF]; decide,[u,v],.cons ru (.cons rv .nil),gx.new _ _⟩)
 have:=Inv.vF (t':=t') (h':=h') fp I1 (λb o hb eb=>?_) λb hb=>?_
 ·exact this
 ·rcases Heap.get?_push_cases eb with ⟨z,z'⟩ | eb
  ·subst z z'; exact hT
  ·exact k b o hb eb
 ·obtain⟨f0,r⟩:=hf b hb;exact⟨by rw[aP (Wr (aQ b hb))]; exact f0,r⟩
end
end L2
namespace DV
open PySem PySem.Spec PyProof.Rows L2
section
variable {X:Cx} {c:Fc} {tg e:Expr} {fe:DE} {pos pp:Pos}
theorem ax.two(r:Rep H O u x)(r':Rep H O v y):ax H O [u,v] [x,y]:=by
 refine⟨rfl,λj v' d' e1 e2=>?_⟩;match j with
 | 0=>simp at e1 e2; subst e1 e2; exact r
 | 1=>simp at e1 e2; subst e1 e2; exact r'
 | j + 2=>simp at e1
end
section
variable {X:Cx} {c:Fc} {e:Expr} {es:List Expr} {as:List Ak} {k n:Nat} {x:Str} {G:DX} {pp pos:Pos}
end
end DV
namespace PySem
open Sem (wp)
section
variable {prog:Wj} {w:Wm} {A:Wn} {E:Value->W1->Prop} {hp:Heap} {g:Array GenState} {d:Drawn} {t:Nat} {os:OsState}
variable {nm qn:Str} {C N:Addr} {bs bm Sa:List Value} {Sb:Bool} {sn:List Str} {sub:List Value} {ab:Bool} {col:Option Bool} {dd:Option Addr} {k0 k1 k2 k3 k5:Option Value} {B newId Sd:String}
end
end PySem
namespace L2
open PySem PySem.Spec PyProof.Rows PySem.W PySem.Builtin PySem.Builtin.ObjectAttr
def B0:List Value->Bool
 | .ref _ :: r=>B0 r
 | l=>l == LX
def L3(K:W2)(C:Addr):Bool:=(clsIn K C).any λcd=>B0 cd.mro
section
variable {prog:Wj} {w:Wm} {A:Wn} {E:Value->W1->Prop} {s:W1} {K:W2} {x C:Addr} {name:Str} {v:Value} {R:Result->W1->Prop}
end
section
variable {P:Wj} {w:Wm} {H:Hp} {h:Heap} {C a:Addr}
end
structure Se(K:W2)(C:Addr)(f:Str):Prop where
 set:findIn K (.ref C) "__setattr__" = some (some (.builtin "object.__setattr__"))
 over:L3 K C=true
 hd:hasDictIn K C=true
 tk:takerIn K C f=some none
section
variable {X:Cx} {o value:Expr} {f:Str} {ta tv:TE} {pos pos':Pos}
end
section
variable {X:Cx} {k:Nat} {f C:Addr} {fd:WQ} {ps:List Str} {sp:Sp} {x:Str} {p pos:Pos} {e:Expr} {es:List Expr} {t:TA}
end
section
variable {P:Wj} {w:Wm} {K:W2} {mg:Str->Option Value} {base:Heap} {x qual f1 f2:Str} {st:Stmt} {f:Addr} {fd:WQ} {N ps:List Str} {k:Nat}
end
section
variable {X:Cx} {C f:Addr} {call:Expr} {te:TE} {pos:Pos}
end
end L2
namespace DV
open PySem PySem.Spec PyProof.Rows L2 PySem.W
section
variable {X:Cx} {c:Fc} {e:Expr} {fb:BE}
end
end DV
namespace L2
open PySem PySem.Spec PyProof.Rows
section
variable {X:Cx} {tg:Expr}
end
end L2
namespace DV
open PySem PySem.Spec PyProof.Rows L2
section
variable {X:Cx} {c:Fc} {tg e:Expr} {fe:DE} {pos pp:Pos}
end
end DV
namespace PySem.SeqAt
open AutoSeq1 (wpAny_loadPart')
open MeetsSeq
section
variable {A:Wn} {s:W1}
end
end PySem.SeqAt
namespace DV
open PySem PySem.Spec PyProof.Rows L2
end DV
namespace PySem.SeqAt
open AutoSeq1 (wpAny_loadPart')
open MeetsSeq
abbrev prO (dd:Option Addr) (a1 a2:Int) (t1 t2:Tok) (n:Nat) (sl:Array (Option Value)):Obj:={ cls:=.type "tuple",dict:=dd,data:=.seq #[.int a1 t1,.int a2 t2] n,slots:=sl }
def ltP(a1 a2 b1 b2:Int):Bool:=if a1 == b1 then decide (a2 < b2) else decide (a1 < b1)
theorem z9j(l b:Addr)(a1 a2 b1 b2:Int)(t1 t2 u1 u2:Tok)(n n2:Nat)(dd lD:Option Addr)(sl kA:Array (Option Value)) :
  Meets (Builtin.«tuple.__lt__» ⟨[.ref l,.ref b],[]⟩)
   (λ_ R s=>s.heap.get? l=some (prO dd a1 a2 t1 t2 n sl)/\s.heap.get? b=some (prO lD b1 b2 u1 u2 n2 kA)/\R (.ok (.ret (.bool (ltP a1 a2 b1 b2)))) s) :=
 .of_wp λprog w A R s h=>by
  obtain⟨hp,g,d,tk,os⟩:=s; obtain⟨hl,hb,h⟩:=h
  have f2:=AutoSeq1.sub_tuple_tuple;wp_walk using Qf hl,Qf hb,wpAny_forIn_list _ (λrest c s'=>c.1=none/\s' = ⟨hp,g,d,tk,os⟩ /\
   (rest=[(.int a1 t1,.int b1 u1),(.int a2 t2,.int b2 u2)]\/(rest=[(.int a2 t2,.int b2 u2)]/\a1=b1)\/(rest=[]/\a1=b1/\a2=b2))) _
  case turn =>
   rintro ⟨y,x⟩ rest c s' ⟨hc,rfl,hz⟩;rcases hz with hz | ⟨hz,e1⟩ | ⟨hz,_⟩
   ·injection hz with hyx hrest
    cases hyx;refine W0 (EqAt.int_int a1 t1 b1 u1 prog w _ _ ?_);by_cases e:a1=b1
    ·rw[show(a1 == b1)=true by simp[e]];wp_walk
     exact⟨rfl,rfl,.inr (.inl ⟨hrest,e⟩)⟩
    ·rw[show(a1 == b1)=false by simp[e]];have aQ:ltP a1 a2 b1 b2=decide (a1 < b1):=by simp[ltP,e]
     rw[aQ] at h;simp only[Bool.not_false,if_true];refine W0 (Qz ?_);refine W0 (richCompare_gives (op:=.Lt) (JQ _ _ t1) (JQ _ _ u1) F.slot_int_lt F.entry_int_lt (F.args_int_lt_2 _ _) (gives_int_lt _ _ t1 u1) (λx=>nomatch x) ?_);refine W0 (W3 ?_);exact W3 (W3 ⟨_,rfl,h⟩)
   ·injection hz with hyx hrest
    cases hyx;refine W0 (EqAt.int_int a2 t2 b2 u2 prog w _ _ ?_);by_cases e:a2=b2
    ·rw[show(a2 == b2)=true by simp[e]];wp_walk
     exact⟨rfl,rfl,.inr (.inr ⟨hrest,e1,e⟩)⟩
    ·rw[show(a2 == b2)=false by simp[e]];have aQ:ltP a1 a2 b1 b2=decide (a2 < b2):=by simp[ltP,e1]
     rw[aQ] at h;simp only[Bool.not_false,if_true];refine W0 (Qz ?_);refine W0 (richCompare_gives (op:=.Lt) (JQ _ _ t2) (JQ _ _ u2) F.slot_int_lt F.entry_int_lt (F.args_int_lt_2 _ _) (gives_int_lt _ _ t2 u2) (λx=>nomatch x) ?_);refine W0 (W3 ?_);exact W3 (W3 ⟨_,rfl,h⟩)
   ·cases hz
  case fin =>
   rintro ⟨c1,c2⟩ s' ⟨hc,rfl,hz⟩;simp only at hc;subst hc;rcases hz with hz | ⟨hz,e1⟩ | ⟨_,e1,e2⟩
   ·cases hz
   ·cases hz
   ·have aQ:ltP a1 a2 b1 b2=false:=by simp[ltP,e1,e2]
    rw[aQ] at h;wp_walk
    exact⟨_,rfl,h⟩
  case h=>exact⟨rfl,rfl,.inl rfl⟩
end PySem.SeqAt
namespace PySem
open SeqAt (prO ltP z9j)
section
variable {prog:Wj} {w:Wm} {A:Wn} {R:Result->W1->Prop} {I:Addr} {fp wr:List Addr} {n:Nat} {P:Nat->Value->Prop} {St:Nat->Heap->Prop}
end
section
variable {prog:Wj} {w:Wm} {A:Wn} {E:Value->W1->Prop} {s:W1}
end
end PySem
namespace DV
open PySem PySem.Spec PyProof.Rows L2
open PySem.SeqAt (prO ltP)
section
variable {X:Cx} {c:Fc} {e:Expr} {fb:BE} {pos pp:Pos}
end
def md(fk fv:DE):DE:=λδ=>(fk δ).bind λr δ1=>(fv δ1).bind λs δ2=>match r,s with
 | .pure dk,.pure d=>match bJ dk with
  | some kk=>.ok (.own (.az [(kk,d)])) δ2
  | none=>.stuck
 | _,_=>.stuck
section
variable {c:Fc} {σ:St} {δ δ':Dl} {H H':Hp} {p:Addr}
theorem Ok.L4(k:Ok (c.plus p) σ δ H)(h0:c.H₀ p=none)(o:HO):Ok (c.plus p) σ δ (upd H p o):=by
 have rL:∀ b w,H b=some w->¬ Av (c.plus p) σ δ b->upd H p o b=some w:=λb w e n=>by
  rw[aP (λz:b=p=>n (.inl (.inr z)))]; exact e
 have ex:∀ b,(∃ w,H b=some w)->∃ w,upd H p o b=some w:=λb ⟨w,e⟩=>by
  by_cases z:b=p
  ·rw[z]; exact⟨o,cA⟩
  ·rw[aP z]; exact⟨w,e⟩
 refine⟨λa w e n=>?_,λa z=>ex a (k.bd a z),λa z=>ex a (k.dh a z),k.len,λi d e=>?_,λi d e=>?_,k.inj,k.pinned⟩
 ·rw[aP (λz:a=p=>by have e':c.H₀ a=some w:=e; rw[z,h0] at e'; cases e')];exact k.keep a w e n
 ·obtain⟨v,e1,r⟩:=k.slot i d e;exact⟨v,e1,r.keep rL⟩
 ·obtain⟨a,e1,oa,h1,h2⟩:=k.own i d e;exact⟨a,e1,oa.keep rL (λw e=>by rw[aP (λz:a=p=>h2 (.inr z))]; exact e),h1,h2⟩
theorem B1(h:post c r k)(m:∀ a δ,k a δ->k' a δ):post (c.plus p) r k':=by
 cases r with
 | ok a δ=>exact m a δ h
 | exc x δ=>exact h
 | stuck=>exact h
end
theorem B2{X:Cx}{c:Fc}{k v:Expr}{fk fv:DE}{pos:Pos}(hk:∀ c',SE X c' k fk)(hv:∀ c',SE X c' v fv):SE X c (.Dict [some k] [v] pos) (md fk fv):=by
 have PK:PE X k (λσ H Q=>∃ c',tD c' fk σ H Q):=λpins s σ H Q I ⟨c',h⟩=>hk c' pins s σ H Q I h
 have PV:PE X v (λσ H Q=>∃ c',tD c' fv σ H Q):=λpins s σ H Q I ⟨c',h⟩=>hv c' pins s σ H Q I h
 refine PE.weak (G5 (G3 PK PV G2) rfl rfl (by simp) (by simp)) λσ H Q ⟨δ,kk,q⟩=>?_
 intro p hp;show ∃ c',tD c' fk σ (upd H p (.dK [])) λx H1=>∃ c',tD c' fv σ H1 λy H2=>H2 p=some (.dK [])/\∃ kvs:List (Key×V),[(x,y)]=kvs.map (λkv=>(kV kv.1,kv.2))/\kvs.length<=15/\Q (.ref p) (upd H2 p (.dK (lG [] kvs)))
 unfold md at q;rw[aY] at q;refine⟨c.plus p,δ,kk.plus hp _,B1 q λr δ1 q1 x H1 a1 rx=>?_⟩;rw[aY] at q1;refine⟨c.plus p,δ1,a1.ok,B1 q1 λs δ2 q2 y H2 a2 ry=>?_⟩;have A:=a1.trans a2;have h0:=kk.lN hp;have nb:¬ c.B p:=λz=>kk.iQ hp (.inl z)
 have L5:H2 p=some (.dK []):=A.keep p _ cA λz=>kk.iQ hp (.inr z)
 cases r with
 | own d=>exact q2.elim
 | pure dk =>
  cases s with
  | own d=>exact q2.elim
  | pure d =>
   cases hkd:bJ dk with
   | none=>simp only[hkd] at q2; exact q2.elim
   | some kd =>
    simp only[hkd] at q2;have ex:x=kV (ck kd):=nv hkd (.inl rx);refine⟨L5,[(ck kd,y)],by rw[ex]; rfl,by simp,?_⟩;have em:lG [] [(ck kd,y)]=[(ck kd,y)]:=rfl;rw[em];have B3:=A.ok.L4 h0 (.dK [(ck kd,y)]);have ne:∀ {a w},H a=some w->a≠p:=λe z=>by rw[z,hp] at e; cases e
    refine q2 (.ref p) _ ⟨B3.less,λa w e n=>?_,λa z=>?_,λa w e=>?_⟩ ⟨p,rfl,⟨[(ck kd,y)],cA,rfl,λi u t e1 e2=>?_⟩,nb,h0,B3,hp⟩
    ·rw[aP (ne e)];exact A.keep a w (by rw[aP (ne e)]; exact e) n
    ·by_cases zp:a=p
     ·rw[zp]; exact .inr hp
     ·rcases A.own a z with z | z
      ·exact .inl z
      ·rw[aP zp] at z; exact .inr z
    ·obtain⟨w',e'⟩:=A.there a w (by rw[aP (ne e)]; exact e);exact⟨w',by rw[aP (ne e)]; exact e'⟩
    ·match i with
     | 0 =>
      cases e1
      cases e2;exact Rep.keep (show Rep H2 (Av (c.plus p) σ δ2) y d from ry) λb w e n=>by rw[aP (λz:b=p=>n (.inl (.inr z)))]; exact e
     | i + 1=>cases e1
end DV
namespace L2
open PySem PySem.Spec PyProof.Rows
end L2
namespace DV
open PySem PySem.Spec PyProof.Rows L2
section
variable {X:Cx} {c:Fc} {tg e:Expr} {fe:DE} {pos pp:Pos}
end
section
variable {K:W2} {h:Heap} {mg:Str->Option Value} {x q:Str} {st:Stmt} {f:Addr} {fd:WQ}
abbrev dW(K:W2)(x:Str)(st:Stmt):Prop:=∃ (f:Addr) (oc:Value) (od:Option Addr) (kV dc pm:Value) (an:Option Addr) (cd ct:Value) (sl:Array (Option Value)),
 PySem.W.nsIn K Wt x=some (some (.ref f))/\K.lookup f=some ⟨oc,od,.func (Q4 x x (fX st) (du st) (aV st) .none kV dc pm an cd ct),sl⟩/\PySem.W.codeIn K cd x=true/\QA K (.ref f)=true
theorem ei(X:K.In h)(G:h.Ns Wt mg)(d:dW K x st):∃ f fd,bM K x x st f fd/\mg x=some (.ref f):=by
 obtain⟨f,oc,od,kV,dc,pm,an,cd,ct,sl,a,l,c,k⟩:=d;exact⟨f,_,ur l c k,PySem.W.mg_of X G a⟩
abbrev Bd(x q:Str)(st:Stmt)(ps:List Str)(us:List Value):Prop:=∀ (kV doc pm:Value) (an:Option Addr) (aB ct:Value),bindArgs (Q4 x q (fX st) (du st) (aV st) .none kV doc pm an aB ct) ⟨us,[]⟩=pure (ps.zip us)
variable {p1 p2 p3 p4 p5 p6:Str}
theorem jZ(F:bM K x q st f fd)(h:∀ a,Bd x q st [p1] [a]):Binds K fd [p1] []:=F.binds λ_ _ _ _ _ _ us hl=>match us,hl with
 | [a],_=>h a _ _ _ _ _ _
theorem jt(F:bM K x q st f fd)(h:∀ a b,Bd x q st [p1,p2] [a,b]):Binds K fd [p1,p2] []:=F.binds λ_ _ _ _ _ _ us hl=>match us,hl with
 | [a,b],_=>h a b _ _ _ _ _ _
theorem L6(F:bM K x q st f fd)(h:∀ a b c d,Bd x q st [p1,p2,p3,p4] [a,b,c,d]):Binds K fd [p1,p2,p3,p4] []:=F.binds λ_ _ _ _ _ _ us hl=>match us,hl with
 | [a,b,c,d],_=>h a b c d _ _ _ _ _ _
end
theorem L7{α:Type}{P:α->Prop}{a:α}(x:P a):∀ z ∈ [a],P z:=λ_ h=>by cases h with | head=>exact x | tail _ h=>cases h
end DV
namespace L2
open PySem PySem.Spec PyProof.Rows
section
variable {X:Cx} {tg:Expr}
end
section
variable {X:Cx} {e:Expr} {ta:TE} {f:Str} {pos:Pos}
structure Sf(K:W2)(ce:DV.Tx->Nat)(ys:List DV.Tx)(f:Str):Prop where
 k:∀ z ∈ ys,BZ K (ce z)
 no:∀ z ∈ ys,Jt K (.ref (ce z)) f=some none
 hd:∀ z ∈ ys,PySem.W.hasDictIn K (ce z)=true
end
end L2
namespace DV
open PySem PySem.Spec PyProof.Rows L2
section
variable {X:Cx} {c:Fc} {tg e:Expr} {fe:DE} {pos pp:Pos}
end
end DV
namespace L2
open PySem PySem.Spec PyProof.Rows
section
variable {X:Cx}
end
end L2
namespace DV
open PySem PySem.Spec PyProof.Rows L2
end DV
namespace L2
open PySem PySem.Spec PyProof.Rows PySem.SeqAt DV
section
variable {X:Cx}
end
end L2
namespace DV
open PySem PySem.Spec PyProof.Rows L2
section
variable {X:Cx} {c:Fc} {o e:Expr} {fa fb:DE}
end
end DV
namespace L2
open PySem PySem.Spec PyProof.Rows PySem.W DV
section
variable {α β:Type} {n:Nat}
end
section
variable {n:Nat} {p:Array Nat}
end
structure Sg(h:Heap)(vs:List Value)(ks:List Tx):Prop where
 len:ks.length=vs.length
 at':∀ i v,vs[i]? = some v->∃ b o xs m t,v = .ref b/\h.get? b=some o/\o.cls = .type "tuple"/\o.data = .seq xs m/\xs[0]? = some (.str (toS (ks.getD i [])) t)
section
variable {prog:Wj} {w:Wm} {A:Wn} {E:Value->W1->Prop} {s:W1} {vs:List Value} {ks:List Tx}
end
section
variable {X:Cx}
end
end L2
namespace DV
open PySem PySem.Spec PyProof.Rows L2
section
variable {X:Cx} {c:Fc} {e:Expr} {fb:BE} {pp pos:Pos}
end
section
variable {X:Cx} {c:Fc} {e:Expr} {fe:DE} {fb:BE} {pos:Pos}
end
section
variable {X:Cx}
end
section
variable {X:Cx} {c:Fc} {e:Expr} {fb:BE}
end
def nz:D->Bool
 | .ay=>true
 | .int _=>true
 | _=>false
section
variable {X:Cx} {c:Fc} {e:Expr} {fe:DE}
end
section
variable {H H':Hp} {O:Addr->Prop} {v:V} {a:Addr} {us:List V}
end
section
variable {c:Fc} {σ:St} {δ δ1:Dl} {H H1:Hp} {i:Nat} {ds:List D} {g:Xc->Dl->Prop}
end
section
variable {X:Cx} {c:Fc} {e:Expr} {es:List Expr} {as:List Ak} {k n i:Nat} {x:Str} {G:DX} {pp pos:Pos}
end
section
variable {c:Fc} {σ σ':St} {δ δ':Dl} {H H':Hp} {B':Addr->Prop} {g:Xc->Dl->Prop} {i0:Nat} {a:Addr} {ds:List D}
end
end DV
namespace L2
open PySem PySem.Spec PyProof.Rows PySem.W DV
section
variable {prog:Wj} {w:Wm} {A:Wn} {E:Value->W1->Prop} {s:W1} {vs:List Value}
end
section
variable {lt:Nat->Nat->Bool} {r:Nat->Nat} {n:Nat} {α β:Type}
structure Lt(lt:Nat->Nat->Bool)(r:Nat->Nat)(n:Nat):Prop where
 lt:∀ i j,i < n->j < n->lt i j=decide (r i < r j)
 inj:∀ i j,i < n->j < n->i≠j->r i≠r j
end
end L2
namespace DV
open PySem PySem.Spec PyProof.Rows L2
section
variable {X:Cx} {c:Fc} {e:Expr} {fb:BE} {pp pos:Pos}
end
end DV
set_option maxHeartbeats 1000000
namespace SU
open PySem PyProof.Rows
def bt (w:Wm):Bool:=w.params.followText "set-order"
def gW(prog:Wj)(w:Wm)(x:Str×Tok):Int×Value:=((strKind prog w).hash x.1,.str x.1 x.2)
structure cC(prog:Wj)(w:Wm)(h:Heap)(a:Addr)(ks:List Str)(o:Obj)(es:Array (Int×Value))(ep:Nat)(t:SetTable)(xs:List (Str×Tok)):Prop where
 g:h.get? a=some o
 ex:o.ExactSet
 d:o.data = .set es ep t
 e:es.toList=xs.map (gW prog w)
 p:(xs.map (·.1)).Perm ks
 nd:ks.Nodup
 f:t.fits es.size=true
 b:es.size < JN
 l:bt w=false->t.led=true
 q:t.plain=true->ks=[]
def dX(prog:Wj)(w:Wm)(h:Heap)(a:Addr)(ks:List Str):Prop:=∃ o es ep t xs,cC prog w h a ks o es ep t xs
def dd(σ:List Str)(v:Str):List Str:=if v ∈ σ then σ else σ ++ [v]
def fm(val:Nat->Str)(i:Nat):List Str:=((Wu i).map val).foldl dd []
theorem B4(val:Nat->Str)(i:Nat):fm val (i + 1)=dd (fm val i) (val i):=by
 unfold fm;simp[JH,List.foldl_append]
theorem L8(v:Str)(h:σ.Nodup):(dd σ v).Nodup:=by
 unfold dd;split
 ·exact h
 ·rename_i hv;exact Jq.mpr ⟨h,by simp,λx hx y hy e=>hv (by simp at hy; rw[<- hy,<- e]; exact hx)⟩
theorem L9(σ:List Str)(v:Str):(dd σ v).length<=σ.length + 1:=by
 unfold dd;split
 ·omega
 ·simp
theorem B5(val:Nat->Str):∀ i,(fm val i).length<=i
 | 0=>Wb _
 | i + 1=>by
  rw[B4];have:=B5 val i;have:=L9 (fm val i) (val i);omega
section
variable {prog:Wj} {w:Wm} {A:Wn} {E:Value->W1->Prop} {s:W1}
theorem B6(h:(strKind prog w).is k v=true):∃ t,v = .str k t:=by
 cases v <;> simp[PySem.strKind,Value.isStrOf] at h
 rename_i y t;exact⟨t,by rw[h]⟩
theorem B7(xs:List (Str×Tok)):ElemsOf (strKind prog w) (xs.map (gW prog w)):=λe he=>by
 obtain⟨x,_,rfl⟩:=WG.mp he;exact⟨⟨x.1,strKind_is _ _ _ _,rfl⟩,rfl⟩
theorem B8:∀ (l:List (Int×Value)),ElemsOf (strKind prog w) l->∃ xs:List (Str×Tok),l=xs.map (gW prog w)
 | [],_=>⟨[],rfl⟩
 | e :: l,h=>by
  obtain⟨xs,e1⟩:=B8 l h.tail;obtain⟨⟨k,q,r⟩,_⟩:=h.head;obtain⟨t,et⟩:=B6 q;obtain⟨e0,ev⟩:=e;simp only at r et;subst r; subst et
  exact⟨(k,t) :: xs,by rw[Wc,<- e1]; rfl⟩
theorem vP{l:List (Int×Value)}{xs:List (Str×Tok)}(p:l.Perm (xs.map (gW prog w))):∃ zs:List (Str×Tok),l=zs.map (gW prog w)/\(zs.map (·.1)).Perm (xs.map (·.1)):=by
 obtain⟨zs,ez⟩:=B8 l λe he=>B7 xs e (p.mem_iff.mp he)
 refine⟨zs,ez,?_⟩;have q1:=p.map λe:Int×Value=>match e.2 with | .str k _=>k | _=>default
 rw[ez,Wv,Wv] at q1;exact q1
theorem vQ(xs:List (Str×Tok))(k:Str):(∃ e ∈ xs.map (gW prog w),(strKind prog w).is k e.2=true) ↔ k ∈ xs.map (·.1):=by
 constructor
 ·rintro ⟨e,he,q⟩;obtain⟨x,hx,rfl⟩:=WG.mp he;obtain⟨t,et⟩:=B6 q;have:x.1=k:=by injection et
  exact WG.mpr ⟨x,hx,this⟩
 ·intro h;obtain⟨x,hx,rfl⟩:=WG.mp h;exact⟨gW prog w x,WU hx,strKind_is _ _ _ _⟩
section
variable {h:Heap} {a:Addr} {ks:List Str} {o:Obj} {es:Array (Int×Value)} {ep:Nat} {t:SetTable} {xs:List (Str×Tok)}
theorem cC.sz(x:cC prog w h a ks o es ep t xs):es.size=ks.length:=by
 rw[<- x.p.length_eq,Wq,<- WT,x.e,Wq]
theorem cC.el(x:cC prog w h a ks o es ep t xs):ElemsOf (strKind prog w) es.toList:=by
 rw[x.e]; exact B7 _
theorem cC.so(x:cC prog w h a ks o es ep t xs):h.SetOf (strKind prog w) a (λk=>decide (k ∈ ks)) ks.length :=
 ⟨o,es,ep,t,x.g,x.ex,x.d,x.el,λk=>by rw[x.e,vQ,x.p.mem_iff]; simp,x.b,x.f,x.sz⟩
theorem dX.so(x:dX prog w h a ks):h.SetOf (strKind prog w) a (λk=>decide (k ∈ ks)) ks.length:=by
 obtain⟨o,es,ep,t,xs,x⟩:=x;exact x.so
theorem dX.at'(x:dX prog w h a ks)(k:∀ o,h.get? a=some o->h'.get? a=some o):dX prog w h' a ks:=by
 obtain⟨o,es,ep,t,xs,x⟩:=x;exact⟨o,es,ep,t,xs,{ x with g:=k o x.g }⟩
end
theorem B9(ho:s.heap.get? a=some o)(hex:o.ExactSet)(hd:o.data = .set es0 ep t0)
  (he:fT.toList=xs.map (gW prog w)) (hp:(xs.map (·.1)).Perm ks) (nd:ks.Nodup) (hf:t'.fits fT.size=true) (hb:fT.size < JN) (hl:bt w=false->t'.led=true) (hq:t'.plain=true->ks=[])
  (h:∀ h',Q6 a s.heap h'->cC prog w h' a ks { o with data:=.set fT (ep + 1) t' } fT (ep + 1) t' xs->Q () { s with heap:=h' }) :
  W6 (model prog w) A (storeSet a fT t') Q E s:=by
 refine wpAny_storeSet_of ho hd ?_ (fits_of_scanBound hb);have g2:=WC (Obj.putSet fT t') ho (by rw[putSet_of _ _ hd]; rfl);rw[putSet_of _ _ hd] at g2;exact h _ (.update _ _ _) ⟨g2,hex,rfl,he,hp,nd,hf,hb,hl,hq⟩
theorem L_(t:SetTable)(es:Array (Int×Value))(h:Int)(x:Value):(layNew t es h x).2.1.led=t.led:=by
 unfold layNew;split
 ·unfold SetTable.orStandIn;simp only;split <;> rfl
 ·rfl
theorem Ma(t:SetTable)(es:Array (Int×Value))(n:Nat):(relayAll t es n).2.1.led=t.led/\((relayAll t es n).2.1.plain=true->t.plain=true):=by
 unfold relayAll;split
 ·rename_i t' order e;have hl:t'.led=t.led/\t'.plain=t.plain:=by
   unfold SetTable.relaid SetTable.laid at e
   cases e1:SetTable.layClean (SetTable.sizeAbove n - 1) (es.map (·.1)) with
   | none=>rw[e1] at e; cases e
   | some ow =>
    rw[e1] at e;simp only[Option.bind_eq_bind,WL,Option.pure_def,Wa,Prod.mk.injEq] at e;rw[<- e.1];exact⟨rfl,rfl⟩
  simp only;split
  ·exact⟨hl.1,λz=>hl.2 ▸ z⟩
  ·exact⟨rfl,λz=>by cases z⟩
 ·exact⟨rfl,λz=>by cases z⟩
theorem Mb(hS:dX prog w s.heap a ks)(hb:ks.length + 1 < JN)
  (h:∀ h',Q6 a s.heap h'->dX prog w h' a (dd ks k)->Q (!decide (k ∈ ks)) { s with heap:=h' }) :
  W6 (model prog w) A (setAddHashed a (.str k tk) ((strKind prog w).hash k)) Q E s:=by
 obtain⟨o,es,ep,t,xs,x⟩:=hS;have kk:(strKind prog w).is k (.str k tk)=true:=strKind_is _ _ _ _;have hz:=x.sz;unfold setAddHashed setAddHashedIn;refine WK (W0 (J0 x.g x.d x.f ?_));dsimp only;rw[byScan_of (knd:=strKind prog w) (x:=.str k tk) rfl x.b x.el,if_pos rfl];unfold setAddByScan;refine W0 (W0 (Qz (W0 (wpAny_setScan_of kk x.g x.d x.f x.el ?_))))
 cases hr:List.findIdx? (λe=>(strKind prog w).is k e.2) es.toList with
 | some j =>
  dsimp only;obtain⟨hj,hp,_⟩:=List.findIdx?_eq_some_iff_getElem.mp hr;have hk:k ∈ ks:=x.p.mem_iff.mp ((vQ (prog:=prog) (w:=w) xs k).mp ⟨_,by rw[<- x.e]; exact QR hj,hp⟩);have e:dd ks k=ks:=by unfold dd; rw[if_pos hk]
  have:=h s.heap (.refl _ _) (by rw[e]; exact⟨o,es,ep,t,xs,x⟩);rw[decide_eq_true hk] at this;exact W3 (W3 this)
 | none =>
  dsimp only;have hk:k ∉ ks:=λhk=>by
   obtain⟨e,he,q⟩:=(vQ (prog:=prog) (w:=w) xs k).mpr (x.p.mem_iff.mpr hk);have:=List.findIdx?_eq_none_iff.mp hr e (by rw[x.e]; exact he);rw[q] at this
   cases this
  have e:dd ks k=ks ++ [k]:=by unfold dd; rw[if_neg hk]
  have nd:=L8 k x.nd;rw[decide_eq_false hk] at h;rw[e] at h nd;have pJ:=layNew_perm t es ((strKind prog w).hash k) (.str k tk);have sg:=layNew_fits t es ((strKind prog w).hash k) (.str k tk);have si:=L_ t es ((strKind prog w).hash k) (.str k tk);generalize layNew t es ((strKind prog w).hash k) (.str k tk)=L at pJ sg si ⊢;obtain⟨es1,t1,wd,gave⟩:=L;dsimp only at pJ sg si ⊢;rw[JY,x.e] at pJ;have uc:es1.toList.Perm ((xs ++ [(k,tk)]).map (gW prog w)):=by rw[WV]; exact pJ
  obtain⟨zs,ez,pz⟩:=vP uc;have B_:(zs.map (·.1)).Perm (ks ++ [k]):=pz.trans (by rw[WV]; exact x.p.append_right _);have Ca:es1.size < JN:=by rw[<- WT,pJ.length_eq,WW,Wq]; have:=x.p.length_eq; simp at this ⊢; omega
  have gw:∀ (b:Bool) (s₁:W1) (Q':Unit->W1->Prop),Q' () s₁->W6 (model prog w) A (match b with | true=>rule "set.scan.the-table-gave-way" | false=>pure ()) Q' E s₁ :=
   λb s₁ Q' hq=>by cases b <;> first | exact W3 hq | exact Qz hq
  refine W0 (gw _ _ _ ?_);have tail:∀ t2:SetTable,t2.fits es1.size=true->t2.led=t1.led->t2.plain=false->W6 (model prog w) A (do
    storeSet a es1 t2
    if (!wd && t2.tooFull)=true then do
      (match (relayAll t2 es1 (SetTable.grown es1.size)).2.2 with | true=>rule "set.scan.the-table-gave-way" | false=>pure ())
      storeSet a (relayAll t2 es1 (SetTable.grown es1.size)).1 (relayAll t2 es1 (SetTable.grown es1.size)).2.1
      pure (some true)
     else pure (some true)) (λr s'=>W6 (model prog w) A (match r with | some added=>pure added | none=>setAddHashedIn a (.str k tk) ((strKind prog w).hash k) 99999) Q E s') E s:=λt2 f2 l2 p2=>by
   refine W0 (B9 x.g x.ex x.d ez B_ nd f2 Ca (λz=>by rw[l2,si]; exact x.l z) (λz=>by rw[p2] at z; cases z) λh1 Cb x1=>?_);split
   ·have rp:=relayAll_perm t2 es1 (SetTable.grown es1.size);have rf:=relayAll_fits t2 es1 (SetTable.grown es1.size);obtain⟨rl,rq⟩:=Ma t2 es1 (SetTable.grown es1.size);generalize relayAll t2 es1 (SetTable.grown es1.size)=Rl at rp rf rl rq ⊢;obtain⟨es2,t3,gave2⟩:=Rl;dsimp only at rp rf rl rq ⊢;rw[ez] at rp;obtain⟨ys,ey,py⟩:=vP rp;have me:es2.size < JN:=by rw[<- WT,rp.length_eq,<- ez,WT]; exact Ca
    refine W0 (gw _ _ _ ?_);refine W0 (B9 (s:={ s with heap:=h1 }) x1.g x1.ex x1.d ey (py.trans B_) nd rf me (λz=>by rw[rl,l2,si]; exact x.l z) (λz=>by have:=rq z; rw[p2] at this; cases this) λh2 Mc x2=>?_);exact W3 (W3 (h h2 (Cb.trans Mc) ⟨_,_,_,_,_,x2⟩))
   ·exact W3 (W3 (h h1 Cb ⟨_,_,_,_,_,x1⟩))
  split
  ·refine W0 ?_;rw[hashByValue_scannable 8 (x:=.str k tk) rfl];refine W3 ?_;exact tail _ (SetTable.fits_plain_off sg) rfl rfl
  ·rename_i cN;refine W0 (W3 ?_);simp only[if_true];exact tail _ sg rfl (by simpa using cN)
end
section
variable {prog:Wj} {w:Wm} {A:Wn} {R:Result->W1->Prop} {I:Addr} {fp wr:List Addr} {G:Array GenState->Array GenState->Prop} {n:Nat} {P:Nat->Value->Prop} {St:Nat->W1->Prop}
theorem Md(W:WalksS prog w A.in1 I fp wr G n P St)(S:Addr)(Cc:S ∉ fp)(val:Nat->Str)(vR:∀ i v,P i v->∃ t,v = .str (val i) t)(hb:n + 1 < JN) :
  ∀ (k i:Nat) (s:W1),n - i=k->i<=n->St i s->dX prog w s.heap S (fm val i) ->
   (∀ s',Moved (S :: wr) G s s'->dX prog w s'.heap S (fm val n)->R (.ok (.ret .none)) s') ->
   Qi (model prog w) A (.builtin "set.update.loop" ⟨[.ref S,.ref I],[]⟩) R s:=by
 have nw:S ∉ wr:=λz=>Cc (W.sub _ z)
 have up:∀ b ∈ wr,b ∈ S :: wr:=λb z=>Wg _ z
 intro k;induction k with
 | zero =>
  intro i s e1 e2 st x fin;obtain rfl:i=n:=by omega
  refine Qq PyProof.Rows.F.entry_set_update_loop ?_;rw[Around.under_plainId PyProof.Rows.F.plain_set_update_loop _];show W6 _ A.in1 (Qh (.ref I) >>= _) _ _ s;refine W0 (W.done s _ _ st λs' mv=>?_);show W6 _ A.in1 (ret Value.none) _ _ s';exact W3 (fin s' (mv.mono up) (x.at' λo e=>mv.heap S _ nw e))
 | succ k ih =>
  intro i s e1 e2 st x fin;have lt:i < n:=by omega
  refine Qq PyProof.Rows.F.entry_set_update_loop ?_;rw[Around.under_plainId PyProof.Rows.F.plain_set_update_loop _];show W6 _ A.in1 (Qh (.ref I) >>= _) _ _ s;refine W0 (W.item i s _ _ lt st λv s' pv df mv=>?_);obtain⟨t,rfl⟩:=vR i v pv;have x':dX prog w s'.heap S (fm val i):=x.at' λo e=>mv.heap S _ nw e
  show W6 _ A.in1 (holding [Value.str (val i) t] (setAdd S (.str (val i) t)) >>= _) _ _ s';refine W0 (WK ?_);unfold setAdd;refine WK ?_;refine W0 ((strKind prog w).pyHash (k:=val i) (strKind_is _ _ _ _) ?_);refine Mb (s:={ s' with toks:=s'.toks + 1 }) x' (by have:=B5 val i; omega) λh' sb y=>?_
  rw[<- B4] at y;refine W3 ⟨QM PyProof.Rows.F.plain_set_update_loop _,ih (i + 1) _ (by omega) lt (W.frame _ s' _ _ df (JD _) λb z o e=>?_) y λjJ Me z=>?_⟩
  ·rw[sb.2 b (λq:b=S=>Cc (by rw[<- q]; exact z))]; exact e
  ·refine fin jJ (Moved.trans W.gtrans ((mv.mono up).then_heap (JD _) λb o z e=>?_) Me) z;rw[sb.2 b (λq:b=S=>z (by rw[q]; exact Wi))]; exact e
end
abbrev kZ (w:Wm):Obj:={ cls:=.type "set",dict:=none,data:=.set #[] 0 (.fresh 0 0 (!bt w)) }
section
variable {prog:Wj} {w:Wm} {A:Wn} {E:Value->W1->Prop} {s:W1}
theorem Mf(h:Heap):cC prog w (h.push (kZ w)) h.objs.size [] (kZ w) #[] 0 (.fresh 0 0 (!bt w)) [] :=
 ⟨Wh _ rfl,⟨rfl,rfl,rfl⟩,rfl,rfl,.refl _,JS,rfl,by decide,λz=>by rw[z]; rfl,λ_=>rfl⟩
theorem Mg(h:Heap):dX prog w (h.push (kZ w)) h.objs.size []:=⟨_,_,_,_,_,Mf h⟩
theorem Mh(a:Value)(h:Q₁ (.ref s.heap.objs.size) { s with heap:=s.heap.push (kZ w) }) :
  Qi (model prog w) A (.call (.builtin "set.__new__") ⟨[.type "set",a],[]⟩) (wants Q₁ E) s:=by
 refine codeAny_of_tree ?_;show W6 _ A.in1 (do checkBuiltinCall "set.__new__" ⟨[.type "set",a],[]⟩; again (.builtin "set.__new__" ⟨[.type "set",a],[]⟩)) _ _ s;refine W0 (wpAny_of_eq (PySem.F.newCall_set_1 a) (W3 ⟨QM PySem.F.plain_set_new _,Qq PySem.F.entry_set_new ?_⟩));rw[Around.under_plainId PySem.F.plain_set_new _];unfold Builtin.«set.__new__» Builtin.Frozenset.newClass;have e:=sub_set_self;obtain⟨hp,g,d,tk,os⟩:=s;dsimp only;wp_walk
 refine Jc (W3 ?_);dsimp only;simp only[newObj];refine W0 (wpAny_alloc (W3 ?_));exact W3 h
theorem Mi
  (hi:W6 (model prog w) A.in1.in1 (Builtin.«set.__init__» ⟨[.ref s.heap.objs.size,v],[]⟩)
   (λfin s'=>match fin with | .done f=>wants (λr s₂=>r = .none/\Q (.ref s.heap.objs.size) s₂) E (.ok f) s' | .again c'=>c'.quiet=true/\Qi (model prog w) A.in1 c' (wants (λr s₂=>r = .none/\Q (.ref s.heap.objs.size) s₂) E) s')
   (λe s'=>wants (λr s₂=>r = .none/\Q (.ref s.heap.objs.size) s₂) E (.error e) s') { s with heap:=s.heap.push (kZ w) }) :
  W6 (model prog w) A (call (.type "set") [v]) Q E s:=by
 obtain⟨c,tl,hmro⟩:=PySem.F.called_set.mro;have g1:=PySem.F.called_set.made;have g2:=PySem.F.called_set.sub;refine wpAny_call (codeAny_of_tree ?_);show W6 _ _ (callAny (.type "set") _) _ _ _;refine W3 ⟨Code.quiet_builtin _ (by decide +kernel),Qq PySem.F.entry_type_call ?_⟩;rw[Around.under_plain (weight_type_call_type "set" [v] []) rfl];have g3:=PySem.F.called_set.notType;have g4:=PySem.F.called_set.canCreate;have g5:=PySem.F.typeCall_set_1 v;repeat (any_goals (first | assumption | wp_step))
 refine QU (Mh v (E:=E) (Q₁:=λobj s₁=>obj = .ref s.heap.objs.size/\s₁ = { s with heap:=s.heap.push (kZ w) }) ⟨rfl,rfl⟩) λr s₁ x=>?_
 cases r with
 | error e=>exact x
 | ok fl =>
  cases fl with
  | ret obj =>
   obtain⟨rfl,rfl⟩:=x;have hT:Shared.TypeIs { s with heap:=s.heap.push (kZ w) } (.ref s.heap.objs.size) "set":=⟨_,Wh _ rfl,rfl⟩
   have g6:=PySem.F.called_set.init.lookup;have g7:=PySem.F.called_set.init.bind (.ref s.heap.objs.size);repeat (any_goals (first | assumption | wp_step))
   refine QU (codeAny_call_builtin (R:=wants (λr s₂=>r = .none/\Q (.ref s.heap.objs.size) s₂) E) PySem.F.called_set.init.plain PySem.F.entry_set_init (check_set_init_1 hT hi)) λr₂ s₂ y=>?_
   cases r₂ with
   | error e=>exact y
   | ok f2 =>
    cases f2 with
    | ret r =>
     obtain⟨rfl,q⟩:=y;repeat (any_goals (first | assumption | wp_step))
    | _=>exact y.elim
  | _=>exact x.elim
end
section
variable {mask:Nat} {owner:Array (Option Nat)}
end
def live(mask:Nat)(owner:Array (Option Nat)):List (Nat×Nat):=(Wu (mask + 1)).filterMap λj=>(owner.getD j none).map (j,·)
section
variable {prog:Wj} {w:Wm} {A:Wn} {E:Value->W1->Prop} {s:W1}
theorem vS{α:Type}:∀ (l:List α) (i:Nat) (h:i < l.length),l.Perm (l[i] :: l.eraseIdx i)
 | [],i,h=>by simp at h
 | x :: l,0,h=>.refl _
 | x :: l,i + 1,h=>by
  have:=vS l i (by simpa using h);exact(this.cons x).trans (.swap _ _ _)
theorem vT{α β:Type}{f:α->β->Sem (ForInStep β)}{Q:β->W1->Prop}(J:List α->β->W1->Prop)
  (step:∀ x r b s,J (x :: r) b s->W6 (model prog w) A (f x b) (λst s'=>∃ b',st = .yield b'/\J r b' s') E s):∀ (l:List α) (b:β) (s:W1),J l b s->(∀ b' s',J [] b' s'->Q b' s')->W6 (model prog w) A (forIn l b f) Q E s
 | [],b,s,h,q=>by
  rw[List.forIn_nil];exact W3 (q b s h)
 | x :: l,b,s,h,q=>by
  rw[List.forIn_cons];refine W0 (WN (step x l b s h) (λst s' ⟨b',e,h'⟩=>?_) λ_ _ e=>e);subst e;exact vT J step l b' s' h' q
theorem Mj{α β:Type}{f:α->β->Sem (ForInStep β)}{Q:β->W1->Prop}(J:List α->β->W1->Prop)
  (step:∀ x r b s,J (x :: r) b s->W6 (model prog w) A (f x b) (λst s'=>∃ b',st = .yield b'/\J r b' s') E s) (l:Array α) (b:β) (s:W1) (h:J l.toList b s) (q:∀ b' s',J [] b' s'->Q b' s'):W6 (model prog w) A (forIn l b f) Q E s:=by
 rw[<- Array.forIn_toList];exact vT J step l.toList b s h q
theorem quiet{l:List Addr}{Q:Bool->W1->Prop}(hl:∀ a ∈ l,∃ ks,dX prog w s.heap a ks)(h:Q true s):W6 (model prog w) A (setsQuiet l) Q E s:=by
 unfold setsQuiet;refine W0 (vT (λr b s'=>b=(none,())/\s'=s/\∀ a ∈ r,∃ ks,dX prog w s.heap a ks) ?st l _ s ⟨rfl,rfl,hl⟩ ?fin)
 case fin =>
  rintro b s' ⟨rfl,rfl,_⟩;exact W3 h
 case st =>
  rintro a r b s' ⟨rfl,rfl,e3⟩;obtain⟨ks,x⟩:=e3 a Wi;obtain⟨o,es,ep,t,xs,x⟩:=x;refine W0 (QP x.g x.d x.f ?_);refine W0 (Mj (λr b jJ=>b=(none,())/\jJ=s'/\∀ e ∈ r,∃ z,e=gW prog w z) ?st es _ s' ⟨rfl,rfl,λe he=>?el⟩ ?fin)
  case st =>
   rintro e r b jJ ⟨rfl,rfl,q3⟩;obtain⟨z,rfl⟩:=q3 e Wi;exact W3 ⟨_,rfl,rfl,rfl,λe he=>q3 e (Wg _ he)⟩
  case el =>
   rw[x.e] at he;obtain⟨z,_,rfl⟩:=WG.mp he;exact⟨z,rfl⟩
  case fin =>
   rintro b jJ ⟨rfl,rfl,_⟩;exact W3 ⟨_,rfl,rfl,rfl,λa ha=>e3 a (Wg _ ha)⟩
theorem Cd{α:Type}(next:Nat->Nat)(xs:Array α):(pickOrder next xs).toList.Perm xs.toList:=by
 have go:∀ (f k:Nat) (left:List α) (out:Array α),left.length=f->(pickOrder.go next f k left out).toList.Perm (out.toList ++ left):=by
  intro f;induction f with
  | zero =>
   intro k left out h;rw[QN h];unfold pickOrder.go;simp
  | succ f ih =>
   intro k left out h;unfold pickOrder.go;have hi:next k % left.length < left.length:=Nat.mod_lt _ (by omega);rw[W7 hi];simp only;refine(ih _ _ _ (by rw[List.length_eraseIdx_of_lt hi]; omega)).trans ?_;rw[JY,Qb];exact List.Perm.append_left _ (vS _ _ hi).symm
 have:=go xs.size 0 xs.toList #[] (by simp);simpa[pickOrder] using this
end
section
variable {prog:Wj} {w:Wm} {A:Wn} {E:Value->W1->Prop} {s:W1}
end
theorem Ml:entryFor table "set.__iter__" = some Builtin.«frozenset.__iter__» :=
 entryFor_alias (id':="frozenset.__iter__") (by kernel_rfl) rfl (by decide +kernel) (by kernel_rfl)
theorem slot_next:Slot "set_iterator" "__next__" "set_iterator.__next__" :=
 .of (owner:="set_iterator") (n:="__next__") (by rw[typeLookup_type,Ju]; kernel_rfl) (by decide +kernel) (by decide +kernel) (by decide +kernel)
  (by first | exact .inl (by decide +kernel) | exact .inr (by decide +kernel)) (by rw[isSubtype_type]; kernel_rfl)
theorem sj:entryFor table "set_iterator.__next__" = some Builtin.«set_iterator.__next__»:=entryFor_of_tree (by kernel_rfl)
theorem sk (a:Value):argsOk "set_iterator.__next__" ⟨[a],[]⟩:=by
 unfold argsOk; rw[signature?_of (id:="set_iterator.__next__") (n:="__txen__".toList) (o:="rotareti_tes".toList) (by kernel_rfl) (show Manifest.owners.lookup (String.ofList "rotareti_tes".toList.reverse)=some Manifest.sig_set_iterator by kernel_rfl)]; kernel_rfl
theorem Mm:typeLookup (.type "set") "__len__" = pure (some (.builtin "set.__len__")):=by rw[typeLookup_type,Ju]; kernel_rfl
abbrev bR (f:Value) (i:Nat) (a:Addr) (n ep:Nat):Obj:={ cls:=.type "set_iterator",data:=.fields #[f,.int i 0,.ref a,.int n 0,.int ep 0] }
section
variable {prog:Wj} {w:Wm} {A:Wn} {E:Value->W1->Prop} {s:W1}
theorem Mn(h0:n≠0)(h:∀ i d,i < n->Q i { s with drawn:=d }):W6 (model prog w) A (choose src n) Q E s:=λΓ p hΓ=>by
 show Sem.wp _ Γ (.choose src n .pure) _ _ p s;rw[Sem.wp_choose];refine⟨h0,?_⟩;exact h _ _ (Nat.mod_lt _ (by omega))
theorem Ce:∀ (n:Nat) (l:List α) (s:W1) (Q:List α->W1->Prop),l.length=n->(∀ l' d,l'.Perm l->Q l' { s with drawn:=d })->W6 (model prog w) A (drawOrder n l) Q E s
 | 0,l,s,Q,hn,h=>by
  rw[QN hn] at h;exact W3 (h [] s.drawn (.refl _))
 | n + 1,l,s,Q,hn,h=>by
  have e:drawOrder (n + 1) l=(do
    let i <- choose .order l.length
    match l[i]? with
    | some x=>return x :: (<- drawOrder n (l.eraseIdx i))
    | none=>unsupported "internal:drawOrder"):=by
   cases l with
   | nil=>simp at hn
   | cons=>rfl
  rw[e];refine W0 (Mn (by omega) λi d hi=>?_);rw[W7 hi];refine W0 (Ce n (l.eraseIdx i) _ _ (by rw[List.length_eraseIdx_of_lt hi]; omega) λl' d' pl=>?_);exact W3 (h _ d' ((pl.cons _).trans (vS l i hi).symm))
section
variable {a it:Addr} {ks:List Str} {o:Obj} {es:Array (Int×Value)} {ep:Nat} {t:SetTable} {xs:List (Str×Tok)} {i:Nat}
theorem Cf{sl nx:Nat}{v:Value}{Q:Option Value->W1->Prop}(x:cC prog w s.heap a ks o es ep t xs)(hi:s.heap.get? it=some (bR (.int sl 0) i a es.size ep))
  (hn:∀ E':Value->W1->Prop,W6 (model prog w) A.in1 (setNext a sl i ep) (λr s'=>r=some (v,nx)/\s'=s) E' s)
  (h:∀ h',Q6 it s.heap h'->h'.get? it=some (bR (.int nx 0) (i + 1) a es.size ep)->Q (some v) { s with heap:=h' }):W6 (model prog w) A (Qh (.ref it)) Q E s:=by
 have hT:s.TypeIs (.ref it) "set_iterator":=⟨_,hi,rfl⟩
 unfold Qh;refine W0 (JA (WJ (name:=Str.ofString "__next__") hT slot_next (WF slot_next hT sj ?_ (sk _))));unfold Builtin.«set_iterator.__next__»;refine W0 (m:=slotArgs "__next__" 0 _) (W3 ?_);refine W0 (Jw hi rfl ?_);dsimp only;refine W0 (QP x.g x.d x.f ?_);rw[if_neg (by simp)];simp only[Qc];refine W0 (WN (hn _) (λr s' ⟨e1,e2⟩=>?_) λ_ _ e=>e);subst e1; subst e2
 dsimp only;refine W0 (QS hi rfl (by simp) ?_);have g1:=WC (Obj.mapFields (·.setIfInBounds 0 (Qu (nx:Int)))) hi (by rfl);refine W0 (QS (s:={ s' with heap:=_ }) g1 rfl (by simp) ?_);have g2:=WC (Obj.mapFields (·.setIfInBounds 1 (Qu ((i:Int) + 1)))) g1 (by rfl);refine W3 ⟨_,rfl,W3 (h _ ((Qa ..).trans (Qa ..)) ?_)⟩;rw[g2];rfl
theorem Cg{Q:Option Value->W1->Prop}{f:Value}{n' j:Nat}{v:Value}(hh:A.handled=none)(hi:s.heap.get? it=some (bR f i a n' ep))(hj:j < 5)
  (h:∀ h',Heap.ExtBut it s.heap h'->Q none { s with heap:=h' }) :
  W6 (model prog w) A.in1 (do
   setField (.ref it) j v
   raiseNew (<- newExc (.type "StopIteration") [])) (λ(_:PySem.Fin) _=>False) (λe s'=>W6 (model prog w) A (do
    if <- isInstance e (.type "StopIteration") then pure none else throw e) Q E s') s:=by
 refine W0 (QS hi rfl (by simpa using hj) ?_);refine W0 ?_;simp only[newExc,newTuple];refine W0 (WD ?_ (by size_fits));refine W0 (m:=Jv _ _) (wpAny_of_eq (a:=Value.none) (by first | rfl | (simp only[Jv]; rfl)) ?_);refine WD ?_ (by size_fits);simp only[raiseNew];refine W0 (wpAny_handled ?_);rw[show A.in1.handled=none from hh];refine W0 (W3 (wpAny_throw ?_));refine W0 (wpAny_isInstance (T:="StopIteration") (b:=true) ⟨_,Wh _ rfl,rfl⟩ isSubtype_stop ?_);exact W3 (h _ (((Qa ..).extBut.push _).push _))
end
end
section
variable {prog:Wj} {w:Wm} {A:Wn} {E:Value->W1->Prop} {s:W1}
variable {a it:Addr} {ks:List Str} {o:Obj} {es:Array (Int×Value)} {ep:Nat} {t:SetTable} {xs:List (Str×Tok)} {i:Nat}
theorem vU{sl:Nat}{Q:Option Value->W1->Prop}(hh:A.handled=none)(x:cC prog w s.heap a ks o es ep t xs)(hi:s.heap.get? it=some (bR (.int sl 0) i a es.size ep))
  (hn:∀ E':Value->W1->Prop,W6 (model prog w) A.in1 (setNext a sl i ep) (λr s'=>r=none/\s'=s) E' s)
  (h:∀ h',Heap.ExtBut it s.heap h'->Q none { s with heap:=h' }):W6 (model prog w) A (Qh (.ref it)) Q E s:=by
 have hT:s.TypeIs (.ref it) "set_iterator":=⟨_,hi,rfl⟩
 unfold Qh;refine W0 (JA (WJ (name:=Str.ofString "__next__") hT slot_next (WF slot_next hT sj ?_ (sk _))));unfold Builtin.«set_iterator.__next__»;refine W0 (m:=slotArgs "__next__" 0 _) (W3 ?_);refine W0 (Jw hi rfl ?_);dsimp only;refine W0 (QP x.g x.d x.f ?_);rw[if_neg (by simp)];simp only[Qc];refine W0 (WN (hn _) (λr s' ⟨e1,e2⟩=>?_) λ_ _ e=>e);subst e1; subst e2
 dsimp only;exact WN (Cg hh hi (by decide) h) (λ_ _ e=>e.elim) λ_ _ e=>e
theorem Mo{T:Addr}{ps:List Nat}{oT:Obj}{nT p:Nat}{hv:Int}{v:Value}{Q:Option Value->W1->Prop}(x:cC prog w s.heap a ks o es ep t xs)(hi:s.heap.get? it=some (bR (.ref T) i a es.size ep))
  (gT:s.heap.get? T=some oT) (dT:oT.data = .seq (ps.map λj:Nat=>Qu j).toArray nT) (hp:ps[i]? = some p) (vV:es[p]? = some (hv,v))
  (h:∀ h',Q6 it s.heap h'->h'.get? it=some (bR (.ref T) (i + 1) a es.size ep)->Q (some v) { s with heap:=h' }):W6 (model prog w) A (Qh (.ref it)) Q E s:=by
 have hT:s.TypeIs (.ref it) "set_iterator":=⟨_,hi,rfl⟩
 unfold Qh;refine W0 (JA (WJ (name:=Str.ofString "__next__") hT slot_next (WF slot_next hT sj ?_ (sk _))));unfold Builtin.«set_iterator.__next__»;refine W0 (m:=slotArgs "__next__" 0 _) (W3 ?_);refine W0 (Jw hi rfl ?_);dsimp only;refine W0 (QP x.g x.d x.f ?_);rw[if_neg (by simp)];refine W0 (JR gT dT ?_);dsimp only;have e1:(ps.map λj:Nat=>Qu j).toArray[i]? = some (.int (p:Int) 0):=by simp[hp,Qu]
 rw[Qc,e1];dsimp only;refine W0 ?_;unfold setNextDrawn;refine W0 (J0 x.g x.d x.f ?_);simp only[Qc,bne_self_eq_false,QC,if_false];rw[vV];refine W3 ?_;refine W0 (QS hi rfl (by simp) ?_);have g2:=WC (Obj.mapFields (·.setIfInBounds 1 (Qu ((i:Int) + 1)))) hi (by rfl);refine W3 ⟨_,rfl,W3 (h _ (Qa ..) ?_)⟩;rw[g2];rfl
theorem Mp{T:Addr}{ps:List Nat}{oT:Obj}{nT:Nat}{Q:Option Value->W1->Prop}(hh:A.handled=none)(x:cC prog w s.heap a ks o es ep t xs)(hi:s.heap.get? it=some (bR (.ref T) i a es.size ep))
  (gT:s.heap.get? T=some oT) (dT:oT.data = .seq (ps.map λj:Nat=>Qu j).toArray nT) (hp:ps[i]? = none)
  (h:∀ h',Heap.ExtBut it s.heap h'->Q none { s with heap:=h' }):W6 (model prog w) A (Qh (.ref it)) Q E s:=by
 have hT:s.TypeIs (.ref it) "set_iterator":=⟨_,hi,rfl⟩
 unfold Qh;refine W0 (JA (WJ (name:=Str.ofString "__next__") hT slot_next (WF slot_next hT sj ?_ (sk _))));unfold Builtin.«set_iterator.__next__»;refine W0 (m:=slotArgs "__next__" 0 _) (W3 ?_);refine W0 (Jw hi rfl ?_);dsimp only;refine W0 (QP x.g x.d x.f ?_);rw[if_neg (by simp)];refine W0 (JR gT dT ?_);dsimp only;have e1:(ps.map λj:Nat=>Qu j).toArray[i]? = none:=by simpa using hp
 rw[Qc,e1];dsimp only;refine W0 (QS hi rfl (by simp) ?_);have g1:(s.heap.update it (Obj.mapFields (·.setIfInBounds 0 (Qu 0)))).get? it=some (bR (Qu 0) i a es.size ep):=by
  rw[WC (Obj.mapFields (·.setIfInBounds 0 (Qu 0))) hi (by rfl)];rfl
 refine WN (Cg (s:={ s with heap:=s.heap.update it (Obj.mapFields (·.setIfInBounds 0 (Qu 0))) }) (j:=2) hh g1 (by decide) λh' eb=>h h' λb ob hb e=>?_) (λ_ _ e=>e.elim) λ_ _ e=>e
 exact eb b ob hb ((Q0 _ _ (Ne.symm hb)).trans e)
theorem Ci(hb:bt w=true)(x:cC prog w s.heap a ks o es ep t xs)(E':Value->W1->Prop) :
  W6 (model prog w) A (setNext a 0 i ep) (λr s'=>r=((pickOrder (w.params.setOrder a ep) es)[i]?).map (λe=>(e.2,0))/\s'=s) E' s:=by
 unfold setNext setsByText;refine W0 (J0 x.g x.d x.f ?_);dsimp only;refine W0 (W0 (Jc (W3 ?_)));have en:Params.followText w.params "set-order" = true:=hb;show W6 _ _ (if Params.followText w.params "set-order" = true then _ else _) _ _ _;rw[if_pos en];simp only[bne_self_eq_false,QC,if_false];refine W0 ?_;unfold setWalk setsByText;refine W0 (J0 x.g x.d x.f ?_);dsimp only;refine W0 (W0 (Jc (W3 ?_)));show W6 _ _ (if Params.followText w.params "set-order" = true then _ else _) _ _ _;rw[if_pos en];refine W0 (Jc ?_);exact W3 (W3 ⟨rfl,rfl⟩)
theorem vW(hb:bt w=false)(x:cC prog w s.heap a ks o es ep t xs)(h1:es.size<=1)(sl:Nat)(E':Value->W1->Prop) :
  W6 (model prog w) A (setNext a sl i ep) (λr s'=>r=(match es[SetTable.below t.place sl]?,t.place[SetTable.below t.place sl]? with | some (_,v),some j=>some (v,j + 1) | _,_=>none)/\s'=s) E' s:=by
 unfold setNext setsByText;refine W0 (J0 x.g x.d x.f ?_);dsimp only;refine W0 (W0 (Jc (W3 ?_)));have en:¬ Params.followText w.params "set-order" = true:=by rw[show Params.followText w.params "set-order" = false from hb]; decide
 show W6 _ _ (if Params.followText w.params "set-order" = true then _ else _) _ _ _;rw[if_neg en];show W6 _ _ (if (!t.plain && decide (es.size > 1))=true then _ else _) _ _ _;rw[if_neg (by simp; omega)];refine W0 ?_;show W6 _ _ (if (!t.led && !es.isEmpty)=true then _ else _) _ _ _;rw[if_neg (by rw[x.l hb]; simp)];exact W3 (W3 ⟨rfl,rfl⟩)
theorem sm{St:Nat->Heap->Prop}{n:Nat}{val:Nat->Value}{S:Addr}{res:Value}{R:Result->W1->Prop}(cX:S≠it)(hn:n<=1000)
  (fr:∀ i h h',St i h->(∀ b ob,b≠S->h.get? b=some ob->h'.get? b=some ob)->St i h')
  (item:∀ (i:Nat) (s:W1) (Q:Option Value->W1->Prop) (E:Value->W1->Prop),i < n->St i s.heap->(∀ h',(∀ b ob,b≠it->s.heap.get? b=some ob->h'.get? b=some ob)->St (i + 1) h'->Q (some (val i)) { s with heap:=h' })->W6 (model prog w) A.in1 (Qh (.ref it)) Q E s)
  (done:∀ (s:W1) (Q:Option Value->W1->Prop) (E:Value->W1->Prop),St n s.heap->(∀ h',(∀ b ob,b≠it->s.heap.get? b=some ob->h'.get? b=some ob)->Q none { s with heap:=h' })->W6 (model prog w) A.in1 (Qh (.ref it)) Q E s) :
  ∀ (k i:Nat) (s:W1) (acc:Array Value) (c:Nat),n - i=k->i<=n->St i s.heap->s.heap.get? S=some { cls:=.type "list",data:=.seq acc c }->acc.toList=(Wu i).map val ->
   (∀ h' eK c',(∀ b ob,b≠S->b≠it->s.heap.get? b=some ob->h'.get? b=some ob)->h'.get? S=some { cls:=.type "list",data:=.seq eK c' }->eK.toList=(Wu n).map val->R (.ok (.ret res)) { s with heap:=h' }) ->
   Qi (model prog w) A (.builtin "list.extend.loop" ⟨[.ref S,.ref it,res],[]⟩) R s:=by
 intro k;induction k with
 | zero =>
  intro i s acc c e1 e2 st g ea fin;obtain rfl:i=n:=by omega
  refine Qq PySem.F.entry_extend_loop ?_;rw[Around.under_plainId QD _];show W6 _ A.in1 (Qh (.ref it) >>= _) _ _ _;refine W0 (done s _ _ st λh' kp=>?_);exact W3 (fin h' acc c (λb ob _ hb e=>kp b ob hb e) (kp S _ cX g) ea)
 | succ k ih =>
  intro i s acc c e1 e2 st g ea fin;refine Qq PySem.F.entry_extend_loop ?_;rw[Around.under_plainId QD _];show W6 _ A.in1 (Qh (.ref it) >>= _) _ _ _;refine W0 (item i s _ _ (by omega) st λh' kp df=>?_);have g':=kp S _ cX g;have za:acc.size=i:=by rw[<- WT,ea]; simp
  show W6 _ A.in1 (updateSeq S (·.push (val i)) >>= _) _ _ _;refine W0 (JI (hz:=by rw[za,QF]; omega) g' rfl ?_);have g2:=WC (Obj.mapSeq (·.push (val i))) g' rfl;refine W3 ⟨QM QD _,ih (i + 1) _ (acc.push (val i)) _ (by omega) (by omega) (fr _ _ _ df λb ob hb e=>(Q0 _ _ (Ne.symm hb)).trans e) g2 (by rw[JY,ea,JH,WV]; rfl) λh2 eK c' vb g3 cF=>?_⟩;exact fin h2 eK c' (λb ob hb hi e=>vb b ob hb hi ((Q0 _ _ (Ne.symm hb)).trans (kp b ob hi e))) g3 cF
end
section
variable {prog:Wj} {w:Wm} {A:Wn} {E:Value->W1->Prop} {s:W1}
variable {a it:Addr} {ks:List Str} {o:Obj} {es:Array (Int×Value)} {ep:Nat} {t:SetTable} {xs:List (Str×Tok)} {i:Nat}
abbrev eL (ps:List Nat):Obj:={ cls:=.type "tuple",data:=.seq (ps.map λj:Nat=>Qu j).toArray }
theorem Mq(x:cC prog w s.heap a ks o es ep t xs)(hz:es.size<=1000)
  (hI:(bt w=true\/es.size<=1)->Q (.ref s.heap.objs.size) { s with heap:=s.heap.push (bR (.int 0 0) 0 a es.size ep) })
  (hD:∀ ps d,ps.Perm (Wu es.size)->Q (.ref (s.heap.push (eL ps)).objs.size) { s with heap:=(s.heap.push (eL ps)).push (bR (.ref s.heap.objs.size) 0 a es.size ep),drawn:=d }):W6 (model prog w) A (pyIter (.ref a)) Q E s:=by
 refine wpAny_pyIter_slot x.so.typeIs PySem.F.slot_set_iter (WF PySem.F.slot_set_iter x.so.typeIs Ml ?_ (PySem.F.args_set_iter_1 _));unfold Builtin.«frozenset.__iter__»;refine W0 (m:=Builtin.Frozenset.slot0 "__iter__" _) (W3 ?_);unfold Builtin.Frozenset.sizeOf;refine W0 (W0 (QP x.g x.d x.f (W3 ?_)));unfold setDrawn setsByText;refine W0 (W0 (J0 x.g x.d x.f ?_));dsimp only;refine W0 (W0 (Jc (W3 ?_)));refine W3 ?_;show W6 _ _ (if (!bt w && (!t.plain && decide (es.size > 1)))=true then _ else _) _ _ _;by_cases hc:(!bt w && (!t.plain && decide (es.size > 1)))=true
 ·rw[if_pos hc];refine W0 (Ce es.size (Wu es.size) s _ (by simp) λps d pp=>?_);have hl:ps.length=es.size:=by rw[pp.length_eq,List.length_range]
  unfold newTuple;refine W0 (WD ?_ (by show(ps.map λj:Nat=>Qu j).toArray.size<=W8; rw[Wo,Wq,hl,QF]; omega));have x1:cC prog w (s.heap.push (eL ps)) a ks o es ep t xs:={ x with g:=W4 _ x.g }
  refine W0 (wpAny_setEpoch_of (s:={ s with heap:=s.heap.push (eL ps),drawn:=d }) x1.g x1.d x1.f ?_);refine W0 (WD (W3 ⟨_,rfl,"set_iterator",_,⟨_,Wh _ rfl,rfl⟩,slot_next.lookup,?_⟩));exact hD ps d pp
 ·rw[if_neg hc];refine W0 (W3 ?_);refine W0 (wpAny_setEpoch_of x.g x.d x.f ?_);refine W0 (WD (W3 ⟨_,rfl,"set_iterator",_,⟨_,Wh _ rfl,rfl⟩,slot_next.lookup,?_⟩));refine hI ?_
  cases hb:bt w with
  | true=>exact .inl rfl
  | false =>
   right
   rw[hb] at hc;refine Nat.le_of_not_lt λsr=>hc ?_
   have hp:t.plain=false:=by
    cases e:t.plain with
    | false=>rfl
    | true =>
     have hs:es.size=0:=by rw[x.sz,x.q e]; rfl
     omega
   rw[hp];simpa using sr
theorem Cj(x:dX prog w s.heap a ks)(h:Q false s):W6 (model prog w) A (Builtin.List.listLengthHint (.ref a)) Q E s:=by
 have hT:=x.so.typeIs;unfold Builtin.List.listLengthHint;refine W0 (wpAny_specialOf hT Mm ?_);generalize hid:("set.__len__" : String)=id0;wp_delta
 rw[show splitId id0=some ("set","__len__") from by subst hid; decide +kernel];subst hid;refine W0 (wpAny_isInstance (T:="set") (b:=true) hT (by rw[isSubtype_type]; kernel_rfl) ?_);refine JG (λiR=>absurd iR (by decide)) (λ_=>?_);refine JG (λ_=>?_) (λiR=>absurd (by decide +kernel) iR);refine W0 (J9 hT ?_);exact W3 h
theorem Mr(hh:A.handled=none)(x:cC prog w s.heap a ks o es ep t xs)(hz:es.size<=1000)(hS:S≠it)(j0:S≠a)(jr:a≠it)(hc:bt w=true\/es.size<=1)
  (hi:s.heap.get? it=some (bR (.int 0 0) 0 a es.size ep)) (gS:s.heap.get? S=some { cls:=.type "list",data:=.seq #[] c })
  (fin:∀ h' eK c' (zs:List (Str×Tok)),(∀ b ob,b≠S->b≠it->s.heap.get? b=some ob->h'.get? b=some ob)->h'.get? S=some { cls:=.type "list",data:=.seq eK c' }->eK.toList=zs.map (λz=>Value.str z.1 z.2)->(zs.map (·.1)).Perm ks->R (.ok (.ret res)) { s with heap:=h' }) :
  Qi (model prog w) A (.builtin "list.extend.loop" ⟨[.ref S,.ref it,res],[]⟩) R s:=by
 have fr:∀ (F:Nat->Value) (i:Nat) (h h':Heap),(h.get? it=some (bR (F i) i a es.size ep)/\cC prog w h a ks o es ep t xs)->(∀ b ob,b≠S->h.get? b=some ob->h'.get? b=some ob)->(h'.get? it=some (bR (F i) i a es.size ep)/\cC prog w h' a ks o es ep t xs) :=
  λF i h h' ⟨q1,q2⟩ k=>⟨k _ _ (Ne.symm hS) q1,{ q2 with g:=k _ _ (Ne.symm j0) q2.g }⟩
 cases hb:bt w with
 | true =>
  have pp:=Cd (w.params.setOrder a ep) es;rw[x.e] at pp;obtain⟨zs,ez,pz⟩:=vP pp;have hl:zs.length=es.size:=by
   have:=congrArg Qx ez;have q:=(Cd (w.params.setOrder a ep) es).length_eq;simp at this q;omega
  have gt:∀ i,(pickOrder (w.params.setOrder a ep) es)[i]? = (zs[i]?).map (gW prog w):=λi=>by
   rw[<- Qr,ez,Wy]
  refine sm (it:=it) (St:=λi h=>h.get? it=some (bR (.int 0 0) i a es.size ep)/\cC prog w h a ks o es ep t xs) (n:=es.size) (val:=λi=>((zs[i]?).map λz=>Value.str z.1 z.2).getD .none) hS hz (fr λ_=>.int 0 0) ?item ?done es.size 0 s #[] c (by omega) (Qm _) ⟨hi,x⟩ gS rfl ?fin
  case item =>
   rintro i s Q E' aQ ⟨q1,q2⟩ k;have jn:i < zs.length:=by omega
   refine Cf (A:=A.in1) (sl:=0) (nx:=0) (v:=Value.str zs[i].1 zs[i].2) q2 q1 (λE2=>WN (Ci (i:=i) hb q2 E2) (λr s' ⟨e1,e2⟩=>⟨by rw[e1,gt i,W7 jn]; rfl,e2⟩) λ_ _ e=>e) λh' sb g=>?_
   have:((zs[i]?).map λz=>Value.str z.1 z.2).getD .none=Value.str zs[i].1 zs[i].2:=by rw[W7 jn]; rfl
   rw[<- this];exact k h' (λb ob en e=>(sb.2 b en).trans e) ⟨g,{ q2 with g:=(sb.2 a jr).trans q2.g }⟩
  case done =>
   rintro s Q E' ⟨q1,q2⟩ k;refine vU (A:=A.in1) (sl:=0) hh q2 q1 (λE2=>WN (Ci hb q2 E2) (λr s' ⟨e1,e2⟩=>⟨by rw[e1,gt,WX (by omega)]; rfl,e2⟩) λ_ _ e=>e) λh' eb=>k h' λb ob en e=>eb b ob en e
  case fin =>
   intro h' eK c' k g ea;refine fin h' eK c' zs k g ?_ (pz.trans x.p);rw[ea,<- hl];refine U3 (by simp) λi h1 h2=>?_
   simp at h1 h2;simp[h2]
 | false =>
  have h1:es.size<=1:=hc.resolve_left (by rw[hb]; decide);have kX:t.place.size=es.size:=by
   have:=x.f;unfold SetTable.fits at this;simp at this;exact this.1
  have vX:xs.length=es.size:=by
   have:=congrArg Qx x.e;simp at this;omega
  by_cases h0:es.size=0
  ·refine sm (it:=it) (St:=λi h=>h.get? it=some (bR (.int 0 0) i a es.size ep)/\cC prog w h a ks o es ep t xs) (n:=0) (val:=λi=>.none) hS (by decide) (fr λ_=>.int 0 0) (λi s Q E' aQ=>by omega) ?done 0 0 s #[] c rfl (Wb _) ⟨hi,x⟩ gS rfl ?fin
   case done =>
    rintro s Q E' ⟨q1,q2⟩ k;refine vU (A:=A.in1) (sl:=0) hh q2 q1 (λE2=>WN (vW hb q2 h1 0 E2) (λr s' ⟨e1,e2⟩=>⟨by
     rw[e1,Jp (by omega)],e2⟩) λ_ _ e=>e) λh' eb=>k h' λb ob en e=>eb b ob en e
   case fin =>
    intro h' eK c' k g ea;have:xs=[]:=QN (by omega);refine fin h' eK c' xs k g ?_ x.p;rw[ea,this]; rfl
  ·have Sh:es.size=1:=by omega
   obtain⟨z,ez⟩:∃ z,xs=[z]:=by
    match xs,vX with
    | [z],_=>exact⟨z,rfl⟩
    | [],h=>simp at h; omega
    | _ :: _ :: _,h=>simp at h; omega
   obtain⟨j,ej⟩:∃ j,t.place = #[j]:=by
    have:t.place.toList.length=1:=by simp; omega
    match hp:t.place.toList,this with
    | [j],_=>exact⟨j,by rw[<- Array.toArray_toList (xs:=t.place),hp]⟩
   have e0:es[0]? = some (gW prog w z):=by rw[<- Qr,x.e,ez]; rfl
   have b0:SetTable.below t.place 0=0:=by rw[ej]; simp[SetTable.below,SetTable.below.go]
   have b1:SetTable.below t.place (j + 1)=1:=by rw[ej]; simp[SetTable.below,SetTable.below.go]
   refine sm (it:=it) (St:=λi h=>h.get? it=some (bR (.int ((if i=0 then 0 else j + 1:Nat):Int) 0) i a es.size ep)/\cC prog w h a ks o es ep t xs) (n:=1) (val:=λi=>Value.str z.1 z.2) hS (by decide) (fr λi=>.int ((if i=0 then 0 else j + 1:Nat):Int) 0) ?item ?done 1 0 s #[] c rfl (by decide) ⟨hi,x⟩ gS rfl ?fin
   case item =>
    rintro i s Q E' aQ ⟨q1,q2⟩ k;obtain rfl:i=0:=by omega
    refine Cf (A:=A.in1) (sl:=0) (nx:=j + 1) (v:=Value.str z.1 z.2) q2 q1 (λE2=>WN (vW (i:=0) hb q2 h1 0 E2) (λr s' ⟨e1,e2⟩=>⟨by
     rw[e1,b0,e0,ej]; rfl,e2⟩) λ_ _ e=>e) λh' sb g=>?_
    exact k h' (λb ob en e=>(sb.2 b en).trans e) ⟨g,{ q2 with g:=(sb.2 a jr).trans q2.g }⟩
   case done =>
    rintro s Q E' ⟨q1,q2⟩ k;refine vU (A:=A.in1) (sl:=j + 1) hh q2 q1 (λE2=>WN (vW hb q2 h1 (j + 1) E2) (λr s' ⟨e1,e2⟩=>⟨by
     rw[e1,b1,Jp (by omega)],e2⟩) λ_ _ e=>e) λh' eb=>k h' λb ob en e=>eb b ob en e
   case fin =>
    intro h' eK c' k g ea;refine fin h' eK c' xs k g ?_ x.p;rw[ea,ez]; rfl
theorem Bu{S T:Addr}{res:Value}{R:Result->W1->Prop}{c:Nat}{ps:List Nat}(hh:A.handled=none)(x:cC prog w s.heap a ks o es ep t xs)(hz:es.size<=1000)(hS:S≠it)(j0:S≠a)(jr:a≠it)(Ms:S≠T)(Mt:T≠it)(pp:ps.Perm (Wu es.size))
  (hi:s.heap.get? it=some (bR (.ref T) 0 a es.size ep)) (gT:s.heap.get? T=some (eL ps)) (gS:s.heap.get? S=some { cls:=.type "list",data:=.seq #[] c })
  (fin:∀ h' eK c' (zs:List (Str×Tok)),(∀ b ob,b≠S->b≠it->s.heap.get? b=some ob->h'.get? b=some ob)->h'.get? S=some { cls:=.type "list",data:=.seq eK c' }->eK.toList=zs.map (λz=>Value.str z.1 z.2)->(zs.map (·.1)).Perm ks->R (.ok (.ret res)) { s with heap:=h' }) :
  Qi (model prog w) A (.builtin "list.extend.loop" ⟨[.ref S,.ref it,res],[]⟩) R s:=by
 have hl:ps.length=es.size:=by rw[pp.length_eq,List.length_range]
 have vX:xs.length=es.size:=by
  have:=congrArg Qx x.e;simp at this;omega
 have fO:∀ i (h:i < ps.length),ps[i] < xs.length:=λi h=>by
  have:=QQ.mp (pp.mem_iff.mp (QR h));omega
 have ge:∀ p (h:p < xs.length),es[p]? = some (gW prog w xs[p]):=λp h=>by
  rw[<- Qr,x.e,Wy,W7 h]; rfl
 refine sm (it:=it) (St:=λi h=>h.get? it=some (bR (.ref T) i a es.size ep)/\cC prog w h a ks o es ep t xs/\h.get? T=some (eL ps)) (n:=es.size) (val:=λi=>((ps[i]?).bind λp=>(xs[p]?).map λz=>Value.str z.1 z.2).getD .none) hS hz (λi h h' ⟨q1,q2,q3⟩ k=>⟨k _ _ (Ne.symm hS) q1,{ q2 with g:=k _ _ (Ne.symm j0) q2.g },k _ _ (Ne.symm Ms) q3⟩) ?item ?done es.size 0 s #[] c (by omega) (Qm _) ⟨hi,x,gT⟩ gS rfl ?fin
 case item =>
  rintro i s Q E' aQ ⟨q1,q2,q3⟩ k;have jn:i < ps.length:=by omega
  have hp:=fO i jn;refine Mo (A:=A.in1) (T:=T) (ps:=ps) (p:=ps[i]) q2 q1 q3 rfl (W7 jn) (ge _ hp) λh' sb g=>?_
  have:((ps[i]?).bind λp=>(xs[p]?).map λz=>Value.str z.1 z.2).getD .none=Value.str (xs[ps[i]]).1 (xs[ps[i]]).2:=by
   rw[W7 jn,WL,W7 hp]; rfl
  have k2:=k h' (λb ob en e=>(sb.2 b en).trans e) ⟨g,{ q2 with g:=(sb.2 a jr).trans q2.g },(sb.2 T Mt).trans q3⟩;rw[this] at k2;exact k2
 case done =>
  rintro s Q E' ⟨q1,q2,q3⟩ k;exact Mp (A:=A.in1) (T:=T) (ps:=ps) hh q2 q1 q3 rfl (WX (by omega)) λh' eb=>k h' λb ob en e=>eb b ob en e
 case fin =>
  intro h' eK c' k g ea;refine fin h' eK c' (ps.filterMap (xs[·]?)) k g ?_ ?_
  ·rw[ea,<- hl];have all:∀ p ∈ ps,p < xs.length:=λp hp=>by have:=QQ.mp (pp.mem_iff.mp hp); omega
   clear pp fin ea g k hl fO ge hi gT;have:∀ ps:List Nat,(∀ p ∈ ps,p < xs.length)->(Wu ps.length).map (λi=>((ps[i]?).bind λp=>(xs[p]?).map λz=>Value.str z.1 z.2).getD .none)=(ps.filterMap (xs[·]?)).map λz=>Value.str z.1 z.2:=λps=>by
    induction ps with
    | nil=>intro _; rfl
    | cons p ps ih =>
     intro all;have hp:=all p Wi;rw[WO,Jo,Wc,Wv];have oP:=ih λq hq=>all q (Wg _ hq)
     have e1:(p :: ps).filterMap (xs[·]?)=xs[p] :: ps.filterMap (xs[·]?):=List.filterMap_cons_some (W7 hp);rw[e1,Wc,<- oP];simp[W7 hp,Function.comp_def]
   exact this ps all
  ·have p1:(ps.filterMap (xs[·]?)).Perm xs:=(pp.filterMap _).trans (by rw[<- vX,List.filterMap_getElem?_range_length]);exact(p1.map (·.1)).trans x.p
end
section
variable {prog:Wj} {w:Wm} {A:Wn} {E:Value->W1->Prop} {s:W1}
theorem Mu (hh:A.handled=none) (x:cC prog w s.heap a ks o es ep t xs) (hz:es.size<=1000) (j0:S≠a) (gS:s.heap.get? S=some { cls:=.type "list",data:=.seq #[] c0 })
  (fin:∀ (h3:Heap) (d:Drawn) (acc:Array Value) (c:Nat) (ys:List (Str×Tok)),(∀ b ob,b≠S->s.heap.get? b=some ob->h3.get? b=some ob)->h3.get? S=some { cls:=.type "list",data:=.seq acc c }->acc.toList=ys.map (λz=>Value.str z.1 z.2)->(ys.map (·.1)).Perm ks->R (.ok (.ret res)) { s with heap:=h3,drawn:=d }) :
  W6 (model prog w) A.in1 (Builtin.List.listExtendWith (.ref S) (.ref a) res) (λfin s'=>match fin with | .done f=>R (.ok f) s' | .again c'=>c'.quiet=true/\Qi (model prog w) A c' R s') (λe s'=>R (.error e) s') s:=by
 have lt:=Wk x.g;have lS:=Wk gS;unfold Builtin.List.listExtendWith;refine W0 (J9 (T:="set") x.so.typeIs ?_);have n1:Builtin.List.listSameRef (.ref S) (.ref a)=false:=by simp only[Builtin.List.listSameRef]; exact beq_eq_false_iff_ne.mpr j0
 have n2:(Value.type "set" == Value.type "list")=false:=by decide
 have n3:(Value.type "set" == Value.type "tuple")=false:=by decide
 simp only[n1,n2,n3,Bool.or_false,QC,if_false];refine W0 (Mq x hz (λhc=>?_) (λps d pp=>?_))
 ·have x2:cC prog w (s.heap.push (bR (.int 0 0) 0 a es.size ep)) a ks o es ep t xs:={ x with g:=W4 _ x.g }
  have g1:(s.heap.push (bR (.int 0 0) 0 a es.size ep)).get? S=some { cls:=.type "list",data:=.seq #[] c0 }:=W4 _ gS;have g2:(s.heap.push (bR (.int 0 0) 0 a es.size ep)).get? s.heap.objs.size=some (bR (.int 0 0) 0 a es.size ep):=Wh _ rfl;refine W0 (WK (Cj (s:={ s with heap:=s.heap.push (bR (.int 0 0) 0 a es.size ep) }) ⟨_,_,_,_,_,x2⟩ ?_));refine JG (λ_=>?_) (λhn=>absurd (by decide) hn);refine W0 (Qz ?_);refine W0 ?_;show W6 _ _ (updateSeq S (·.push .none) >>= λ_=>updateSeq S (·.pop)) _ _ _;refine W0 (JI (s:={ s with heap:=s.heap.push (bR (.int 0 0) 0 a es.size ep) }) g1 rfl ?_);have g4:=WC (Obj.mapSeq (·.push Value.none)) g1 rfl;refine JI (hz:=by seq_fits) g4 rfl ?_;have g5:=WC (Obj.mapSeq (·.pop)) g4 rfl;have k2:∀ b ob,b≠S->(s.heap.push (bR (.int 0 0) 0 a es.size ep)).get? b=some ob->(((s.heap.push (bR (.int 0 0) 0 a es.size ep)).update S (Obj.mapSeq (·.push Value.none))).update S (Obj.mapSeq (·.pop))).get? b=some ob:=λb ob hb e =>
   (Q0 _ _ (Ne.symm hb)).trans ((Q0 _ _ (Ne.symm hb)).trans e)
  refine W3 ⟨QM QD _,?_⟩;refine Mr (s:={ s with heap:=_ }) hh { x2 with g:=k2 a _ (Ne.symm j0) x2.g } hz (Wr lS) j0 (Wr lt) hc (k2 _ _ (QI lS) g2) g5 λh3 acc c' ys k3 g6 ea pp=>fin h3 s.drawn acc c' ys (λb ob hb e=>?_) g6 ea pp
  have lb:=Wk e;exact k3 b ob hb (Wr lb) (k2 b ob hb (W4 _ e))
 ·have zT:(s.heap.push (eL ps)).objs.size=s.heap.objs.size + 1:=Qt _ _;have x2:cC prog w ((s.heap.push (eL ps)).push (bR (.ref s.heap.objs.size) 0 a es.size ep)) a ks o es ep t xs:={ x with g:=W4 _ (W4 _ x.g) }
  have g1:((s.heap.push (eL ps)).push (bR (.ref s.heap.objs.size) 0 a es.size ep)).get? S=some { cls:=.type "list",data:=.seq #[] c0 }:=W4 _ (W4 _ gS);have g2:((s.heap.push (eL ps)).push (bR (.ref s.heap.objs.size) 0 a es.size ep)).get? (s.heap.push (eL ps)).objs.size=some (bR (.ref s.heap.objs.size) 0 a es.size ep):=Wh _ rfl;have gT:((s.heap.push (eL ps)).push (bR (.ref s.heap.objs.size) 0 a es.size ep)).get? s.heap.objs.size=some (eL ps):=W4 _ (Wh _ rfl);have lI:S < (s.heap.push (eL ps)).objs.size:=by rw[zT]; exact Qn lS
  refine W0 (WK (Cj (s:={ s with heap:=(s.heap.push (eL ps)).push (bR (.ref s.heap.objs.size) 0 a es.size ep),drawn:=d }) ⟨_,_,_,_,_,x2⟩ ?_));refine JG (λ_=>?_) (λhn=>absurd (by decide) hn);refine W0 (Qz ?_);refine W0 ?_;show W6 _ _ (updateSeq S (·.push .none) >>= λ_=>updateSeq S (·.pop)) _ _ _;refine W0 (JI (s:={ s with heap:=(s.heap.push (eL ps)).push (bR (.ref s.heap.objs.size) 0 a es.size ep),drawn:=d }) g1 rfl ?_);have g4:=WC (Obj.mapSeq (·.push Value.none)) g1 rfl;refine JI (hz:=by seq_fits) g4 rfl ?_;have g5:=WC (Obj.mapSeq (·.pop)) g4 rfl;have k2:∀ b ob,b≠S->((s.heap.push (eL ps)).push (bR (.ref s.heap.objs.size) 0 a es.size ep)).get? b=some ob->((((s.heap.push (eL ps)).push (bR (.ref s.heap.objs.size) 0 a es.size ep)).update S (Obj.mapSeq (·.push Value.none))).update S (Obj.mapSeq (·.pop))).get? b=some ob:=λb ob hb e =>
   (Q0 _ _ (Ne.symm hb)).trans ((Q0 _ _ (Ne.symm hb)).trans e)
  refine W3 ⟨QM QD _,?_⟩;refine Bu (s:={ s with heap:=_,drawn:=d }) (T:=s.heap.objs.size) (ps:=ps) hh { x2 with g:=k2 a _ (Ne.symm j0) x2.g } hz (Wr lI) j0 (Wr (by rw[zT]; exact Qn lt)) (Wr lS) (by rw[zT]; exact Wr (U2 _)) pp (k2 _ _ (QI lI) g2) (k2 _ _ (QI lS) gT) g5 λh3 acc c' ys k3 g6 ea pp=>fin h3 d acc c' ys (λb ob hb e=>?_) g6 ea pp
  have lb:=Wk e;exact k3 b ob hb (Wr (by rw[zT]; exact Qn lb)) (k2 b ob hb (W4 _ (W4 _ e)))
theorem Mv(hh:A.handled=none)(hA:dX prog w s.heap a ks)(hn:ks.length<=1000)
  (h:∀ (h':Heap) (d:Drawn) (zs:List (Str×Tok)),(zs.map (·.1)).Perm ks->(∀ b o,s.heap.get? b=some o->h'.get? b=some o)->s.heap.objs.size < h'.objs.size->Q (zs.map λz=>Value.str z.1 z.2) { s with heap:=h',drawn:=d }):W6 (model prog w) A (collect (.ref a)) Q E s:=by
 obtain⟨o,es,ep,t,xs,x⟩:=hA;have hz:es.size<=1000:=by rw[x.sz]; exact hn
 have lt:=Wk x.g;unfold collect;refine W0 (wpAny_runValue (Qq PySem.F.entry_proto_collect ?_));rw[Around.under_plainId PySem.F.plain_proto_collect _];show W6 _ A.in1 (newList [] >>= λl=>again (.builtin "list.__iadd__" ⟨[l,.ref a],[]⟩)) _ _ s;refine W0 (WD ?_);refine W3 ⟨QM PySem.F.plain_list_iadd _,Qq PySem.F.entry_list_iadd ?_⟩;rw[Around.under_plainId PySem.F.plain_list_iadd _];generalize hL:({ cls:=.type "list",data:=.seq ([]:List Value).toArray }:Obj)=L0;have g0:(s.heap.push L0).get? s.heap.objs.size=some { cls:=.type "list",data:=.seq #[] }:=by rw[<- hL]; exact Wh _ rfl
 have x1:cC prog w (s.heap.push L0) a ks o es ep t xs:={ x with g:=W4 _ x.g }
 show W6 _ A.in1 (Builtin.List.listExtendWith (.ref s.heap.objs.size) (.ref a) (.ref s.heap.objs.size)) _ _ _;have key:=Mu (A:=A) (s:={ s with heap:=s.heap.push L0 }) (res:=.ref s.heap.objs.size) (R:=λq s'=>∃ (h3:Heap) (d:Drawn) (acc:Array Value) (c:Nat) (ys:List (Str×Tok)),q = .ok (.ret (.ref s.heap.objs.size))/\s' = { s with heap:=h3,drawn:=d }/\(∀ b ob,s.heap.get? b=some ob->h3.get? b=some ob)/\h3.get? s.heap.objs.size=some { cls:=.type "list",data:=.seq acc c }/\acc.toList=ys.map (λz=>Value.str z.1 z.2)/\(ys.map (·.1)).Perm ks) hh x1 hz (QI lt) g0 λh3 d acc c ys k3 g3 ea pp =>
  ⟨h3,d,acc,c,ys,rfl,rfl,λb ob e=>k3 b ob (Wr (Wk e)) (W4 _ e),g3,ea,pp⟩
 have last:∀ (h3:Heap) (d:Drawn) (acc:Array Value) (c:Nat) (ys:List (Str×Tok)),(∀ b ob,s.heap.get? b=some ob->h3.get? b=some ob)->h3.get? s.heap.objs.size=some { cls:=.type "list",data:=.seq acc c }->acc.toList=ys.map (λz=>Value.str z.1 z.2)->(ys.map (·.1)).Perm ks ->
   W6 (model prog w) A (do
    match (<- load s.heap.objs.size).data with
    | .seq xs _=>pure xs.toList
    | _=>unsupported "internal:collect") Q E { s with heap:=h3,drawn:=d }:=λh3 d acc c ys k3 g3 ea pp=>by
  refine W0 (wpAny_load g3 ?_);refine W3 ?_;show Q acc.toList _;rw[ea];exact h h3 d ys pp k3 (Wk g3)
 refine WN key (λfin s' z=>?_) λe s' z=>?_
 ·cases fin with
  | done f =>
   obtain⟨h3,d,acc,c,ys,e,rfl,k3,g3,ea,pp⟩:=z
   cases e;exact last h3 d acc c ys k3 g3 ea pp
  | again c₁ =>
   refine⟨z.1,QU z.2 λq s₂ y=>?_⟩;obtain⟨h3,d,acc,c,ys,rfl,rfl,k3,g3,ea,pp⟩:=y;exact last h3 d acc c ys k3 g3 ea pp
 ·obtain⟨_,_,_,_,_,e',_⟩:=z
  cases e'
theorem Mw(zs:List (Str×Tok)):StrsAre (zs.map λz=>Value.str z.1 z.2) (zs.map (·.1)):=by
 induction zs with
 | nil=>exact .nil
 | cons z zs ih=>exact .cons _ _ ih
theorem Mx(hh:A.handled=none)(hA:dX prog w s.heap a ks)(hn:ks.length < 64)
  (h:∀ (h':Heap) (d:Drawn) (p:Addr) (e:Nat) (out:Array Value) (ss:List Str),StrsAre out.toList ss->ss.Perm ks->sortedS ss=true->(∀ b o,s.heap.get? b=some o->h'.get? b=some o)->s.heap.objs.size<=p->h'.get? p=some (seqObj "list" out e)->Q (.ref p) { s with heap:=h',drawn:=d }) :
  W6 (model prog w) A (call (.builtin "sorted") [.ref a]) Q E s:=by
 refine Calls.call_function_entry kind_sorted plain_sorted entry_sorted (args_sorted1 _) ?_;unfold Builtin.«sorted»;refine W0 (m:=checkCount "sorted" 1 1 _) (W3 (W0 (Mv (A:=A.in1) hh hA (by omega) λh1 d zs pz k1 hz=>?_)));have hl:(zs.map λz=>Value.str z.1 z.2).length < 64:=by have:=pz.length_eq; simp at this ⊢; omega
 refine W0 (wpAny_newList ?_ (by rw[QF]; omega));have hS:=Mw zs;generalize (zs.map λz=>Value.str z.1 z.2)=vs at hl hS ⊢;have ho:(h1.push (seqObj "list" vs.toArray 0)).get? h1.objs.size=some (seqObj "list" vs.toArray 0):=Wh _ rfl;refine W0 (WK (WF slot_list_sort ⟨_,ho,rfl⟩ entry_list_sort (list_sort_treeK (s:={ s with heap:=h1.push (seqObj "list" vs.toArray 0),drawn:=d }) strKind_oneLt ho hS.keysOf (λv₁ v₂ rest e=>keyKind_strs (by rw[<- e]; exact hS)) hl λdf hp hs=>⟨_,rfl,?_⟩) (args_list_sort _)));obtain⟨ss',q1,q2,q3⟩:=sorted_out_str hS hp hs;obtain⟨e,he⟩:=sortedHeap_at (out:=(arrOf df).map (·.2)) ho;refine W3 ⟨_,rfl,h _ d h1.objs.size e _ ss' q1 (q2.trans pz) q3 (λb o q=>?_) (Js hz) he⟩;have r1:=k1 b o q;have lb:=Wk r1;rw[sortedHeap_old (Wr lb) (by rw[size_push']; exact Qn lb)];exact W4 _ r1
end
end SU
set_option maxHeartbeats 400000
namespace L2
open PySem PySem.Spec PyProof.Rows PySem.W DV SU
def k6(X:Cx)(a:Addr)(ks:List Str):HO:=.ext λh=>dX X.prog X.w h a ks
theorem My(x:dX X.prog X.w h a ks):bw X.prog X.w H h a (k6 X a ks):=by
 refine⟨x,?_,λh1 h2 y k=>y.at' k⟩;obtain⟨o,es,ep,t,xs,z⟩:=x;exact⟨o,z.g⟩
theorem Mz(ok:bK X.prog X.w H h)(e:H a=some (k6 X a ks)):dX X.prog X.w h a ks :=
 (show bw X.prog X.w H h a (k6 X a ks) from ok a _ e).1
section
variable {X:Cx}
theorem Inv.drawn(I:Inv X pins σ H s)(d:Drawn):Inv X pins σ H { s with drawn:=d } :=
 ⟨I.ok,I.os,I.bare,I.base,I.loc,I.cell,I.free,I.gA,I.pin,I.aj,I.len⟩
theorem oV:∀ {vs:List Value} {ss:List Str},StrsAre vs ss->Vals (ss.map V.str) vs
 | _,_,.nil=>.nil
 | _,_,.cons x t h=>.cons ⟨t,rfl⟩ (oV h)
theorem MA (hc:X.calm=true):dg X (.builtin "sorted") (λxs H Q=>∃ (a:Addr) (ts:List Tx),xs=[.ref a]/\H a=some (k6 X a (ts.map toS))/\ts.length < 64/\∀ p,H p=none->Q (.ref p) (upd H p (.lst ((d_ ts).map λz=>V.str (toS z))))):=by
 intro pins s σ H xs us Q I r h;obtain⟨a,ts,rfl,ha,hz,q⟩:=h;obtain⟨u,rfl,ru⟩:=fJ r
 cases ru;refine Mx (I.ok.hd hc) (Mz I.aj ha) (by simpa using hz) λh' d p e out ss hS hp hs k Ck g=>?_
 have e2:ss=(d_ ts).map toS:=by
  have uK:(ss.map λz:Str=>z.cps.toList).Pairwise gI:=by
   cases ss with
   | nil=>simp
   | cons x r=>exact uJ x r hs
  have uL:(ss.map λz:Str=>z.cps.toList).Perm ts:=by
   have:=hp.map λz:Str=>z.cps.toList
   rw[Wv] at this;have e2:ts.map ((λz:Str=>z.cps.toList) ∘ toS)=ts:=by
    rw[show((λz:Str=>z.cps.toList) ∘ toS)=id from funext λz=>oO z,List.map_id]
   rw[e2] at this;exact this
  rw[<- AD uL uK,Wv];rw[show(toS ∘ λz:Str=>z.cps.toList)=id from funext λz=>(uC z).symm,List.map_id]
 have rv:Vals ((d_ ts).map λz=>V.str (toS z)) out.toList:=by
  have:=oV hS;rw[e2,Wv] at this;exact this
 have hl:(d_ ts).length=ts.length:=(qW ts).length_eq;have I1:=(I.drawn d).laid (h':=h') (t':=s.toks) (o:=.lst ((d_ ts).map λz=>V.str (toS z))) k Ck (show bw X.prog X.w _ _ _ (.lst _) from⟨by rw[Wq,hl,QF]; omega,out.toList,e,rv,g⟩);exact⟨.ref _,_,I1,rfl,q _ (I.aj.fresh Ck)⟩
end
end L2
namespace DV
open PySem PySem.Spec PyProof.Rows L2 SU
section
variable {X:Cx} {c:Fc} {a b:Expr} {f g:DE} {pp pos p1 Si p3 p4 p5:Pos}
end
end DV
namespace L2
open PySem PySem.Spec PyProof.Rows PySem.W DV
section
variable {X:Cx}
end
end L2
namespace DV
open PySem PySem.Spec PyProof.Rows L2
section
variable {X:Cx} {c:Fc} {e:Expr} {fb:BE} {pp pos:Pos}
end
section
variable {X:Cx}
end
section
variable {X:Cx} {c:Fc} {o e:Expr} {fa fb:DE}
end
end DV
set_option maxHeartbeats 3200000
namespace SU
open PySem PyProof.Rows
theorem MB:isSubtype (.type "str") (.type "set")=pure false:=by rw[isSubtype_type]; kernel_rfl
theorem MC:isSubtype (.type "str") (.type "frozenset")=pure false:=by rw[isSubtype_type]; kernel_rfl
section
variable {prog:Wj} {w:Wm} {A:Wn} {E:Value->W1->Prop} {s:W1}
theorem MD(hh:A.handled=none)(hb:x.cps.size + 1 < JN)
  (h:∀ (h':Heap) (tk:Nat),dX prog w h' s.heap.objs.size (fm (λi=>⟨#[x.cps.getD i 0]⟩) x.cps.size)->(∀ b o,s.heap.get? b=some o->h'.get? b=some o)->Q (.ref s.heap.objs.size) { s with heap:=h',toks:=tk }) :
  W6 (model prog w) A (call (.type "set") [.str x t]) Q E s:=by
 refine Mi ?_;have e1:=MB;have e2:=MC;have e3:(Value.type "str" == Value.type "dict")=false:=by decide
 unfold Builtin.«set.__init__» noKeywords Builtin.Frozenset.updateFrom;generalize hPI:pyIter=PI;wp_walk
 subst hPI;refine wpAny_pyIter_str λo St W fw=>?_
 refine W0 (wpAny_runValue ?_);have ME:A.in1.in1.in1.handled=none:=by simp[hh]
 have MF:s.heap.objs.size ∉ [(s.heap.push (kZ w)).objs.size]:=by
  rw[Qt,List.mem_singleton];exact Wr (U2 _)
 refine Md ((W _ ME).toS) s.heap.objs.size MF (λi=>⟨#[x.cps.getD i 0]⟩) (λi v ⟨c,u,e,ev⟩=>⟨u,by rw[ev,Array.getD_eq_getD_getElem?,e]; rfl⟩) hb (x.cps.size - 0) 0 _ (by omega) (Qm _) fw ((Mg s.heap).at' λo' e=>W4 _ e) λs' mv z=>?_
 obtain⟨h',g',d',l6,os'⟩:=s';have q1:g'=s.gens:=mv.gens;have q2:d'=s.drawn:=mv.drawn;have q3:os'=s.os:=mv.os;subst q1; subst q2; subst q3
 show W6 _ _ _ _ _ _;refine W3 ?_;show W6 _ _ (ret Value.none) _ _ _;refine W3 ⟨rfl,h h' l6 z λb ob e=>?_⟩;have lb:=Wk e;refine mv.heap b ob ?_ (W4 _ (W4 _ e));rw[Qt];simp only[Wl,List.not_mem_nil,or_false,not_or];exact⟨Wr lb,Wr (Qn lb)⟩
end
end SU
set_option maxHeartbeats 1000000
namespace DV
open PySem (sizeLine)
open L2
section
variable {α β:Type}
@[simp] theorem fQ (a:α) (δ:Dl) (f:α->Dl->Rs β):(Rs.ok a δ).bind f=f a δ:=id rfl
@[simp] theorem Sj (f:α->Dl->Rs β):(Rs.stuck:Rs α).bind f = .stuck:=id rfl
@[simp] theorem MG (d:D):(S.pure d).d=d:=id rfl
@[simp] theorem Sk (d:D):(S.own d).d=d:=id rfl
end
section
variable (δ:Dl) (i:Nat) (d e:D) (f g:DE) (fb:BE) (t u:DT) (p:D->D->Option S)
@[simp] theorem MH:eD d δ = .ok (.pure d) δ:=id rfl
@[simp] theorem MI:ar f δ=(f δ).bind λr δ'=>.ok r.d δ':=id rfl
@[simp] theorem MJ:a_ p f fb δ=(f δ).bind λx δ1=>(fb δ1).bind λy δ2=>p2 p x.d y δ2:=id rfl
@[simp] theorem Sl:rg t u δ=(t δ).bind λb δ1=>if b then u δ1 else .ok false δ1:=id rfl
@[simp] theorem Sm:jh t u δ=(t δ).bind λb δ1=>if b then .ok true δ1 else u δ1:=id rfl
@[simp] theorem Sn:ji t δ=(t δ).bind λb δ1=>.ok (!b) δ1:=id rfl
@[simp] theorem So:Ip t f g δ=(t δ).bind λb δ1=>if b then f δ1 else g δ1:=id rfl
@[simp] theorem Sq:dP δ = .ok .next δ:=id rfl
@[simp] theorem Sr:dH δ = .ok true δ:=id rfl
@[simp] theorem Ss:nc f δ=(f δ).bind λ_ δ1=>.ok .next δ1:=id rfl
@[simp] theorem Su:cB f δ=(f δ).bind λr δ1=>.ok (.ret r) δ1:=id rfl
@[simp] theorem Sv (a b:DS):dG t a b δ=(t δ).bind λx δ1=>if x then a δ1 else b δ1:=id rfl
@[simp] theorem Sw (it:DI) (gg:DG) (b:DS):cW it gg b δ=(it δ).bind λds δ1=>forL gg b ds δ1:=id rfl
@[simp] theorem Sx (a:DA):e_ a δ=(a δ).bind λds δ'=>.ok (.pure (.tup ds)) δ':=id rfl
@[simp] theorem Sy (a:DA):hV a δ=(a δ).bind λds δ'=>.ok (.own (.lst ds)) δ':=id rfl
@[simp] theorem Sz (ds:List D):vm ds δ = .ok (.own (.lst ds)) δ:=id rfl
@[simp] theorem SD:cV δ = .ok [] δ:=id rfl
@[simp] theorem SF (a:DA):cb f a δ=(f δ).bind λx δ1=>(a δ1).bind λxs δ2=>.ok (x.d :: xs) δ2:=id rfl
@[simp] theorem SH (q:D->Option S):aT q fb δ=(fb δ).bind λx δ1=>p1 q x δ1:=id rfl
@[simp] theorem SJ:rC f g δ=(f δ).bind λx δ1=>(g δ1).bind λy δ2=>p2 uY x.d y.d δ2:=id rfl
@[simp] theorem SK (fl fh:kK):I_ f fl fh δ=(f δ).bind λx δ1=>(fl δ1).bind λl δ2=>(fh δ2).bind λh δ3=>p1 (jm l h) x.d δ3:=id rfl
@[simp] theorem SM:IY δ = .ok none δ:=id rfl
@[simp] theorem mf (cs:List Nat) (it:DI) (gg:DG) (el:DE):cI cs it gg t el δ=(it δ).bind λds δ1=>if cs.any (bH δ1) then .stuck else
 (da cs gg t el ds (bc cs δ1) []).bind λacc δ2=>.ok (.own (.lst acc)) (dj cs δ1 δ2):=id rfl
@[simp] theorem SN (np:List Nat) (r:S):ag np i r δ=if np.contains i then none else some (δ.set i (some r)):=id rfl
@[simp] theorem SQ (gg:DG) (b:DS):forL gg b [] δ = .ok .next δ:=id rfl
end
section
variable (δ:Dl) (i:Nat) (d e:D) (f g:DE) (fb:BE) (p:D->D->Option S) (s:S)
@[simp] theorem MK (x y:D):p2 p x y δ=match p x y with | some s=>.ok s δ | none=>.stuck:=id rfl
@[simp] theorem SR (q:D->Option S) (x:D):p1 q x δ=match q x with | some s=>.ok s δ | none=>.stuck:=id rfl
@[simp] theorem SV (a b:DS):aI a b δ=(a δ).bind λfl δ1=>match fl with | .next=>b δ1 | .ret r=>.ok (.ret r) δ1 | .brk=>.ok .brk δ1 | .cont=>.ok .cont δ1:=id rfl
@[simp] theorem SY {α β:Type} (c:Prop) [Decidable c] (x y:Rs α) (k:α->Dl->Rs β):(if c then x else y).bind k=if c then x.bind k else y.bind k:=by split <;> rfl
end
theorem cQ:W8=16777216:=rfl
theorem j3(xs:List α)(i:Nat):cU xs (i:Int)=xs[i]?:=by
 unfold cU e7;by_cases h:i < xs.length
 ·rw[if_pos (by omega),if_pos (by omega)];simp
 ·rw[if_pos (by omega),if_neg (by omega)];simp[WX (Nat.le_of_not_lt h)]
theorem vY(xs:List α):cU xs 2=xs[2]?:=j3 xs 2
theorem mh(xs:List α):cU xs 0=xs[0]?:=j3 xs 0
theorem vZ(xs:List α):cU xs 1=xs[1]?:=j3 xs 1
theorem v3(I:Dl->Prop)(R:D->D->Prop) :
  ∀ (ds:List D) (δ:Dl) (acc:List D),I δ->acc.length + ds.length<=W8 ->
   (∀ d ∈ ds,∀ δ,I δ->∃ δ1 δ2 x δ3,g (.pure d) δ=some δ1/\t δ1 = .ok true δ2/\el δ2 = .ok x δ3/\I (bc cs δ3)/\R d x.d) ->
   ∃ xs δ',da cs g t el ds δ acc = .ok (acc ++ xs) δ'/\I δ'/\xs.length=ds.length/\∀ (i:Nat) d x,ds[i]? = some d->xs[i]? = some x->R d x
 | [],δ,acc,h,_,_=>⟨[],δ,by simp[da],h,rfl,λi d x e=>by simp at e⟩
 | d :: r,δ,acc,h,hl,hs=>by
  obtain⟨δ1,δ2,x,δ3,e1,e2,e3,h3,hr⟩:=hs d Wi δ h;have fG:acc.length < W8:=by simp at hl; omega
  obtain⟨xs,δ',e4,h4,hn,hf⟩:=v3 (g:=g) (t:=t) (el:=el) I R r (bc cs δ3) (acc ++ [x.d]) h3 (by simp at hl ⊢; omega) (λd hd=>hs d (Wg _ hd));refine⟨x.d :: xs,δ',?_,h4,by simp[hn],λi d' x' f1 f2=>?_⟩
  ·unfold da;rw[e1];simp only[e2,fQ,if_true,e3,if_pos fG,e4];simp
  ·cases i with
   | zero=>simp at f1 f2; subst f1 f2; exact hr
   | succ i=>exact hf i d' x' (by simpa using f1) (by simpa using f2)
theorem ML(F:D->D)(δ:Dl) :
  ∀ (ds:List D) (acc:List D),acc.length + ds.length<=W8 ->
   (∀ d ∈ ds,∃ δ1 δ2 x δ3,g (.pure d) δ=some δ1/\t δ1 = .ok true δ2/\el δ2 = .ok x δ3/\bc cs δ3=δ/\x.d=F d) ->
   da cs g t el ds δ acc = .ok (acc ++ ds.map F) δ:=by
 intro ds acc hl hs;obtain⟨xs,δ',e,h,hn,hf⟩:=v3 (cs:=cs) (g:=g) (t:=t) (el:=el) (λδ'=>δ'=δ) (λd x=>x=F d) ds δ acc rfl hl (λd hd δ' h=>by
  subst h;obtain⟨δ1,δ2,x,δ3,a,b,c,d,e⟩:=hs d hd;exact⟨δ1,δ2,x,δ3,a,b,c,d,e⟩)
 subst h;rw[e];congr 2
 apply List.ext_getElem?;intro i;by_cases hi:i < ds.length
 ·have:=hf i ds[i] (xs[i]'(by omega)) (by simp[hi]) (by simp[hn,hi]);simp[hn,hi,this]
 ·rw[WX (by omega),WX (by simp; omega)]
theorem nE(I:Nat->Dl->Prop) :
  ∀ (ds:List D) (n:Nat) (δ:Dl),I n δ ->
   (∀ (i:Nat) d δ,ds[i]? = some d->I (n + i) δ->∃ δ1 δ2,g (.pure d) δ=some δ1/\b δ1 = .ok .next δ2/\I (n + i + 1) δ2) ->
   ∃ δ',forL g b ds δ = .ok .next δ'/\I (n + ds.length) δ'
 | [],n,δ,h,_=>⟨δ,rfl,h⟩
 | d :: r,n,δ,h,hs=>by
  obtain⟨δ1,δ2,e1,e2,h2⟩:=hs 0 d δ rfl h;obtain⟨δ',e3,h3⟩:=nE (g:=g) (b:=b) I r (n + 1) δ2 h2 (λi d' δ' e hi=>by
   have:=hs (i + 1) d' δ' (by simpa using e) (by rw[show n + (i + 1)=n + 1 + i by omega]; exact hi);rw[show n + (i + 1) + 1=n + 1 + i + 1 by omega] at this;exact this)
  refine⟨δ',?_,by rw[WO,show n + (r.length + 1)=n + 1 + r.length by omega]; exact h3⟩;unfold forL;rw[e1];simp only[e2,fQ,e3]
theorem pK(xs:List Tx):fg (xs.map .str)=some xs:=by
 induction xs with
 | nil=>rfl
 | cons x r ih=>simp[fg,ih]
theorem su:∀ ts:List Tx,iS [] ts=ts.flatten
 | []=>rfl
 | [x]=>by simp[iS]
 | x :: y :: r=>by rw[iS,su (y :: r)]; simp
theorem MM(xs:List Nat):gi (xs.map λn=>[n])=xs.length:=by
 unfold gi;induction xs with
 | nil=>rfl
 | cons x r ih=>simp at ih ⊢; omega
theorem MN(xs:List Nat):(xs.map λn=>[n]).flatten=xs:=by
 induction xs with
 | nil=>rfl
 | cons x r ih=>simp[ih]
theorem MO(xs:List Nat)(h:xs.length<=16777216):di [] (.lst (xs.map λn=>.str [n]))=some (.pure (.str xs)):=by
 have e:(xs.map λn=>D.str [n])=(xs.map λn=>[n]).map D.str:=by simp
 unfold di;simp only[e,pK,MM,su,MN];rw[if_pos (by simpa using h)]
theorem MP(r:Tx)(c:Nat)(h:c < r.length)(hl:r.length<=64):aS (.str r) (.int c)=some (.pure (.str [r.getD c 0])):=by
 unfold aS;have:W8=16777216:=rfl;simp only;rw[if_pos (by omega),j3];simp[h]
abbrev cR(fl:List Tx):D:=.tup (fl.map .str)
structure S0(w:Nat)(fl:List Tx):Prop where
 h0:0 < fl.length
 h1:fl.length<=64
 w0:0 < w
 w1:w<=64
 all:∀ r ∈ fl,r.length=w
def turn(w:Nat)(fl:List Tx):List Tx:=(Wu w).map λc=>fl.map λr=>r.getD c 0
def back(fl:List Tx):List Tx:=fl.map List.reverse
def jH(r:S)(δ1:Dl):Rs (List D):=match r with
 | .pure (.int j)=>if nh j then .ok (bY 0 j.toNat) δ1 else .stuck
 | _=>.stuck
@[simp] theorem S1 (f:DE) (δ:Dl):gj f δ=(f δ).bind λr δ1=>jH r δ1:=id rfl
theorem MQ(w:Nat)(hw:w<=1000000):nh (w:Int)=true:=by
 have h1 : -(4611686018427387904:Int)<=(w:Int):=by omega
 have h2:(w:Int) < 4611686018427387904:=by omega
 unfold nh;rw[Ws];exact⟨decide_eq_true h1,decide_eq_true h2⟩
theorem MR(j:Int)(hs:nh j=true)(δ:Dl):jH (.pure (.int j)) δ = .ok (bY 0 j.toNat) δ:=by unfold jH; simp only[hs,if_true]
theorem sv(w:Nat)(hw:w<=1000000)(δ:Dl):jH (.pure (.int w)) δ = .ok (bY 0 w) δ:=by
 have:=MR (w:Int) (MQ w hw) δ;rwa [Qc] at this
theorem v5(h:(bY 0 n)[i]? = some d):i < n/\d = .int (i:Int):=by
 unfold bY at h;rw[Wy] at h;by_cases hi:i < n
 ·rw[List.getElem?_range hi] at h;simp at h;exact⟨hi,h.symm⟩
 ·rw[WX (by simpa using hi)] at h
  cases h
theorem Cm(h:d ∈ bY 0 n):∃ i:Nat,i < n/\d = .int (i:Int):=by
 obtain⟨i,hi⟩:=Jz h;exact⟨i,v5 hi⟩
@[simp] theorem S2 (lo:Int) (n:Nat):(bY lo n).length=n:=by simp[bY]
def iu(x:Nat):List Nat->List Nat
 | []=>[x]
 | y :: r=>if y < x then y :: iu x r else x :: y :: r
def dJ:List Nat->List Nat
 | []=>[]
 | x :: r=>iu x (dJ r)
theorem Cn(a b:Nat):(([a]:Tx) < [b]) ↔ a < b:=by
 constructor
 ·intro h
  cases h with
  | cons h=>cases h
  | rel h=>exact h
 ·intro h; exact List.Lex.rel h
theorem Co(x:Nat):∀ xs:List Nat,jQ [x] (xs.map λn=>[n])=(iu x xs).map λn=>[n]
 | []=>rfl
 | y :: r=>by
  simp only[Wc,jQ,iu];by_cases h:y < x
  ·rw[if_pos ((Cn y x).mpr h),if_pos h,Co x r]; rfl
  ·rw[if_neg λz=>h ((Cn y x).mp z),if_neg h]; rfl
theorem v7:∀ xs:List Nat,d_ (xs.map λn=>[n])=(dJ xs).map λn=>[n]
 | []=>rfl
 | x :: r=>by rw[Wc,d_,v7 r,Co]; rfl
theorem v8:∀ {xs:List Nat},y ∈ iu x xs ↔ y=x\/y ∈ xs
 | []=>by simp[iu]
 | z :: r=>by
  unfold iu;split
  ·simp[v8 (xs:=r)]; constructor <;> (rintro (h | h | h) <;> simp[h])
  ·simp
theorem nF:∀ {xs:List Nat},y ∈ dJ xs ↔ y ∈ xs
 | []=>by simp[dJ]
 | x :: r=>by rw[dJ,v8,nF (xs:=r)]; simp
theorem Cp(x:Nat):∀ xs:List Nat,(iu x xs).length=xs.length + 1
 | []=>rfl
 | y :: r=>by unfold iu; split <;> simp[Cp x r]
theorem v9:∀ xs:List Nat,(dJ xs).length=xs.length
 | []=>rfl
 | x :: r=>by rw[dJ,Cp,v9 r]; rfl
theorem Cq:∀ {xs:List Nat},xs.Pairwise (· < ·)->x ∉ xs->(iu x xs).Pairwise (· < ·)
 | [],_,_=>by simp[iu]
 | y :: r,h,hx=>by
  rw[List.pairwise_cons] at h;simp at hx;unfold iu;split
  ·rename_i hl;rw[List.pairwise_cons];refine⟨λz hz=>?_,Cq h.2 hx.2⟩;rcases v8.mp hz with rfl | hz
   ·exact hl
   ·exact h.1 z hz
  ·rename_i hl;rw[List.pairwise_cons];refine⟨λz hz=>?_,Q1.mpr h⟩;rcases Wl.mp hz with rfl | hz
   ·omega
   ·have:=h.1 z hz; omega
theorem pL:∀ {xs:List Nat},xs.Nodup->(dJ xs).Pairwise (· < ·)
 | [],_=>by simp[dJ]
 | x :: r,h=>by
  rw[Q2] at h;exact Cq (pL h.2) λz=>h.1 (nF.mp z)
theorem Cr{P:Nat->Prop}:∀ {xs:List D},(∀ x ∈ xs,∃ n,P n/\x = .str [n])->∃ row:List Nat,xs=row.map (λn=>.str [n])/\∀ n ∈ row,P n
 | [],_=>⟨[],rfl,by simp⟩
 | x :: r,h=>by
  obtain⟨n,hn,rfl⟩:=h x Wi;obtain⟨row,rfl,hr⟩:=Cr (xs:=r) λy hy=>h y (Wg _ hy)
  exact⟨n :: row,rfl,by simpa using ⟨hn,hr⟩⟩
theorem MS{R:D->D->Prop}{ds xs:List D}{Q:D->Prop}(hn:xs.length=ds.length)(hf:∀ (i:Nat) d x,ds[i]? = some d->xs[i]? = some x->R d x)(hq:∀ d x,d ∈ ds->R d x->Q x):∀ x ∈ xs,Q x:=λx hx=>by
 obtain⟨i,hi⟩:=Jz hx;have h1:=(W5.mp hi).1;have h2:ds[i]? = some (ds[i]'(by omega)):=by simp[show i < ds.length by omega]
 exact hq _ x (QR _) (hf i _ x h2 hi)
theorem Cs(w:Nat)(hw:w<=100000)(δ:Dl):jH (.pure (.int (1 + (w:Int)))) δ = .ok (bY 0 (1 + w)) δ:=by
 have:=sv (1 + w) (by omega) δ;rwa [show(((1 + w:Nat):Int))=1 + (w:Int) by omega] at this
abbrev dB(b:Nat×List Tx):D:=.tup [.str [b.1],cR b.2]
abbrev au(h w:Nat)(bs:List (Nat×List Tx)):D:=.tup [.int h,.int w,.tup (bs.map dB)]
structure bB(h w:Nat)(bs:List (Nat×List Tx)):Prop where
 h0:0 < h
 h1:h<=4
 w0:0 < w
 w1:w<=4
 hw:2 < h + w
 n0:0 < bs.length
 n1:bs.length<=26
 up:(bs.map (·.1)).Pairwise (· < ·)
 S3:∀ b ∈ bs,97<=b.1/\b.1<=122
 eA:∀ b ∈ bs,b.2.length=h/\∀ r ∈ b.2,r.length=w/\∀ n ∈ r,n ∈ bs.map (·.1)
theorem nG(f F:A->D)(δ:Dl):∀ (as:List A) (acc:List D),acc.length + as.length<=W8 ->
  (∀ a ∈ as,∃ δ1 δ2 x δ3,g (.pure (f a)) δ=some δ1/\t δ1 = .ok true δ2/\el δ2 = .ok x δ3/\bc cs δ3=δ/\x.d=F a)->da cs g t el (as.map f) δ acc = .ok (acc ++ as.map F) δ
 | [],acc,_,_=>by simp[da]
 | a :: r,acc,hl,hs=>by
  obtain⟨δ1,δ2,x,δ3,e1,e2,e3,e4,e5⟩:=hs a Wi;have fG:acc.length < W8:=by simp at hl; omega
  have ih:=nG (cs:=cs) (g:=g) (t:=t) (el:=el) f F δ r (acc ++ [x.d]) (by simp at hl ⊢; omega) (λa ha=>hs a (Wg _ ha));rw[Wc];unfold da;rw[e1];rw[e5] at ih;simp only[e2,fQ,if_true,e3,if_pos fG,e4,e5,ih];simp
end DV
set_option maxHeartbeats 400000
namespace L2
open PySem PySem.Spec PyProof.Rows PySem.W DV SU
section
variable {X:Cx}
theorem MT (hc:X.calm=true):dg X (.type "set") (λxs H Q=>∃ z:Tx,xs=[.str (toS z)]/\z.length < 1000/\∀ p,H p=none->Q (.ref p) (upd H p (k6 X p ((z.map λn=>toS [n]).foldl dd [])))):=by
 intro pins s σ H xs us Q I r h;obtain⟨z,rfl,hz,q⟩:=h;obtain⟨u,rfl,ru⟩:=fJ r;obtain⟨t,rfl⟩:=ru;have sz:(toS z).cps.size=z.length:=by simp[toS]
 refine MD (I.ok.hd hc) (by rw[sz]; unfold JN; omega) λh' tk y k=>?_
 have e:fm (λi=>⟨#[(toS z).cps.getD i 0]⟩) (toS z).cps.size=(z.map λn=>toS [n]).foldl dd []:=by
  unfold fm;congr 1
  rw[sz];refine U3 (by simp) λi h1 h2=>?_
  simp at h1 h2;simp[toS,h2]
 rw[e] at y;exact⟨.ref _,_,I.laid (t':=tk) k (Wb _) (My y),rfl,q _ (I.aj.fresh (Wb _))⟩
end
end L2
namespace DV
open PySem PySem.Spec PyProof.Rows L2 SU
def cE:List Nat->List Nat->List Nat
 | σ,[]=>σ
 | σ,n :: r=>if n ∈ σ then cE σ r else cE (σ ++ [n]) r
theorem v_:∀ (z σ:List Nat),(z.map λn=>toS [n]).foldl dd (σ.map λn=>toS [n])=(cE σ z).map λn=>toS [n]
 | [],σ=>rfl
 | n :: z,σ=>by
  rw[Wc,QW];unfold cE;by_cases h:n ∈ σ
  ·rw[if_pos h];have e:dd (σ.map λn=>toS [n]) (toS [n])=σ.map λn=>toS [n]:=by
    unfold dd;rw[if_pos (WU h)]
   rw[e];exact v_ z σ
  ·rw[if_neg h];have e:dd (σ.map λn=>toS [n]) (toS [n])=(σ ++ [n]).map λn=>toS [n]:=by
    unfold dd;rw[if_neg (λy=>by
     obtain⟨m,hm,e⟩:=WG.mp y;have:=qL e;simp at this;exact h (this ▸ hm)),WV]
    rfl
   rw[e];exact v_ z (σ ++ [n])
theorem sx:∀ (z σ:List Nat),(cE σ z).length<=σ.length + z.length
 | [],σ=>by simp[cE]
 | n :: z,σ=>by
  unfold cE;split
  ·have:=sx z σ; simp; omega
  ·have:=sx z (σ ++ [n]); simp at this ⊢; omega
def nH:D->Option S
 | .str z=>if z.length < 64 then some (.own (.lst ((dJ (cE [] z)).map λn=>.str [n]))) else none
 | _=>none
section
variable {X:Cx} {c:Fc} {e:Expr} {fb:BE} {pp pos wa wb:Pos}
theorem MU (hc:X.calm=true) (hg:Gl X "sorted") (hm:X.mg "sorted" = none) (mT:Gl X "set") (MV:X.mg "set" = none) (he:SB X c e fb)
  (h1:We [e] X.env=(false,eval e X.env) :: We [] X.env:=by rfl)
  (h3:We [.Call (.Name "set" wa) [e] [] wb] X.env=(false,eval (.Call (.Name "set" wa) [e] [] wb) X.env) :: We [] X.env:=by rfl) :
  SE X c (.Call (.Name "sorted" pp) [.Call (.Name "set" wa) [e] [] wb] [] pos) (aT nH fb) :=
 PE.weak (qy (MA hc) hg hm PyProof.Rows.boot_sorted (dY (zt (MT hc) mT MV PyProof.Rows.boot_set (dY he fV h1) (by decide) (by decide) h1) fV h3) (by decide) (by decide) h3) λσ H Q ⟨δ,k,q⟩=>by
  unfold aT at q;rw[aY] at q;refine⟨δ,k,aN q λx δ1 q1 v H1 a1 r1=>?_⟩;unfold p1 at q1
  cases ex:nH x with
  | none=>rw[ex] at q1; exact q1.elim
  | some s =>
   rw[ex] at q1
   cases x with
   | str z =>
    simp only[nH] at ex;split at ex
    ·rename_i hz
     cases ex;have ev:=r1.str;subst ev;refine⟨z,rfl,by omega,λp hp=>?_⟩;have e0:=v_ z [];rw[U6] at e0;rw[e0];have b1:=aG.alloc a1.ok hp (k6 X p ((cE [] z).map λn=>toS [n]));have l1:=sx z [];simp at l1;refine⟨p,(cE [] z).map λn=>[n],rfl,by rw[Wv]; exact cA,by simp; omega,λp4 Ct=>?_⟩;have e5:(d_ ((cE [] z).map λn=>[n])).map (λz=>V.str (toS z))=(dJ (cE [] z)).map λn=>V.str (toS [n]):=by
      rw[v7,Wv]; rfl
     rw[e5];have e6:ax (upd H1 p (k6 X p ((cE [] z).map λn=>toS [n]))) (Av c σ δ1) ((dJ (cE [] z)).map λn=>V.str (toS [n])) ((dJ (cE [] z)).map λn=>D.str [n]):=by
      have:=uW (H:=upd H1 p (k6 X p ((cE [] z).map λn=>toS [n]))) (O:=Av c σ δ1) ((dJ (cE [] z)).map λn=>[n]);rw[Wv,Wv] at this;exact this
     exact q1 _ _ (a1.trans (b1.trans (.alloc b1.ok Ct _))) (aU.back (aU.jO b1.ok e6 Ct) (a1.trans b1))
    ·cases ex
   | _=>cases ex
end
end DV
namespace PySem
theorem MW:entryFor table "dict_itemiterator.__iter__" = some Builtin.«dict_keyiterator.__iter__» :=
 entryFor_alias (id':="dict_keyiterator.__iter__") (by kernel_rfl) rfl (by decide +kernel) (by kernel_rfl)
theorem MX(hit:IsItemIter s.heap it d i n ep ok ov)(h:Q (.ref it) s):W6 (model prog w) A (pyIter (.ref it)) Q E s:=by
 have hT:s.TypeIs (.ref it) "dict_itemiterator":=⟨_,hit,rfl⟩
 refine wpAny_pyIter_slot hT F.slot_dict_itemiterator_iter (WF F.slot_dict_itemiterator_iter hT MW ?_ (F.args_dict_itemiterator_iter_1 _));show W6 _ _ (ret (.ref it)) _ _ s;exact W3 ⟨_,rfl,"dict_itemiterator",_,hT,F.slot_dict_itemiterator_next.lookup,h⟩
end PySem
namespace L2
open PySem PySem.Spec PyProof.Rows
section
variable {X:Cx} {o:Expr} {apos bb:Pos} {elts:List Expr} {ctx:Nat} {tp:Pos} {td:TE}
end
end L2
namespace DV
open PySem PySem.Spec PyProof.Rows L2
section
variable {X:Cx} {c:Fc} {o:Expr} {i:Nat} {apos bb:Pos} {elts:List Expr} {ctx:Nat} {tp:Pos}
end
end DV
namespace L2
open PySem PySem.Spec PyProof.Rows
section
variable {X:Cx}
end
end L2
namespace DV
open PySem PySem.Spec PyProof.Rows L2
end DV
namespace L2
open PySem PySem.Spec PyProof.Rows
section
variable {X:Cx} {a b:Expr} {ta:TA} {pp pos wc we:Pos}
end
end L2
namespace DV
open PySem PySem.Spec PyProof.Rows L2
section
variable {X:Cx} {c:Fc} {a b:Expr} {f g:DE} {pp pos wc we:Pos}
end
section
variable {c:Fc} {σ σ':St} {δ δ':Dl} {H H':Hp} {i:Nat} {a p d:Addr} {dd:D}
end
structure Gh(c:Fc)(i:Nat)(p d:Addr)(σ0:St)(δ0:Dl)(H0:Hp)(ws:List (Key×V))(ds:List (aM×D))(t:Tx)(σ:St)(δ:Dl)(H:Hp)(vs:List V)(xs:List D):Prop where
 ok:Ok ((c.plus p).nA i d) σ δ H
 hd:H d=some (.dK (putK ws (.inr (toS t)) (.ref p)))
 hp:H p=some (.lst vs)
 rv:ax H (Av ((c.plus p).nA i d) σ δ) vs xs
 dr:DR H (Av ((c.plus p).nA i d) σ δ) ws ds
 keep:∀ a o,H0 a=some o->¬ Own σ0 δ0 a->H a=some o
 own:∀ a,Own σ δ a->Own σ0 δ0 a\/H0 a=none
 there:∀ a o,H0 a=some o->∃ o',H a=some o'
section
variable {c:Fc} {i:Nat} {p d:Addr} {σ0 σ σ':St} {δ0 δ δ':Dl} {H0 H H':Hp} {ws:List (Key×V)} {ds:List (aM×D)} {t:Tx} {vs gH:List V} {xs S4:List D}
end
section
variable {X:Cx} {c:Fc}
end
section
variable {X:Cx} {c:Fc} {σ:St} {δ:Dl} {H:Hp} {x y:Nat} {a:Addr} {d:D}
end
end DV
namespace PySem.ZW
open Sem (wp)
structure ZS(i1 i2 l1 l2:Addr)(xs ys:Array Value)(k:Nat)(h:Heap):Prop where
 i1:h.IsListIter i1 l1 k
 i2:h.IsListIter i2 l2 k
 l1:h.IsList l1 xs
 l2:h.IsList l2 ys
section
variable {prog:Wj} {w:Wm} {A:Wn} {E:Value->W1->Prop} {s:W1} {z TI TO i1 i2 l1 l2 a:Addr} {f:Bool} {oa:Obj} {k:Nat} {xs ys:Array Value} {x y:Value}
end
end PySem.ZW
namespace PySem.ZW
open Sem (wp)
structure ZG(xs ys:Array Value)(lo:Addr)(h:Heap)(as:List Addr):Prop where
 rise:as.Pairwise (· < ·)
 above:∀ a ∈ as,lo < a
 pairs:∀ (j:Nat) a,as[j]? = some a->∃ x y,xs[j]? = some x/\ys[j]? = some y/\IsPair h a x y
structure ZL(z TI TO i1 i2 l1 l2 S:Addr)(xs ys:Array Value)(h0:Heap)(h:Heap)(acc:Array Value)(c:Nat)(as:List Addr):Prop where
 keep:∀ b o,b≠S->b≠z->b≠TO->b≠i1->b≠i2->h0.get? b=some o->h.get? b=some o
 lst:h.get? S=some { cls:=.type "list",dict:=none,data:=.seq acc c,slots:=#[] }
 items:acc.toList=as.map Value.ref
 G:ZG xs ys S h as
section
variable {prog:Wj} {w:Wm} {A:Wn} {E:Value->W1->Prop} {s:W1} {z TI TO i1 i2 l1 l2 S:Addr} {xs ys:Array Value} {R:Result->W1->Prop} {res:Value}
end
end PySem.ZW
namespace PySem.ZW
open Sem (wp)
section
variable {prog:Wj} {w:Wm} {A:Wn} {E:Value->W1->Prop} {s:W1} {z TI TO i1 i2 l1 l2:Addr} {xs ys:Array Value}
end
end PySem.ZW
namespace L2
open PySem PySem.Spec PyProof.Rows
section
variable {X:Cx} {a b:Expr} {ta:TA} {pp pos wc we:Pos} {elts:List Expr} {ctx:Nat} {tp:Pos}
end
end L2
namespace DV
open PySem PySem.Spec PyProof.Rows L2
section
variable {X:Cx} {c:Fc} {a b:Expr} {f g:DE} {pp pos wc we:Pos} {elts:List Expr} {ctx:Nat} {tp:Pos}
end
section
variable {X:Cx}
end
section
variable {X:Cx} {c:Fc} {e:Expr} {fb:BE} {pos pp:Pos}
end
end DV
namespace L2
open PySem PySem.Spec PyProof.Rows
structure wg(P:Wj)(w:Wm)(K:W2)(mg:Str->Option Value)(base:Heap)(k:Nat)(f:Addr)(fd:WQ)(ps:List Str)(sp:List Env->W1->Sp):Prop where
 len:∀ outer s vs H Q E,sp outer s vs H Q E->vs.length=ps.length
 run:∀ (A:Wn) (outer:List Env) (s:W1) (H:Hp) (args:Args) (us:List Value) (vs:List V) (Q:VK) (E:XK),bP k A->lC P w K mg base A outer s H->BindsTo s fd args (ps.zip us)->Vals vs us->sp outer s vs H Q E ->
  Qi (model P w) A (.call (.ref f) args) (CR cG outer P w H s Q E) s
section
variable {P:Wj} {w:Wm} {K:W2} {mg:Str->Option Value} {base:Heap}
theorem bM.MY{x qual:Str}{st:Stmt}{f:Addr}{fd:WQ}{N ps:List Str}{k:Nat}{sp:List Env->W1->Sp}(F:bM K x qual st f fd)(S:cj N ps (aV st))(len:∀ outer s vs H Q E,sp outer s vs H Q E->vs.length=ps.length)
  (dE:∀ (aB:Value) (A:Wn) (outer:List Env) (s:W1) (H:Hp) (vs:List V) (Q:VK) (E:XK),bP k (A.deeper (J8 qual (aV st) s.heap.objs.size f aB))->A.frames=some outer->sp outer s vs H Q E ->
   ∃ t,dq (eZ cG P w K mg base N qual (aV st) f aB A outer s H E).fH (du st) t/\t { nx:=λ_ H'=>Q .ay H',rt:=Q } (eX N vs) H):wg P w K mg base (k + 1) f fd ps sp:=by
 obtain⟨oc,od,kV,doc,pm,an,aB,ct,dD,rfl,lk,fu⟩:=F.ex;refine⟨len,λA outer s H args us vs Q E hr e0 hb r iO=>?_⟩;have hl:=len _ _ _ _ _ _ iO;have KX:K.In s.heap:=e0.mod.oi.keeps λb o e=>(e0.bs b o e).1
 have lim:s.heap.NoLimit:=e0.mod.nolimit.keeps λb o e=>(e0.bs b o e).1
 have tZ:∀ y ∈ ps.zip us,(aV st).names.lookup y.1=some .local\/((aV st).names.lookup y.1=some .cell/\((Qv (s.heap.objs.size + 1) (aV st).names []).lookup y.1).isSome=true):=λ⟨n,v⟩ hy=>by
  rcases S.par n (U5 hy).1 with q | q
  ·exact .inl q
  ·exact .inr ⟨q,Jn _ _ _ (.inl q)⟩
 refine codeAny_call_function hr.depth (KX _ _ lk) rfl S.co S.gen rfl (PySem.W.codeRec_of KX fu) (hb _ _ _ _ ?_);refine wpAny_newFunctionEnv_cells S.kind tZ λenv he s1 x=>?_
 subst he;refine⟨lim.keeps x.toInCall.keep,codeAny_func ?_⟩;obtain⟨t,ht0,hq⟩:=dE aB A outer s H vs Q E (hr.deeper _) e0.frames iO;have ht:=ht0.fH;have I:Inv (eZ cG P w K mg base N qual (aV st) f aB A outer s H E) [] (eX N vs) H s1:=zm S hr.hd e0 hl r x;refine WN (ht [] s1 (eX N vs) H _ I hq) (λfl s' hs=>?_) λe s' hs=>hs
 have fin:∀ {σ':St} {H':Hp} {v:V} {u:Value},Inv (eZ cG P w K mg base N qual (aV st) f aB A outer s H E) [] σ' H' s'->RelV v u->Q v H'->CE outer P w H s Q u s' :=
  λ{σ' H' v u} J rv q=>⟨v,H',J.os,J.bare,J.base,J.aj,rv,q⟩
 cases fl with
 | ret u =>
  obtain⟨v,σ',H',J,rv,q⟩:=hs;exact fin J rv q
 | next =>
  obtain⟨σ',H',J,q⟩:=hs;exact fin (v:=V.ay) (u:=Value.none) J rfl q
 | brk =>
  obtain⟨_,_,_,q⟩:=hs;exact False.elim q
 | cont =>
  obtain⟨_,_,_,q⟩:=hs;exact False.elim q
end
structure mi(H:Hp)(fs:List Addr)(h:Heap)(fa:Addr)(qual:Str)(params:Arguments)(body:Expr)(scope:Scope)(cl:List (Str×Addr))(fr:List Str)(fv:List V):Prop where
 obj:∃ pm c' dC oc,h.get? fa=some (JJ "<lambda>" qual params body scope cl pm c' dC)/\H fa=none/\fa ∉ fs/\H c'=some (.frz oc (.ext λ_=>True))/\∃ vs tq,oc.data = .fields vs/\vs[1]? = some (.str qual tq)
 cell:∀ x c,cl.lookup x=some c->(∃ v,h.IsCell c v)/\H c=none/\c ∉ fs
 inj:∀ x y c,cl.lookup x=some c->cl.lookup y=some c->x=y
 val:∀ (i:Nat) x v,fr[i]? = some x->fv[i]? = some v->∃ c u,cl.lookup x=some c/\h.IsCell c (some u)/\RelV v u
 wj:fv.length=fr.length
theorem mi.keep{H H':Hp}{fs:List Addr}{h h':Heap}{fa:Addr}{qual:Str}{params:Arguments}{body:Expr}{scope:Scope}{cl:List (Str×Addr)}{fr:List Str}{fv:List V}(C:mi H fs h fa qual params body scope cl fr fv)
  (k:∀ b o,h.get? b=some o->H b=none->b ∉ fs->h'.get? b=some o/\H' b=none) (kf:∀ b o u,H b=some (.frz o u)->H' b=some (.frz o u)):mi H' fs h' fa qual params body scope cl fr fv:=by
 have kc:∀ x c v,cl.lookup x=some c->h.IsCell c v->h'.IsCell c v:=λx c v e ⟨o,ho,hd⟩=>⟨o,(k c o ho (C.cell x c e).2.1 (C.cell x c e).2.2).1,hd⟩
 obtain⟨pm,c',dC,oc,h1,h2,h3,h4,h5⟩:=C.obj;refine⟨⟨pm,c',dC,oc,(k _ _ h1 h2 h3).1,(k _ _ h1 h2 h3).2,h3,kf _ _ _ h4,h5⟩,λx c e=>?_,C.inj,λi x v e1 e2=>?_,C.wj⟩
 ·obtain⟨⟨v,o,ho,hd⟩,q1,q2⟩:=C.cell x c e;exact⟨⟨v,o,(k c o ho q1 q2).1,hd⟩,(k c o ho q1 q2).2,q2⟩
 ·obtain⟨c,u,q1,q2,q3⟩:=C.val i x v e1 e2;exact⟨c,u,q1,kc x c _ q1 q2,q3⟩
def pM(P:Wj)(w:Wm)(K:W2)(mg:Str->Option Value)(base:Heap)(N:List Str)(qual:Str)(scope:Scope)(f:Addr)(cd:Value)(cl:List (Str×Addr))(A:Wn)(outer:List Env)(s:W1)(H:Hp):Cx where
 prog:=P
 w:=w
 K:=K
 mg:=mg
 base:=base
 A:=A.deeper (Jx qual scope s.heap.objs.size f cd cl)
 N:=N
 s₀:=s
 H₀:=H
 env:=Jx qual scope s.heap.objs.size f cd cl
 outer:=outer
 stack:=Jx qual scope s.heap.objs.size f cd cl :: outer
 ex:=[]
 calm:=true
 fn:=λ_=>false
 pn:=[]
 xe:=λ_ _=>False
structure sy(p:Str)(fr:List Str)(sc:Scope):Prop where
 kind:sc.kind = .function
 co:sc.isCoroutine=false
 gen:sc.isGenerator=false
 loc:sc.names.lookup p=some .local
 Cu:∀ y ∈ sc.names,y.2≠.cell
 free:∀ x,sc.names.lookup x=some .free->x ∈ fr
 MZ:∀ x ∈ fr,sc.names.lookup x=some .free
section
variable {X:Cx} {pins:List (Addr×Obj)} {σ:St} {H:Hp} {s:W1} {fa:Addr} {qual:Str} {params:Arguments} {body:Expr} {scope:Scope} {cl:List (Str×Addr)} {fr:List Str} {fv:List V} {p:Str} {u:Value} {v:V} {k:Nat} {t:TE} {Q:VK}
theorem M0(I:Inv X pins σ H s)(C:mi H X.fs s.heap fa qual params body scope cl fr fv)(L:sy p fr scope)(hr:bP (k + 1) X.A)(rv:RelV v u)
  (hb:∀ pm aB dC (u:Value),bindArgs (PySem.W.kla_fn "<lambda>" qual params body scope cl pm aB dC) ⟨[u],[]⟩=pure [(p,u)])
  (dE:∀ cd,bP k (X.A.deeper (Jx qual scope s.heap.objs.size fa cd cl))->PE (pM X.prog X.w X.K X.mg X.base (p :: fr) qual scope fa cd cl X.A X.stack s H) body t)
  (q:t (some v :: fv.map some) H Q):W6 (model X.prog X.w) X.A (call (.ref fa) [u]) (EP X pins σ Q) X.xe s:=by
 obtain⟨pm,c',dC,oc,h1,h2,h3,h4',vs,tq,h5,h6⟩:=C.obj;have h4:s.heap.get? c'=some oc:=(I.aj c' _ h4').1;have e0:=I.tS;have lim:s.heap.NoLimit:=e0.mod.nolimit.keeps λb o e=>(e0.bs b o e).1
 refine wpAny_call (QU (R:=CR cG X.stack X.prog X.w H s Q E0) ?_ λr s' hq=>?_)
 ·refine PySem.W.kla_callFunE hr.depth h1 rfl L.co L.gen rfl ⟨c',oc,vs,tq,rfl,h4,h5,h6⟩ ?_;rw[hb];refine W3 ?_;refine wpAny_newFunctionEnv L.Cu (λy hy=>by
   have:y=(p,u):=by simpa using hy
   subst this;exact L.loc) (λh' kE M3=>?_) L.kind
  have hk:∀ b o,s.heap.get? b=some o->h'.get? b=some o:=λb o e=>M3.extBut b o (Wr (Wk e)) (W4 _ e)
  refine⟨lim.keeps hk,?_⟩;show Qi _ _ (.expr body (Jx qual scope s.heap.objs.size fa (.ref c') cl)) _ _;refine PySem.W.kla_codeExpr ?_;have J:Inv (pM X.prog X.w X.K X.mg X.base (p :: fr) qual scope fa (.ref c') cl X.A X.stack s H) [] (some v :: fv.map some) H { s with heap:=h',toks:=s.toks + [(p,u)].length }:=by
   have iN:∀ b:Addr,b ∉ (pM X.prog X.w X.K X.mg X.base (p :: fr) qual scope fa (.ref c') cl X.A X.stack s H).ex:=λb z=>absurd (show b ∈ ([]:List Addr) from z) (by simp)
   refine⟨⟨e0.mod,L.kind,rfl,rfl,Wb _,C.inj,λy hy=>?_,λy c z _=>by (have z':false=true:=z; cases z'),λ_=>hr.hd,Around.frames_deeper e0.frames,.inr ⟨rfl,rfl⟩,λb z=>absurd z (iN b),e0.bs,e0.jI,λb _ _=>iN b,λb z=>absurd z (iN b),e0.gz,e0.lu⟩,
    rfl,e0.bare,Un.kept hk,⟨_,kE,λi y w e1 e2 e3=>?_⟩,λy c e=>?_,e0.aj.fresh (Wb _),λy c e=>(C.cell y c e).2.1,λz hz=>absurd (show z ∈ ([]:List (Addr×Obj)) from hz) (by simp),e0.aj.kept hk,?_⟩
   ·have hy:scope.names.lookup y=some .cell\/scope.names.lookup y=some .free:=hy;rcases hy with hy | hy
    ·exact absurd rfl (L.Cu _ (Ww hy))
    ·obtain⟨i,hi,rfl⟩:=List.getElem_of_mem (L.free y hy);have M4:i < fv.length:=by rw[C.wj]; exact hi
     obtain⟨c,u',q1,_⟩:=C.val i fr[i] fv[i] (by simp[hi]) (by simp[M4]);exact⟨c,q1⟩
   ·cases i with
    | zero =>
     simp at e2;have e1:some p=some y:=e1
     cases e1;subst e2;refine⟨u,rv,.inl ⟨L.loc,?_⟩⟩;simp
    | succ i =>
     have e1:fr[i]? = some y:=e1;have e2:fv[i]? = some w:=by
      have ju:(fv.map some)[i]? = some (some w):=e2;rw[Wy] at ju
      cases z:fv[i]? with
      | none=>rw[z] at ju; cases ju
      | some a=>rw[z] at ju; cases ju; rfl
     obtain⟨c,u',q1,⟨o,ho,hd⟩,q3⟩:=C.val i y w e1 e2;exact⟨u',q3,.inr ⟨.inr (L.MZ y (WB e1)),c,q1,o,hk c o ho,hd⟩⟩
   ·obtain⟨⟨w,o,ho,hd⟩,_⟩:=C.cell y c e;exact⟨w,o,hk c o ho,hd⟩
   ·show(some v :: fv.map some).length=(p :: fr).length;simp[C.wj]
  refine WN (dE (.ref c') (hr.deeper _) [] _ _ H Q J q) (λu' s' ⟨v',H',J',r',q'⟩=>?_) λe s' z=>z.elim
  exact⟨v',H',J'.os,J'.bare,J'.base,J'.aj,r',q'⟩
 ·cases r with
  | error e=>exact hq.elim
  | ok fl =>
   cases fl with
   | ret u=>exact I.after hq
   | next=>exact False.elim hq
   | brk=>exact False.elim hq
   | cont=>exact False.elim hq
end
end L2
namespace DV
open PySem PySem.Spec PyProof.Rows L2
section
variable {c:Fc} {σ:St} {δ:Dl} {H H':Hp}
theorem Ok.mono(k:Ok c σ δ H)(up:∀ a o,H a=some o->H' a=some o):Ok c σ δ H' :=
 ⟨λa o e n=>up _ _ (k.keep a o e n),λa z=>(k.bd a z).elim λw e=>⟨w,up _ _ e⟩,λa z=>(k.dh a z).elim λw e=>⟨w,up _ _ e⟩,k.len,λi d e=>let ⟨v,e1,r⟩:=k.slot i d e; ⟨v,e1,r.keep λa o q _=>up a o q⟩,
  λi d e=>let ⟨a,e1,r,q⟩:=k.own i d e; ⟨a,e1,r.keep (λb o q _=>up b o q) (λo q=>up a o q),q⟩,k.inj,k.pinned⟩
theorem aG.mono(k:Ok c σ δ H)(up:∀ a o,H a=some o->H' a=some o):aG c σ δ H σ δ H':=⟨k.mono up,λa o e _=>up a o e,λa h=>.inl h,λa o e=>⟨o,up a o e⟩⟩
end
structure sA(X:Cx)(c:Fc)(fa:Addr)(F:D->Option D):Prop where
 there:∀ pins σ H s,Inv X pins σ H s->∃ fd,s.heap.get? fa=some { cls:=.type "function",data:=.func fd }
 run:∀ pins s σ δ H v u d d' Q,Inv X pins σ H s->Ok c σ δ H->Rep H (Av c σ δ) v d->RelV v u->F d=some d'->(∀ v' H',aG c σ δ H σ δ H'->Rep H' (Av c σ δ) v' d'->Q v' H')->W6 (model X.prog X.w) X.A (call (.ref fa) [u]) (EP X pins σ Q) X.xe s
def gp(fb:DE)(dv:List D):D->Option D:=λd=>match fb (some (.pure d) :: dv.map λx=>some (.pure x)) with
 | .ok r _=>some r.d
 | _=>none
theorem M5{X:Cx}{c:Fc}{fa:Addr}{qual:Str}{params:Arguments}{body:Expr}{scope:Scope}{cl:List (Str×Addr)}{fr:List Str}{fv:List V}{dv:List D}{p:Str}{k:Nat}{fb:DE}
  (hex:X.ex=[]) (hH:c.H₀=X.H₀) (hp:c.pin=[]) (C:mi X.H₀ X.fs X.s₀.heap fa qual params body scope cl fr fv) (L:sy p fr scope) (hr:bP (k + 1) X.A)
  (hb:∀ pm aB dC (u:Value),bindArgs (PySem.W.kla_fn "<lambda>" qual params body scope cl pm aB dC) ⟨[u],[]⟩=pure [(p,u)]) (rv:ax X.H₀ c.B fv dv)
  (dE:∀ (c':Fc) (cd:Value) (s:W1) (H:Hp),bP k (X.A.deeper (Jx qual scope s.heap.objs.size fa cd cl))->c'.pin=[]->SE (pM X.prog X.w X.K X.mg X.base (p :: fr) qual scope fa cd cl X.A X.stack s H) c' body fb) :
  sA X c fa (gp fb dv):=by
 have Cv:∀ a,¬ c.I a:=λa ⟨i,z⟩=>by rw[hp] at z; simp at z
 have CC:∀ pins σ H s,Inv X pins σ H s->mi H X.fs s.heap fa qual params body scope cl fr fv:=λpins σ H s I =>
  C.keep (λb o e n hb=>⟨I.base.keep b o e n hb (by rw[hex]; simp),I.base.free b o e n (by rw[hex]; simp)⟩) I.base.iI
 refine⟨λpins σ H s I=>?_,λpins s σ δ H v u d d' Q I ok rd ru hF q=>?_⟩
 ·obtain⟨pm,c',dC,oc,h1,_⟩:=(CC pins σ H s I).obj;exact⟨_,h1⟩
 ·have key:∀ (i:Nat) w x,fv[i]? = some w->dv[i]? = some x->Rep H (Av c σ δ) w x:=λi w x e1 e2=>by
   have r0:=rv.2 i w x e1 e2;have r1:Rep X.H₀ (Av c σ δ) w x:=r0.aE λa z=>by
    rcases z with z | ⟨j,d,z1,z2⟩
    ·exact .inl z
    ·obtain⟨b,z3,_,z4,_⟩:=ok.own j d z1;rw[z2] at z3; cases z3
     rcases z4 with z4 | z4
     ·exact absurd z4 (Cv _)
     ·exact .inr (by rw[<- hH]; exact z4)
   exact r1.keep λa o e _=>ok.keep a o (by rw[hH]; exact e) (Cv a)
  have S5:Fc:=⟨H,Av c σ δ,[],λ_ _=>False⟩
  refine M0 (t:=tD ⟨H,Av c σ δ,[],λ_ _=>False⟩ fb) I (CC pins σ H s I) L hr ru hb (λcd wm=>dE _ cd s H wm rfl) ?_;have gy:∀ (i:Nat) x,(some (S.pure d) :: dv.map λx=>some (S.pure x))[i]? = some (some (.own x))->False:=λi x e=>by
   cases i with
   | zero=>simp at e
   | succ i =>
    rw[Jg,Wy] at e
    cases z:dv[i]? with
    | none=>rw[z] at e; cases e
    | some y=>rw[z] at e; cases e
  have sC:∀ b,Av ⟨H,Av c σ δ,[],λ_ _=>False⟩ (some v :: fv.map some) (some (S.pure d) :: dv.map λx=>some (S.pure x)) b->Av c σ δ b:=λb z=>by
   rcases z with z | ⟨i,x,z1,_⟩
   ·exact z
   ·exact(gy i x z1).elim
  refine⟨some (.pure d) :: dv.map λx=>some (.pure x),⟨λa o e _=>e,λa z=>ok.qM z,λa ⟨i,z⟩=>by simp at z,?_,λi x e=>?_,λi x e=>(gy i x e).elim,λi j a x x' e=>(gy i x e).elim,λz hz=>by simp at hz⟩,?_⟩
  ·simp[rv.1]
  ·cases i with
   | zero =>
    simp at e;subst e;exact⟨v,rfl,rd.aE λb z=>.inl (sC b z)⟩
   | succ i =>
    rw[Jg,Wy] at e
    cases z:dv[i]? with
    | none=>rw[z] at e; cases e
    | some y =>
     rw[z] at e; cases e
     have hi:i < fv.length:=by rw[rv.1]; exact(W5.mp z).1
     refine⟨fv[i],?_,(key i fv[i] x (by simp[hi]) z).aE λb z=>.inl (sC b z)⟩;rw[Jg,Wy];simp[hi]
  ·unfold gp at hF
   cases e:fb (some (.pure d) :: dv.map λx=>some (.pure x)) with
   | exc x δx=>rw[e] at hF; cases hF
   | stuck=>rw[e] at hF; cases hF
   | ok r δ' =>
    rw[e] at hF
    cases hF;intro v' H' a rs;have up:∀ b o,H b=some o->H' b=some o:=λb o eb=>a.ok.keep b o eb λ⟨i,z⟩=>by simp at z
    exact q v' H' (.mono ok up) (rs.rep.aE λb z=>.inl (.inl z))
end DV
namespace L2
open PySem PySem.Spec PyProof.Rows
theorem Cw{P:Wj}{w:Wm}:∀ {kvs:List (Key×V)} {vs:List (Key×Value)} {us:List Value},KV kvs vs->us.length=vs.length->(∀ (j:Nat) v,us[j]? = some v->∃ k x,vs[j]? = some (k,x)/\(cM P w).is k v=true)->Vals (kvs.map λp=>kV p.1) us
 | [],_,[],.nil,_,_=>.nil
 | [],_,_ :: _,.nil,h,_=>by simp at h
 | p :: r,_,[],.cons _ _,h,_=>by simp at h
 | p :: r,q :: vs,u :: us,.cons h1 h2,hl,hk=>by
  refine .cons ?_ (Cw h2 (by simpa using hl) λj v e=>by simpa using hk (j + 1) v (by simpa using e));obtain⟨k,x,e,z⟩:=hk 0 u rfl;simp at e;rw[yE] at z;rcases g9 z with ⟨i,t,e1,e2⟩ | ⟨y,t,e1,e2⟩
  ·show RelV (kV p.1) u;rw[h1.1,e];subst e1;exact⟨t,e2⟩
  ·show RelV (kV p.1) u;rw[h1.1,e];subst e1;exact⟨t,e2⟩
theorem M6 {X:Cx} (hc:X.calm=true):dg X (.type "list") (λxs H Q=>∃ a kvs,xs=[V.ref a]/\H a=some (.dK kvs)/\∀ l,H l=none->Q (.ref l) (upd H l (.lst (kvs.map λp=>kV p.1)))):=by
 intro pins s σ H xs us Q I r h;obtain⟨a,kvs,rfl,ha,q⟩:=h;obtain⟨u,rfl,ru⟩:=fJ r
 cases ru;obtain⟨z,lo,vs,kv,hD⟩:=I.aj a _ ha;obtain⟨ep,hat⟩:=hD.dictAt;have hl:kvs.length=vs.length:=Paired.length kv;refine PySem.W.kdl_call (PySem.W.kdl_dict (knd:=cM X.prog X.w) (kvs:=vs) (ep:=ep) lo) (I.ok.hd hc) hat (by omega) λh' tk acc c' kp e pB=>?_
 have hv:Vals (kvs.map λp=>kV p.1) acc.toList:=Cw (P:=X.prog) (w:=X.w) kv (by simp[pB.1]) λj v e=>pB.2 j v (by simpa using e)
 exact⟨.ref s.heap.objs.size,_,I.laid (t':=tk) kp (Wb _) (show bw X.prog X.w _ h' _ (.lst _) from⟨by simpa using z,acc.toList,c',hv,by simpa using e⟩),rfl,q _ (I.aj.fresh (Wb _))⟩
end L2
namespace DV
open PySem PySem.Spec PyProof.Rows L2
def iw:aM->D
 | .inl i=>.int i
 | .inr x=>.str x
def j4:D->Option S
 | .az ds=>some (.own (.lst (ds.map λp=>iw p.1)))
 | _=>none
theorem Cy{H:Hp}{O:Addr->Prop}:∀ {ws:List (Key×V)} {ds:List (aM×D)},ws.map (·.1)=ds.map (λp=>ck p.1)->ax H O (ws.map λp=>kV p.1) (ds.map λp=>iw p.1)
 | [],[],_=>.nil
 | [],_ :: _,h=>by simp at h
 | _ :: _,[],h=>by simp at h
 | p :: ws,q :: ds,h=>by
  simp only[Wc,List.cons.injEq] at h;refine .cons ?_ (Cy h.2);show Rep H O (kV p.1) (iw q.1);rw[h.1]
  cases q.1 with
  | inl i=>exact .int i
  | inr x=>exact .str x
section
variable {X:Cx} {c:Fc} {e:Expr} {fb:BE} {pos pp p:Pos}
theorem wo (hc:X.calm=true) (hg:Gl X "list") (hm:X.mg "list" = none) (he:SB X c e fb) (hs:kU e=true:=by rfl):SE X c (.Call (.Name "list" pp) [e] [] pos) (aT j4 fb) :=
 o8 (r:=λv H Q=>∃ a kvs,v=V.ref a/\H a=some (.dK kvs)/\∀ l,H l=none->Q (.ref l) (upd H l (.lst (kvs.map λp=>kV p.1)))) (M6 hc) (λv H Q ⟨a,kvs,e,h⟩=>⟨a,kvs,by rw[e],h⟩)
  (λc σ δ H x d s Q k rx hp q=>by
   cases d with
   | az ds =>
    cases hp;obtain⟨a,ws,ex,ha,r1,_⟩:=rx.az;exact⟨a,ws,ex,ha,λl hl=>q _ _ (.alloc k hl _) (aU.jO k (Cy r1) hl)⟩
   | _=>simp[j4] at hp) hg hm PyProof.Rows.boot_list he (by decide) (by decide) (l0 hs)
end
def mj(fa:Addr)(F:D->Option D)(i:Nat)(fe:DE):DE:=λδ=>match δ[i]? with
 | some (some (.pure (.fn a)))=>if a=fa then(fe δ).bind λr δ1=>match F r.d with
   | some d'=>.ok (.pure d') δ1
   | none=>.stuck
  else .stuck
 | _=>.stuck
theorem M7{M:Model}{A:Wn}{E:Value->W1->Prop}{s:W1}{env:Env}{pos:Pos}{a:Addr}{first:List Value}{Q:Value->W1->Prop}{e:Expr}{rest:List Expr}
  (h:W6 M A (spliced (Qg pos (We (e :: rest) env))) (λvs s₁=>(∃ fd,s₁.heap.get? a=some { cls:=.type "function",data:=.func fd })/\W6 M A (call (.ref a) (first ++ vs)) Q E s₁) E s)
  (he:We (e :: rest) env=(false,eval e env) :: We rest env:=by rfl) (t_:(Qg pos (We rest env)).any (·.1)=false:=by rfl) :
  W6 M A (callWith pos (.ref a) first (Qg pos (We (e :: rest) env)) []) Q E s:=by
 rw[he] at h ⊢;exact PySem.W.callWith_of (P:=λh=>∃ fd,h.get? a=some { cls:=.type "function",data:=.func fd }) (by show((false || (Qg pos (We rest env)).any (·.1)) || false)=false; rw[t_]; rfl)
  (λh ⟨fd,hf⟩=>⟨.frame,.inl rfl,(PySem.W.Looks.ld (part:=none) hf).andThen .now⟩) (Calls.evalArgs_plain h)
theorem M8{X:Cx}{c:Fc}{fa:Addr}{F:D->Option D}{i:Nat}{x:Str}{e:Expr}{fe:DE}{p pos:Pos}(hc:sA X c fa F)(hv:PE X (.Name x p) (de i))(he:SE X c e fe)
  (hs:We [e] X.env=(false,eval e X.env) :: We [] X.env:=by rfl):SE X c (.Call (.Name x p) [e] [] pos) (mj fa F i fe):=by
 intro pins s σ H Q I ⟨δ,k,q⟩;unfold mj at q;split at q
 ·rename_i a e1;split at q
  ·rename_i ea;subst ea;obtain⟨v,e2,r⟩:=k.slot i (.fn a) e1
   cases r;refine Jj (WN (hv pins s σ H (λv' H'=>v' = .ref a/\H'=H) I ⟨.ref a,e2,rfl,rfl⟩) (λu s1 ⟨v',H',I1,ru,ev,eH⟩=>?_) λ_ _ z=>z);subst ev eH;obtain rfl:u=Value.ref a:=ru;have ha:=dY he fV hs;refine M7 (aJ (ha pos pins s1 σ H' (λvs H2=>∃ r δ1 d',vs.length=1/\F r=some d'/\(∀ v ∈ vs,Rep H2 (Av c σ δ1) v r)/\aG c σ δ H' σ δ1 H2/\∀ v' H3,aG c σ δ H' σ δ1 H3->Rep H3 (Av c σ δ1) v' d'->Q v' H3) I1 ⟨δ,k,?_⟩) λus s2 ⟨vs,H2,I2,rr,r,δ1,d',hl,hF,hr,af,hq⟩=>⟨hc.there _ _ _ _ I2,?_⟩) hs rfl
   ·rw[aY] at q;refine aN q λr δ1 q1 v H1 a1 r1=>?_
    cases hF:F r.d with
    | none=>rw[hF] at q1; exact q1.elim
    | some d' =>
     rw[hF] at q1;exact⟨r.d,δ1,d',rfl,hF,λv' vV=>by
      have:v'=v:=by simpa using vV
      subst this;exact r1.rep,a1,λv' H3 a3 r3=>q1 v' H3 a3 r3⟩
   ·obtain⟨v,rfl⟩:∃ v,vs=[v]:=by
     match vs,hl with
     | [v],_=>exact⟨v,rfl⟩
    obtain⟨u,rfl,ru⟩:=fJ rr;exact hc.run pins s2 σ δ1 H2 v u r d' Q I2 af.ok (hr v (by simp)) ru hF λv' H3 a3 r3=>hq v' H3 (af.trans a3) r3
  ·exact q.elim
 ·exact q.elim
end DV
namespace L2
open PySem PySem.Spec PyProof.Rows
theorem Cz{a b:Value}{x y:Int}{t u:Tok}:∀ {l:List Value},TriplesOk l->TriplesOk (l ++ [.int x t,.int y u,b])
 | [],_=>trivial
 | .int _ _ :: .int _ _ :: _ :: r,h=>Cz (a:=a) (l:=r) h
theorem CA{pos:Pos}{b cv:Value}{x y:Int}{t u:Tok}:∀ {l:List Value},TriplesOk l->codeAmong pos l=none->codeAmong pos (l ++ [.int x t,.int y u,b])=some cv->cv=b
 | [],_,_,h=>by
  simp only[Q3,codeAmong] at h;split at h
  ·exact(Wx h).symm
  ·cases h
 | .int i _ :: .int j _ :: c :: r,h,hn,e=>by
  simp only[codeAmong] at hn;split at hn
  ·cases hn
  ·rename_i q;simp only[U4,codeAmong] at e;rw[if_neg q] at e;exact CA (l:=r) h hn e
section
variable {X:Cx} {pins:List (Addr×Obj)} {σ:St} {H:Hp} {s:W1} {params:Arguments} {body:Expr} {scope:Scope} {pos:Pos} {cl:List (Str×Addr)} {c P:Addr} {fr:List Str} {fv:List V} {js:List Nat} {Q:Value->W1->Prop} {E:Value->W1->Prop}
theorem Inv.M9(I:Inv X pins σ H s){a:Addr}(h:s.heap.objs.size<=a):a ∉ fq X.stack:=λz=>by
 rcases Wl.mp (I.oq a z) with e | e
 ·have:=I.lt;rw[<- e] at this;exact absurd (WA this h) (Qd _)
 ·exact I.yI h e
theorem Inv.M_(I:Inv X pins σ H s)(iJ:∀ x,X.fn x=true){x:Str}{c:Addr}(h:X.env.cells.lookup x=some c):c ∉ fq X.stack:=λz=>by
 rcases Wl.mp (I.oq c z) with e | e
 ·exact I.kj x c h e
 ·obtain⟨_,o,ho,_⟩:=I.ok.gz.mem e;exact absurd (WA (Wk ho) (I.ok.mK x c (iJ x) h)) (Qd _)
theorem Na (I:Inv X pins σ H s) (hP:H P=some (.ctab pos (X.env.qual ++ "<lambda>"))) (iJ:∀ x,X.fn x=true) (wq:defaultsOf params X.env=([],[])) (eM:closureFor scope X.env=pure cl) (sD:X.env.code = .ref c)
  (CH:Jd X.K c P=true) (wt:Wt≠P) (hB:X.base.BuiltinsAt X.mg P)
  (jY:∀ x a,cl.lookup x=some a->X.env.cells.lookup x=some a) (hlen:fv.length=fr.length)
  (vR:∀ (i:Nat) x v,fr[i]? = some x->fv[i]? = some v->∃ (j:Nat) (a:Addr),X.N[j]? = some x/\σ[j]? = some (some v)/\X.env.scope.names.lookup x=some .cell/\cl.lookup x=some a)
  (h:∀ fa H' s',Inv X pins σ H' s'->(∀ a o,H a=some o->H' a=some o)->mi H' (fq X.stack) s'.heap fa (X.env.qual ++ "<lambda>") params body scope cl fr fv->Q (.ref fa) s') :
  W6 (model X.prog X.w) X.A (eval (.Lambda params body scope pos) X.env) Q E s:=by
 obtain⟨ps,hp,ht,hr⟩:=I.aj P _ hP;have CB:=PySem.W.codeHd_of_K I.dM CH;have hg:s.heap.Ns Wt X.mg:=I.mod.glob.keeps I.bk;have hb:=hB.keeps I.bk;-- the closure,once all is laid
 have fin:∀ (H':Hp) (h':Heap) (tk:Tok) (pm dC:Value) (c':Addr) (oc:Obj),(∀ b o,b≠P->s.heap.get? b=some o->h'.get? b=some o)->s.heap.objs.size<=h'.objs.size->(∀ a o,H a=some o->H' a=some o)->(∀ b,H b=none->b < s.heap.objs.size->H' b=none)->H' h'.objs.size=none ->
   H' c'=some (.frz oc (.ext λ_=>True))->(∃ vs tq,oc.data = .fields vs/\vs[1]? = some (.str (X.env.qual ++ "<lambda>") tq))->bK X.prog X.w H' (h'.push (JJ "<lambda>" (X.env.qual ++ "<lambda>") params body scope cl pm c' dC))->(∃ o,h'.get? P=some o) ->
   Q (.ref h'.objs.size) { s with heap:=h'.push (JJ "<lambda>" (X.env.qual ++ "<lambda>") params body scope cl pm c' dC),toks:=tk }:=by
  intro H' h' tk pm dC c' oc hk hsz up dn wu gB hoc aj hPo;have kp:∀ b o,b≠P->s.heap.get? b=some o->(h'.push (JJ "<lambda>" (X.env.qual ++ "<lambda>") params body scope cl pm c' dC)).get? b=some o:=λb o nb e=>W4 _ (hk b o nb e)
  have nP:∀ b,H b=none->b≠P:=λb n z=>by rw[z,hP] at n; cases n
  have J:Inv X pins σ H' { s with heap:=h'.push (JJ "<lambda>" (X.env.qual ++ "<lambda>") params body scope cl pm c' dC),toks:=tk }:=I.un ⟨λb o e n _ _=>kp b o (nP b n) e,λb o e n _ _=>⟨o.slots,kp b o (nP b n) e⟩,λb o e n _=>dn b n (Wk e),
   λb o e _=>by
    by_cases z:b=P
    ·obtain⟨o',q⟩:=hPo;exact⟨o',by rw[z]; exact W4 _ q⟩
    ·exact⟨o,kp b o z e⟩,λb xs e=>up _ _ e,λb o u e=>up _ _ e,λb ps e=>⟨#[],by rw[up _ _ e]; simp⟩⟩ aj
  refine h _ H' _ J up ⟨⟨pm,c',dC,oc,Wh _ rfl,wu,I.M9 hsz,gB,hoc⟩,λx a e=>?_,λx y a e1 e2=>I.ok.inj x y a (jY x a e1) (jY y a e2),λi x v e1 e2=>?_,hlen⟩
  ·exact⟨J.cell x a (jY x a e),J.gA x a (jY x a e),J.M_ iJ (jY x a e)⟩
  ·obtain⟨j,a,q1,q2,q3,q4⟩:=vR i x v e1 e2;obtain⟨m,_,hl⟩:=J.loc;obtain⟨u,r1,r2⟩:=hl j x v q1 q2 (.inr (.inl q3));rcases r2 with ⟨z,_⟩ | ⟨_,a',z1,z2⟩
   ·have z':X.env.scope.names.lookup x=some .local:=z;rw[q3] at z'; cases z'
   ·rw[jY x a q4] at z1; cases z1
    exact⟨a,u,q4,z2,r1⟩
 refine PySem.W.kla_eval wq ?_
 cases e:codeAmong pos ps.toList with
 | some cv =>
  obtain⟨c',oc,rfl,q1,q2⟩:=hr cv e;refine PySem.W.kla_makeFunctionHit eM I.ok.glob hg sD CB hp ht e hb λdC h' tk hk hsz=>?_
  exact fin H h' tk _ dC c' oc (λb o _ q=>hk b o q) hsz (λ_ _ q=>q) (λ_ n _=>n) (I.aj.fresh hsz) q1 q2 (I.aj.kept λb u q=>W4 _ (hk b u q)) ⟨_,hk _ _ hp⟩
 | none =>
  refine PySem.W.kla_makeFunction eM I.ok.glob hg sD CB hp ht e wt hb λc' dC h' tk hx mX aQ Nb CF=>?_
  obtain⟨c2,oc,vs,tq,ec,hoc,hd,hv⟩:=Nb
  cases ec;have hn:H c'=none:=I.aj.fresh mX;have up:∀ a o,H a=some o->upd H c' (.frz oc (.ext λ_=>True)) a=some o:=λa o q=>by rw[aP (eU q hn)]; exact q
  have hsz:s.heap.objs.size<=h'.objs.size:=WP mX (Js aQ);refine fin (upd H c' (.frz oc (.ext λ_=>True))) h' tk _ dC c' oc (λb o nb q=>hx b o nb q) hsz up (λb n hb=>by rw[aP (Wr (WA hb mX))]; exact n) (by rw[aP (QI aQ)]; exact I.aj.fresh hsz) cA ⟨vs,tq,hd,hv⟩ ?_ ⟨_,CF⟩;intro a o ea;by_cases h1:a=c'
  ·subst h1;rw[cA] at ea; cases ea
   exact⟨W4 _ hoc,trivial,⟨_,W4 _ hoc⟩,λ_ _ _ _=>trivial⟩
  ·rw[aP h1] at ea;by_cases h2:a=P
   ·subst h2;rw[hP] at ea; cases ea
    refine⟨_,W4 _ CF,?_,λcv z=>?_⟩
    ·rw[Array.toList_append];exact Cz (a:=.none) ht
    ·rw[Array.toList_append] at z;have:=CA ht e z;subst this;exact⟨c',oc,rfl,cA,vs,tq,hd,hv⟩
   ·refine(I.aj a o ea).lr (λb u hb q=>W4 _ (hx b u (λz=>?_) q)) (λb q=>up _ _ q) (λb xs q=>up _ _ q) λb o u q=>up _ _ q
    rcases hb with hb | hb
    ·exact h2 (hb.symm.trans z)
    ·rw[z,hP] at hb; cases hb
end
end L2
namespace DV
open PySem PySem.Spec PyProof.Rows L2
abbrev jv:=List (Addr×Pos×Str)
def TH(ts:jv)(H:Hp):Prop:=∀ t ∈ ts,H t.1=some (.ctab t.2.1 t.2.2)
structure FT(ts:jv)(c:Fc):Prop where
 h:TH ts c.H₀
 n:∀ t ∈ ts,¬ c.I t.1
theorem FT.now{ts:jv}{c:Fc}{σ:St}{δ:Dl}{H:Hp}(f:FT ts c)(k:Ok c σ δ H):TH ts H:=λt ht=>k.keep _ _ (f.h t ht) (f.n t ht)
section
variable {P:Wj} {w:Wm} {K:W2} {mg:Str->Option Value} {base:Heap}
def spS(P:Wj)(w:Wm)(K:W2)(mg:Str->Option Value)(base:Heap)(N:List Str)(qual:Str)(scope:Scope)(f:Addr)(k:Nat)(iy:Addr->(D->Option D)->DS):List Env->W1->Sp:=λouter s vs H Q _ =>
 ∃ (d:D) (fa:Addr) (F:D->Option D) (B:Addr->Prop) (v:V),vs=[v,.ref fa]/\Ok ⟨H,B,[],λ_ _=>False⟩ [some v,some (.ref fa)] [some (.pure d),some (.pure (.fn fa))] H /\
  (∀ aB A E,bP k (A.deeper (J8 qual scope s.heap.objs.size f aB))->A.frames=some outer->sA (eZ cG P w K mg base N qual scope f aB A outer s H E).fH ⟨H,B,[],λ_ _=>False⟩ fa F) /\
  ∃ r aA,dz (iy fa F) N.length [.pure d,.pure (.fn fa)]=some (r,aA) /\
   ∀ v' H',aG ⟨H,B,[],λ_ _=>False⟩ [some v,some (.ref fa)] [some (.pure d),some (.pure (.fn fa))] H [some v,some (.ref fa)] (cg aA) H'->aU ⟨H,B,[],λ_ _=>False⟩ [some v,some (.ref fa)] (cg aA) H H' v' r->Q v' H'
theorem Nc{x qual:Str}{st:Stmt}{f:Addr}{fd:WQ}{N ps:List Str}{k:Nat}{iy:Addr->(D->Option D)->DS}(F:bM K x qual st f fd)(S:cj N ps (aV st))(h2:ps.length=2)
  (dE:∀ (c:Fc) (aB:Value) (A:Wn) (outer:List Env) (s:W1) (H:Hp) (E:XK) (fa:Addr) (Fn:D->Option D),bP k (A.deeper (J8 qual (aV st) s.heap.objs.size f aB))->Np c []->sA (eZ cG P w K mg base N qual (aV st) f aB A outer s H E).fH c fa Fn->gK (eZ cG P w K mg base N qual (aV st) f aB A outer s H E).fH c (du st) (iy fa Fn)) :
  wg P w K mg base (k + 1) f fd ps (spS P w K mg base N qual (aV st) f k iy):=by
 refine F.MY S (λouter s vs H Q E h=>?_) λaB A outer s H vs Q E hr fY h=>?_
 ·obtain⟨d,fa,Fn,B,v,rfl,_⟩:=h;exact h2.symm
 ·obtain⟨d,fa,Fn,B,v,rfl,ok,wx,r,aA,hrun,q⟩:=h;refine⟨m_ ⟨H,B,[],λ_ _=>False⟩ (iy fa Fn),dE ⟨H,B,[],λ_ _=>False⟩ aB A outer s H E fa Fn hr (λp hp=>by simp at hp) (wx aB A E hr fY),?_⟩;have fw:eX N [v,.ref fa]=cf [v,.ref fa] ++ Wf (N.length - 2) none:=rfl;refine⟨br N.length [.pure d,.pure (.fn fa)],by rw[fw]; exact ok.ext _,?_⟩;unfold dz at hrun;unfold dw;have rH:bZ 0 [.pure d,.pure (.fn fa)] [v,.ref fa]=[]:=by simp[bZ]
  cases e:iy fa Fn (br N.length [.pure d,.pure (.fn fa)]) with
  | exc x δx=>rw[e] at hrun; cases hrun
  | stuck=>rw[e] at hrun; cases hrun
  | ok fl δ' =>
   rw[e] at hrun;show ∀ σ' H',aG _ (eX N [v,.ref fa]) (br N.length [.pure d,.pure (.fn fa)]) H σ' δ' H'->fin _ _ σ' δ' H' fl;intro σ' H' a;rw[fw] at a;simp only at hrun
   cases fl with
   | brk=>cases hrun
   | cont=>cases hrun
   | next =>
    simp only[cz,WL] at hrun
    cases eo:bI 0 [.pure d,.pure (.fn fa)] δ' with
    | none=>rw[eo] at hrun; cases hrun
    | some os =>
     rw[eo] at hrun
     cases hrun;obtain⟨l1,l2⟩:=nj (vs:=[v,.ref fa]) (by rw[rH]) ok a eo;exact q .ay H' l1 .ay
   | ret r' =>
    simp only[cz,WL] at hrun
    cases eo:bI 0 [.pure d,.pure (.fn fa)] δ' with
    | none=>rw[eo] at hrun; cases hrun
    | some os =>
     rw[eo] at hrun
     cases hrun;obtain⟨l1,l2⟩:=nj (vs:=[v,.ref fa]) (by rw[rH]) ok a eo;exactλv' rv=>q v' H' l1 (l2 v' _ rv)
end
def ml(ts:jv)(n:Nat)(G:DF):Sp:=λvs H Q E=>TH ts H/\kR n G vs H Q E
def gX(P:Wj)(w:Wm)(K:W2)(mg:Str->Option Value)(base:Heap)(ts:jv)(k:Nat)(x:Str)(n:Nat)(G:DF):Prop :=
 ∃ (f:Addr) (fd:WQ) (ps:List Str),mg x=some (.ref f)/\QA K (.ref f)=true/\Binds K fd ps []/\fK P w K mg base cG k f fd ps (ml ts n G)
section
variable {P:Wj} {w:Wm} {K:W2} {mg:Str->Option Value} {base:Heap}
theorem CG{ts:jv}{x qual:Str}{st:Stmt}{f:Addr}{fd:WQ}{N ps:List Str}{k:Nat}{np:List Nat}{fb:DS}{G:DF}(F:bM K x qual st f fd)(S:cj N ps (aV st))
  (dE:∀ (c:Fc) (aB:Value) (A:Wn) (outer:List Env) (s:W1) (H:Hp) (E:XK),bP k (A.deeper (J8 qual (aV st) s.heap.objs.size f aB))->Np c np->FT ts c->(∃ oc od kV doc pm an ct dD,K.lookup f=some ⟨oc,od,.func (Q4 x qual (fX st) (du st) (aV st) .none kV doc pm an aB ct),dD⟩)->gK (eZ cG P w K mg base N qual (aV st) f aB A outer s H E).fH c (du st) fb)
  (hG:∀ ss y,G ss=some y->b7 np 0 ss=true/\dz fb N.length ss=some y):fK P w K mg base cG (k + 1) f fd ps (ml ts ps.length G):=by
 obtain⟨oc,od,kV,doc,pm,an,aB,ct,dD,rfl,lk,fu⟩:=F.ex;refine zq lk fu S (λvs H Q E h=>?_) λA outer s H vs Q E hr h=>?_
 ·obtain⟨_,ss,B,hl,_⟩:=h;exact hl
 ·obtain⟨hT,ss,B,hl,ok,r,aA,hg,q⟩:=h;obtain⟨fj,hrun⟩:=hG ss _ hg;have lZ:ss.length=vs.length:=by have:=ok.len; simpa using this
  have vf:Np ⟨H,B,bZ 0 ss vs,λ_ _=>False⟩ np:=λp hp=>by
   obtain⟨j,d,e,h1,_⟩:=lY (i:=p.1) (a:=p.2) hp;rw[e];exact vd fj h1
  have ft:FT ts ⟨H,B,bZ 0 ss vs,λ_ _=>False⟩:=⟨hT,λt ht ⟨i,z⟩=>by
   obtain⟨j,d,_,h1,h2⟩:=lY z;obtain⟨a,e1,o,_⟩:=ok.own j d (eh.mpr h1);rw[eE.mpr h2] at e1
   cases e1;have:=hT t ht
   cases d with
   | lst ds=>obtain⟨_,e,_⟩:=o; rw[this] at e; cases e
   | az ds=>obtain⟨_,e,_⟩:=o; rw[this] at e; cases e
   | dic ds=>obtain⟨_,_,e,_⟩:=o; rw[this] at e; cases e
   | _=>exact o.elim⟩
  have hb:=dE ⟨H,B,bZ 0 ss vs,λ_ _=>False⟩ aB A outer s H E hr vf ft ⟨oc,od,kV,doc,pm,an,ct,dD,lk⟩;refine⟨m_ ⟨H,B,bZ 0 ss vs,λ_ _=>False⟩ fb,hb.fH,?_⟩;have fw:eX N vs=cf vs ++ Wf (N.length - ss.length) none:=by rw[lZ]; rfl
  refine⟨br N.length ss,by rw[fw]; exact ok.ext _,?_⟩;unfold dz at hrun;unfold dw
  cases e:fb (br N.length ss) with
  | exc x δx=>rw[e] at hrun; cases hrun
  | stuck=>rw[e] at hrun; cases hrun
  | ok fl δ' =>
   rw[e] at hrun;show ∀ σ' H',aG _ (eX N vs) (br N.length ss) H σ' δ' H'->fin _ _ σ' δ' H' fl;intro σ' H' a;rw[fw] at a;simp only at hrun
   cases fl with
   | brk=>cases hrun
   | cont=>cases hrun
   | next =>
    simp only[cz,WL] at hrun
    cases eo:bI 0 ss δ' with
    | none=>rw[eo] at hrun; cases hrun
    | some os =>
     rw[eo] at hrun
     cases hrun;obtain⟨l1,l2⟩:=nj rfl ok a eo;exact q .ay H' l1 .ay
   | ret r' =>
    simp only[cz,WL] at hrun
    cases eo:bI 0 ss δ' with
    | none=>rw[eo] at hrun; cases hrun
    | some os =>
     rw[eo] at hrun
     cases hrun;obtain⟨l1,l2⟩:=nj rfl ok a eo;exactλv rv=>q v H' l1 (l2 v _ rv)
end
section
variable {X:Cx} {c:Fc} {e:Expr} {es:List Expr} {as:List Ak} {k n:Nat} {x:Str} {G:DF} {pp pos:Pos} {ts:jv}
theorem nJ (F:gX X.prog X.w X.K X.mg X.base ts k x n G) (ft:FT ts c) (hK:cJ G) (hr:bP k X.A) (hg:Gl X x) (ha:SX X c (e :: es) as) (hl:as.length=n) (eW:(x == ("__debug__" : Str))=false:=by decide)
  (he:We (e :: es) X.env=(false,eval e X.env) :: We es X.env:=by rfl) (cN:(Qg pos (We es X.env)).any (·.1)=false:=by rfl):SE X c (.Call (.Name x pp) (e :: es) [] pos) (aD G as):=by
 obtain⟨f,fd,ps,hm,hk,hb,ok⟩:=F;refine PE.weak (tW ok hr hg hm hk hb .nil uq ha eW he cN) λσ H Q h=>?_
 obtain⟨δ,kk,fj,q⟩:=Bo (ps:=ps) hK hl h;exact⟨δ,kk,fj,aN q λds δ1 q1 vs H1 a1 r1=>⟨ft.now a1.ok,q1 vs H1 a1 r1⟩⟩
end
def iW:List Nat->Dl->Option (List D×Dl)
 | [],δ=>some ([],δ)
 | j :: js,δ=>match δ[j]? with
  | some (some (.pure d))=>(iW js δ).map λp=>(d :: p.1,p.2)
  | some (some (.own d))=>(iW js (δ.set j (some (.pure d)))).map λp=>(d :: p.1,p.2)
  | _=>none
theorem CI{c:Fc}{σ:St}{H:Hp}:∀ {js:List Nat} {δ δ2:Dl} {dv:List D},Ok c σ δ H->iW js δ=some (dv,δ2)->aG c σ δ H σ δ2 H/\∃ fv:List V,fv.length=js.length/\(∀ (i:Nat) j,js[i]? = some j->∃ v,fv[i]? = some v/\σ[j]? = some (some v))/\ax H (Av c σ δ2) fv dv
 | [],δ,δ2,dv,k,h=>by
  simp only[iW,Wa,Prod.mk.injEq] at h;obtain⟨rfl,rfl⟩:=h;exact⟨.refl k,[],rfl,λi j e=>by simp at e,.nil⟩
 | j :: js,δ,δ2,dv,k,h=>by
  have core:∀ {δ1:Dl} {d:D} {v:V},aG c σ δ H σ δ1 H->Rep H (Av c σ δ1) v d->σ[j]? = some (some v)->(iW js δ1).map (λp=>(d :: p.1,p.2))=some (dv,δ2)->aG c σ δ H σ δ2 H/\∃ fv:List V,fv.length=(j :: js).length/\(∀ (i:Nat) j',(j :: js)[i]? = some j'->∃ v,fv[i]? = some v/\σ[j']? = some (some v))/\ax H (Av c σ δ2) fv dv:=by
   intro δ1 d v a1 r1 e1 hm
   cases e:iW js δ1 with
   | none=>rw[e] at hm; cases hm
   | some p =>
    obtain⟨dv',δ'⟩:=p;rw[e] at hm;simp only[Wz,Wa,Prod.mk.injEq] at hm;obtain⟨rfl,rfl⟩:=hm;obtain⟨a2,fv,h1,h2,h3⟩:=CI a1.ok e;refine⟨a1.trans a2,v :: fv,by simp[h1],λi j' ej=>?_,.cons (Rep.dF r1 a2) h3⟩
    cases i with
    | zero=>simp at ej; subst ej; exact⟨v,rfl,e1⟩
    | succ i =>
     obtain⟨v',q1,q2⟩:=h2 i j' (by simpa using ej);exact⟨v',by simpa using q1,q2⟩
  simp only[iW] at h;split at h
  ·rename_i d e;obtain⟨v,e1,r⟩:=k.slot j d e;exact core (.refl k) r e1 h
  ·rename_i d e;obtain⟨a,e1,af,r⟩:=k.give e;exact core af r e1 h
  ·cases h
def sE(fe:DE)(js:List Nat)(fb:DE)(W:(D->Option D)->D->Option D):DE:=λδ=>(fe δ).bind λr δ1=>match iW js δ1 with
 | some (dv,δ2)=>match W (gp fb dv) r.d with
  | some d'=>.ok (.pure d') δ2
  | none=>.stuck
 | none=>.stuck
def wz(P:Wj)(w:Wm)(K:W2)(mg:Str->Option Value)(base:Heap)(k:Nat)(x:Str)(m:Nat)(iy:Addr->(D->Option D)->DS):Prop :=
 ∃ (f:Addr) (fd:WQ) (ps:List Str) (qual:Str) (scope:Scope) (N:List Str),N.length=m/\mg x=some (.ref f)/\QA K (.ref f)=true/\Binds K fd ps []/\ps.length=2/\wg P w K mg base (k + 1) f fd ps (spS P w K mg base N qual scope f k iy)
theorem Nd{cl cells:List (Str×Addr)}(h:∀ q ∈ cl,cells.lookup q.1=some q.2):∀ x a,cl.lookup x=some a->cells.lookup x=some a:=λx a e=>h (x,a) (Ww e)
theorem Nf{p:Str}{fr:List Str}{sc:Scope}(h1:sc.kind = .function:=by rfl)(h2:sc.isCoroutine=false:=by rfl)(h3:sc.isGenerator=false:=by rfl)(h4:sc.names.lookup p=some .local:=by rfl)(h5:∀ y ∈ sc.names,y.2≠.cell:=by decide +kernel)
  (h6:∀ y ∈ sc.names,y.2 = .free->y.1 ∈ fr:=by decide +kernel) (h7:∀ x ∈ fr,sc.names.lookup x=some .free:=by decide +kernel):sy p fr sc:=⟨h1,h2,h3,h4,h5,λx e=>h6 _ (Ww e) rfl,h7⟩
section
variable {X:Cx} {c:Fc} {e:Expr} {fe fb:DE} {params:Arguments} {body:Expr} {scope:Scope} {mn pos pp:Pos} {P code:Addr} {cl:List (Str×Addr)} {fr:List Str} {js:List Nat} {p x:Str} {kl kw m:Nat} {iy:Addr->(D->Option D)->DS} {W:(D->Option D)->D->Option D} {ts:jv}
theorem Ng(F:wz X.prog X.w X.K X.mg X.base kw x m iy)(hW:∀ fa Fn d r,W Fn d=some r->∃ aA,dz (iy fa Fn) m [.pure d,.pure (.fn fa)]=some (.pure r,aA))
  (ft:FT ts c) (Nh:(P,mn,X.env.qual ++ "<lambda>") ∈ ts) (hr:bP (kw + 1) X.A) (Ni:kl + 1<=kw) (hg:Gl X x) (he:SE X c e fe) (iJ:∀ x,X.fn x=true)
  (wq:defaultsOf params X.env=([],[])) (eM:closureFor scope X.env=pure cl) (sD:X.env.code = .ref code) (CH:Jd X.K code P=true) (wt:Wt≠P) (hB:X.base.BuiltinsAt X.mg P)
  (jY:∀ x a,cl.lookup x=some a->X.env.cells.lookup x=some a) (L:sy p fr scope) (CJ:js.length=fr.length)
  (hN:∀ (i:Nat) x j,fr[i]? = some x->js[i]? = some j->X.N[j]? = some x/\X.env.scope.names.lookup x=some .cell/\∃ a,cl.lookup x=some a)
  (hb:∀ pm aB dC (u:Value),bindArgs (PySem.W.kla_fn "<lambda>" (X.env.qual ++ "<lambda>") params body scope cl pm aB dC) ⟨[u],[]⟩=pure [(p,u)])
  (dE:∀ (c':Fc) (fa:Addr) (cd:Value) (A:Wn) (outer:List Env) (s:W1) (H:Hp),bP kl (A.deeper (Jx (X.env.qual ++ "<lambda>") scope s.heap.objs.size fa cd cl))->c'.pin=[]->SE (pM X.prog X.w X.K X.mg X.base (p :: fr) (X.env.qual ++ "<lambda>") scope fa cd cl A outer s H) c' body fb)
  (eW:(x == ("__debug__" : Str))=false:=by decide)
  (hs:We [e,.Lambda params body scope mn] X.env=(false,eval e X.env) :: We [.Lambda params body scope mn] X.env:=by rfl)
  (h8:We [.Lambda params body scope mn] X.env=[(false,eval (.Lambda params body scope mn) X.env)]:=by rfl):SE X c (.Call (.Name x pp) [e,.Lambda params body scope mn] [] pos) (sE fe js fb W):=by
 obtain⟨f,fd,ps,qual,sc,N,hNm,jL,hk,hbi,h2,ok⟩:=F;intro pins s σ H Q I ⟨δ,k,q⟩;refine Jj (yQ I hg jL ?_ eW);refine PySem.W.callWith_K (h₀:=X.base) I.ok.mod.oi hk ?_ hs (by rw[h8]; rfl);rw[hs,h8];show W6 _ _ (spliced ((false,eval e X.env) :: [(false,eval (.Lambda params body scope mn) X.env)])) _ _ s;unfold sE at q;rw[aY] at q;refine Calls.spliced_cons (aJ (he pins s σ H (λv H1=>∃ r δ1 dv δ2 d',aG c σ δ H σ δ1 H1/\Rep H1 (Av c σ δ1) v r/\iW js δ1=some (dv,δ2)/\W (gp fb dv) r=some d'/\∀ v' H3,aG c σ δ H σ δ2 H3->Rep H3 (Av c σ δ2) v' d'->Q v' H3) I ⟨δ,k,aN q λr δ1 q1 v H1 a1 r1=>?_⟩) λu s1 ⟨v,H1,I1,ru,r,δ1,dv,δ2,d',a1,r1,eg,ew,hq⟩=>?_)
 ·cases eg:iW js δ1 with
  | none=>rw[eg] at q1; exact q1.elim
  | some z =>
   obtain⟨dv,δ2⟩:=z;rw[eg] at q1;simp only at q1
   cases ew:W (gp fb dv) r.d with
   | none=>rw[ew] at q1; exact q1.elim
   | some d' =>
    rw[ew] at q1;exact⟨r.d,δ1,dv,δ2,d',a1,r1.rep,eg,ew,λv' H3 a3 r3=>q1 v' H3 a3 r3⟩
 ·obtain⟨a2,fv,l1,l2,rf⟩:=CI a1.ok eg;have k2:=a2.ok;have hv:∀ (i:Nat) x v,fr[i]? = some x->fv[i]? = some v->∃ (j:Nat) (a:Addr),X.N[j]? = some x/\σ[j]? = some (some v)/\X.env.scope.names.lookup x=some .cell/\cl.lookup x=some a:=λi y w e1 e2=>by
   have hi:i < js.length:=by rw[CJ]; exact(W5.mp e1).1
   obtain⟨w',q1,q2⟩:=l2 i js[i] (by simp[hi]);rw[e2] at q1; cases q1
   obtain⟨z1,z2,a,z3⟩:=hN i y js[i] e1 (by simp[hi]);exact⟨_,a,z1,q2,z2,z3⟩
  refine Calls.spliced_cons (Na I1 (ft.now k2 _ Nh) iJ wq eM sD CH wt hB jY (by rw[l1,CJ]) hv λfa H2 s2 I2 up C=>Calls.spliced_nil ⟨I2.dM,?_⟩);have k3:Ok c σ δ2 H2:=k2.mono up;have sp:spS X.prog X.w X.K X.mg X.base N qual sc f kw iy X.stack s2 [v,.ref fa] H2 Q E0:=by
   obtain⟨aA,hrun⟩:=hW fa (gp fb dv) r d' ew;have r3:Rep H2 (Av c σ δ2) v r:=(Rep.dF r1 a2).keep λa o e _=>up a o e
   refine⟨r,fa,gp fb dv,Av c σ δ2,v,rfl,?_,λaB A E wm fY=>?_,.pure d',aA,by rw[hNm]; exact hrun,λv' H' a r'=>?_⟩
   ·have gy:∀ (i:Nat) z,([some (S.pure r),some (S.pure (.fn fa))]:Dl)[i]? = some (some (.own z))->False:=λi z e=>by
     match i with
     | 0=>simp at e
     | 1=>simp at e
     | i + 2=>simp at e
    have sC:∀ b,Av ⟨H2,Av c σ δ2,[],λ_ _=>False⟩ [some v,some (.ref fa)] [some (.pure r),some (.pure (.fn fa))] b->Av c σ δ2 b:=λb z=>by
     rcases z with z | ⟨i,y,z1,_⟩
     ·exact z
     ·exact(gy i y z1).elim
    refine⟨λa o e _=>e,λa z=>k3.qM z,λa ⟨i,z⟩=>by simp at z,rfl,λi z e=>?_,λi z e=>(gy i z e).elim,λi j a z z' e=>(gy i z e).elim,λz hz=>by simp at hz⟩;match i with
    | 0 =>
     simp at e;subst e;exact⟨v,rfl,r3.aE λb z=>.inl (sC b z)⟩
    | 1 =>
     simp at e;subst e;exact⟨.ref fa,rfl,.fn fa⟩
    | i + 2=>simp at e
   ·exact M5 (X:=(eZ cG X.prog X.w X.K X.mg X.base N qual sc f aB A X.stack s2 H2 E).fH) (k:=kl) rfl rfl rfl C L (wm.mono Ni) hb (ax.keep rf λa o e _=>up a o e) λc' cd s' H' Nj hp=>dE c' fa cd _ _ s' H' Nj hp
   ·have wA:∀ b o,H2 b=some o->H' b=some o:=λb o eb=>a.ok.keep b o eb λ⟨i,z⟩=>by simp at z
    exact hq v' H' (((a1.trans a2).trans (.mono k2 up)).trans (.mono k3 wA)) (Rep.aE (show Rep H' _ v' d' from r') λb z=>.inl (.inl z))
  have rr:Vals [v,.ref fa] [u,.ref fa]:=.cons ru (.cons rfl .nil);have CK:=hbi s2 [u,.ref fa] I2.dM (by rw[Q7,h2]; rfl);rw[Q7] at CK;refine wpAny_call (QU (ok.run X.A X.stack s2 H2 ⟨[u,.ref fa],[]⟩ [u,.ref fa] [v,.ref fa] Q E0 hr I2.tS CK rr sp) λr s' pO=>?_)
  cases r with
  | error e=>exact pO.elim
  | ok fl =>
   cases fl with
   | ret u=>exact I2.after pO
   | next=>exact False.elim pO
   | brk=>exact False.elim pO
   | cont=>exact False.elim pO
end
theorem Nk{P:Wj}{w:Wm}{K:W2}{mg mb:Str->Option Value}{k:Nat}{fa a T c:Addr}{tpos:Pos}{tq:Str}{fd:WQ}{x:Str}{G:DF}{s₁:W1}{vs:List Value}{ns:List Int}
  (KX:K.In s₁.heap) (kE:s₁.heap.Ns Wt mg) (hb:s₁.heap.Ns builtinsNs mb) (uj:∀ x:Str,x≠"__name__"->mb x=Qs x) (uk:s₁.heap.NoLimit) (hg:s₁.gens = #[])
  (ha:s₁.heap.get? a=some { cls:=.type "list",data:=.seq vs.toArray }) (hi:IntsAre vs ns) (hl:ns.length<=W8) (hr:bP k callerA)
  (hL:pA K=true) (hT:s₁.heap.get? T=some (PySem.W.tabObj #[])) (hC:PySem.W.CodeHd s₁.heap c T) (hB:∃ bm o,mg "__builtins__" = some (.ref bm)/\bm≠builtinsNs/\s₁.heap.get? bm=some o/\o.cls = .type "module"/\o.dict=some builtinsNs/\o.data = .plain) (wB:K.lookup T=none)
  (F:∀ base:Heap,K.In base->base.Ns Wt mg->base.BuiltinsAt mg T->fK P w K mg base cG k fa fd [x] (ml [(T,tpos,tq)] 1 G)) (um:∀ (s:W1) (u:Value),BindsTo s fd ⟨[u],[]⟩ [(x,u)])
  (hG:∃ aA,G [.pure (.lst (ns.map .int))]=some (.pure (.bl true),aA)) :
  Qi (model P w) callerA (.call (.ref fa) ⟨[.ref a],[]⟩) (λr s'=>r = .ok (.ret (.bool true))/\OldK s₁.heap s'.heap/\s'.os=s₁.os/\AllBare s'.gens) s₁:=by
 have rv:=L2.oJ hi;have zV:=hi.length;have Nl:T≠a:=λz=>by
  rw[z,ha] at hT;have:=(Wx hT)
  have h2:=congrArg Obj.cls this
  cases h2
 have Nm:K.lookup a=none:=by
  cases hk:K.lookup a with
  | none=>rfl
  | some o =>
   have e:=KX a o hk;rw[ha] at e
   cases e;exact(Bt hL hk rfl).elim
 let H:Hp:=λb=>if b=a then some (.frz { cls:=.type "list",data:=.seq vs.toArray } (.lst (ns.map V.int))) else if b=T then some (.ctab tpos tq) else none
 have Ha:H a=some (.frz { cls:=.type "list",data:=.seq vs.toArray } (.lst (ns.map V.int))):=if_pos rfl;have HT:H T=some (.ctab tpos tq):=by show(if T=a then _ else _)=_; rw[if_neg Nl,if_pos rfl]
 have Hn:∀ b,b≠a->b≠T->H b=none:=λb h1 h2=>by show(if b=a then _ else _)=_; rw[if_neg h1,if_neg h2]
 have aj:bK P w H s₁.heap:=λb u z=>by
  by_cases h1:b=a
  ·subst h1;rw[Ha] at z; cases z
   exact⟨ha,by rw[Wq]; exact hl,vs,_,rv,ha⟩
  ·by_cases h2:b=T
   ·subst h2;rw[HT] at z; cases z
    exact⟨#[],hT,trivial,λcv q=>by cases q⟩
   ·rw[Hn b h1 h2] at z; cases z
 have mR:∀ {b:Addr} {o:Obj},s₁.heap.get? b=some o->H b=none->(fF s₁.heap H).get? b=some o:=λe n=>yG e n
 have iN:∀ {b:Addr} {o:Obj} {es:Array DictEntry} {ep:Nat},s₁.heap.get? b=some o->o.data = .dict es ep->H b=none:=λ{b o es ep} e d=>by
  refine Hn b (λz=>?_) λz=>?_
  ·rw[z,ha] at e; cases e
   have d':Data.seq vs.toArray _=Data.dict es ep:=d
   cases d'
  ·rw[z,hT] at e; cases e
   have d':Data.fields #[]=Data.dict es ep:=d
   cases d'
 have jM:∀ {b:Addr} {m:Str->Option Value},s₁.heap.Ns b m->(fF s₁.heap H).Ns b m:=λ{b m} ⟨o,es,ep,e,d,r⟩=>⟨o,es,ep,mR e (iN e d),d,r⟩
 have oK:K.In (fF s₁.heap H):=λb o e=>mR (KX b o e) (Hn b (λz=>by rw[z,Nm] at e; cases e) λz=>by rw[z,wB] at e; cases e)
 have hM:Mod K mg (fF s₁.heap H):=⟨oK,jM kE,⟨mb,jM hb,uj⟩,let ⟨mc,h1,h2⟩:=uk; ⟨mc,jM h1,h2⟩⟩
 have e0:lC P w K mg (fF s₁.heap H) callerA [] s₁ H:=⟨rfl,hM,λb o e=>yH e,Nat.le_of_eq (yF _ _),trivial,λb hb=>absurd (show b ∈ ([]:List Addr) from hb) (by simp),aj,.of_eq hg⟩
 have Nn:TH [(T,tpos,tq)] H:=λt ht=>by
  have:t=(T,tpos,tq):=by simpa using ht
  subst this;exact HT
 have hR:Rd H a (.lst (ns.map V.int)):=.inr ⟨_,Ha⟩;have sp:ml [(T,tpos,tq)] 1 G [.ref a] H (λv H'=>v = .bl true/\H' T=some (.ctab tpos tq)) E0:=by
  obtain⟨aA,hg⟩:=hG;have rep:∀ O:Addr->Prop,¬ O a->Rep H O (.ref a) (.lst (ns.map D.int)):=λO hO=>.lst hO hR (by simp) λi v d e1 e2=>by
   rw[Wy] at e1 e2
   cases e:ns[i]? with
   | none=>rw[e] at e1; cases e1
   | some k=>rw[e] at e1 e2; cases e1; cases e2; exact .int k
  refine⟨Nn,[.pure (.lst (ns.map .int))],λ_=>False,rfl,⟨λb o e _=>e,λb z=>z.elim,λb ⟨i,z⟩=>?_,rfl,λi d e=>?_,λi d e=>?_,λi j b d d' e1 e2 e3 e4=>?_,λp z=>?_⟩,_,aA,hg,λv H' x r=>?_⟩
  ·simp[bZ] at z
  ·cases i with
   | zero =>
    simp at e;subst e;refine⟨.ref a,rfl,rep _ λz=>?_⟩;rcases z with z | ⟨j,d',z1,z2⟩
    ·exact z
    ·cases j with
     | zero=>simp at z1
     | succ j=>simp at z1
   | succ i=>simp at e
  ·cases i with
   | zero=>simp at e
   | succ i=>simp at e
  ·cases i with
   | zero=>simp at e1
   | succ i=>simp at e1
  ·simp[bZ] at z
  ·cases r;exact⟨rfl,x.ok.keep T _ HT λ⟨i,z⟩=>by simp[bZ] at z⟩
 have Nq:(fF s₁.heap H).BuiltinsAt mg T:=by
  obtain⟨bm,o,b1,b2,b3,b4,b5,b6⟩:=hB;refine⟨bm,o,b1,b2,λz=>?_,λz=>?_,mR b3 (Hn bm (λz=>?_) λz=>?_),b4,b5,b6⟩
  ·obtain⟨o2,es,ep,e,d,_⟩:=kE;rw[z,e] at b3; cases b3
   rw[d] at b6; cases b6
  ·rw[z,hT] at b3; cases b3
   cases b6
  ·rw[z,ha] at b3; cases b3
   cases b6
  ·rw[z,hT] at b3; cases b3
   cases b6
 refine QU ((F _ oK (jM kE) Nq).run callerA [] s₁ H ⟨[.ref a],[]⟩ [.ref a] [.ref a] _ _ hr e0 (um s₁ (.ref a)) (.cons rfl .nil) sp) λr s' h=>?_
 cases r with
 | error e=>exact h.elim
 | ok fl =>
  cases fl with
  | next=>exact False.elim h
  | brk=>exact False.elim h
  | cont=>exact False.elim h
  | ret u =>
   obtain⟨v,H',os,bare,un,hok',r',q⟩:=h;obtain⟨q1,q2⟩:=q;subst q1;obtain rfl:u=Value.bool true:=r';have old:∀ b o,s₁.heap.get? b=some o->asItWas s₁.heap s'.heap b o/\∃ o',s'.heap.get? b=some o':=λb o e=>by
    by_cases h1:b=a
    ·subst h1;have z2:=un.iI b _ _ Ha;obtain⟨e2,_⟩:=hok' b _ z2;rw[ha] at e; cases e
     exact⟨.inl e2,_,e2⟩
    ·by_cases h2:b=T
     ·subst h2;obtain⟨ps,e2,_⟩:=hok' b _ q2;rw[hT] at e; cases e
      exact⟨.inr (.inl ⟨(hC.tab hT).isCodeTable,rfl,#[],ps,rfl,by rw[e2]; simp⟩),_,e2⟩
     ·have:=un.keep b o e (Hn b h1 h2) (by intro z; exact absurd (show b ∈ ([]:List Addr) from z) (by simp)) (by simp);exact⟨.inl this,_,this⟩
   exact⟨rfl,⟨λb o e=>(old b o e).1,λb o e=>(old b o e).2⟩,os,bare⟩
theorem Nr{l:U7}{q:Wj}{loose:List Str}{XP:(Str->Option Value)->Heap->Prop}{YP:Wm->Heap->Prop}{d:DefRec}{K:Params->W2}{k:Nat}{G:DF}{T:Addr}{tpos:Pos}{tq:Str}(hn:l.most=some 63)(lH:d.params.defaults=[])(hr:bP k callerA)
  (hY:∀ (w:Wm) (h:Heap),YP w h->(K w.params).In h/\h.get? T=some (PySem.W.tabObj #[])) (hL:∀ p:Params,pA (K p)=true) (wB:∀ p:Params,(K p).lookup T=none)
  (hG:∀ ns:List Int,ns.length<=63->∃ aA,G [.pure (.lst (ns.map .int))]=some (.pure (.bl true),aA))
  (F:∀ (w:Wm) (mg:Str->Option Value) (fa:Addr) (h:Heap),(K w.params).In h->h.Ns Wt mg->mg d.name=some (.ref fa) ->
   (∃ c,Jd (K w.params) c T=true)/\∃ fd:WQ,(∀ (s:W1) (u:Value),BindsTo s fd ⟨[u],[]⟩ [("script",u)])/\∀ base:Heap,(K w.params).In base->base.Ns Wt mg->base.BuiltinsAt mg T->fK l.prog w (K w.params) mg base cG k fa fd ["script"] (ml [(T,tpos,tq)] 1 G)) :
  PySem.W.WalkO q loose XP YP l.row.toRowW d [] (λf vs=>PySem.call f vs):=by
 refine Att.zU hn lH λw s₀ s₁ mg mb fa o pm cd doc a vs ns G' Y ho hd fu jL oI hints hlen hg=>?_
 obtain⟨KX,hT⟩:=hY w _ Y;obtain⟨⟨c,hC⟩,fd,hb,hF⟩:=F w mg fa _ KX G'.T.g jL;exact Nk KX G'.T.g G'.T.b G'.T.builtins G'.T.nolimit hg oI hints (WP hlen (by decide)) hr (hL _) hT (PySem.W.codeHd_of_K KX hC) G'.T.bmain (wB _) hF hb (hG ns hlen)
open PySem (sizeLine)
def sF(fa:PySem.Addr)(F:D->Option D):DS:=aI (aF jX (ag [] 2)) (aI (aF (aa 0) (ag [] 3)) (aI (gP (aH (a_ (dU true) (aa 3) (ao 2))) (aI (eJ 2 (aa 3) (aT cu (ao 2))) (aF (mj fa F 1 (aa 3)) (ag [] 3))) 1000000) (cB (e_ (cb (aT j4 (ao 2)) (cb (aq dm 2 (ao 3)) cV))))))
def wk(F:D->Option D):Nat->List Tx->Tx->Option (List Tx×Nat)
 | 0,_,_=>none
 | n + 1,seen,here=>if here ∈ seen then some (seen,seen.idxOf here) else match F (.str here) with
  | some (.str y)=>wk F n (seen ++ [here]) y
  | _=>none
def pP(F:D->Option D):D->Option D
 | .str x=>(wk F 1000000 [] x).map λp=>.tup [.lst (p.1.map .str),.int (p.2:Nat)]
 | _=>none
def bV:Nat->List Tx->List (aM×D)
 | _,[]=>[]
 | n,x :: r=>(.inr x,.int (n:Int)) :: bV (n + 1) r
theorem CL:∀ (n:Nat) (a b:List Tx),bV n (a ++ b)=bV n a ++ bV (n + a.length) b
 | n,[],b=>by simp[bV]
 | n,x :: r,b=>by
  rw[U4,bV,bV,CL,U4,WO];congr 3
  omega
theorem wC:∀ (n:Nat) (a:List Tx),(bV n a).length=a.length
 | _,[]=>rfl
 | n,x :: r=>by rw[bV,WO,wC,WO]
theorem wD:∀ (n:Nat) (a:List Tx),(bV n a).map (λp=>iw p.1)=a.map .str
 | _,[]=>rfl
 | n,x :: r=>by rw[bV,Wc,wD,Wc]; rfl
theorem wF(x:Tx):∀ (n:Nat) (a:List Tx),bj (bV n a) (.inr x)=if x ∈ a then some (.int ((n + a.idxOf x:Nat):Int)) else none
 | _,[]=>rfl
 | n,y :: r=>by
  unfold bj bV;rw[WH];by_cases h:y=x
  ·subst h;simp
  ·have h':¬ x=y:=λe=>h e.symm
   have e:(decide ((Sum.inr y:aM) = .inr x))=false:=by simp[h]
   have ih:=wF x (n + 1) r;unfold bj at ih;simp only[e];rw[ih,List.idxOf_cons];have hb:(y == x)=false:=by simp[h]
   simp only[hb,Wl,h',false_or];by_cases hm:x ∈ r
   ·simp only[hm,if_true,cond_false];congr 2
    omega
   ·simp[hm]
theorem Nt{x:Tx}{v:D}{a:List Tx}(h:x ∉ a):putD (bV 0 a) (.inr x) v=bV 0 a ++ [(.inr x,v)]:=by
 have hn:((bV 0 a).any λkv=>decide (kv.1 = .inr x))=false:=by
  rw[JU];intro kv hkv;have:iw kv.1 ∈ a.map D.str:=by rw[<- wD 0 a]; exact WU hkv
  simp only[decide_eq_true_eq];intro e;rw[e] at this;simp[iw] at this;exact h this
 unfold putD;rw[hn];simp
theorem CM(fa:PySem.Addr)(F:D->Option D)(d:D):∀ (n:Nat) (seen:List Tx) (here:Tx) (p:List Tx×Nat),seen.length + n<=1000000->wk F n seen here=some p ->
  ∃ last:Tx,last ∈ p.1/\p.1.idxOf last=p.2/\p.1.length<=1000000/\gP (aH (a_ (dU true) (aa 3) (ao 2))) (aI (eJ 2 (aa 3) (aT cu (ao 2))) (aF (mj fa F 1 (aa 3)) (ag [] 3))) n [some (.pure d),some (.pure (.fn fa)),some (.own (.az (bV 0 seen))),some (.pure (.str here))]
   = .ok .next [some (.pure d),some (.pure (.fn fa)),some (.own (.az (bV 0 p.1))),some (.pure (.str last))]
 | 0,_,_,_,_,h=>by simp[wk] at h
 | n + 1,seen,here,p,hl,h=>by
  unfold wk at h;have fO:dU true (.str here) (.az (bV 0 seen))=some (.pure (.bl (!decide (here ∈ seen)))):=by
   show((bJ (.str here)).map λk=>S.pure (.bl (if true then !(bj (bV 0 seen) k).isSome else(bj (bV 0 seen) k).isSome)))=_;simp only[bJ,Wz,wF,if_true];by_cases hm:here ∈ seen <;> simp[hm]
  by_cases hm:here ∈ seen
  ·rw[if_pos hm] at h
   cases h;refine⟨here,hm,rfl,by show seen.length<=_; omega,?_⟩;simp only[hm,decide_true,Bool.not_true] at fO;show gP _ _ (n + 1) _=_;generalize bV 0 seen=L at *;simp[gP,aH,aa,ao,fO]
  ·rw[if_neg hm] at h
   cases hF:F (.str here) with
   | none=>rw[hF] at h; cases h
   | some y =>
    rw[hF] at h
    cases y with
    | str y =>
     simp only at h;obtain⟨last,h1,h2,h3,h4⟩:=CM fa F d n (seen ++ [here]) y p (by simp; omega) h;refine⟨last,h1,h2,h3,?_⟩;rw[<- h4];simp only[hm,decide_false,Bool.not_false] at fO;have hz:(bV 0 seen).length < W8:=by rw[wC,cQ]; omega
     have hp:putD (bV 0 seen) (.inr here) (.int ((bV 0 seen).length:Nat))=bV 0 (seen ++ [here]):=by
      rw[Nt hm,CL,wC];simp[bV]
     generalize bV 0 (seen ++ [here])=L1 at *;generalize bV 0 seen=L at *;have e1:aH (a_ (dU true) (aa 3) (ao 2)) [some (.pure d),some (.pure (.fn fa)),some (.own (.az L)),some (.pure (.str here))] = .ok true [some (.pure d),some (.pure (.fn fa)),some (.own (.az L)),some (.pure (.str here))]:=by
      simp[aH,aa,ao,fO]
     have e2:eJ 2 (aa 3) (aT cu (ao 2)) [some (.pure d),some (.pure (.fn fa)),some (.own (.az L)),some (.pure (.str here))] = .ok .next [some (.pure d),some (.pure (.fn fa)),some (.own (.az L1)),some (.pure (.str here))]:=by
      simp[eJ,ir,aa,ao,cu,bJ,hz,hp]
     have e3:aF (mj fa F 1 (aa 3)) (ag [] 3) [some (.pure d),some (.pure (.fn fa)),some (.own (.az L1)),some (.pure (.str here))] = .ok .next [some (.pure d),some (.pure (.fn fa)),some (.own (.az L1)),some (.pure (.str y))]:=by
      simp[aF,mj,aa,hF]
     simp only[gP,e1,fQ,if_true];have e4:aI (eJ 2 (aa 3) (aT cu (ao 2))) (aF (mj fa F 1 (aa 3)) (ag [] 3)) [some (.pure d),some (.pure (.fn fa)),some (.own (.az L)),some (.pure (.str here))] = .ok .next [some (.pure d),some (.pure (.fn fa)),some (.own (.az L1)),some (.pure (.str y))]:=by
      unfold aI;rw[e2];exact e3
     rw[e4];rfl
    | _=>simp at h
theorem Nu(fa:PySem.Addr)(F:D->Option D)(d r:D)(h:pP F d=some r):∃ aA,dz (sF fa F) 4 [.pure d,.pure (.fn fa)]=some (.pure r,aA):=by
 unfold pP at h;split at h
 ·rename_i x
  cases e:wk F 1000000 [] x with
  | none=>rw[e] at h; cases h
  | some p =>
   rw[e] at h;simp only[Wz,Wa] at h;subst h;obtain⟨last,h1,h2,h3,h4⟩:=CM fa F (.str x) 1000000 [] x p (by simp) e;have hx:dm (.az (bV 0 p.1)) (.str last)=some (.pure (.int (p.2:Nat))):=by
    show((bJ (.str last)).bind λk=>(bj (bV 0 p.1) k).map S.pure)=_;simp only[bJ,WL,wF,h1,if_true,Wz,h2,Jb]
   have hk:j4 (.az (bV 0 p.1))=some (.own (.lst (p.1.map .str))):=by
    show some (S.own (D.lst ((bV 0 p.1).map λp=>iw p.1)))=_;rw[wD]
   have h0:bV 0 []=[]:=rfl;rw[h0] at h4;generalize bV 0 p.1=L at *;refine⟨[.pure (.str x),.pure (.fn fa)],?_⟩;unfold dz sF;simp[br,aF,jX,aa];rw[h4];simp[ao,hk,aq,bz,hx,cz,bI]
 ·cases h
section
variable {P:Wj} {w:Wm} {K:W2} {mg:Str->Option Value} {base:Heap}
theorem pQ{ts:jv}{x qual:Str}{st:Stmt}{f:Addr}{fd:WQ}{N ps:List Str}{k:Nat}{np:List Nat}{fb:DS}{G:DF}(F:bM K x qual st f fd)(hm:mg x=some (.ref f))(hb:Binds K fd ps [])(S:cj N ps (aV st))
  (dE:∀ (c:Fc) (aB:Value) (A:Wn) (outer:List Env) (s:W1) (H:Hp) (E:XK),bP k (A.deeper (J8 qual (aV st) s.heap.objs.size f aB))->Np c np->FT ts c->(∃ oc od kV doc pm an ct dD,K.lookup f=some ⟨oc,od,.func (Q4 x qual (fX st) (du st) (aV st) .none kV doc pm an aB ct),dD⟩)->gK (eZ cG P w K mg base N qual (aV st) f aB A outer s H E).fH c (du st) fb)
  (hG:∀ ss y,G ss=some y->b7 np 0 ss=true/\dz fb N.length ss=some y):gX P w K mg base ts (k + 1) x ps.length G:=⟨f,fd,ps,hm,F.kp,hb,CG F S dE hG⟩
theorem Nv{x qual:Str}{st:Stmt}{f code:Addr}{aB:Value}(h1:∃ oc od kV doc pm an ct dD,K.lookup f=some ⟨oc,od,.func (Q4 x qual (fX st) (du st) (aV st) .none kV doc pm an aB ct),dD⟩)
  (h2:∃ oc od kV doc pm an ct dD,K.lookup f=some ⟨oc,od,.func (Q4 x qual (fX st) (du st) (aV st) .none kV doc pm an (.ref code) ct),dD⟩):aB = .ref code:=by
 obtain⟨_,_,_,_,_,_,_,_,e1⟩:=h1;obtain⟨_,_,_,_,_,_,_,_,e2⟩:=h2;rw[e1] at e2
 cases e2;rfl
end
section
variable {X:Cx} {c:Fc} {e:Expr} {es:List Expr} {as:List Ak} {k n:Nat} {x:Str} {G:DX} {pp pos:Pos} {ts:jv}
end
end DV
namespace L2
open PySem PySem.Spec PyProof.Rows
section
variable {X:Cx} {pins:List (Addr×Obj)} {σ:St} {H:Hp} {s:W1} {a:Addr} {kvs:List (Key×V)} {k:Key} {u:Value} {A:Wn} {E:Value->W1->Prop}
theorem Nw{v:V}{r:Value}{Q:Value->W1->Prop}(I:Inv X pins σ H s)(e:H a=some (.dK kvs))(ry:RelV (kV k) u)(rv:RelV v r)(lz:kvs.length < W8)
  (h1:∀ v' w' s',c4 kvs k=some v'->Inv X pins σ H s'->RelV v' w'->Q w' s') (h2:c4 kvs k=none->∀ s',Inv X pins σ (upd H a (.dK (putK kvs k v))) s'->Q r s') :
  W6 (model X.prog X.w) A (call (.builtin "dict.setdefault") [.ref a,u,r]) Q E s:=by
 obtain⟨z,hd,vs,rel,dd⟩:=oG I.aj e;have rk:=rel.val k;refine call_meetsIn PySem.F.slot_dict_setdefault dd.typeIs PySem.F.entry_dict_setdefault (PySem.F.args_dict_setdefault_3 _ _ _) (kt_meets_setdefault (cM X.prog X.w) a (jc ry) hd r) ⟨vs,dd,by rw[<- rel.length]; exact z,λw' hw=>?_,λhn h' gE hs=>?_⟩
 ·cases l:c4 kvs k with
  | none =>
   rw[l] at rk;rw[cY.none_of rk] at hw
   cases hw
  | some v' =>
   rw[l] at rk;obtain⟨w2,e2,r2⟩:=cY.some_of rk;rw[hw] at e2
   cases e2;exact h1 v' w' _ l (I.tok _) r2
 ·have l:c4 kvs k=none:=by
   cases l:c4 kvs k with
   | none=>rfl
   | some v' =>
    rw[l] at rk;obtain⟨w2,e2,r2⟩:=cY.some_of rk;rw[hn] at e2; cases e2
  have hl:(putK kvs k v).length<=W8:=by have:=mN kvs k v; omega
  have he:∃ q,h'.get? a=some q:=let ⟨q,_,_,hq,_⟩:=gE; ⟨q,hq⟩
  exact h2 l _ (mQ I (by rw[e]; exact True.intro) hs he (qF hl hd (rel.put k rv) gE))
end
def Nx(td ty tx:TE):TE:=λσ H Q=>td σ H λx H1=>∃ a,x = .ref a/\ug H1 a/\ty σ H1 λy H2=>tx σ H2 λz H3=>∃ kvs k,H3 a=some (.dK kvs)/\y=kV k/\kvs.length < W8 /\
 (∀ v,c4 kvs k=some v->Q v H3)/\(c4 kvs k=none->Q z (upd H3 a (.dK (putK kvs k z))))
section
variable {X:Cx} {o e f:Expr} {apos bb:Pos} {td ty tx:TE}
theorem Ny (ho:PE X o td) (he:PE X e ty) (hf:PE X f tx) (m:M2 X o "setdefault" apos e f bb):PE X (.Call (.Attribute o "setdefault" apos) [e,f] [] bb) (Nx td ty tx):=by
 intro pins s σ H Q I h;refine wpAny_Call_method m.base m.uf m.line PySem.F.plainAttrs_dict PySem.F.slot_dict_setdefault PySem.F.type_dict_setdefault (aJ (ho pins s σ H _ I h) λu s1 ⟨x,H1,I1,rx,a,ex,d,q1⟩=>?_);subst ex;obtain rfl:u=Value.ref a:=rx;obtain⟨t1,t2,_⟩:=zS I1 d;refine⟨t1,t2,?_⟩;rw[m.trees];refine Calls.callWith_builtin rfl (Calls.evalArgs_plain (Calls.spliced_cons (aJ (he pins s1 σ H1 _ I1 q1) λiv s2 ⟨y,H2,I2,ry,q2⟩ =>
  Calls.spliced_cons (aJ (hf pins s2 σ H2 _ I2 q2) λfv s3 ⟨z,H3,I3,rz,kvs,k,ea,ey,lz,q3,q4⟩=>Calls.spliced_nil ?_))))
 subst ey;exact Nw I3 ea ry rz lz (λv' w' s' l I4 r4=>⟨v',_,I4,r4,q3 v' l⟩) λl s' I4=>⟨z,_,I4,rz,q4 l⟩
end
end L2
namespace DV
open PySem PySem.Spec PyProof.Rows L2
section
variable {X:Cx} {c:Fc} {e:Expr} {fe:DE} {pos:Pos}
def j5(i:Nat)(fk fv:DE):DS:=λδ=>if ir δ i then(fk δ).bind λk δ1=>(fv δ1).bind λr δ2=>match δ2[i]? with
  | some (some (.own (.az ds)))=>match bJ k.d with
   | some kk=>if ds.length < W8 then .ok .next (match bj ds kk with
    | some _=>δ2
    | none=>δ2.set i (some (.own (.az (putD ds kk r.d))))) else .stuck
   | none=>.stuck
  | _=>.stuck else .stuck
theorem Nz {i:Nat} {o ke ve:Expr} {fk fv:DE} {apos bb:Pos} (ho:PE X o (de i)) (hk:SE X c ke fk) (hv:SE X c ve fv) (m:M2 X o "setdefault" apos ke ve bb)
  (vn:J7 (.Call (.Attribute o "setdefault" apos) [ke,ve] [] bb) none pos.line X.env=pure false:=by rfl):SS X c (.Expr (.Call (.Attribute o "setdefault" apos) [ke,ve] [] bb) pos) (j5 i fk fv) :=
 PS.weak (tF (Ny ho hk hv m) vn) λD σ H ⟨δ,k,q⟩=>by
  unfold j5 dw at q;split at q
  case isFalse=>exact q.elim
  rename_i h_;obtain⟨ds0,e0⟩:=BW h_;obtain⟨a,ea,oa,_⟩:=k.own i _ e0;rw[aY] at q;refine⟨.ref a,ea,a,rfl,?_,δ,k,aN q λkx δ1 q1 u H1 a1 r1=>?_⟩
  ·obtain⟨ws,ha,_⟩:=oa;exact .inl ⟨ws,.of ha⟩
  rw[aY] at q1;refine⟨δ1,a1.ok,aN q1 λr δ2 q2 v H2 a2 r2=>?_⟩;split at q2
  ·rename_i ds e2;split at q2
   ·rename_i kk hk;split at q2
    ·rename_i hz;obtain⟨a',cF,oa,_⟩:=a2.ok.own i _ e2;rw[ea] at cF; cases cF
     obtain⟨ws,ha,hk1,hk2⟩:=id oa;have dr:DR H2 (Av c σ δ2) ws ds:=DR.of hk1 hk2;have oU:=nv hk r1.b;have hlen:ws.length=ds.length:=by have:=congrArg Qx hk1; simpa using this
     have rv:Rep H2 (Av c σ δ2) v r.d:=r2.rep;refine⟨ws,ck kk,ha,oU,by rw[hlen]; exact hz,λv' l=>?_,λl=>?_⟩
     ·rcases dr.val kk with ⟨n1,n2⟩ | ⟨v2,d2,m1,m2,_⟩
      ·rw[n2] at l; cases l
      ·rw[m1] at q2;exact q2 σ _ (a1.trans a2)
     ·rcases dr.val kk with ⟨n1,n2⟩ | ⟨v2,d2,m1,m2,_⟩
      ·rw[n1] at q2;exact q2 σ _ (a1.trans (a2.trans (Ok.BV a2.ok e2 ea (dr.put rv))))
      ·rw[m2] at l; cases l
    ·exact q2.elim
   ·exact q2.elim
  ·exact q2.elim
end
section
variable {X:Cx}
def wG(K:W2)(neg:Bool):R2:=λx y H Q=>∃ p vs ds d,y = .ref p/\bS K H p vs/\ax H cx vs ds/\Rep H cx x d/\flat 49 d=true/\(∀ e ∈ ds,flat 49 e=true)/\Q (.bl (if neg then !ds.any (λe=>ak e d) else ds.any (λe=>ak e d))) H
theorem CN{pins:List (Addr×Obj)}{σ:L2.St}{H:Hp}{s:W1}{x:V}{v:Value}{ae:List Value}{vs:List V}{ds:List D}{d:D}(hu:X.A.units + 64 < WI)(I:L2.Inv X pins σ H s)(rx:RelV x v)(r1:Rep H cx x d)(f1:flat 49 d=true)(rv:Vals vs ae)(rs:ax H cx vs ds)(fs:∀ e ∈ ds,flat 49 e=true) :
  ∃ e:Value->Bool,(∀ y ∈ ae.toArray,SeqAt.EqAt X.A.in1 s y v (e y))/\ae.toArray.any e=ds.any (λe=>ak e d):=by
 have pre:=uG I (A:=X.A) 50 (by omega);obtain⟨_,it⟩:=pre;have lv:=rv.length;have at_:∀ (i:Nat) (y:Value) (e:D),ae[i]? = some y->ds[i]? = some e->SeqAt.EqAt X.A.in1 s y v (ak e d):=λi y e h1 h2=>by
  have hi:i < vs.length:=by rw[rs.1]; exact(W5.mp h2).1
  have hv:vs[i]? = some vs[i]:=W7 hi;obtain⟨y',e1,ry⟩:=rv.get hv;rw[h1] at e1
  cases e1;exact it _ _ _ _ _ _ _ (show X.A.units + 1 + 49 + 1 < WI by omega) (fs e (WB h2)) f1 (rs.2 i _ _ hv h2) r1 ry rx
 have dec:∀ p:Prop,Decidable p:=Classical.propDecidable;refine⟨λy=>decide (∃ (i:Nat) (e:D),ae[i]? = some y/\ds[i]? = some e/\ak e d=true),λy hy=>?_,?_⟩
 ·have wH:y ∈ ae:=by simpa using hy
  obtain⟨i,h1⟩:=Jz wH;have hi:i < ds.length:=by
   have:=(W5.mp h1).1;rw[<- rs.1,lv]; exact this
  have h2:ds[i]? = some ds[i]:=W7 hi;by_cases q:∃ (i:Nat) (e:D),ae[i]? = some y/\ds[i]? = some e/\ak e d=true
  ·obtain⟨j,e,q1,q2,q3⟩:=id q;have:=at_ j y e q1 q2;rw[q3] at this;show SeqAt.EqAt X.A.in1 s y v (decide _);rw[decide_eq_true q];exact this
  ·have:=at_ i y _ h1 h2;have hf:ak ds[i] d=false:=by
    cases z:ak ds[i] d with
    | false=>rfl
    | true=>exact absurd ⟨i,_,h1,h2,z⟩ q
   rw[hf] at this;show SeqAt.EqAt X.A.in1 s y v (decide _);rw[decide_eq_false q];exact this
 ·rw[JF,List.any_eq_true];simp only[List.any_toArray,List.any_eq_true,decide_eq_true_eq];constructor
  ·rintro ⟨y,_,i,e,h1,h2,h3⟩;exact⟨e,WB h2,h3⟩
  ·rintro ⟨e,he,h3⟩;obtain⟨i,h2⟩:=Jz he;have hi:i < ae.length:=by
    rw[<- lv,rs.1]; exact(W5.mp h2).1
   have h1:ae[i]? = some ae[i]:=W7 hi;exact⟨ae[i],QR hi,i,e,h1,h2,h3⟩
theorem NA(hu:X.A.units + 64 < WI):bh X (WE .In) (wG X.K false):=by
 intro pins s σ H x y v u Q I rx ry h;obtain⟨p,vs,ds,d,rfl,hq,rs,r1,f1,fs,q⟩:=h
 cases ry;obtain⟨ae,r,pl,hz⟩:=I.list hq;obtain⟨e,h1,h2⟩:=CN hu I rx r1 f1 r rs fs;refine SeqAt.in_listAt e pl.isList h1 ⟨.bl _,H,I,rfl,?_⟩;rw[h2];exact q
theorem NB(hu:X.A.units + 64 < WI):bh X (WE .NotIn) (wG X.K true):=by
 intro pins s σ H x y v u Q I rx ry h;obtain⟨p,vs,ds,d,rfl,hq,rs,r1,f1,fs,q⟩:=h
 cases ry;obtain⟨ae,r,pl,hz⟩:=I.list hq;obtain⟨e,h1,h2⟩:=CN hu I rx r1 f1 r rs fs;refine SeqAt.notIn_listAt e pl.isList h1 ⟨.bl _,H,I,rfl,?_⟩;rw[h2];exact q
def gY(neg:Bool)(x y:D):Option S:=match y with
 | .lst ds=>if flat 49 x && ds.all (flat 49) then some (.pure (.bl (if neg then !ds.any (λe=>ak e x) else ds.any (λe=>ak e x)))) else none
 | _=>none
theorem CO{K:W2}(neg:Bool):cq (wG K neg) (gY neg):=by
 intro c σ δ H x y d e s Q k rx ry hp q
 cases e <;> first | (simp[gY] at hp; done) | skip
 rename_i ds;simp only[gY] at hp;split at hp
 ·rename_i hf
  cases hp;simp only[Ws,List.all_eq_true] at hf;obtain⟨a,vs,ea,ha,r⟩:=ry.lst;exact⟨a,vs,ds,d,ea,.inl ha,ax.aE r (λ_ z=>z.elim),rx.un,hf.1,hf.2,q _ H (.refl k) (.bl _)⟩
 ·cases hp
end
end DV
namespace L2
open PySem PySem.Spec PyProof.Rows PySem.SeqAt
mutual
def gZ:NK->Nat
 | .i _=>1
 | .s _=>1
 | .t ks=>iA ks + 1
def iA:List NK->Nat
 | []=>0
 | k :: ks=>gZ k + iA ks
end
inductive cK (h:Heap):Nat->NK->Value->Prop
 | int {n:Nat} (z:Int) (t:Tok):cK h n (.i z) (.int z t)
 | bl {n:Nat} (b:Bool):cK h n (.i (if b then 1 else 0)) (.bool b)
 | str {n:Nat} (x:Str) (t:Tok):cK h n (.s x) (.str x t)
 | tup {n:Nat} {a:Addr} {ae:Array Value} {ks:List NK}:h.IsTuple a ae->ks.length=ae.toList.length->(∀ (i:Nat) k v,ks[i]? = some k->ae.toList[i]? = some v->cK h n k v)->cK h (n + 1) (.t ks) (.ref a)
section
variable {h h':Heap} {n:Nat}
theorem NC{α β:Type}{xs ys:List α}{vs:List β}(h1:xs.length=vs.length)(h2:ys.length=vs.length)(q:∀ (i:Nat) x y v,xs[i]? = some x->ys[i]? = some y->vs[i]? = some v->x=y):xs=ys:=by
 apply U3 (by omega);intro i a b;exact q i _ _ vs[i] (W7 a) (W7 b) (W7 (by omega))
theorem cK.inj{x:NK}{v:Value}(r:cK h n x v):∀ {m:Nat} {y:NK},cK h m y v->x=y:=by
 induction r with
 | int z t=>intro m y k; cases k; rfl
 | bl b=>intro m y k; cases k; rfl
 | str x t=>intro m y k; cases k; rfl
 | @tup n a ae ks h1 h2 h3 ih =>
  intro m y k
  cases k with
  | @tup m _ its' ks' k1 k2 k3 =>
   obtain⟨o,e,c,q,d⟩:=h1;obtain⟨o',e',c',q',d'⟩:=k1;rw[e] at e'; cases e'
   rw[d] at d'; cases d'
   rw[NC h2 k2 λi x y v e1 e2 e3=>ih i x v e1 e3 (k3 i y v e2 e3)]
theorem cK.kept{x:NK}{v:Value}(r:cK h n x v)(k:∀ b ae,h.IsTuple b ae->h'.IsTuple b ae):cK h' n x v:=by
 induction r with
 | int z t=>exact .int z t
 | bl b=>exact .bl b
 | str x t=>exact .str x t
 | tup h1 h2 h3 ih=>exact .tup (k _ _ h1) h2 ih
theorem cK.up{x:NK}{v:Value}(r:cK h n x v):∀ {m:Nat},n<=m->cK h m x v:=by
 induction r with
 | int z t=>intro m _; exact .int z t
 | bl b=>intro m _; exact .bl b
 | str x t=>intro m _; exact .str x t
 | tup h1 h2 h3 ih =>
  intro m l;obtain⟨m,rfl⟩:∃ m',m=m' + 1:=⟨m - 1,by omega⟩
  exact .tup h1 h2 λi k v e1 e2=>ih i k v e1 e2 (by omega)
end
section
variable {prog:Wj} {w:Wm} {E:Value->W1->Prop}
theorem ND{A:Wn}{s:W1}{b:Bool}{Q:Int->W1->Prop}(h:Q (hashInt (if b then 1 else 0)) { s with toks:=s.toks + 1 }):W6 (model prog w) A (PySem.pyHash (.bool b)) Q E s:=by
 have z:reduceHash (if b then 1 else 0)=hashInt (if b then 1 else 0):=by cases b <;> decide +kernel
 refine PySem.W.pyHash_slot (id:="int.__hash__") (T:="bool") (hT:=rfl) (slot:=F.slot_bool_hash) (entry:=entry_int_hash) (args:=args_int_hash _) (hid:=beq_builtin_none _) (hu:=.inl rfl) (body:=?_)
 cases b
 ·exact(show W6 _ _ (mkInt 0 >>= λv=>ret v) _ _ _ from W0 (wpAny_mkInt (W3 ⟨_,_,rfl,z ▸ h⟩)))
 ·exact(show W6 _ _ (mkInt 1 >>= λv=>ret v) _ _ _ from W0 (wpAny_mkInt (W3 ⟨_,_,rfl,z ▸ h⟩)))
theorem CP(w:Wm):∀ ks:List NK,ql w ks=ks.map (eS w)
 | []=>rfl
 | k :: ks=>by simp only[ql,Wc,CP w ks]
theorem CQ:∀ xs ys:List NK,iA (xs ++ ys)=iA xs + iA ys
 | [],ys=>by simp[iA]
 | x :: xs,ys=>by simp only[U4,iA,CQ xs ys]; omega
theorem cK.pyHash{h:Heap}{n:Nat}{k:NK}{v:Value}(r:cK h n k v):∀ {A:Wn} {s:W1} {Q:Int->W1->Prop},s.heap=h->A.units + n < WI->Q (eS w k) { s with toks:=s.toks + gZ k }->W6 (model prog w) A (PySem.pyHash v) Q E s:=by
 induction r with
 | int z t=>intro A s Q _ _ q; exact wpAny_pyHash_int q
 | bl b=>intro A s Q _ _ q; exact ND q
 | str x t=>intro A s Q _ _ q; exact wpAny_pyHash_str q
 | @tup n a ae ks h1 h2 h3 ih =>
  intro A s Q hs hu q;subst hs;obtain⟨o,ho,hc,m,hd⟩:=id h1;have hT:s.TypeIs (.ref a) "tuple":=⟨o,ho,hc⟩
  refine PySem.W.pyHash_slot (T:="tuple") hT F.slot_tuple_hash F.entry_tuple_hash (F.args_tuple_hash_1 _) (beq_builtin_none _) (.inr (by omega)) ?_;show W6 _ _ (Builtin.Tuple.tupleItemsOf (.ref a) >>= _) _ _ s;refine W0 (wpAny_tupleItemsOf ho hd ?_);refine W0 ?_;rw[<- Array.forIn_toList];refine wpAny_forIn_list _ (λrest (b:Array Int) s'=>∃ i,i<=ks.length/\rest=ae.toList.drop i/\b.toList=(ks.take i).map (eS w)/\s' = { s with toks:=s.toks + iA (ks.take i) })
   _ ?_ ?_ _ _ ⟨0,Qm _,rfl,rfl,by simp[iA]⟩
  ·rintro x rest b s' ⟨i,hi,hr,hb,rfl⟩;have aQ:i < ae.toList.length:=by
    rcases Nat.lt_or_ge i ae.toList.length with z | z
    ·exact z
    ·rw[List.drop_eq_nil_of_le z] at hr; cases hr
   rw[J3 aQ] at hr;injection hr with hx hr
   have fP:i < ks.length:=by omega
   refine W0 (ih i ks[i] x (W7 fP) (by rw[hx]; exact W7 aQ) rfl (show A.units + 1 + n < WI by omega) ?_);have ht:ks.take (i + 1)=ks.take i ++ [ks[i]]:=by rw[List.take_succ,W7 fP]; rfl
   have fin:∃ j,j<=ks.length/\rest=ae.toList.drop j/\(b.push (eS w ks[i])).toList=(ks.take j).map (eS w)/\({ s with toks:=s.toks + iA (ks.take i) + gZ ks[i] }:W1) = { s with toks:=s.toks + iA (ks.take j) }:=by
    refine⟨i + 1,fP,hr,by rw[ht,WV,JY,hb]; rfl,?_⟩;rw[ht,CQ];simp only[iA];rw[Nat.add_zero,Nat.add_assoc]
   first
    | exact W3 fin
    | exact W0 (W3 (W3 fin))
  ·rintro b s' ⟨i,hi,hr,hb,rfl⟩;have hz:i=ks.length:=by
    have:=congrArg Qx hr;simp at this;simp at h2;omega
   subst hz;rw[List.take_length] at hb ⊢;show W6 _ _ (retInt (Builtin.Tuple.tupleHashOf b.toList)) _ _ _;rw[hb];refine W0 (wpAny_mkInt (W3 ⟨_,_,rfl,?_⟩));simp only[eS,gZ,CP] at q;simpa[Nat.add_assoc] using q
theorem cK.quiet{s:W1}{n:Nat}{k:NK}{v:Value}(r:cK s.heap n k v):∀ {A:Wn} {m:Nat} {Q:Bool->W1->Prop},n<=m->Q true s->W6 (model prog w) A (eqIsQuiet m v) Q E s:=by
 induction r with
 | int z t=>intro A m Q _ q; rw[eqIsQuiet_byValue _ rfl]; exact W3 q
 | bl b=>intro A m Q _ q; rw[eqIsQuiet_byValue _ rfl]; exact W3 q
 | str x t=>intro A m Q _ q; rw[eqIsQuiet_byValue _ rfl]; exact W3 q
 | @tup n a ae ks h1 h2 h3 ih =>
  intro A m Q hm q;obtain⟨o,ho,hc,mm,hd⟩:=id h1;have hT:s.TypeIs (.ref a) "tuple":=⟨o,ho,hc⟩
  obtain⟨m,rfl⟩:∃ m',m=m' + 1:=⟨m - 1,by omega⟩
  unfold eqIsQuiet;refine W0 (wpAny_specialOf hT F.slot_tuple_eq.lookup ?_);show W6 _ _ (isInstance (.ref a) (.type "tuple") >>= _) _ _ s;refine W0 (wpAny_isInstance hT isSubtype_tuple_tuple ?_);simp only[Bool.not_true,QC,if_false];refine W0 (JR ho hd ?_);refine W0 ?_;show W6 _ _ (forIn ae _ _) _ _ s;rw[<- Array.forIn_toList];refine wpAny_forIn_list _ (λrest r s'=>r.1=none/\s'=s/\∃ i,rest=ae.toList.drop i) _ ?_ ?_ _ _ ⟨rfl,rfl,0,rfl⟩
  ·rintro x rest r s' ⟨hr,rfl,i,hi⟩;have aQ:i < ae.toList.length:=by
    rcases Nat.lt_or_ge i ae.toList.length with z | z
    ·exact z
    ·rw[List.drop_eq_nil_of_le z] at hi; cases hi
   rw[J3 aQ] at hi;injection hi with hx hi
   have fP:i < ks.length:=by omega
   refine W0 (ih i ks[i] x (W7 fP) (by rw[hx]; exact W7 aQ) (by omega) ?_);simp only[Bool.not_true,QC,if_false];exact W3 ⟨rfl,rfl,i + 1,hi⟩
  ·rintro ⟨r1,r2⟩ s' ⟨hr,rfl,_⟩;simp only at hr;subst hr;exact W3 q
theorem k7(a b:Int):decide (NK.i a=NK.i b)=(a == b):=by
 by_cases e:a=b
 ·subst e; simp
 ·rw[decide_eq_false λq=>e (NK.i.inj q)]; exact(beq_eq_false_iff_ne.mpr e).symm
theorem wI(a b:Str):decide (NK.s a=NK.s b)=(a == b):=by
 by_cases e:a=b
 ·subst e; simp
 ·rw[decide_eq_false λq=>e (NK.s.inj q)]; exact(beq_eq_false_iff_ne.mpr e).symm
theorem wJ(a b:Bool):(a == b)=(((if a then 1 else 0:Int)) == (if b then 1 else 0:Int)):=by cases a <;> cases b <;> rfl
theorem NF{xs ys:List NK}{e:Nat->Bool}(he:∀ (j:Nat) x y,xs[j]? = some x->ys[j]? = some y->e j=decide (x=y)):((Wu (min xs.length ys.length)).all e && xs.length == ys.length)=decide (NK.t xs=NK.t ys):=by
 by_cases hl:xs.length=ys.length
 ·rw[<- hl,Nat.min_self];simp only[beq_self_eq_true,Bool.and_true];by_cases hx:xs=ys
  ·subst hx;rw[decide_eq_true rfl,List.all_eq_true];intro j hj;have:=QQ.mp hj;rw[he j xs[j] xs[j] (W7 this) (W7 this)];simp
  ·rw[decide_eq_false λq=>hx (NK.t.inj q)];rw[List.all_eq_false];apply Classical.byContradiction;intro hn;apply hx;apply U3 hl;intro j a b;apply Classical.byContradiction;intro cX;refine hn ⟨j,QQ.mpr a,?_⟩;rw[he j _ _ (W7 a) (W7 b)];simpa using cX
 ·rw[decide_eq_false λq=>hl (by rw[NK.t.inj q])];simp[hl]
theorem cK.NG{s:W1}{n:Nat}{x:NK}{u:Value}(r:cK s.heap n x u):∀ {A:Wn} {m:Nat} {y:NK} {v:Value},cK s.heap m y v->A.units + n < WI->EqAt A s u v (decide (x=y)):=by
 induction r with
 | int z t =>
  intro A m y v k hu
  cases k with
  | int z' t'=>rw[k7]; exact EqAt.int_int _ _ _ _
  | bl b=>rw[k7]; exact EqAt.int_bool _ _ _
  | str x t'=>rw[decide_eq_false (λq=>nomatch q)]; exact EqAt.int_str _ _ _ _
  | tup k1 k2 k3=>rw[decide_eq_false (λq=>nomatch q)]; exact EqAt.int_tuple _ _ k1 (by omega)
 | bl b =>
  intro A m y v k hu
  cases k with
  | int z' t'=>rw[k7]; exact EqAt.bool_int _ _ _
  | bl b=>rw[k7,<- wJ]; exact EqAt.bool_bool _ _
  | str x t'=>rw[decide_eq_false (λq=>nomatch q)]; exact EqAt.bool_str _ _ _
  | tup k1 k2 k3=>rw[decide_eq_false (λq=>nomatch q)]; exact EqAt.bool_tuple _ k1 (by omega)
 | str x t =>
  intro A m y v k hu
  cases k with
  | int z' t'=>rw[decide_eq_false (λq=>nomatch q)]; exact EqAt.str_int _ _ _ _
  | bl b=>rw[decide_eq_false (λq=>nomatch q)]; exact EqAt.str_bool _ _ _
  | str x t'=>rw[wI]; exact EqAt.str_str _ _ _ _
  | tup k1 k2 k3=>rw[decide_eq_false (λq=>nomatch q)]; exact EqAt.str_tuple _ _ k1 (by omega)
 | @tup n a ae ks h1 h2 h3 ih =>
  intro A m y v k hu
  cases k with
  | int z' t'=>rw[decide_eq_false (λq=>nomatch q)]; exact EqAt.tuple_int _ _ h1 (by omega)
  | bl b=>rw[decide_eq_false (λq=>nomatch q)]; exact EqAt.tuple_bool _ h1 (by omega)
  | str x t'=>rw[decide_eq_false (λq=>nomatch q)]; exact EqAt.tuple_str _ _ h1 (by omega)
  | @tup m' b its' ks' k1 k2 k3 =>
   by_cases iR:a=b
   ·subst iR;have e:NK.t ks=NK.t ks':=cK.inj (cK.tup h1 h2 h3) (cK.tup k1 k2 k3);rw[decide_eq_true e];exact EqAt.same _
   ·refine EqAt.of_refs iR ?_;let e:Nat->Bool:=λj=>match ks[j]?,ks'[j]? with
     | some x,some y=>decide (x=y)
     | _,_=>false
    have z1:ae.size=ks.length:=by simpa using h2.symm
    have z2:its'.size=ks'.length:=by simpa using k2.symm
    have q:=RcAt.tuples (A:=A) (s:=s) (e:=e) h1 k1 (by omega) λj j1 j2=>by
     have l1:j < ks.length:=by omega
     have l2:j < ks'.length:=by omega
     have ee:e j=decide (ks[j]=ks'[j]):=by simp only[e,W7 l1,W7 l2]
     rw[ee];exact ih j ks[j] ae[j] (W7 l1) (by simp[j1]) (k3 j ks'[j] its'[j] (W7 l2) (by simp[j2])) (show A.units + 1 + n < WI by omega)
    rw[z1,z2,NF λj x y e1 e2=>by simp only[e,e1,e2]] at q;exact q
end
theorem NH{h h':Heap}{d:Addr}{o:Obj}{es ep}(ho:h.get? d=some o)(hd:o.data = .dict es ep)(hs:Q6 d h h'):∀ b ae,h.IsTuple b ae->h'.IsTuple b ae:=λb ae ⟨o',e,c,n,q⟩=>by
 have cX:b≠d:=by
  rintro rfl;rw[e] at ho; cases ho
  rw[hd] at q; exact nomatch q
 exact⟨o',(hs.2 b cX).trans e,c,n,q⟩
noncomputable def nkKind (prog:Wj) (w:Wm):HeapKind prog w NK where
 is:=λh k a=>cK h 6 k (.ref a)
 hash:=eS w
 draws:=gZ
 room:=λA=>A.units + 6 < WI
 inj:=λhx hy=>hx.inj hy
 keeps:=λx ho hd hs=>x.kept (NH ho hd hs)
 pyHash:=λhu hk h=>hk.pyHash rfl hu h
 eqBool:=λhu hx hy h=>hx.NG hy hu _ _ _ _ h
 quiet:=λhk h=>hk.quiet (by omega) h
def kN:Key->NK
 | .inl z=>.i z
 | .inr x=>.s x
theorem NI{p q:Key}(h:kN p=kN q):p=q:=by
 cases p <;> cases q <;> first | (cases h; rfl) | cases h
def jw(h:Heap)(m:Bool)(k:NK)(u:Value):Prop:=match m with
 | true=>∃ a,u = .ref a/\cK h 6 k u
 | false=>∃ q:Key,gv q u=true/\k=kN q
theorem NJ{p q:Key}{u:Value}(h1:gv p u=true)(h2:gv q u=true):p=q:=by
 rcases g9 h1 with ⟨i,t,rfl,rfl⟩ | ⟨x,t,rfl,rfl⟩ <;> rcases g9 h2 with ⟨j,t',rfl,e⟩ | ⟨y,t',rfl,e⟩ <;> cases e <;> rfl
def ent(w:Wm)(x:NK×Value×Value):DictEntry:=⟨eS w x.1,x.2.1,x.2.2⟩
section
variable {prog:Wj} {w:Wm} {A:Wn} {E:Value->W1->Prop} {s:W1}
theorem CS{m:Bool}{k:NK}{u:Value}{Q:Int->W1->Prop}(hu:A.units + 6 < WI)(hk:jw s.heap m k u)(h:Q (eS w k) { s with toks:=s.toks + gZ k }):W6 (model prog w) A (PySem.pyHash u) Q E s:=by
 cases m with
 | true=>obtain⟨a,rfl,r⟩:=hk; exact r.pyHash rfl hu h
 | false =>
  obtain⟨q,h1,rfl⟩:=hk;refine(cM prog w).pyHash (k:=q) h1 ?_
  cases q <;> exact h
theorem CT{h:Heap}:∀ {xs:List (NK×Value×Value)},(∀ x ∈ xs,jw h true x.1 x.2.1)->∃ ys:List (NK×Addr×Value),xs=ys.map λy=>(y.1,Value.ref y.2.1,y.2.2)
 | [],_=>⟨[],rfl⟩
 | x :: xs,q=>by
  obtain⟨ys,e⟩:=CT (xs:=xs) λy hy=>q y (Wg _ hy)
  obtain⟨a,e1,_⟩:=q x Wi;exact⟨(x.1,a,x.2.2) :: ys,by rw[Wc,<- e]; simp only[<- e1]⟩
theorem CU{m:Bool}{k:NK}{u:Value}{d:Addr}{o:Obj}{es ep}{xs:List (NK×Value×Value)}{Q:Option Nat->W1->Prop}(hu:A.units + 6 < WI)(hk:jw s.heap m k u)
  (ho:s.heap.get? d=some o) (hd:o.data = .dict es ep) (he:es.toList=xs.map (ent w)) (hx:∀ x ∈ xs,jw s.heap m x.1 x.2.1) (hn:(xs.map (·.1)).Nodup)
  (CV:(∀ (j:Nat) p,xs[j]?≠some (k,p))->Q none s) (CW:∀ (j:Nat) p,xs[j]? = some (k,p)->Q (some j) s):W6 (model prog w) A (dictFind d u (eS w k)) Q E s:=by
 cases m with
 | true =>
  obtain⟨a,rfl,r⟩:=hk;obtain⟨ys,rfl⟩:=CT hx;refine wpAny_dictFind_heap (knd:=nkKind prog w) (xs:=ys) hu r ho hd (by rw[he,Wv]; rfl) (λy hy=>?_) (by rw[Wv] at hn; exact hn) (λcT=>CV λj p e=>?_) λj p e=>?_
  ·obtain⟨b,e1,e2⟩:=hx _ (WU hy)
   cases e1;exact e2
  ·rw[Wy] at e
   cases q:ys[j]? with
   | none=>rw[q] at e; cases e
   | some y =>
    rw[q] at e;simp only[Wz,Wa] at e;exact cT j y.2 (by rw[q,<- show y.1=k from congrArg Prod.fst e])
  ·exact CW j (.ref p.1,p.2) (by rw[Wy,e]; rfl)
 | false =>
  obtain⟨q,h1,rfl⟩:=hk;have nt:∀ (j:Nat) e,es[j]? = some e->∃ x,xs[j]? = some x/\e=ent w x:=λj e z=>by
   rw[<- Qr,he,Wy] at z
   cases y:xs[j]? with
   | none=>rw[y] at z; cases z
   | some x=>rw[y] at z; simp only[Wz,Wa] at z; exact⟨x,rfl,z.symm⟩
  have ks:KeysOf (cM prog w) es:=λe fO=>by
   obtain⟨j,hj⟩:=List.mem_iff_getElem?.mp (Array.mem_toList_iff.mpr fO);obtain⟨x,e1,rfl⟩:=nt j e (by rw[<- Qr]; exact hj);obtain⟨q',e2,e3⟩:=hx x (WB e1);refine⟨q',e2,?_⟩;show eS w x.1=_;rw[e3]
   cases q' <;> rfl
  have hh:eS w (kN q)=(cM prog w).hash q:=by cases q <;> rfl
  rw[hh];refine wpAny_dictFind_of (knd:=cM prog w) (k:=q) h1 ho hd ks ?_
  cases hf:es.findIdx? λe=>(cM prog w).is q e.key with
  | none =>
   refine CV λj p e=>?_
   have hj:j < xs.length:=(W5.mp e).1;have hz:es.size=xs.length:=by rw[<- WT,he,Wq]
   obtain⟨x,e1,e2⟩:=nt j es[j] (by simp[hz,hj]);rw[e] at e1; cases e1
   have:=Array.findIdx?_eq_none_iff.mp hf es[j] (Array.getElem_mem _);obtain⟨q',e3,e4⟩:=hx _ (WB e);rw[NI e4] at this;rw[e2] at this;have z:gv q' p.1=false:=this;rw[show gv q' p.1=true from e3] at z
   cases z
  | some j =>
   obtain⟨aQ,hp,_⟩:=Array.findIdx?_eq_some_iff_getElem.mp hf;obtain⟨x,e1,e2⟩:=nt j es[j] (by simp[aQ]);obtain⟨q',e3,e4⟩:=hx x (WB e1);rw[e2] at hp;have:q=q':=NJ (show gv q x.2.1=true from hp) e3;subst this;exact CW j x.2 (by rw[e1,<- e4])
noncomputable def atN (xs:List (NK×Value×Value)) (k:NK):Option (Value×Value):=(xs.find? λx=>decide (x.1=k)).map (·.2)
noncomputable def stN (xs:List (NK×Value×Value)) (k:NK) (u v:Value):List (NK×Value×Value):=if (xs.any λx=>decide (x.1=k))=true then xs.map λx=>if x.1=k then(x.1,x.2.1,v) else x else xs ++ [(k,u,v)]
theorem CY{xs:List (NK×Value×Value)}{k:NK}(h:∀ (j:Nat) p,xs[j]?≠some (k,p)):atN xs k=none/\(xs.any λx=>decide (x.1=k))=false:=by
 have z:∀ x ∈ xs,decide (x.1=k)=false:=λx hx=>by
  obtain⟨j,hj⟩:=List.mem_iff_getElem?.mp hx;exact decide_eq_false λe=>h j x.2 (by rw[hj,<- e])
 refine⟨?_,by rw[JU]; exactλx hx=>by rw[z x hx]; simp⟩;unfold atN;rw[List.find?_eq_none.mpr λx hx=>by rw[z x hx]; simp];rfl
theorem wK:∀ {xs:List (NK×Value×Value)} {k:NK} {j:Nat} {p:Value×Value},(xs.map (·.1)).Nodup->xs[j]? = some (k,p)->atN xs k=some p/\(xs.any λx=>decide (x.1=k))=true
 | [],k,j,p,_,e=>by simp at e
 | x :: xs,k,j,p,hn,e=>by
  rw[Wc,Q2] at hn
  cases j with
  | zero=>simp at e; subst e; simp[atN]
  | succ j =>
   have e':xs[j]? = some (k,p):=by simpa using e
   have cX:¬ x.1=k:=λz=>hn.1 (by rw[z]; exact WG.mpr ⟨_,WB e',rfl⟩)
   obtain⟨h1,h2⟩:=wK hn.2 e';refine⟨?_,by rw[WZ,h2]; simp⟩;unfold atN at h1 ⊢;rw[WH,decide_eq_false cX];exact h1
theorem NL{m:Bool}{k:NK}{u:Value}{d:Addr}{o:Obj}{es ep}{xs:List (NK×Value×Value)}{Q:Option Value->W1->Prop}(hu:A.units + 6 < WI)(hk:jw s.heap m k u)
  (ho:s.heap.get? d=some o) (hd:o.data = .dict es ep) (he:es.toList=xs.map (ent w)) (hx:∀ x ∈ xs,jw s.heap m x.1 x.2.1) (hn:(xs.map (·.1)).Nodup)
  (h:Q ((atN xs k).map (·.2)) { s with toks:=s.toks + gZ k }):W6 (model prog w) A (dictGet d u) Q E s:=by
 unfold dictGet;try with_reducible refine WK ?_
 refine W0 (CS hu hk (W0 (CU (s:={ s with toks:=s.toks + gZ k }) hu hk ho hd he hx hn ?_ ?_)))
 ·intro cT;rw[(CY cT).1] at h;exact W3 h
 ·intro j p hj;rw[(wK hn hj).1] at h;refine W0 (JZ (s:={ s with toks:=s.toks + gZ k }) ho hd ?_);rw[<- Qr,he,Wy,hj];exact W3 h
theorem NM{xs:List (NK×Value×Value)}{k:NK}{u v:Value}(hn:(xs.map (·.1)).Nodup):((stN xs k u v).map (·.1)).Nodup:=by
 unfold stN;split
 ·rw[Wv];rw[show((λx:NK×Value×Value=>x.1) ∘ λx=>if x.1=k then(x.1,x.2.1,v) else x)=(·.1) from funext λx=>by simp only[Function.comp]; split <;> rfl];exact hn
 ·rename_i hh;rw[WV,List.nodup_append];refine⟨hn,by simp,λx hx y hy e=>?_⟩;simp only[Wc,U6,List.mem_singleton] at hy;subst hy e;obtain⟨z,hz,e⟩:=WG.mp hx;exact hh (List.any_eq_true.mpr ⟨z,hz,decide_eq_true e⟩)
theorem CZ{k:NK}{v:Value}:∀ {xs:List (NK×Value×Value)} {j:Nat} {p:Value×Value},(xs.map (·.1)).Nodup->xs[j]? = some (k,p) ->
  (xs.map (ent w)).modify j (λe=>{ e with val:=v })=(xs.map λx=>if x.1=k then(x.1,x.2.1,v) else x).map (ent w)
 | [],j,p,_,e=>by simp at e
 | x :: xs,j,p,hn,e=>by
  rw[Wc,Q2] at hn
  cases j with
  | zero =>
   simp at e;subst e;have z:(xs.map λx=>if x.1=k then(x.1,x.2.1,v) else x)=xs:=by
    conv=>rhs; rw[<- List.map_id xs]
    refine Je λy hy=>?_
    rw[if_neg λq=>hn.1 (WG.mpr ⟨y,hy,q⟩)];rfl
   rw[Wc,Wc,Wc,z,if_pos rfl];rfl
  | succ j =>
   have e':xs[j]? = some (k,p):=by simpa using e
   have cX:¬ x.1=k:=λz=>hn.1 (by rw[z]; exact WG.mpr ⟨_,WB e',rfl⟩)
   rw[Wc,Wc,Wc,if_neg cX];show ent w x :: (xs.map (ent w)).modify j _=_;rw[CZ hn.2 e']
theorem NN{m:Bool}{k:NK}{u v:Value}{d:Addr}{o:Obj}{es ep}{xs:List (NK×Value×Value)}{Q:Unit->W1->Prop}(hu:A.units + 6 < WI)(hk:jw s.heap m k u)
  (ho:s.heap.get? d=some o) (hc:o.ExactDict) (hd:o.data = .dict es ep) (he:es.toList=xs.map (ent w)) (hx:∀ x ∈ xs,jw s.heap m x.1 x.2.1) (hn:(xs.map (·.1)).Nodup) (hz:xs.length<=W8)
  (hQ:∀ h' o' fT i_,h'.get? d=some o'->o'.ExactDict->o'.data = .dict fT i_->fT.toList=(stN xs k u v).map (ent w)->Q6 d s.heap h'->Q () { s with heap:=h',toks:=s.toks + gZ k }) :
  W6 (model prog w) A (dictSet d u v) Q E s:=by
 have hsz:es.size=xs.length:=by rw[<- WT,he,Wq]
 unfold dictSet;try with_reducible refine WK ?_
 refine W0 (CS hu hk ?_);unfold dictSetHashed;try with_reducible refine WK ?_
 refine W0 (CU (s:={ s with toks:=s.toks + gZ k }) hu hk ho hd he hx hn ?_ ?_)
 ·intro cT;refine W0 (Qz (wpAny_updateDictKeys (hz:=by omega) (s:={ s with toks:=s.toks + gZ k }) ho hd
   (hQ _ _ _ (ep + 1) (WC _ ho (Obj.isFreed_of_dict (Obj.data_mapDictKeys hd _))) (hc.mapDictKeys _) (Obj.data_mapDictKeys hd _) ?_ (Qa ..))))
  unfold stN;rw[if_neg (by rw[(CY cT).2]; simp)];simp[he,ent]
 ·intro j p hj;refine W0 (Qz (W0 (wpAny_updateDict (s:={ s with toks:=s.toks + gZ k }) ho hd
   (wpAny_point (hQ _ _ _ ep (WC _ ho (Obj.isFreed_of_dict (Obj.data_mapDict hd _))) (hc.mapDict _) (Obj.data_mapDict hd _) ?_ (Qa ..))))))
  unfold stN;rw[if_pos (wK hn hj).2,<- CZ hn hj,<- he];obtain⟨l⟩:=es;simp
end
inductive j6 (H:Hp):Nat->NK->V->Prop
 | int {n:Nat} (z:Int):j6 H n (.i z) (.int z)
 | bl {n:Nat} (b:Bool):j6 H n (.i (if b then 1 else 0)) (.bl b)
 | str {n:Nat} (x:Str):j6 H n (.s x) (.str x)
 | tup {n:Nat} {a:Addr} {vs:List V} {ks:List NK}:H a=some (.tup vs)->ks.length=vs.length->(∀ (i:Nat) k v,ks[i]? = some k->vs[i]? = some v->j6 H n k v)->j6 H (n + 1) (.t ks) (.ref a)
def j7(H:Hp)(m:Bool)(k:NK)(v:V):Prop:=match m with
 | true=>(∃ a,v = .ref a)/\j6 H 6 k v
 | false=>∃ q:Key,k=kN q/\v=kV q
theorem Vals.NO{xs:List V}{us:List Value}(r:Vals xs us){i:Nat}{u:Value}(e:us[i]? = some u):∃ x,xs[i]? = some x/\RelV x u:=by
 have h1:=r.length;have h2:i < xs.length:=by have:=(W5.mp e).1; omega
 obtain⟨u',e',rr⟩:=r.get (W7 h2);rw[e] at e'; cases e'
 exact⟨_,W7 h2,rr⟩
theorem j6.nk{P:Wj}{w:Wm}{H:Hp}{h:Heap}{n:Nat}{k:NK}{v:V}(ok:bK P w H h)(r:j6 H n k v):∀ {u:Value},RelV v u->cK h n k u:=by
 induction r with
 | int z=>intro u q; obtain⟨t,rfl⟩:=q; exact .int z t
 | bl b=>intro u q; cases q; exact .bl b
 | str x=>intro u q; obtain⟨t,rfl⟩:=q; exact .str x t
 | @tup n a vs ks h1 h2 h3 ih =>
  intro u q
  cases q;obtain⟨_,ae,r,p⟩:=(show bw P w H h a (.tup vs) from ok a _ h1)
  have ht:h.IsTuple a ae.toArray:=p.tup;refine .tup ht (by rw[h2]; simpa using r.length) λi k u e1 e2=>?_
  obtain⟨x,e3,rx⟩:=r.NO (u:=u) (i:=i) (by simpa using e2);exact ih i k x e1 e3 rx
theorem j7.key{P:Wj}{w:Wm}{H:Hp}{h:Heap}{m:Bool}{k:NK}{v:V}{u:Value}(ok:bK P w H h)(r:j7 H m k v)(q:RelV v u):jw h m k u:=by
 cases m with
 | true=>obtain⟨⟨a,rfl⟩,r⟩:=r; cases q; exact⟨a,rfl,r.nk ok rfl⟩
 | false=>obtain⟨q',rfl,rfl⟩:=r; exact⟨q',by rw[<- yE P w]; exact jc q,rfl⟩
abbrev NE:=NK×V×V
def cL:List NE->List (NK×Value×Value)->Prop:=Paired λ(p:NE) (x:NK×Value×Value)=>p.1=x.1/\RelV p.2.1 x.2.1/\RelV p.2.2 x.2.2
theorem C0{w:Wm}:∀ {kvs:List NE} {es:List DictEntry},Paired (λ(p:NE) (e:DictEntry)=>e.hash=eS w p.1/\RelV p.2.1 e.key/\RelV p.2.2 e.val) kvs es->∃ xs,cL kvs xs/\es=xs.map (ent w)
 | _,_,.nil=>⟨[],.nil,rfl⟩
 | p :: _,e :: _,.cons r t=>by
  obtain⟨xs,h1,h2⟩:=C0 t;refine⟨(p.1,e.key,e.val) :: xs,.cons ⟨rfl,r.2.1,r.2.2⟩ h1,?_⟩;rw[Wc,<- h2];unfold ent;rw[<- r.1]
theorem C1{w:Wm}:∀ {kvs:List NE} {xs:List (NK×Value×Value)},cL kvs xs->Paired (λ(p:NE) (e:DictEntry)=>e.hash=eS w p.1/\RelV p.2.1 e.key/\RelV p.2.2 e.val) kvs (xs.map (ent w))
 | _,_,.nil=>.nil
 | p :: _,x :: _,.cons r t=>.cons ⟨by show eS w x.1=_; rw[r.1],r.2.1,r.2.2⟩ (C1 t)
theorem cL.keys:∀ {kvs:List NE} {xs:List (NK×Value×Value)},cL kvs xs->kvs.map (·.1)=xs.map (·.1)
 | _,_,.nil=>rfl
 | p :: _,x :: _,.cons r t=>by rw[Wc,Wc,r.1,cL.keys t]
noncomputable def valN (kvs:List NE) (k:NK):Option V:=(kvs.find? λp=>decide (p.1=k)).map (·.2.2)
noncomputable def putN (kvs:List NE) (k:NK) (y v:V):List NE:=if (kvs.any λp=>decide (p.1=k))=true then kvs.map λp=>if p.1=k then(p.1,p.2.1,v) else p else kvs ++ [(k,y,v)]
theorem cL.val(k:NK):∀ {kvs:List NE} {xs:List (NK×Value×Value)},cL kvs xs->cY (valN kvs k) ((atN xs k).map (·.2))/\(kvs.any λp=>decide (p.1=k))=xs.any λx=>decide (x.1=k)
 | _,_,.nil=>⟨trivial,rfl⟩
 | p :: kvs,x :: xs,.cons r t=>by
  obtain⟨i1,i2⟩:=cL.val k t;rw[WZ,WZ,i2,r.1];refine⟨?_,rfl⟩;unfold valN atN at i1 ⊢;rw[WH,WH,r.1];by_cases e:x.1=k
  ·rw[decide_eq_true e]; exact r.2.2
  ·rw[decide_eq_false e]; exact i1
theorem cL.st{k:NK}{v:V}{r:Value}(rv:RelV v r):∀ {kvs:List NE} {xs:List (NK×Value×Value)},cL kvs xs->cL (kvs.map λp=>if p.1=k then(p.1,p.2.1,v) else p) (xs.map λx=>if x.1=k then(x.1,x.2.1,r) else x)
 | _,_,.nil=>.nil
 | p :: _,x :: _,.cons q t=>by
  rw[Wc,Wc];refine .cons ?_ (cL.st rv t);rw[q.1];by_cases e:x.1=k
  ·rw[if_pos e,if_pos e]; exact⟨rfl,q.2.1,rv⟩
  ·rw[if_neg e,if_neg e]; exact q
theorem cL.app{k:NK}{y v:V}{u r:Value}(ry:RelV y u)(rv:RelV v r):∀ {kvs:List NE} {xs:List (NK×Value×Value)},cL kvs xs->cL (kvs ++ [(k,y,v)]) (xs ++ [(k,u,r)])
 | _,_,.nil=>.cons ⟨rfl,ry,rv⟩ .nil
 | p :: _,x :: _,.cons q t=>.cons q (cL.app ry rv t)
theorem cL.put{k:NK}{y v:V}{u r:Value}(ry:RelV y u)(rv:RelV v r){kvs:List NE}{xs:List (NK×Value×Value)}(h:cL kvs xs):cL (putN kvs k y v) (stN xs k u r):=by
 unfold putN stN;rw[(cL.val k h).2];split
 ·exact h.st rv
 ·exact h.app ry rv
section
variable {P:Wj} {w:Wm} {H:Hp} {h:Heap} {a:Addr} {ep:Nat} {kvs:List NE}
structure mq(w:Wm)(h:Heap)(a:Addr)(ep:Nat)(xs:List (NK×Value×Value))(o:Obj)(es:Array DictEntry):Prop where
 get:h.get? a=some o
 ex:o.ExactDict
 data:o.data = .dict es ep
 ents:es.toList=xs.map (ent w)
 sG:(xs.map (·.1)).Nodup
theorem nK(ok:bK P w H h)(e:H a=some (.dN ep kvs)):kvs.length<=W8/\(a == Qj)=false/\∃ xs o es,cL kvs xs/\mq w h a ep xs o es:=by
 obtain⟨z,hS,o,es,h1,h2,h3,h4,h5⟩:=(show bw P w H h a (.dN ep kvs) from ok a _ e)
 obtain⟨xs,q1,q2⟩:=C0 h4;exact⟨z,hS,xs,o,es,q1,h1,h2,h3,q2,by rw[<- q1.keys]; exact h5⟩
theorem NP{xs:List (NK×Value×Value)}{o:Obj}{es:Array DictEntry}(z:kvs.length<=W8)(hS:(a == Qj)=false)(r:cL kvs xs)(d:mq w h a ep xs o es):bw P w H h a (.dN ep kvs) :=
 ⟨z,hS,o,es,d.get,d.ex,d.data,by rw[d.ents]; exact C1 r,by rw[r.keys]; exact d.sG⟩
theorem mq.typeIs {s:W1} {xs:List (NK×Value×Value)} {o:Obj} {es:Array DictEntry} (d:mq w s.heap a ep xs o es):s.TypeIs (.ref a) "dict":=⟨o,d.get,d.ex.1⟩
theorem mq.noDict{xs:List (NK×Value×Value)}{o:Obj}{es:Array DictEntry}(d:mq w h a ep xs o es):∀ b,Value.ref a = .ref b->∃ ob,h.get? b=some ob/\ob.dict=none:=λb e=>by cases e; exact⟨o,d.get,d.ex.2.1⟩
theorem C2{xs:List (NK×Value×Value)}{m:Bool}(ok:bK P w H h)(r:cL kvs xs)(hk:∀ p ∈ kvs,j7 H m p.1 p.2.1):∀ x ∈ xs,jw h m x.1 x.2.1:=by
 induction r with
 | nil=>intro x hx; simp at hx
 | cons q t ih =>
  intro x hx;rcases Wl.mp hx with rfl | hx
  ·rw[<- q.1]; exact(hk _ Wi).key ok q.2.1
  ·exact ih (λp hp=>hk p (Wg _ hp)) x hx
end
def k8(H:Hp)(a:Addr)(y:V)(r:Option V):Prop:=∃ m ep kvs k,H a=some (.dN ep kvs)/\(∀ p ∈ kvs,j7 H m p.1 p.2.1)/\j7 H m k y/\r=valN kvs k
section
variable {X:Cx} {pins:List (Addr×Obj)} {σ:St} {H:Hp} {s:W1} {a:Addr} {y v:V} {u r:Value} {o:Option V} {A:Wn} {E:Value->W1->Prop}
theorem C3{Q:Option Value->W1->Prop}(hu:A.units + 6 < WI)(I:Inv X pins σ H s)(g:k8 H a y o)(ry:RelV y u)(h:∀ w' s',Inv X pins σ H s'->cY o w'->Q w' s') :
  W6 (model X.prog X.w) A (dictGet a u) Q E s:=by
 obtain⟨m,ep,kvs,k,e,hk,ky,rfl⟩:=g;obtain⟨z,hS,xs,ob,es,rx,d⟩:=nK I.aj e;exact NL hu (ky.key I.aj ry) d.get d.data d.ents (C2 I.aj rx hk) d.sG (h _ _ (I.tok _) (rx.val k).1)
theorem wL (I:Inv X pins σ H s) (g:k8 H a y o):s.TypeIs (.ref a) "dict"/\(∀ b,Value.ref a = .ref b->∃ ob,s.heap.get? b=some ob/\ob.dict=none)/\(a == Qj)=false:=by
 obtain⟨m,ep,kvs,k,e,hk,ky,rfl⟩:=g;obtain⟨z,hS,xs,ob,es,rx,d⟩:=nK I.aj e;exact⟨d.typeIs,d.noDict,hS⟩
theorem NQ{Q:Value->W1->Prop}(hu:A.units + 8 < WI)(I:Inv X pins σ H s)(g:k8 H a y (some v))(ry:RelV y u)(h:∀ w' s',Inv X pins σ H s'->RelV v w'->Q w' s') :
  W6 (model X.prog X.w) A (JP (.ref a) u) Q E s:=by
 obtain⟨hT,_,_⟩:=wL I g;unfold JP;try with_reducible refine WK ?_
 refine W0 (JV hT (by decide) ?_);refine W0 (WJ (name:=Str.ofString "__getitem__") hT slot_dict_getitem (WF slot_dict_getitem hT entry_dict_getitem ?_ (args_dict_getitem _ _)));show W6 _ _ (dictGet a u >>= _) _ _ s;refine W0 (C3 (show A.units + 1 + 6 < WI by omega) I g ry λw' s' I' rr=>?_);obtain⟨w2,rfl,r2⟩:=cY.some_of rr;exact W3 ⟨w2,rfl,W3 (h w2 s' I' r2)⟩
theorem NR{Q:Bool->W1->Prop}(hu:A.units + 8 < WI)(I:Inv X pins σ H s)(g:k8 H a y o)(ry:RelV y u)(h:∀ s',Inv X pins σ H s'->Q o.isSome s') :
  W6 (model X.prog X.w) A (contains (.ref a) u) Q E s:=by
 obtain⟨hT,_,hS⟩:=wL I g;unfold contains;try with_reducible refine WK ?_
 refine W0 (wpAny_specialOf hT slot_dict_contains.lookup ?_);show W6 _ _ (if (some (Value.builtin "dict.__contains__") == some Value.none)=true then _ else _) _ E s;rw[if_neg (by rw[beq_builtin_none]; exact WM)];refine W0 (wpAny_callSpecialUnlessNone?_slot (name:=Str.ofString "__contains__") hT slot_dict_contains (WF slot_dict_contains hT entry_dict_contains ?_ (args_dict_contains _ _)));show W6 _ _ (dictGet a u >>= _) _ _ s;refine W0 (C3 (show A.units + 1 + 6 < WI by omega) I g ry λw' s' I' rr=>?_)
 cases o with
 | some x =>
  obtain⟨w2,rfl,r2⟩:=cY.some_of rr;show W6 _ _ (ret (.bool true)) _ _ _;exact W3 ⟨_,rfl,QK (h s' I')⟩
 | none =>
  obtain rfl:=cY.none_of rr;show W6 _ _ (Builtin.Dict.pendingKey? a u >>= _) _ _ _;exact W0 (wpAny_pendingKey_other hS (W3 ⟨_,rfl,QK (h s' I')⟩))
theorem NT{Q:Value->W1->Prop}(hu:A.units + 8 < WI)(I:Inv X pins σ H s)(g:k8 H a y o)(ry:RelV y u)(h:∀ s',Inv X pins σ H s'->Q (.bool o.isSome) s') :
  W6 (model X.prog X.w) A (WE .In u (.ref a)) Q E s:=by
 show W6 _ _ (do return .bool (<- contains (.ref a) u)) Q E s;exact W0 (NR hu I g ry λs' I'=>W3 (h s' I'))
def wM(H:Hp)(a:Addr)(y v:V)(R:Hp->Prop):Prop:=∃ m ep kvs k,H a=some (.dN ep kvs)/\(∀ p ∈ kvs,j7 H m p.1 p.2.1)/\j7 H m k y/\kvs.length < W8/\∀ i_,R (upd H a (.dN i_ (putN kvs k y v)))
theorem NU(kvs:List NE)(k:NK)(y v:V):(putN kvs k y v).length<=kvs.length + 1:=by
 unfold putN;split
 ·simp
 ·simp
theorem NV{R:Hp->Prop}{Q:Unit->W1->Prop}(hu:A.units + 6 < WI)(I:Inv X pins σ H s)(g:wM H a y v R)(ry:RelV y u)(rv:RelV v r)(h:∀ H' s',Inv X pins σ H' s'->R H'->Q () s') :
  W6 (model X.prog X.w) A (dictSet a u r) Q E s:=by
 obtain⟨m,ep,kvs,k,e,hk,ky,hz,hR⟩:=g;obtain⟨z,hS,xs,ob,es,rx,d⟩:=nK I.aj e;have hl:xs.length<=W8:=by rw[<- Paired.length rx]; exact z
 refine NN hu (ky.key I.aj ry) d.get d.ex d.data d.ents (C2 I.aj rx hk) d.sG hl λh' o' fT i_ q1 q2 q3 q4 hs=>h _ _ ?_ (hR i_)
 have fG:(putN kvs k y v).length<=W8:=by have:=NU kvs k y v; omega
 exact mQ I (by rw[e]; exact True.intro) hs ⟨o',q1⟩ (NP fG hS (rx.put ry rv) ⟨q1,q2,q3,q4,NM d.sG⟩)
theorem NW{R:Hp->Prop}{Q:Unit->W1->Prop}(hu:A.units + 8 < WI)(I:Inv X pins σ H s)(g:wM H a y v R)(ry:RelV y u)(rv:RelV v r)(h:∀ H' s',Inv X pins σ H' s'->R H'->Q () s') :
  W6 (model X.prog X.w) A (setItem (.ref a) u r) Q E s:=by
 have hT:s.TypeIs (.ref a) "dict":=by
  obtain⟨m,ep,kvs,k,e,_⟩:=g;obtain⟨z,hS,xs,ob,es,rx,d⟩:=nK I.aj e;exact d.typeIs
 unfold setItem;try with_reducible refine WK ?_
 refine W0 (JV hT (by decide) ?_);refine W0 (WJ (name:=Str.ofString "__setitem__") hT slot_dict_setitem (WF slot_dict_setitem hT entry_dict_setitem ?_ (args_dict_setitem _ _ _)));show W6 _ _ (Builtin.Dict.notOrdered "__setitem__" ⟨[.ref a,u,r],[]⟩ >>= _) _ _ s;refine W0 (wpAny_notOrdered_dict hT ?_);show W6 _ _ (dictSet a u r >>= _) _ _ s;exact W0 (NV (show A.units + 1 + 6 < WI by omega) I g ry rv λH' s' I' hR=>W3 ⟨.none,rfl,W3 (h H' s' I' hR)⟩)
end
end L2
namespace DV
open PySem PySem.Spec PyProof.Rows L2
theorem zev(n:Nat)(i:Int):b_ n (.int i)=some (.i i):=by cases n <;> rfl
theorem NX(n:Nat)(b:Bool):b_ n (.bl b)=some (.i (if b then 1 else 0)):=by cases n <;> rfl
theorem NY(n:Nat)(x:Tx):b_ n (.str x)=some (.s (toS x)):=by cases n <;> rfl
theorem NZ(n:Nat)(xs:List D):b_ (n + 1) (.tup xs)=(gG n xs).map .t:=rfl
theorem sH{n:Nat}{d:D}{x:NK}(h:b_ n d=some x):(∃ i,d = .int i/\x = .i i)\/(∃ b,d = .bl b/\x = .i (if b then 1 else 0))\/(∃ s,d = .str s/\x = .s (toS s))\/∃ m xs ks,n=m + 1/\d = .tup xs/\gG m xs=some ks/\x = .t ks:=by
 cases d with
 | int i=>rw[zev] at h; exact .inl ⟨i,rfl,(Wx h).symm⟩
 | bl b=>rw[NX] at h; exact .inr (.inl ⟨b,rfl,(Wx h).symm⟩)
 | str s=>rw[NY] at h; exact .inr (.inr (.inl ⟨s,rfl,(Wx h).symm⟩))
 | tup xs =>
  cases n with
  | zero=>cases h
  | succ m =>
   rw[NZ,Q9] at h;obtain⟨ks,hk,e⟩:=h;exact .inr (.inr (.inr ⟨m,xs,ks,rfl,rfl,hk,e.symm⟩))
 | _=>cases n <;> cases h
theorem C4{n:Nat}(ih:∀ (d e:D) (x y:NK),b_ n d=some x->b_ n e=some y->ak d e=decide (x=y)):∀ (xs ys:List D) (ks ls:List NK),gG n xs=some ks->gG n ys=some ls->c7 xs ys=decide (ks=ls)
 | [],[],ks,ls,h1,h2=>by
  simp[gG] at h1 h2;subst h1; subst h2
  simp[c7]
 | [],y :: ys,ks,ls,h1,h2=>by
  simp only[gG,Wa,Jh,Q9] at h1 h2;subst h1;obtain⟨k,_,l,_,rfl⟩:=h2;simp[c7]
 | x :: xs,[],ks,ls,h1,h2=>by
  simp only[gG,Wa,Jh,Q9] at h1 h2;subst h2;obtain⟨k,_,l,_,rfl⟩:=h1;simp[c7]
 | x :: xs,y :: ys,ks,ls,h1,h2=>by
  simp only[gG,Jh,Q9] at h1 h2;obtain⟨k,hk,k',lJ,rfl⟩:=h1;obtain⟨l,hl,l',fG,rfl⟩:=h2;simp only[c7];rw[ih x y k l hk hl,C4 ih xs ys k' l' lJ fG];by_cases e1:k=l
  ·by_cases e2:k'=l'
   ·rw[decide_eq_true e1,decide_eq_true e2,decide_eq_true (by rw[e1,e2])]; rfl
   ·rw[decide_eq_true e1,decide_eq_false e2,decide_eq_false λq=>e2 (List.cons.inj q).2]; rfl
  ·rw[decide_eq_false e1,decide_eq_false λq=>e1 (List.cons.inj q).1]; rfl
theorem C5:∀ (n:Nat) (d e:D) (x y:NK),b_ n d=some x->b_ n e=some y->ak d e=decide (x=y):=by
 intro n;induction n with
 | zero =>
  intro d e x y h1 h2;rcases sH h1 with ⟨i,rfl,rfl⟩ | ⟨b,rfl,rfl⟩ | ⟨s,rfl,rfl⟩ | ⟨m,xs,ks,e,_⟩ <;> rcases sH h2 with ⟨i,rfl,rfl⟩ | ⟨b,rfl,rfl⟩ | ⟨s,rfl,rfl⟩ | ⟨m,xs,ks,e,_⟩ <;>
   first | (cases e; done) | (simp only[ak]; first | (rw[decide_eq_false (λq=>nomatch q)]; done) | (rw[k7,<- wJ]; done) | (rw[k7]; done) | (rw[wI,oS]; done))
 | succ n ih =>
  intro d e x y h1 h2;rcases sH h1 with ⟨i,rfl,rfl⟩ | ⟨b,rfl,rfl⟩ | ⟨s,rfl,rfl⟩ | ⟨m,xs,ks,e1,rfl,hk,rfl⟩ <;> rcases sH h2 with ⟨i,rfl,rfl⟩ | ⟨b,rfl,rfl⟩ | ⟨s,rfl,rfl⟩ | ⟨m,ys,ls,e2,rfl,hl,rfl⟩ <;>
   first | (simp only[ak]; first | (rw[decide_eq_false (λq=>nomatch q)]; done) | (rw[k7,<- wJ]; done) | (rw[k7]; done) | (rw[wI,oS]; done)) | skip
  cases e1
  cases e2;simp only[ak];rw[C4 ih xs ys ks ls hk hl];by_cases e:ks=ls
  ·rw[decide_eq_true e,decide_eq_true (congrArg NK.t e)]
  ·rw[decide_eq_false e,decide_eq_false λq=>e (NK.t.inj q)]
theorem C6{n:Nat}:∀ {xs:List D} {ks:List NK},gG n xs=some ks->ks.length=xs.length/\∀ (i:Nat) d k,xs[i]? = some d->ks[i]? = some k->b_ n d=some k
 | [],ks,h=>by simp[gG] at h; subst h; exact⟨rfl,λi d k e=>by simp at e⟩
 | x :: xs,ks,h=>by
  simp only[gG,Jh,Q9] at h;obtain⟨k,hk,k',lJ,rfl⟩:=h;obtain⟨h1,h2⟩:=C6 lJ;refine⟨by simp[h1],λi d kk e1 e2=>?_⟩
  cases i with
  | zero=>simp at e1 e2; subst e1; subst e2; exact hk
  | succ i=>exact h2 i d kk (by simpa using e1) (by simpa using e2)
theorem N0{H:Hp}{O:Addr->Prop}{v:V}{d:D}(r:Rep H O v d):∀ {n:Nat} {k:NK},b_ n d=some k->j6 H n k v:=by
 induction r with
 | int i=>intro n k h; cases n <;> (simp[b_] at h; subst h; exact .int i)
 | bl b=>intro n k h; cases n <;> (simp only[b_,Wa] at h; subst h; exact .bl b)
 | str x=>intro n k h; cases n <;> (simp[b_] at h; subst h; exact .str _)
 | @tup a vs ds h1 h2 h3 h4 ih =>
  intro n k h
  cases n with
  | zero=>simp[b_] at h
  | succ n =>
   simp only[b_,Q9] at h;obtain⟨ks,hk,rfl⟩:=h;obtain⟨l,g⟩:=C6 hk;refine .tup h2 (by omega) λi k v e1 e2=>?_
   have hi:i < ds.length:=by have:=(W5.mp e1).1; omega
   exact ih i v ds[i] e2 (W7 hi) (g i ds[i] k (W7 hi) e1)
 | _=>intro n k h; cases n <;> simp[b_] at h
def iB(m:Bool)(d:D):Bool:=match d with
 | .tup _=>m
 | .int _=>!m
 | .str _=>!m
 | _=>false
theorem wN{H:Hp}{O:Addr->Prop}{v:V}{d:D}{m:Bool}{k:NK}(hm:iB m d=true)(hk:b_ 6 d=some k)(r:Rep H O v d):j7 H m k v:=by
 cases m with
 | true =>
  have r':=N0 r hk
  cases r <;> simp[iB] at hm
  exact⟨⟨_,rfl⟩,r'⟩
 | false =>
  cases r <;> simp[iB] at hm
  ·simp[b_] at hk; subst hk; exact⟨.inl _,rfl,rfl⟩
  ·simp[b_] at hk; subst hk; exact⟨.inr _,rfl,rfl⟩
def k9(m:Bool)(ds:List (D×D))(k:D):Bool:=iB m k && (b_ 6 k).isSome && ds.all λq=>iB m q.1
def nL(k:D):Bool:=iB true k
def jx(ds:List (D×D))(k:D):Option D:=(ds.find? λq=>ak q.1 k).map (·.2)
def pR(ds:List (D×D))(k d:D):List (D×D):=if (ds.any λq=>ak q.1 k)=true then ds.map λq=>if ak q.1 k=true then(q.1,d) else q else ds ++ [(k,d)]
section
variable {H H':Hp} {O:Addr->Prop} {ws:List NE} {ds:List (D×D)} {p:NE} {q:D×D}
theorem DN.nil:DN H O [] []:=⟨rfl,λi p q e=>by simp at e,λi p q e=>by simp at e,λi p q e=>by simp at e⟩
theorem DN.cons(h1:Rep H O p.2.1 q.1)(h2:Rep H O p.2.2 q.2)(h3:b_ 6 q.1=some p.1)(r:DN H O ws ds):DN H O (p :: ws) (q :: ds):=by
 refine⟨by simp[r.len],λi a b e1 e2=>?_,λi a b e1 e2=>?_,λi a b e1 e2=>?_⟩ <;> cases i <;> simp at e1 e2
 ·subst e1; subst e2; exact h1
 ·exact r.key _ a b e1 e2
 ·subst e1; subst e2; exact h2
 ·exact r.val _ a b e1 e2
 ·subst e1; subst e2; exact h3
 ·exact r.lM _ a b e1 e2
theorem DN.un(r:DN H O (p :: ws) (q :: ds)):Rep H O p.2.1 q.1/\Rep H O p.2.2 q.2/\b_ 6 q.1=some p.1/\DN H O ws ds :=
 ⟨r.key 0 p q rfl rfl,r.val 0 p q rfl rfl,r.lM 0 p q rfl rfl,by simpa using r.len,λi a b e1 e2=>r.key (i + 1) a b (by simpa using e1) (by simpa using e2),λi a b e1 e2=>r.val (i + 1) a b (by simpa using e1) (by simpa using e2),λi a b e1 e2=>r.lM (i + 1) a b (by simpa using e1) (by simpa using e2)⟩
theorem DN.get{k:D}{kk:NK}(hk:b_ 6 k=some kk):∀ {ws:List NE} {ds:List (D×D)},DN H O ws ds->((jx ds k=none/\valN ws kk=none)\/∃ v d,jx ds k=some d/\valN ws kk=some v/\Rep H O v d)/\(ds.any λq=>ak q.1 k)=ws.any λp=>decide (p.1=kk)
 | [],[],_=>⟨.inl ⟨rfl,rfl⟩,rfl⟩
 | [],_ :: _,r=>by have:=r.len; simp at this
 | _ :: _,[],r=>by have:=r.len; simp at this
 | p :: ws,q :: ds,r=>by
  obtain⟨r1,r2,r3,r4⟩:=r.un;obtain⟨i1,i2⟩:=DN.get hk r4;have e:=C5 6 q.1 k p.1 kk r3 hk;refine⟨?_,by rw[WZ,WZ,i2,e]⟩;unfold jx valN at i1 ⊢;rw[WH,WH,e];by_cases z:p.1=kk
  ·rw[decide_eq_true z]; exact .inr ⟨_,_,rfl,rfl,r2⟩
  ·rw[decide_eq_false z]; exact i1
theorem DN.app{k d:D}{kk:NK}{y v:V}(hk:b_ 6 k=some kk)(ry:Rep H O y k)(rv:Rep H O v d):∀ {ws:List NE} {ds:List (D×D)},DN H O ws ds->DN H O (ws ++ [(kk,y,v)]) (ds ++ [(k,d)])
 | [],[],_=>.cons ry rv hk .nil
 | [],_ :: _,r=>by have:=r.len; simp at this
 | _ :: _,[],r=>by have:=r.len; simp at this
 | p :: ws,q :: ds,r=>by
  obtain⟨r1,r2,r3,r4⟩:=r.un;exact .cons r1 r2 r3 (DN.app hk ry rv r4)
theorem DN.st{k d:D}{kk:NK}{v:V}(hk:b_ 6 k=some kk)(rv:Rep H O v d):∀ {ws:List NE} {ds:List (D×D)},DN H O ws ds->DN H O (ws.map λp=>if p.1=kk then(p.1,p.2.1,v) else p) (ds.map λq=>if ak q.1 k=true then(q.1,d) else q)
 | [],[],_=>.nil
 | [],_ :: _,r=>by have:=r.len; simp at this
 | _ :: _,[],r=>by have:=r.len; simp at this
 | p :: ws,q :: ds,r=>by
  obtain⟨r1,r2,r3,r4⟩:=r.un;have e:=C5 6 q.1 k p.1 kk r3 hk;rw[Wc,Wc,e];by_cases z:p.1=kk
  ·rw[decide_eq_true z,if_pos z,if_pos rfl]; exact .cons r1 rv r3 (DN.st hk rv r4)
  ·rw[decide_eq_false z,if_neg z,if_neg (by simp)]; exact .cons r1 r2 r3 (DN.st hk rv r4)
theorem DN.put{k d:D}{kk:NK}{y v:V}(hk:b_ 6 k=some kk)(ry:Rep H O y k)(rv:Rep H O v d)(r:DN H O ws ds):DN H O (putN ws kk y v) (pR ds k d):=by
 unfold putN pR;rw[(DN.get hk r).2];split
 ·exact r.st hk rv
 ·exact r.app hk ry rv
theorem DN.C7{m:Bool}(hm:(ds.all λq=>iB m q.1)=true)(r:DN H O ws ds):∀ p ∈ ws,j7 H m p.1 p.2.1:=λp hp=>by
 obtain⟨i,e⟩:=List.mem_iff_getElem?.mp hp;have hi:i < ds.length:=by have:=(W5.mp e).1; have:=r.len; omega
 exact wN (Q8.mp hm ds[i] (QR hi)) (r.lM i p ds[i] e (W7 hi)) (r.key i p ds[i] e (W7 hi))
end
theorem N1{c:Fc}{σ:St}{δ:Dl}{H:Hp}{v:V}{ds:List (D×D)}(r:cn c σ δ H v (.dic ds)):∃ a ep ws,v = .ref a/\H a=some (.dN ep ws)/\DN H (Av c σ δ) ws ds:=by
 rcases r with r | ⟨a,rfl,ep,ws,h1,h2⟩
 ·cases r with
  | dic h1 h2 h3 h4 h5 h6=>exact⟨_,_,_,rfl,h2,h3,h4,h5,h6⟩
 ·exact⟨a,ep,ws,rfl,h1,h2⟩
theorem N2{c:Fc}{σ:St}{δ:Dl}{H:Hp}{v:V}{d:D}{m:Bool}(h:iB m d=true)(r:cn c σ δ H v d):Rep H (Av c σ δ) v d:=by
 rcases r with r | ⟨a,rfl,r⟩
 ·exact r
 ·cases d <;> first | exact r.elim | simp[iB] at h
theorem C8{m:Bool}{ds:List (D×D)}{k:D}(h:k9 m ds k=true):iB m k=true/\(∃ kk,b_ 6 k=some kk)/\(ds.all λq=>iB m q.1)=true:=by
 unfold k9 at h;simp only[Ws] at h;exact⟨h.1.1,Option.isSome_iff_exists.mp h.1.2,h.2⟩
theorem N3{c:Fc}{σ:St}{δ:Dl}{H:Hp}{x y:V}{ds:List (D×D)}{k:D}{m:Bool}(rx:cn c σ δ H x (.dic ds))(ry:cn c σ δ H y k)(h:k9 m ds k=true) :
  ∃ a o,x = .ref a/\k8 H a y o/\((jx ds k=none/\o=none)\/∃ v d,jx ds k=some d/\o=some v/\Rep H (Av c σ δ) v d):=by
 obtain⟨a,ep,ws,e,ha,dn⟩:=N1 rx;obtain⟨h1,⟨kk,hk⟩,h2⟩:=C8 h;exact⟨a,valN ws kk,e,⟨m,ep,ws,kk,ha,dn.C7 h2,wN h1 hk (N2 h1 ry),rfl⟩,(dn.get hk).1⟩
def N4(neg:Bool):R2:=λx y H Q=>∃ a o,y = .ref a/\k8 H a x o/\Q (.bl (if neg then !o.isSome else o.isSome)) H
theorem S6{X:Cx}(hu:X.A.units + 64 < WI):bh X (WE .In) (N4 false):=by
 intro pins s σ H x y v u Q I rx ry h;obtain⟨a,o,rfl,g,q⟩:=h
 cases ry;exact NT (by omega) I g rx λs' I'=>⟨.bl _,H,I',rfl,q⟩
def S7(neg:Bool)(x y:D):Option S:=match y with
 | .dic ds=>if k9 (nL x) ds x then some (.pure (.bl (if neg then !(jx ds x).isSome else(jx ds x).isSome))) else none
 | _=>none
def C9:R2:=λx y H Q=>∃ a v,x = .ref a/\k8 H a y (some v)/\Q v H
def iC(x y:D):Option S:=match x with
 | .dic ds=>if k9 (nL y) ds y then(jx ds y).map .pure else none
 | _=>none
theorem C_{X:Cx}(hu:X.A.units + 64 < WI):fW X C9:=by
 intro value slice pins s σ H x y v u Q I rx ry h hs;obtain⟨a,w,rfl,g,q⟩:=h
 cases rx;exact tail_any (wL I g).1 F.slot_dict_getitem.lookup (NQ (v:=w) (by omega) I g ry λw' s' I' aC=>⟨w,H,I',aC,q⟩) hs
theorem Dc:cq C9 iC:=by
 intro c σ δ H x y d e s Q k rx ry hp q
 cases d <;> first | (simp[iC] at hp; done) | skip
 rename_i ds;simp only[iC] at hp;split at hp
 ·rename_i hg;obtain⟨a,o,ea,g,r⟩:=N3 rx ry hg;rcases r with ⟨r1,rfl⟩ | ⟨v,d,r1,rfl,r2⟩
  ·rw[r1] at hp; cases hp
  ·rw[r1] at hp; cases hp
   exact⟨a,v,ea,g,q v H (.refl k) r2⟩
 ·cases hp
section
variable {X:Cx} {c:Fc} {e:Expr} {fe:DE} {pos:Pos}
theorem Ok.N5{σ:St}{δ:Dl}{H:Hp}{i:Nat}{d0 d':D}{a:Addr}{o:HO}(k:Ok c σ δ H)(e:δ[i]? = some (some (.own d0)))(ea:σ[i]? = some (some (.ref a)))(r:dZ (upd H a o) (Av c σ δ) a d') :
  aG c σ δ H σ (δ.set i (some (.own d'))) (upd H a o):=by
 have hi:i < δ.length:=(W5.mp e).1;obtain⟨a',cF,oa,ia,nb⟩:=k.own i _ e;rw[ea] at cF; cases cF
 have kO:Own σ δ a:=⟨i,_,e,ea⟩
 have ph:Av c σ δ a:=.inr kO;have kP:∀ b,Own σ (δ.set i (some (.own d'))) b ↔ Own σ δ b:=λb=>by
  constructor
  ·rintro ⟨j,d,e1,e2⟩;by_cases hj:i=j
   ·subst hj;exact⟨i,_,e,e2⟩
   ·rw[W9 hj] at e1;exact⟨j,d,e1,e2⟩
  ·rintro ⟨j,d,e1,e2⟩;by_cases hj:i=j
   ·subst hj;exact⟨i,_,by rw[Wp hi],e2⟩
   ·exact⟨j,d,by rw[W9 hj]; exact e1,e2⟩
 have iT:∀ b,Av c σ (δ.set i (some (.own d'))) b->Av c σ δ b:=λb z=>z.elim .inl λz=>.inr ((kP b).mp z)
 have kp:∀ b w,H b=some w->¬ Av c σ δ b->upd H a o b=some w:=λb w h n=>by rw[aP λz=>n (by rw[z]; exact ph)]; exact h
 have eB:∀ b w,H b=some w->∃ o',upd H a o b=some o':=λb w h=>by
  by_cases hb:b=a
  ·exact⟨_,by rw[hb]; exact cA⟩
  ·exact⟨w,by rw[aP hb]; exact h⟩
 refine⟨⟨λb w h n=>?_,λb z=>?_,λb z=>?_,by rw[Qp]; exact k.len,λj d h=>?_,λj d h=>?_,λj l b d d2 h1 h2 h3 h4=>?_,k.pinned⟩,λb w h n=>?_,λb z=>.inl ((kP b).mp z),eB⟩
 ·have hb:b≠a:=λz=>by
   subst z;rcases ia with z | z
   ·exact n z
   ·rw[z] at h; cases h
  rw[aP hb];exact k.keep b w h n
 ·obtain⟨w,h⟩:=k.bd b z;exact eB b w h
 ·obtain⟨w,h⟩:=k.dh b z;exact eB b w h
 ·have hj:i≠j:=λz=>by subst z; rw[Wp hi] at h; cases h
  rw[W9 hj] at h;obtain⟨v,h1,h2⟩:=k.slot j d h;exact⟨v,h1,(h2.keep kp).aE λb z=>.inl (iT b z)⟩
 ·by_cases hj:i=j
  ·subst hj;rw[Wp hi] at h
   cases h;exact⟨a,ea,r.aE λb z=>.inl (iT b z),ia,nb⟩
  ·rw[W9 hj] at h;obtain⟨b,h1,h2,h3,h4⟩:=k.own j d h;have hb:b≠a:=λz=>by subst z; exact hj (k.inj i j b _ d e h ea h1)
   exact⟨b,h1,(h2.keep kp λw q=>by rw[aP hb]; exact q).aE λb z=>.inl (iT b z),h3,h4⟩
 ·have f1:∃ d,δ[j]? = some (some (.own d)):=by
   by_cases hj:i=j
   ·subst hj; exact⟨_,e⟩
   ·rw[W9 hj] at h1; exact⟨d,h1⟩
  have f2:∃ d,δ[l]? = some (some (.own d)):=by
   by_cases hj:i=l
   ·subst hj; exact⟨_,e⟩
   ·rw[W9 hj] at h2; exact⟨d2,h2⟩
  obtain⟨_,f1⟩:=f1;obtain⟨_,f2⟩:=f2;exact k.inj j l b _ _ f1 f2 h3 h4
 ·have hb:b≠a:=λz=>n (by rw[z]; exact kO)
  rw[aP hb]; exact h
theorem Ok.N6{σ:St}{δ:Dl}{H:Hp}{i:Nat}{ds bx:List (D×D)}{a:Addr}{ep:Nat}{ws:List NE}(k:Ok c σ δ H)(e:δ[i]? = some (some (.own (.dic ds))))(ea:σ[i]? = some (some (.ref a)))(r:DN H (Av c σ δ) ws bx) :
  aG c σ δ H σ (δ.set i (some (.own (.dic bx)))) (upd H a (.dN ep ws)) :=
 Ok.N5 k e ea ⟨ep,ws,cA,r.keep λb w h n=>by rw[aP λz=>n (by rw[z]; exact .inr ⟨i,_,e,ea⟩)]; exact h⟩
def sI(δ:Dl)(i:Nat):Bool:=match δ[i]? with
 | some (some (.own (.dic _)))=>true
 | _=>false
theorem N7{δ:Dl}{i:Nat}(h:sI δ i=true):∃ ds,δ[i]? = some (some (.own (.dic ds))):=by
 unfold sI at h;split at h
 ·rename_i ds e; exact⟨ds,e⟩
 ·cases h
def nM(i:Nat)(fi fe:DE):DS:=λδ=>(fe δ).bind λr δ1=>if sI δ1 i then(fi δ1).bind λk δ2=>match δ2[i]? with
  | some (some (.own (.dic ds)))=>if k9 (nL k.d) ds k.d && decide (ds.length < W8) then .ok .next (δ2.set i (some (.own (.dic (pR ds k.d r.d))))) else .stuck
  | _=>.stuck else .stuck
end
end DV
namespace L2
open PySem PySem.Spec PyProof.Rows
def N8(td ty tv:TE):TS:=λD σ H=>tv σ H λv H1=>td σ H1 λx H2=>ty σ H2 λy H3=>∃ a,x = .ref a/\wM H3 a y v λH4=>D.nx σ H4
theorem N9{X:Cx}{o i value:Expr}{pos pos':Pos}{td ty tv:TE}(hu:X.A.units + 8 < WI)(ho:PE X o td)(hi:PE X i ty)(hv:PE X value tv)(hs:J7 value (some (.Subscript o i pos')) pos.line X.env=pure false) :
  PS X (.Assign [.Subscript o i pos'] value pos) (N8 td ty tv):=by
 intro pins s σ H D I h;refine wpAny_Assign_Subscript (aJ (hv pins s σ H _ I h) λr s1 ⟨v,H1,I1,rv,q1⟩=>aJ (ho pins s1 σ H1 _ I1 q1) λu s2 ⟨x,H2,I2,rx,q2⟩=>aJ (hi pins s2 σ H2 _ I2 q2) λiv s3 ⟨y,H3,I3,ry,a,ex,g⟩=>?_) hs;subst ex;obtain rfl:u=Value.ref a:=rx;exact NW hu I3 g ry rv λH4 s4 I4 q4=>⟨σ,H4,I4,q4⟩
end L2
namespace DV
open PySem PySem.Spec PyProof.Rows L2
section
variable {X:Cx} {c:Fc} {e:Expr} {fe:DE} {pos:Pos}
theorem N_{i:Nat}{o ix:Expr}{fi:DE}{sp:Pos}(hu:X.A.units + 64 < WI)(ho:PE X o (de i))(hi:SE X c ix fi)(he:SE X c e fe)
  (hs:J7 e (some (.Subscript o ix sp)) pos.line X.env=pure false:=by rfl):SS X c (.Assign [.Subscript o ix sp] e pos) (nM i fi fe) :=
 PS.weak (N9 (by omega) ho hi he hs) λD σ H ⟨δ,k,q⟩=>by
  unfold nM dw at q;rw[aY] at q;refine⟨δ,k,aN q λr δ1 q1 v H1 a1 r1=>?_⟩;split at q1
  case isFalse=>exact q1.elim
  rename_i hown1;obtain⟨ds1,e1⟩:=N7 hown1;obtain⟨a,ea,_,_⟩:=a1.ok.own i _ e1;refine⟨.ref a,ea,δ1,a1.ok,?_⟩;rw[aY] at q1;refine aN q1 λkx δ2 q2 u H2 a2 r2=>?_
  split at q2
  ·rename_i ds e2;split at q2
   ·rename_i hz;simp only[Ws,decide_eq_true_eq] at hz;obtain⟨hg,hz⟩:=hz;obtain⟨a',cF,oa,_⟩:=a2.ok.own i _ e2;rw[ea] at cF; cases cF
    obtain⟨ep,ws,ha,dn⟩:=id oa;obtain⟨h1,⟨kk,hk⟩,h2⟩:=C8 hg;have ry:Rep H2 (Av c σ δ2) u kx.d:=r2.rep;have rv:Rep H2 (Av c σ δ2) v r.d:=Rep.dF r1.rep a2;refine⟨a,rfl,nL kx.d,ep,ws,kk,ha,dn.C7 h2,wN h1 hk ry,by rw[dn.len]; exact hz,λi_=>?_⟩;exact q2 σ _ (a1.trans (a2.trans (Ok.N6 a2.ok e2 ea (dn.put hk ry rv))))
   ·exact q2.elim
  ·exact q2.elim
end
end DV
namespace L2
open PySem PySem.Spec PyProof.Rows
section
variable {prog:Wj} {w:Wm} {A:Wn} {E:Value->W1->Prop} {s:W1}
theorem Oa {d:Addr} {Q:Value->W1->Prop} (hd:(d == Qj)=false) (hT:s.TypeIs (.ref d) "dict")
  (h:Q (.ref s.heap.objs.size) { s with heap:=s.heap.push { cls:=.type "dict_items",data:=.fields #[.ref d] } }):W6 (model prog w) A (call (.builtin "dict.items") [.ref d]) Q E s:=by
 refine WF F.slot_dict_items hT F.entry_dict_items ?_ (F.args_dict_items_1 _);unfold Builtin.«dict.items» Builtin.Dict.noArgs;refine W0 (W0 (wpAny_notOrdered_dict hT (show W6 _ _ (pure d) _ _ s from W3 ?_)));show W6 _ _ (Builtin.Dict.showsAll d >>= _) _ _ s;unfold Builtin.Dict.showsAll;rw[if_neg (by rw[hd]; exact WM)];exact W0 (W3 (W0 (WD (W3 ⟨_,rfl,h⟩))))
theorem Ob{v d:Addr}{o:Obj}{es:Array DictEntry}{ep:Nat}{Q:Value->W1->Prop}(hv:s.heap.IsItemsView v d)(ho:s.heap.get? d=some o)(kW:o.data = .dict es ep)
  (hQ:Q (.ref s.heap.objs.size) { s with heap:=s.heap.push { cls:=.type "dict_itemiterator",data:=.fields #[.none,.bool false,.ref d,.int 0 0,.int es.size 0,.int ep 0,.none,.none] } }):W6 (model prog w) A (pyIter (.ref v)) Q E s:=by
 obtain⟨ov,hov,hcv,hdv⟩:=id hv;refine wpAny_pyIter_slot hv.typeIs F.slot_dict_items_iter (WF F.slot_dict_items_iter hv.typeIs F.entry_dict_items_iter ?_ (F.args_dict_items_iter_1 _));unfold Builtin.«dict_items.__iter__»;refine W0 (W3 (W0 ?_));unfold Builtin.Dict_items.dictOf;refine W0 (QG hov hdv (x:=.ref d) rfl (W3 (W0 ?_)));unfold Builtin.Dict_items.newIterator;refine W0 (JZ ho kW (W0 (wpAny_dictEpoch ho kW ?_)));have h_:Builtin.Dict_items.ownsTuple "dict_itemiterator" = true:=by decide
 simp only[h_,if_true];refine WD (W3 ⟨_,rfl,"dict_itemiterator",_,⟨_,Wh _ rfl,rfl⟩,F.slot_dict_itemiterator_next.lookup,?_⟩)
  (by simp only[sizeOk,Builtin.Dict_items.ownedTupleFields,Wo,WW,WO,JE,QF]; omega)
 simpa[Qu,Builtin.Dict_items.ownedTupleFields] using hQ
theorem Oc{it d:Addr}{i ep:Nat}{od:Obj}{es:Array DictEntry}{e:DictEntry}{ok ov:Value}{Q:Option Value->W1->Prop}(hit:IsItemIter s.heap it d i es.size ep ok ov)
  (pS:s.heap.get? d=some od) (jg:od.data = .dict es ep) (hx:es[i]? = some e)
  (hQ:∀ h',IsItemIterOut h' it d (i + 1) es.size ep e.key e.val s.heap.objs.size->h'.get? s.heap.objs.size=some { cls:=.type "tuple",data:=.seq #[e.key,e.val] }->h'.objs.size=s.heap.objs.size + 1 ->
   (∀ b o,b≠it->s.heap.get? b=some o->h'.get? b=some o)->Q (some (.ref s.heap.objs.size)) { s with heap:=h' }):W6 (model prog w) A (Qh (.ref it)) Q E s:=by
 obtain⟨hp,g,dr,tk,os⟩:=s;have hT:Shared.TypeIs ⟨hp,g,dr,tk,os⟩ (.ref it) "dict_itemiterator":=⟨_,hit,rfl⟩
 have S8:i < es.size:=by
  rcases Nat.lt_or_ge i es.size with h | h
  ·exact h
  ·simp[Jp h] at hx
 unfold Qh;refine W0 (JA (WJ (name:=Str.ofString "__next__") hT QO (WF QO hT F.entry_dict_itemiterator_next ?_ (F.args_dict_itemiterator_next_1 _))));refine W0 (W3 (W0 (W0 ?_)));first | refine W0 (QJ hT (W3 ?_)) | refine W0 (J5 hT (W3 ?_))
 refine W0 (Jw hit rfl ?_);have h_:Builtin.Dict_items.ownsTuple "dict_itemiterator" = true:=by decide
 simp only[h_,if_true];show W6 _ _ (if (Value.ref d == Value.none)=true then _ else _) _ _ _;rw[if_neg (show ¬ ((Value.ref d == Value.none)=true) from WM)];refine W0 (W3 (W0 (JZ pS jg ?_)));rw[if_neg (by simp)];refine W0 (W3 (W0 (wpAny_dictEpoch pS jg ?_)));rw[if_neg (by simp)];refine W3 ?_;simp only[show ¬ ((i:Int) < 0) from by omega,if_false,Qc,hx];refine W0 ?_;first | refine W0 (QJ hT (W3 ?_)) | refine W0 (J5 hT (W3 ?_))
 refine W0 (wpAny_isOneOf_itemiter hT ?_);show W6 _ _ (setField (.ref it) 3 (Qu ((i:Int) + 1)) >>= _) _ _ ⟨hp,g,dr,tk,os⟩;refine W0 (Jm hit (by simp) λh1 e1 s1=>?_);replace s1:Q6 it hp h1:=s1;replace e1:IsItemIter h1 it d (i + 1) es.size ep ok ov:=by
  have z:((i + 1:Nat):Int)=(i:Int) + 1:=by omega
  unfold IsItemIter; rw[z]; simpa[Qu] using e1
 have wO:Shared.TypeIs ⟨h1,g,dr,tk,os⟩ (.ref it) "dict_itemiterator":=⟨_,e1,rfl⟩
 refine W0 (WK (W0 (wpAny_isOneOf_itemiter wO (W0 (wpAny_isOneOf_itemiter wO ?_)))));show W6 _ _ (Builtin.Dict_items.pairFromOwner (.ref it) 6 e.key e.val) _ _ ⟨h1,g,dr,tk,os⟩;unfold Builtin.Dict_items.pairFromOwner;refine W0 (wpAny_newTuple ?_);have e2:IsItemIter (h1.push { cls:=.type "tuple",data:=.seq #[e.key,e.val] }) it d (i + 1) es.size ep ok ov:=W4 _ e1;generalize hh2:h1.push { cls:=.type "tuple",data:=.seq #[e.key,e.val] } = h2 at e2;have z1:h1.objs.size=hp.objs.size:=s1.1;have kQ:it < hp.objs.size:=Wk hit;have t2:h2.get? hp.objs.size=some { cls:=.type "tuple",data:=.seq #[e.key,e.val] }:=by rw[<- hh2,<- z1]; exact Wh _ rfl
 have z2:h2.objs.size=hp.objs.size + 1:=by rw[<- hh2,Qt,z1]
 have k2:∀ b o,b≠it->hp.get? b=some o->h2.get? b=some o:=λb o hb q=>by rw[<- hh2]; exact W4 _ (s1.extBut b o hb q)
 show W6 _ _ (Builtin.Dict_items.ownedTupleIsFree (.ref it) >>= _) _ _ ⟨h2,g,dr,tk,os⟩;rw[z1];clear hh2 e1 s1 wO z1 h1;refine W0 ?_;unfold Builtin.Dict_items.ownedTupleIsFree;refine W0 (QG e2 rfl (x:=.none) rfl (W3 ?_));simp only[if_true];refine W0 (QG e2 rfl (x:=ok) rfl (W0 (QG e2 rfl (x:=ov) rfl ?_)));refine W0 (Jm e2 (by simp) λh3 e3 s3=>?_);replace s3:Q6 it h2 h3:=s3;replace e3:IsItemIter h3 it d (i + 1) es.size ep e.key ov:=e3;refine W0 (Jm e3 (by simp) λh4 e4 s4=>?_);replace s4:Q6 it h3 h4:=s4;replace e4:IsItemIter h4 it d (i + 1) es.size ep e.key e.val:=e4;refine W0 (Jm e4 (by simp) λh5 e5 s5=>?_);replace s5:Q6 it h4 h5:=s5;replace e5:IsItemIterOut h5 it d (i + 1) es.size ep e.key e.val hp.objs.size:=e5;refine W0 (Jm e5 (by simp) λh6 e6 s6=>?_);replace s6:Q6 it h5 h6:=s6;replace e6:IsItemIterOut h6 it d (i + 1) es.size ep e.key e.val hp.objs.size:=e6;have up:∀ b o,b≠it->h2.get? b=some o->h6.get? b=some o:=λb o hb q=>s6.extBut b o hb (s5.extBut b o hb (s4.extBut b o hb (s3.extBut b o hb q)))
 refine W0 (wpAny_letGo (W3 (W3 ⟨_,rfl,W3 (hQ h6 e6 (up _ _ (QI kQ) t2) ?_ λb o hb q=>up b o hb (k2 b o hb q))⟩)));show h6.objs.size=hp.objs.size + 1;rw[s6.1,s5.1,s4.1,s3.1,z2]
theorem Od{it d:Addr}{i ep:Nat}{od:Obj}{es:Array DictEntry}{ok ov:Value}{Q:Option Value->W1->Prop}(hh:A.handled=none)(hit:IsItemIter s.heap it d i es.size ep ok ov)
  (pS:s.heap.get? d=some od) (jg:od.data = .dict es ep) (hx:es.size<=i) (hQ:∀ h',Heap.ExtBut it s.heap h'->Q none { s with heap:=h' }):W6 (model prog w) A (Qh (.ref it)) Q E s:=by
 have hT:s.TypeIs (.ref it) "dict_itemiterator":=⟨_,hit,rfl⟩
 unfold Qh;refine W0 (JA (WJ (name:=Str.ofString "__next__") hT QO (WF QO hT F.entry_dict_itemiterator_next ?_ (F.args_dict_itemiterator_next_1 _))));refine W0 (W3 (W0 (W0 ?_)));first | refine W0 (QJ hT (W3 ?_)) | refine W0 (J5 hT (W3 ?_))
 refine W0 (Jw hit rfl ?_);have h_:Builtin.Dict_items.ownsTuple "dict_itemiterator" = true:=by decide
 simp only[h_,if_true];show W6 _ _ (if (Value.ref d == Value.none)=true then _ else _) _ _ s;rw[if_neg (show ¬ ((Value.ref d == Value.none)=true) from WM)];refine W0 (W3 (W0 (JZ pS jg ?_)));rw[if_neg (by simp)];refine W0 (W3 (W0 (wpAny_dictEpoch pS jg ?_)));rw[if_neg (by simp)];refine W3 ?_;simp only[show ¬ ((i:Int) < 0) from by omega,if_false,Qc,Jp hx];refine W0 ?_;first | refine W0 (QJ hT (W3 ?_)) | refine W0 (J5 hT (W3 ?_))
 show W6 _ _ (setField (.ref it) 2 .none >>= _) _ _ s;refine W0 (QS hit rfl (by simp) ?_);show W6 _ _ (newExc (.type "StopIteration") [] >>= _) _ _ _;refine W0 ?_;simp only[newExc,newTuple];refine W0 (WD ?_ (by size_fits));refine W0 (m:=Jv _ _) (wpAny_of_eq (a:=Value.none) (by first | rfl | (simp only[Jv]; rfl)) ?_);refine WD ?_ (by size_fits);simp only[raiseNew];refine W0 (wpAny_handled ?_);rw[show A.in1.handled=none from hh];refine W0 (W3 (wpAny_throw ?_));refine W0 (wpAny_isInstance (T:="StopIteration") (b:=true) ⟨_,Wh _ rfl,rfl⟩ isSubtype_stop ?_);exact W3 (hQ _ (((Qa ..).extBut.push _).push _))
end
def wQ(a:Addr)(ep:Nat)(kvs:List NE):It :=
 ⟨λi H=>H a=some (.dN ep kvs)/\i < kvs.length,
  λi H v H'=>∃ p k y x,H p=none/\kvs[i]? = some (k,y,x)/\H'=upd H p (.tup [y,x])/\v = .ref p,
  λi H=>H a=some (.dN ep kvs)/\i=kvs.length⟩
theorem cL.get{kvs:List NE}{xs:List (NK×Value×Value)}(r:cL kvs xs):∀ {i:Nat} {p:NE},kvs[i]? = some p->∃ x,xs[i]? = some x/\RelV p.2.1 x.2.1/\RelV p.2.2 x.2.2:=by
 unfold cL at r;induction r with
 | nil=>intro i p e; simp at e
 | cons h t ih =>
  intro i p e
  cases i with
  | zero=>simp at e; subst e; exact⟨_,rfl,h.2⟩
  | succ i=>obtain⟨x,e1,e2⟩:=ih (i:=i) (by simpa using e); exact⟨x,by simpa using e1,e2⟩
theorem Oe{P:Wj}{w:Wm}{K:W2}{elts:List Expr}{ctx}{pos:Pos}(a it:Addr)(kvs:List NE)(ep:Nat) :
  Turn P w K (.Tuple elts ctx pos) (wQ a ep kvs) [it] it (λi h=>∃ ok ov,IsItemIter h it a i kvs.length ep ok ov):=by
 have at_:∀ {X:Cx} {pins s σ H},X.prog=P->X.w=w->Inv X pins σ H s->H a=some (.dN ep kvs)->∃ xs o es,cL kvs xs/\mq w s.heap a ep xs o es/\es.size=kvs.length:=by
  intro X pins s σ H hP hw I e;subst hP hw;obtain⟨_,_,xs,o,es,r,d⟩:=nK I.aj e;exact⟨xs,o,es,r,d,by rw[<- WT,d.ents,Wq]; exact(Paired.length r).symm⟩
 refine⟨by simp,?_,?_,?_,?_,?_⟩
 ·rintro i h ⟨ok,ov,q⟩ b hb;have e:b=it:=by simpa using hb
  subst e;exact⟨_,q,λv z=>by
   have z':Data.fields _=Data.cell v:=z
   cases z'⟩
 ·rintro i h h' ⟨ok,ov,q⟩ k;exact⟨ok,ov,k it (by simp) _ q⟩
 ·intro X hP hw hK hc i pins s σ H E I hf ⟨ok,ov,st⟩ ⟨hg,hi⟩;obtain⟨xs,o,es,r,d,hz⟩:=at_ hP hw I hg;subst hP hw hK;have hx:kvs[i]? = some (kvs[i].1,kvs[i].2.1,kvs[i].2.2):=by simp[hi]
  obtain⟨x,hu,ry,rv⟩:=r.get hx;have Of:es[i]? = some (ent X.w x):=by rw[<- Qr,d.ents,Wy,hu]; rfl
  have kQ:it < s.heap.objs.size:=Wk st;rw[<- hz] at st;refine Oc st d.get d.data Of λh' hit hT hsz kp=>⟨_,rfl,wpAny_letOwnedTupleGo_items hit λh2 Og sb=>?_⟩
  have nz:s.heap.objs.size≠it:=QI kQ;have aQ:∀ b ∈ [it],b < s.heap.objs.size:=λb hb=>by
   have e:b=it:=by simpa using hb
   subst e;exact kQ
  have I2:Inv X pins σ (upd H s.heap.objs.size (.tup [kvs[i].2.1,kvs[i].2.2])) { s with heap:=h2,toks:=s.toks } :=
   Inv.LZ (t':=s.toks) [it] I hf aQ ry rv ((sb.2 _ nz).trans hT) λb o hb e=>by
    have g:b≠it:=λz=>hb (by simp[z])
    exact(sb.2 b g).trans (kp b o g e)
  refine⟨.ref s.heap.objs.size,_,I2,rfl,⟨s.heap.objs.size,_,_,_,I.aj.fresh (Wb _),hx,rfl,rfl⟩,⟨_,_,by rw[<- hz]; exact Og⟩,λb hb=>?_⟩;have e:b=it:=by simpa using hb
  subst e;rw[aP (Ne.symm nz)];exact(hf _ hb).1
 ·intro X hP hw hK hc i pins s σ H E I hf ⟨ok,ov,st⟩ ⟨hg,hi⟩;obtain⟨xs,o,es,r,d,hz⟩:=at_ hP hw I hg;subst hP hw hK;rw[<- hz] at st;refine Od (I.ok.hd hc) st d.get d.data (by omega) λh' eb=>⟨rfl,Inv.vF (t':=s.toks) [it] I (λb o hb e=>eb b o (λz=>hb (by simp[z])) e) hf⟩
 ·intro A i s Q E ⟨ok,ov,st⟩ h;exact MX st h
section
variable {X:Cx} {o:Expr} {apos bb:Pos} {elts:List Expr} {ctx:Nat} {tp:Pos} {td:TE}
def Oh(td:TE):TI:=λσ H R=>td σ H λv H1=>∃ a ep kvs,v = .ref a/\H1 a=some (.dN ep kvs)/\R (wQ a ep kvs) H1
theorem Oi (ho:PE X o td) (hb:QY o "items" X.env (eval o X.env)=eval o X.env:=by rfl) (hl:(apos.endLine == bb.line)=true:=by rfl) :
  PI X (.Tuple elts ctx tp) (.Call (.Attribute o "items" apos) [] [] bb) (Oh td):=by
 intro pins s σ H R I h;refine wpAny_Call_method (T:="dict") (id:="dict.items") hb rfl hl F.plainAttrs_dict F.slot_dict_items F.type_dict_items (aJ (ho pins s σ H _ I h) λu s1 ⟨x,H1,I1,rx,a,ep,kvs,ex,ea,q⟩=>?_);subst ex;obtain rfl:u=Value.ref a:=rx;obtain⟨z,hS,xs,ob,es,r,d⟩:=nK I1.aj ea;have hz:es.size=kvs.length:=by rw[<- WT,d.ents,Wq]; exact(Paired.length r).symm
 refine⟨d.typeIs,d.noDict,?_⟩;refine Calls.callWith_builtin rfl (PySem.evalArgs_none (Oa hS d.typeIs ?_));have Oj:∀ b u,s1.heap.get? b=some u->(s1.heap.push { cls:=.type "dict_items",data:=.fields #[.ref a] }).get? b=some u:=λb u e=>W4 _ e
 refine Ob (d:=a) ⟨_,Wh _ rfl,rfl,rfl⟩ (Oj _ _ d.get) d.data ?_;generalize hh1:s1.heap.push { cls:=.type "dict_items",data:=.fields #[.ref a] } = h1;have up1:∀ b u,s1.heap.get? b=some u->h1.get? b=some u:=λb u e=>by rw[<- hh1]; exact W4 _ e
 have Dd:s1.heap.objs.size<=h1.objs.size:=by rw[<- hh1,Qt]; exact JD _
 generalize hh2:h1.push { cls:=.type "dict_itemiterator",data:=.fields #[.none,.bool false,.ref a,.int 0 0,.int es.size 0,.int ep 0,.none,.none] } = h2;have wA:∀ b u,s1.heap.get? b=some u->h2.get? b=some u:=λb u e=>by rw[<- hh2]; exact W4 _ (up1 b u e)
 have hit:IsItemIter h2 h1.objs.size a 0 kvs.length ep .none .none:=by rw[<- hz,<- hh2]; exact Wh _ rfl
 have I2:Inv X pins σ H1 { s1 with heap:=h2,toks:=s1.toks }:=I1.kept (t':=s1.toks) wA;refine⟨h1.objs.size,[h1.objs.size],_,_,_,rfl,I2,Oe a h1.objs.size kvs ep,⟨_,_,hit⟩,λb hb=>?_,q⟩;have e:b=h1.objs.size:=by simpa using hb
 subst e;exact I1.iK Dd (I1.aj.fresh Dd)
end
section
variable {X:Cx} {pos:Pos}
theorem Ol {P:Wj} {w:Wm} {H:Hp} (h:Heap) (hb:Qj < h.objs.size):bw P w H (h.push { cls:=.type "dict",data:=.dict #[] }) h.objs.size (.dN 0 []) :=
 ⟨Qm _,beq_eq_false_iff_ne.mpr (Ne.symm (Wr hb)),_,#[],Wh _ rfl,⟨rfl,rfl,rfl⟩,rfl,.nil,JS⟩
def Om:TE:=λ_ H Q=>∀ p,H p=none->Q (.ref p) (upd H p (.dN 0 []))
theorem Oo:PE X (.Dict [] [] pos) Om:=by
 intro pins s σ H Q I h;exact wpAny_Dict_empty ⟨.ref s.heap.objs.size,_,I.laid (a:=s.heap.objs.size) (o:=.dN 0 []) (t':=s.toks) (λ_ _ q=>W4 _ q) (Wb _) (Ol s.heap I.big),rfl,h _ (I.aj.fresh (Wb _))⟩
end
end L2
namespace DV
open PySem PySem.Spec PyProof.Rows L2
theorem aU.Oq{c:Fc}{σ:St}{δ:Dl}{H:Hp}{p:Addr}{ep:Nat}{ws:List NE}{ds:List (D×D)}(k:Ok c σ δ H)(hp:H p=none)(r:DN H (Av c σ δ) ws ds):aU c σ δ H (upd H p (.dN ep ws)) (.ref p) (.own (.dic ds)):=by
 refine⟨p,rfl,⟨ep,ws,cA,?_⟩,λz=>k.iQ hp (.inl z),k.lN hp,k.plus hp _,hp⟩;exact(r.aE λb z=>by
  rcases z with (z | z) | z
  ·exact .inl (.inl z)
  ·exact .inr (by rw[z]; exact hp)
  ·exact .inl (.inr z)).keep λb w e _=>by rw[aP (eU e hp)]; exact e
def wR:DE:=λδ=>.ok (.own (.dic [])) δ
theorem Ot{X:Cx}{c:Fc}{pos:Pos}:SE X c (.Dict [] [] pos) wR:=PE.weak Oo λσ H Q ⟨δ,k,q⟩=>λp hp=>q _ _ (.alloc k hp _) (aU.Oq k hp .nil)
def nN(ds:List (D×D)):List D:=ds.map λp=>D.tup [p.1,p.2]
def pT(fe:DE):DI:=λδ=>(fe δ).bind λr δ1=>match r.d with
 | .dic ds=>.ok (nN ds) δ1
 | _=>.stuck
section
variable {X:Cx} {c:Fc} {o:Expr} {fe:DE} {apos bb:Pos} {elts:List Expr} {ctx:Nat} {tp:Pos}
theorem Ou{σ:St}{δ:Dl}{H:Hp}{a:Addr}{ep:Nat}{ws:List NE}{ds:List (D×D)}(h:H a=some (.dN ep ws))(n:¬ Own σ δ a)(r:DN H (Av c σ δ) ws ds):lV c σ δ H (wQ a ep ws) (nN ds):=by
 intro H2 kp;have h2:=kp a _ h n;refine⟨⟨h2,by simp[nN,r.len]⟩,λi d e=>?_⟩;unfold nN at e;rw[Wy] at e
 cases ej:ds[i]? with
 | none=>rw[ej] at e; cases e
 | some q =>
  rw[ej] at e
  cases e;have hi:i < ws.length:=by rw[r.len]; exact(W5.mp ej).1
  refine⟨⟨h2,hi⟩,λx H3 ⟨p,kk,y,xv,hp,hkv,e3,ex⟩=>.inr ⟨p,_,_,hp,e3,ex,rfl,?_⟩⟩;exact ax.two (r.key i _ q hkv ej) (r.val i _ q hkv ej)
theorem Ov (ho:SE X c o fe) (hb:QY o "items" X.env (eval o X.env)=eval o X.env:=by rfl) (hl:(apos.endLine == bb.line)=true:=by rfl) :
  SI X c (.Tuple elts ctx tp) (.Call (.Attribute o "items" apos) [] [] bb) (pT fe) :=
 PI.weak (Oi ho hb hl) λσ H R ⟨δ,k,q⟩=>by
  unfold pT at q;rw[aY] at q;refine⟨δ,k,aN q λr δ1 q1 v H1 a1 r1=>?_⟩;have rp:=r1.rep;generalize r.d=d at q1 rp
  cases d <;> first | exact q1.elim | skip
  rename_i ds
  cases rp with
  | dic h1 h2 h3 h4 h5 h6 =>
   exact⟨_,_,_,rfl,h2,q1 _ _ a1 (Ou h2 (λz=>h1 (.inr z)) ⟨h3,h4,h5,h6⟩)⟩
end
end DV
namespace K50
open PySem.W (nsIn keepIn codeIn findIn mroIn kitOne mg_of)
open PySem PySem.Spec PyProof.Rows L2 DV
theorem ah{a b:Prop}(h:a\/b:=by first|exact Or.inl rfl|exact Or.inr rfl):a\/b:=h
def top(i:Nat):Stmt:=PySem.Challenge.pw_tilegrow_k50_groups_of_tiles.main.body.getD i (.Pass ⟨0,0,0,0⟩)
abbrev wU:Stmt:=top 16
abbrev wV:Stmt:=top 17
abbrev wW:Stmt:=top 19
abbrev wX:Stmt:=top 21
abbrev wY:Stmt:=top 20
abbrev wZ:Stmt:=top 22
abbrev w4:Stmt:=top 18
abbrev w6:Stmt:=top 23
abbrev w8:Stmt:=top 24
abbrev w_:Stmt:=top 25
abbrev xa:Stmt:=top 12
abbrev xb:Stmt:=top 5
abbrev xf:Stmt:=top 4
abbrev xg:Stmt:=top 8
abbrev xh:Stmt:=top 7
abbrev jy:Stmt:=top 9
abbrev xi:Stmt:=top 10
abbrev xj:Stmt:=top 11
abbrev xk:Stmt:=top 13
abbrev xl:Stmt:=top 14
abbrev j8:Stmt:=top 26
def gq:Pos:=match (du jy).getLast? with | some (.Return (some (.Call _ [_,.Lambda _ _ _ p] _ _)) _)=>p | _=>⟨0,0,0,0⟩
def gr:Str:=("tile_sets" : Str) ++ ".<locals>." ++ "<lambda>"
structure Txt(K:W2)(mg:Str->Option Value):Prop where
 pU:mg "all" = none
 mr:mg "dict" = none
 pV:mg "enumerate" = none
 pW:mg "int" = none
 k_:mg "isinstance" = none
 iX:mg "len" = none
 jz:mg "list" = none
 pX:mg "max" = none
 jA:mg "range" = none
 pY:mg "set" = none
 la:mg "sorted" = none
 pZ:mg "str" = none
 j9:mg "tuple" = none
 ty_list:jU K "list"
 ty_str:jU K "str"
 ty_tuple:jU K "tuple"
def xm:DS:=(aI (dG (aH (aq rn 1 (ar (aT cu (ao 0))))) (cB (aq aS 0 (ao 1))) dP) (cB (eD (.int 0))))
def mw:DF:=bW [] 2 xm
theorem Ow:cJ mw:=dQ
theorem Ox:cj ["script","k"] ["script","k"] (aV wU):=scc
theorem Oy {K:W2} (F:bM K "_law_cell_at" "_law_cell_at" wU f fd) (hm:mg "_law_cell_at" = some (.ref f)) (hb:Binds K fd ["script","k"] []) (T:Txt K mg):bU P w K mg base 1 "_law_cell_at" 2 mw :=
 gm (np:=[]) (fb:=xm) F hm hb Ox (λc aB A outer s H E hr aw=>by
  have hq:=dA hr;refine(@a0 _ _ _ _ _ _ ?_ ?_)
  ·refine(@gM _ _ _ _ _ _ _ _ _ ?_ ?_ ?_)
   ·exact(@mY _ _ _ _ _ _ _ _ _ _ IA IB (pv 1) (@aO _ _ _ _ (@lR _ _ _ _ _ _ rfl T.iX (@bG _ _ _ _ (pv 0)) (by rfl))) (fU _))
   ·refine(@bq _ _ _ _ ?_);refine(@c9 _ _ _ _ _ ?_);exact(@cy _ _ _ _ _ _ _ _ _ cZ c8 (pv 0) (@bG _ _ _ _ (pv 1)) (λ_ _=>rfl))
   ·exact gL
  refine(@bq _ _ _ _ ?_);refine(@c9 _ _ _ _ _ ?_);exact(@aZ _ _ _ _ _)) λss y h=>dI h
def xn:DS:=(aI (aF (a_ fz (aq bA 0 (ar (eD (.int 7919)))) (ar (eD (.int 2147483647)))) (ag [] 0)) (cB (a_ fz (a_ bA (a_ bA (aq gU 0 (ao 0)) (ar (a_ gU (eD (.int 48271)) (ao 0)))) (ar (eD (.int 12345)))) (ar (eD (.int 2147483629))))))
def mx:DF:=bW [] 1 xn
theorem De:cJ mx:=dQ
theorem Df:cj ["seed"] ["seed"] (aV wV):=scc
theorem Oz {K:W2} (F:bM K "_law_next" "_law_next" wV f fd) (hm:mg "_law_next" = some (.ref f)) (hb:Binds K fd ["seed"] []) (T:Txt K mg):bU P w K mg base 1 "_law_next" 1 mx :=
 gm (np:=[]) (fb:=xn) F hm hb Df (λc aB A outer s H E hr aw=>by
  have hq:=dA hr;refine(@a0 _ _ _ _ _ _ ?_ ?_)
  ·exact(@bX _ _ _ _ _ _ ([]) (0) _ aw Df.nd rfl ah (@dO _ _ _ _ _ _ _ _ _ _ lB lQ (@kG _ _ _ _ _ _ _ _ _ _ gf gh (pv 0) (@aO _ _ _ _ (@aZ _ _ _ _ _))) (@aO _ _ _ _ (@aZ _ _ _ _ _))) rfl ah)
  refine(@bq _ _ _ _ ?_);refine(@c9 _ _ _ _ _ ?_);exact(@dO _ _ _ _ _ _ _ _ _ _ lB lQ (@dO _ _ _ _ _ _ _ _ _ _ gf gh (@dO _ _ _ _ _ _ _ _ _ _ gf gh (@kG _ _ _ _ _ _ _ _ _ _ vq vt (pv 0) (@bG _ _ _ _ (pv 0))) (@aO _ _ _ _ (@dO _ _ _ _ _ _ _ _ _ _ vq vt (@aZ _ _ _ _ _) (@bG _ _ _ _ (pv 0))))) (@aO _ _ _ _ (@aZ _ _ _ _ _))) (@aO _ _ _ _ (@aZ _ _ _ _ _)))) λss y h=>dI h
def xo:DS:=(aI (dG (aH (a_ bQ (aq aS 0 (ar (eD (.int 1)))) (ar (eD (.int 1))))) (aI (aF (a_ fz (aq aS 0 (ar (eD (.int 0)))) (ao 1)) (ag [0] 2)) (aI (ng 0 (eD (.int 0)) (a_ vO (aq aS 0 (ar (eD (.int 0)))) (ao 1))) (cB (aa 2)))) dP) (aI (ng 0 (eD (.int 2)) (aD mx [.val (a_ bA (aD mx [.val (aq aS 0 (ar (eD (.int 2))))]) (ar (eD (.int 7))))])) (cB (a_ fz (a_ rm (aq aS 0 (ar (eD (.int 2)))) (ar (eD (.int 64)))) (ao 1)))))
def eO:DF:=bW [0] 3 xo
theorem jB:cJ eO:=dQ
theorem Dg:cj ["pen","many","found"] ["pen","many"] (aV wW):=scc
theorem OA {K:W2} (F:bM K "_law_draw" "_law_draw" wW f fd) (hm:mg "_law_draw" = some (.ref f)) (hb:Binds K fd ["pen","many"] []) (T:Txt K mg) (sJ:bU P w K mg base 1 "_law_next" 1 mx):bU P w K mg base 2 "_law_draw" 2 eO :=
 gm (np:=[0]) (fb:=xo) F hm hb Dg (λc aB A outer s H E hr aw=>by
  have hq:=dA hr;refine(@a0 _ _ _ _ _ _ ?_ ?_)
  ·refine(@gM _ _ _ _ _ _ _ _ _ ?_ ?_ ?_)
   ·exact(@gc _ _ _ _ _ _ _ _ _ _ (jP hq) jR (@cy _ _ _ _ _ _ _ _ _ cZ c8 (pv 0) (@aO _ _ _ _ (@aZ _ _ _ _ _)) (λ_ _=>rfl)) (@aO _ _ _ _ (@aZ _ _ _ _ _)) (fU _))
   ·refine(@a0 _ _ _ _ _ _ ?_ ?_)
    ·exact(@bX _ _ _ _ _ _ ([0]) (2) _ aw Dg.nd rfl ah (@dO _ _ _ _ _ _ _ _ _ _ lB lQ (@cy _ _ _ _ _ _ _ _ _ cZ c8 (pv 0) (@aO _ _ _ _ (@aZ _ _ _ _ _)) (λ_ _=>rfl)) (@bG _ _ _ _ (pv 1))) rfl ah)
    refine(@a0 _ _ _ _ _ _ ?_ ?_)
    ·exact(@A3 _ _ _ _ _ _ _ _ _ _ (pv 0) (@aZ _ _ _ _ _) (@dO _ _ _ _ _ _ _ _ _ _ LN LO (@cy _ _ _ _ _ _ _ _ _ cZ c8 (pv 0) (@aO _ _ _ _ (@aZ _ _ _ _ _)) (λ_ _=>rfl)) (@bG _ _ _ _ (pv 1))) (by intro _; rfl) (by rfl) (by rfl) (by rfl))
    refine(@bq _ _ _ _ ?_);refine(@c9 _ _ _ _ _ ?_);exact(@aK _ _ _ _ (pv 2))
   ·exact gL
  refine(@a0 _ _ _ _ _ _ ?_ ?_)
  ·exact(@A3 _ _ _ _ _ _ _ _ _ _ (pv 0) (@aZ _ _ _ _ _) (@cP _ _ _ _ _ (1) _ _ _ _ _ sJ De (hr.mono (by decide)) rfl (@bD _ _ _ _ _ _ (@dO _ _ _ _ _ _ _ _ _ _ gf gh (@cP _ _ _ _ _ (1) _ _ _ _ _ sJ De (hr.mono (by decide)) rfl (@bD _ _ _ _ _ _ (@cy _ _ _ _ _ _ _ _ _ cZ c8 (pv 0) (@aO _ _ _ _ (@aZ _ _ _ _ _)) (λ_ _=>rfl)) (@b8 _ _) (by rfl)) rfl (by decide) (by rfl) (by rfl)) (@aO _ _ _ _ (@aZ _ _ _ _ _))) (@b8 _ _) (by rfl)) rfl (by decide) (by rfl) (by rfl)) (by intro _; rfl) (by rfl) (by rfl) (by rfl))
  refine(@bq _ _ _ _ ?_);refine(@c9 _ _ _ _ _ ?_);exact(@dO _ _ _ _ _ _ _ _ _ _ lB lQ (@dO _ _ _ _ _ _ _ _ _ _ FC Iy (@cy _ _ _ _ _ _ _ _ _ cZ c8 (pv 0) (@aO _ _ _ _ (@aZ _ _ _ _ _)) (λ_ _=>rfl)) (@aO _ _ _ _ (@aZ _ _ _ _ _))) (@bG _ _ _ _ (pv 1)))) λss y h=>dI h
def xp:DS:=(aI (aF (a_ bA (eD (.int 1)) (ar (aD eO [.io 0,.val (eD (.int 3))]))) (ag [0] 1)) (aI (aF (a_ bA (eD (.int 1)) (ar (aD eO [.io 0,.val (eD (.int 3))]))) (ag [0] 2)) (aI (dG (aH (a_ bQ (aD eO [.io 0,.val (eD (.int 8))]) (ar (eD (.int 0))))) (aF (a_ aS (vm [.tup [.int 4,.int 1],.tup [.int 1,.int 4],.tup [.int 4,.int 4],.tup [.int 4,.int 3],.tup [.int 1,.int 2],.tup [.int 2,.int 1]]) (ar (aD eO [.io 0,.val (eD (.int 6))]))) (bN 2 (aX (ag [0] 1) (aX (ag [0] 2) bT)))) dP) (aI (dG (aH (a_ bQ (aq bA 1 (ao 2)) (ar (eD (.int 2))))) (aF (eD (.int 2)) (ag [0] 2)) dP) (cB (e_ (cb (aa 1) (cb (aa 2) cV))))))))
def nQ:DF:=bW [0] 3 xp
theorem OB:cJ nQ:=dQ
theorem nR:cj ["pen","high","wide"] ["pen"] (aV wX):=scc
theorem OC {K:W2} (F:bM K "_law_sizes_by" "_law_sizes_by" wX f fd) (hm:mg "_law_sizes_by" = some (.ref f)) (hb:Binds K fd ["pen"] []) (T:Txt K mg) (fD:bU P w K mg base 2 "_law_draw" 2 eO):bU P w K mg base 3 "_law_sizes_by" 1 nQ :=
 gm (np:=[0]) (fb:=xp) F hm hb nR (λc aB A outer s H E hr aw=>by
  have hq:=dA hr;refine(@a0 _ _ _ _ _ _ ?_ ?_)
  ·exact(@bX _ _ _ _ _ _ ([0]) (1) _ aw nR.nd rfl ah (@dO _ _ _ _ _ _ _ _ _ _ gf gh (@aZ _ _ _ _ _) (@aO _ _ _ _ (@cP _ _ _ _ _ (2) _ _ _ _ _ fD jB (hr.mono (by decide)) rfl (@ik _ _ _ _ _ _ (pv 0) (@bD _ _ _ _ _ _ (@aZ _ _ _ _ _) (@b8 _ _) (by rfl)) (by rfl)) rfl (by decide) (by rfl) (by rfl)))) rfl ah)
  refine(@a0 _ _ _ _ _ _ ?_ ?_)
  ·exact(@bX _ _ _ _ _ _ ([0]) (2) _ aw nR.nd rfl ah (@dO _ _ _ _ _ _ _ _ _ _ gf gh (@aZ _ _ _ _ _) (@aO _ _ _ _ (@cP _ _ _ _ _ (2) _ _ _ _ _ fD jB (hr.mono (by decide)) rfl (@ik _ _ _ _ _ _ (pv 0) (@bD _ _ _ _ _ _ (@aZ _ _ _ _ _) (@b8 _ _) (by rfl)) (by rfl)) rfl (by decide) (by rfl) (by rfl)))) rfl ah)
  refine(@a0 _ _ _ _ _ _ ?_ ?_)
  ·refine(@gM _ _ _ _ _ _ _ _ _ ?_ ?_ ?_)
   ·exact(@gc _ _ _ _ _ _ _ _ _ _ (jP hq) jR (@cP _ _ _ _ _ (2) _ _ _ _ _ fD jB (hr.mono (by decide)) rfl (@ik _ _ _ _ _ _ (pv 0) (@bD _ _ _ _ _ _ (@aZ _ _ _ _ _) (@b8 _ _) (by rfl)) (by rfl)) rfl (by decide) (by rfl) (by rfl)) (@aO _ _ _ _ (@aZ _ _ _ _ _)) (fU _))
   ·refine(@bq _ _ _ _ ?_);refine(@rF _ _ _ _ _ _ _ ?_ ?_ (by rfl) (by rfl) (by rfl))
    ·exact(@Il _ _ _ _ _ _ _ _ _ cZ c8 (@KR _ _ _ _ _ (by rfl) (by decide)) (@aO _ _ _ _ (@cP _ _ _ _ _ (2) _ _ _ _ _ fD jB (hr.mono (by decide)) rfl (@ik _ _ _ _ _ _ (pv 0) (@bD _ _ _ _ _ _ (@aZ _ _ _ _ _) (@b8 _ _) (by rfl)) (by rfl)) rfl (by decide) (by rfl) (by rfl))) (λ_ _=>rfl))
    ·exact(@kM _ _ _ _ _ _ _ rfl (@fA _ _ _ _ _ _ (@cO _ _ _ ([0]) (1) _ aw nR.nd rfl ah ah) (@fA _ _ _ _ _ _ (@cO _ _ _ ([0]) (2) _ aw nR.nd rfl ah ah) (@kL _ _) (by rfl)) (by rfl)) (by rfl) (by rfl))
   ·exact gL
  refine(@a0 _ _ _ _ _ _ ?_ ?_)
  ·refine(@gM _ _ _ _ _ _ _ _ _ ?_ ?_ ?_)
   ·exact(@gc _ _ _ _ _ _ _ _ _ _ (jP hq) jR (@kG _ _ _ _ _ _ _ _ _ _ gf gh (pv 1) (@bG _ _ _ _ (pv 2))) (@aO _ _ _ _ (@aZ _ _ _ _ _)) (fU _))
   ·refine(@bq _ _ _ _ ?_);exact(@bX _ _ _ _ _ _ ([0]) (2) _ aw nR.nd rfl ah (@aZ _ _ _ _ _) rfl ah)
   ·exact gL
  refine(@bq _ _ _ _ ?_);refine(@c9 _ _ _ _ _ ?_);exact(@jk _ _ _ _ _ _ (@dR _ _ _ _ _ _ (@aK _ _ _ _ (pv 1)) (@dR _ _ _ _ _ _ (@aK _ _ _ _ (pv 2)) (@e9 _ _) (by rfl)) (by rfl)) (by decide))) λss y h=>dI h
def xq:DS:=(aI (dG (aH (aq bQ 3 (ar (eD (.int 1))))) (cB (aq aS 1 (ar (aD eO [.io 0,.val (aq bA 2 (ar (eD (.int 1))))])))) dP) (aI (dG (aH (aq bQ 3 (ar (eD (.int 2))))) (cB (aq aS 1 (ar (a_ fz (aq bA 2 (ar (eD (.int 1)))) (ar (aT cu (ao 1))))))) dP) (aI (dG (rg (aH (aq bQ 3 (ar (eD (.int 3))))) (aH (a_ rA (aD eO [.io 0,.val (eD (.int 4))]) (ar (eD (.int 0)))))) (cB (aq aS 1 (ao 2))) dP) (cB (aq aS 1 (ar (aD eO [.io 0,.val (aT cu (ao 1))])))))))
def iE:DF:=bW [0] 4 xq
theorem OE:cJ iE:=dQ
theorem OF:cj ["pen","tiles","place","way"] ["pen","tiles","place","way"] (aV wY):=scc
theorem OG {K:W2} (F:bM K "_law_pick" "_law_pick" wY f fd) (hm:mg "_law_pick" = some (.ref f)) (hb:Binds K fd ["pen","tiles","place","way"] []) (T:Txt K mg) (fD:bU P w K mg base 2 "_law_draw" 2 eO):bU P w K mg base 3 "_law_pick" 4 iE :=
 gm (np:=[0]) (fb:=xq) F hm hb OF (λc aB A outer s H E hr aw=>by
  have hq:=dA hr;refine(@a0 _ _ _ _ _ _ ?_ ?_)
  ·refine(@gM _ _ _ _ _ _ _ _ _ ?_ ?_ ?_)
   ·exact(@mY _ _ _ _ _ _ _ _ _ _ (jP hq) jR (pv 3) (@aO _ _ _ _ (@aZ _ _ _ _ _)) (fU _))
   ·refine(@bq _ _ _ _ ?_);refine(@c9 _ _ _ _ _ ?_);exact(@cy _ _ _ _ _ _ _ _ _ cZ c8 (pv 1) (@aO _ _ _ _ (@cP _ _ _ _ _ (2) _ _ _ _ _ fD jB (hr.mono (by decide)) rfl (@ik _ _ _ _ _ _ (pv 0) (@bD _ _ _ _ _ _ (@kG _ _ _ _ _ _ _ _ _ _ gf gh (pv 2) (@aO _ _ _ _ (@aZ _ _ _ _ _))) (@b8 _ _) (by rfl)) (by rfl)) rfl (by decide) (by rfl) (by rfl))) (λ_ _=>rfl))
   ·exact gL
  refine(@a0 _ _ _ _ _ _ ?_ ?_)
  ·refine(@gM _ _ _ _ _ _ _ _ _ ?_ ?_ ?_)
   ·exact(@mY _ _ _ _ _ _ _ _ _ _ (jP hq) jR (pv 3) (@aO _ _ _ _ (@aZ _ _ _ _ _)) (fU _))
   ·refine(@bq _ _ _ _ ?_);refine(@c9 _ _ _ _ _ ?_);exact(@cy _ _ _ _ _ _ _ _ _ cZ c8 (pv 1) (@aO _ _ _ _ (@dO _ _ _ _ _ _ _ _ _ _ lB lQ (@kG _ _ _ _ _ _ _ _ _ _ gf gh (pv 2) (@aO _ _ _ _ (@aZ _ _ _ _ _))) (@aO _ _ _ _ (@lR _ _ _ _ _ _ rfl T.iX (@bG _ _ _ _ (pv 1)) (by rfl))))) (λ_ _=>rfl))
   ·exact gL
  refine(@a0 _ _ _ _ _ _ ?_ ?_)
  ·refine(@gM _ _ _ _ _ _ _ _ _ ?_ ?_ ?_)
   ·exact(@uP _ _ _ _ (@Io _ _ _ _ _ _ _ _ (@mY _ _ _ _ _ _ _ _ _ _ (jP hq) jR (pv 3) (@aO _ _ _ _ (@aZ _ _ _ _ _)) (fU _)) (@Im _ _ _ _ _ (@gc _ _ _ _ _ _ _ _ _ _ IC uT (@cP _ _ _ _ _ (2) _ _ _ _ _ fD jB (hr.mono (by decide)) rfl (@ik _ _ _ _ _ _ (pv 0) (@bD _ _ _ _ _ _ (@aZ _ _ _ _ _) (@b8 _ _) (by rfl)) (by rfl)) rfl (by decide) (by rfl) (by rfl)) (@aO _ _ _ _ (@aZ _ _ _ _ _)) (fU _)))))
   ·refine(@bq _ _ _ _ ?_);refine(@c9 _ _ _ _ _ ?_);exact(@cy _ _ _ _ _ _ _ _ _ cZ c8 (pv 1) (@bG _ _ _ _ (pv 2)) (λ_ _=>rfl))
   ·exact gL
  refine(@bq _ _ _ _ ?_);refine(@c9 _ _ _ _ _ ?_);exact(@cy _ _ _ _ _ _ _ _ _ cZ c8 (pv 1) (@aO _ _ _ _ (@cP _ _ _ _ _ (2) _ _ _ _ _ fD jB (hr.mono (by decide)) rfl (@ik _ _ _ _ _ _ (pv 0) (@bD _ _ _ _ _ _ (@lR _ _ _ _ _ _ rfl T.iX (@bG _ _ _ _ (pv 1)) (by rfl)) (@b8 _ _) (by rfl)) (by rfl)) rfl (by decide) (by rfl) (by rfl))) (λ_ _=>rfl))) λss y h=>dI h
def xr:DS:=(aI (aF (aD nQ [.io 0]) (bN 2 (aX (ag [0] 2) (aX (ag [0] 3) bT)))) (aI (aF (a_ bA (eD (.int 1)) (ar (aD eO [.io 0,.val (aa 1)]))) (ag [0] 4)) (aI (aF (aD eO [.io 0,.val (eD (.int 26))]) (ag [0] 5)) (aI (aF (eD (.str [97,98,99,100,101,102,103,104,105,106,107,108,109,110,111,112,113,114,115,116,117,118,119,120,121,122])) (ag [0] 6)) (aI (aF (aT jT (ar (cI [13] (gj (aa 4)) (ag [0] 13) dH (aq aS 6 (ar (a_ fz (aq bA 5 (ar (a_ gU (eD (.int 5)) (ao 13)))) (ar (eD (.int 26))))))))) (ag [0] 7)) (aI (aF (aD eO [.io 0,.val (eD (.int 5))]) (ag [0] 8)) (aI (aF (hV cV) (ag [0] 9)) (aI (cW (gj (aa 4)) (ag [0] 10) (aI (aF (hV cV) (ag [0] 11)) (aI (cW (gj (aa 2)) (ag [0] 12) (c_ 11 (aT (di []) (ar (cI [14] (gj (aa 3)) (ag [0] 14) dH (aD iE [.io 0,.val (aa 7),.val (aa 10),.val (aa 8)])))))) (c_ 9 (e_ (cb (aq aS 7 (ao 10)) (cb (aT fc (ao 11)) cV))))))) (cB (e_ (cb (aa 2) (cb (aa 3) (cb (aT fc (ao 9)) cV)))))))))))))
def lg:DF:=bW [0] 15 xr
theorem OH:cJ lg:=dQ
theorem gu:cj ["pen","most","high","wide","size","first","letters","tiles","way","blocks","place","block","row","k","column"] ["pen","most"] (aV wZ):=scc
theorem OI {K:W2} (F:bM K "_law_rule_by" "_law_rule_by" wZ f fd) (hm:mg "_law_rule_by" = some (.ref f)) (hb:Binds K fd ["pen","most"] []) (T:Txt K mg) (fD:bU P w K mg base 2 "_law_draw" 2 eO) (xt:bU P w K mg base 3 "_law_sizes_by" 1 nQ) (xu:bU P w K mg base 3 "_law_pick" 4 iE):bU P w K mg base 4 "_law_rule_by" 2 lg :=
 gm (np:=[0]) (fb:=xr) F hm hb gu (λc aB A outer s H E hr aw=>by
  have hq:=dA hr;refine(@a0 _ _ _ _ _ _ ?_ ?_)
  ·refine(@rF _ _ _ _ _ _ _ ?_ ?_ (by rfl) (by rfl) (by rfl))
   ·exact(@cP _ _ _ _ _ (3) _ _ _ _ _ xt OB (hr.mono (by decide)) rfl (@ik _ _ _ _ _ _ (pv 0) (@b8 _ _) (by rfl)) rfl (by decide) (by rfl) (by rfl))
   ·exact(@kM _ _ _ _ _ _ _ rfl (@fA _ _ _ _ _ _ (@cO _ _ _ ([0]) (2) _ aw gu.nd rfl ah ah) (@fA _ _ _ _ _ _ (@cO _ _ _ ([0]) (3) _ aw gu.nd rfl ah ah) (@kL _ _) (by rfl)) (by rfl)) (by rfl) (by rfl))
  refine(@a0 _ _ _ _ _ _ ?_ ?_)
  ·exact(@bX _ _ _ _ _ _ ([0]) (4) _ aw gu.nd rfl ah (@dO _ _ _ _ _ _ _ _ _ _ gf gh (@aZ _ _ _ _ _) (@aO _ _ _ _ (@cP _ _ _ _ _ (2) _ _ _ _ _ fD jB (hr.mono (by decide)) rfl (@ik _ _ _ _ _ _ (pv 0) (@bD _ _ _ _ _ _ (@aK _ _ _ _ (pv 1)) (@b8 _ _) (by rfl)) (by rfl)) rfl (by decide) (by rfl) (by rfl)))) rfl ah)
  refine(@a0 _ _ _ _ _ _ ?_ ?_)
  ·exact(@bX _ _ _ _ _ _ ([0]) (5) _ aw gu.nd rfl ah (@cP _ _ _ _ _ (2) _ _ _ _ _ fD jB (hr.mono (by decide)) rfl (@ik _ _ _ _ _ _ (pv 0) (@bD _ _ _ _ _ _ (@aZ _ _ _ _ _) (@b8 _ _) (by rfl)) (by rfl)) rfl (by decide) (by rfl) (by rfl)) rfl ah)
  refine(@a0 _ _ _ _ _ _ ?_ ?_)
  ·exact(@bX _ _ _ _ _ _ ([0]) (6) _ aw gu.nd rfl ah (@Ah _ _ _ _ _ [97,98,99,100,101,102,103,104,105,106,107,108,109,110,111,112,113,114,115,116,117,118,119,120,121,122] (by decide +kernel)) rfl ah)
  refine(@a0 _ _ _ _ _ _ ?_ ?_)
  ·exact(@bX _ _ _ _ _ _ ([0]) (7) _ aw gu.nd rfl ah (@uX _ _ _ _ _ _ rfl T.la (@aO _ _ _ _ (@ic _ _ ([13]) _ _ _ _ _ _ _ _ _ _ rfl (@ij _ _ _ rfl rfl) (@pj _ _ _ _ _ _ _ rfl T.jA (@aK _ _ _ _ (pv 4)) (by rfl)) (λl s0 H0 ex=>(@fN _ _ _ _ ([0]) (13) _ aw gu.nd rfl ah ah (by decide))) (λl s0 H0 ex=>(@lX _ _)) (λl s0 H0 ex=>(@cy _ _ _ _ _ _ _ _ _ cZ c8 (pv 6) (@aO _ _ _ _ (@dO _ _ _ _ _ _ _ _ _ _ lB lQ (@kG _ _ _ _ _ _ _ _ _ _ gf gh (pv 5) (@aO _ _ _ _ (@dO _ _ _ _ _ _ _ _ _ _ vq vt (@aZ _ _ _ _ _) (@bG _ _ _ _ (pv 13))))) (@aO _ _ _ _ (@aZ _ _ _ _ _)))) (λ_ _=>rfl))) (ig aw rfl) (by intro _; rfl))) (by rfl)) rfl ah)
  refine(@a0 _ _ _ _ _ _ ?_ ?_)
  ·exact(@bX _ _ _ _ _ _ ([0]) (8) _ aw gu.nd rfl ah (@cP _ _ _ _ _ (2) _ _ _ _ _ fD jB (hr.mono (by decide)) rfl (@ik _ _ _ _ _ _ (pv 0) (@bD _ _ _ _ _ _ (@aZ _ _ _ _ _) (@b8 _ _) (by rfl)) (by rfl)) rfl (by decide) (by rfl) (by rfl)) rfl ah)
  refine(@a0 _ _ _ _ _ _ ?_ ?_)
  ·exact(@bX _ _ _ _ _ _ ([0]) (9) _ aw gu.nd rfl ah (@kI _ _ _ _ _ (@e9 _ _) (by decide)) rfl ah)
  refine(@a0 _ _ _ _ _ _ ?_ ?_)
  ·refine(@gk _ _ _ _ _ _ _ _ _ PassesOwn.never rfl ?_ ?_ ?_ (by intro _; rfl))
   ·exact(@pj _ _ _ _ _ _ _ rfl T.jA (@aK _ _ _ _ (pv 4)) (by rfl))
   ·exact(@cO _ _ _ ([0]) (10) _ aw gu.nd rfl ah ah)
   ·refine(@a0 _ _ _ _ _ _ ?_ ?_)
    ·exact(@bX _ _ _ _ _ _ ([0]) (11) _ aw gu.nd rfl ah (@kI _ _ _ _ _ (@e9 _ _) (by decide)) rfl ah)
    refine(@a0 _ _ _ _ _ _ ?_ ?_)
    ·refine(@gk _ _ _ _ _ _ _ _ _ PassesOwn.never rfl ?_ ?_ ?_ (by intro _; rfl))
     ·exact(@pj _ _ _ _ _ _ _ rfl T.jA (@aK _ _ _ _ (pv 2)) (by rfl))
     ·exact(@cO _ _ _ ([0]) (12) _ aw gu.nd rfl ah ah)
     ·refine(@bq _ _ _ _ ?_);exact(@nr _ _ _ _ _ _ _ _ _ (pv 11) (@pb _ _ _ _ _ _ _ _ _ [] (@aO _ _ _ _ (@ic _ _ ([14]) _ _ _ _ _ _ _ _ _ _ rfl (@ij _ _ _ rfl rfl) (@pj _ _ _ _ _ _ _ rfl T.jA (@aK _ _ _ _ (pv 3)) (by rfl)) (λl s0 H0 ex=>(@fN _ _ _ _ ([0]) (14) _ aw gu.nd rfl ah ah (by decide))) (λl s0 H0 ex=>(@lX _ _)) (λl s0 H0 ex=>(@cP _ _ _ _ _ (3) _ _ _ _ _ xu OE (hr.mono (by decide)) rfl (@ik _ _ _ _ _ _ (pv 0) (@bD _ _ _ _ _ _ (@aK _ _ _ _ (pv 7)) (@bD _ _ _ _ _ _ (@aK _ _ _ _ (pv 10)) (@bD _ _ _ _ _ _ (@aK _ _ _ _ (pv 8)) (@b8 _ _) (by rfl)) (by rfl)) (by rfl)) (by rfl)) rfl (by decide) (by rfl) (by rfl))) (ig aw rfl) (by intro _; rfl))) (by decide +kernel) (by rfl) (by rfl) (by rfl) (by rfl)) (by rfl) (by rfl) (by rfl) (by rfl) (by rfl))
    refine(@bq _ _ _ _ ?_);exact(@nr _ _ _ _ _ _ _ _ _ (pv 9) (@jk _ _ _ _ _ _ (@dR _ _ _ _ _ _ (@cy _ _ _ _ _ _ _ _ _ cZ c8 (pv 7) (@bG _ _ _ _ (pv 10)) (λ_ _=>rfl)) (@dR _ _ _ _ _ _ (@rB _ _ _ _ _ _ rfl T.j9 (@bG _ _ _ _ (pv 11)) (by rfl)) (@e9 _ _) (by rfl)) (by rfl)) (by decide)) (by rfl) (by rfl) (by rfl) (by rfl) (by rfl))
  refine(@bq _ _ _ _ ?_);refine(@c9 _ _ _ _ _ ?_);exact(@jk _ _ _ _ _ _ (@dR _ _ _ _ _ _ (@aK _ _ _ _ (pv 2)) (@dR _ _ _ _ _ _ (@aK _ _ _ _ (pv 3)) (@dR _ _ _ _ _ _ (@rB _ _ _ _ _ _ rfl T.j9 (@bG _ _ _ _ (pv 9)) (by rfl)) (@e9 _ _) (by rfl)) (by rfl)) (by rfl)) (by decide))) λss y h=>dI h
def xw:DS:=(aI (aF (rC (aa 0) (a_ uQ (eD (.int 0)) (ao 0))) (ag [] 1)) (cB (hV (cb (aa 1) (cb (aT mZ (ar (aq AL 1 (ar (a_ uS (eD (.int 10)) (ar (eD (.int 18)))))))) (cb (aq fz 1 (ar (eD (.int 1000003)))) cV))))))
def my:DF:=bW [] 2 xw
theorem OJ:cJ my:=dQ
theorem Dh:cj ["cell","left"] ["cell"] (aV w4):=scc
theorem OK {K:W2} (F:bM K "_law_pen_of" "_law_pen_of" w4 f fd) (hm:mg "_law_pen_of" = some (.ref f)) (hb:Binds K fd ["cell"] []) (T:Txt K mg):bU P w K mg base 1 "_law_pen_of" 1 my :=
 gm (np:=[]) (fb:=xw) F hm hb Dh (λc aB A outer s H E hr aw=>by
  have hq:=dA hr;refine(@a0 _ _ _ _ _ _ ?_ ?_)
  ·exact(@bX _ _ _ _ _ _ ([]) (1) _ aw Dh.nd rfl ah (@IM _ _ _ _ _ _ _ _ rfl rfl T.pX (@aK _ _ _ _ (pv 0)) (@dO _ _ _ _ _ _ _ _ _ _ Fz Iu (@aZ _ _ _ _ _) (@bG _ _ _ _ (pv 0))) (by rfl) (by rfl) (by rfl)) rfl ah)
  refine(@bq _ _ _ _ ?_);refine(@c9 _ _ _ _ _ ?_);exact(@kI _ _ _ _ _ (@dR _ _ _ _ _ _ (@aK _ _ _ _ (pv 1)) (@dR _ _ _ _ _ _ (@IJ _ _ _ _ _ _ rfl T.pW (@aO _ _ _ _ (@Ik _ _ _ _ _ _ _ _ _ _ ID uT (pv 1) (@aO _ _ _ _ (@dO _ _ _ _ _ _ _ _ _ _ FD Iz (@aZ _ _ _ _ _) (@aO _ _ _ _ (@aZ _ _ _ _ _)))) (fU _))) (by rfl)) (@dR _ _ _ _ _ _ (@kG _ _ _ _ _ _ _ _ _ _ lB lQ (pv 1) (@aO _ _ _ _ (@aZ _ _ _ _ _))) (@e9 _ _) (by rfl)) (by rfl)) (by rfl)) (by decide))) λss y h=>dI h
def xx:DS:=(aI (aF (aT iV (ar (aq aS 0 (ar (eD (.int 2)))))) (ag [] 2)) (aI (aF jX (ag [] 3)) (aI (cW (bu (aa 1)) (ag [] 4) (cW (bu (aT (di []) (ar (aq dm 2 (ao 4))))) (ag [] 5) (eJ 3 (aa 5) (eD (.bl true))))) (cB (aT jT (ar (aT j4 (ao 3))))))))
def j_:DF:=bW [] 6 xx
theorem OL:cJ j_:=dQ
theorem p8:cj ["rule","some","blocks","found","tile","sign"] ["rule","some"] (aV w6):=scc
theorem OM {K:W2} (F:bM K "_law_next_tiles" "_law_next_tiles" w6 f fd) (hm:mg "_law_next_tiles" = some (.ref f)) (hb:Binds K fd ["rule","some"] []) (T:Txt K mg):bU P w K mg base 1 "_law_next_tiles" 2 j_ :=
 gm (np:=[]) (fb:=xx) F hm hb p8 (λc aB A outer s H E hr aw=>by
  have hq:=dA hr;refine(@a0 _ _ _ _ _ _ ?_ ?_)
  ·exact(@bX _ _ _ _ _ _ ([]) (2) _ aw p8.nd rfl ah (@vA _ _ _ _ _ _ rfl rfl T.mr (@aO _ _ _ _ (@cy _ _ _ _ _ _ _ _ _ cZ c8 (pv 0) (@aO _ _ _ _ (@aZ _ _ _ _ _)) (λ_ _=>rfl))) (by rfl)) rfl ah)
  refine(@a0 _ _ _ _ _ _ ?_ ?_)
  ·exact(@bX _ _ _ _ _ _ ([]) (3) _ aw p8.nd rfl ah (@rV _ _ _) rfl ah)
  refine(@a0 _ _ _ _ _ _ ?_ ?_)
  ·refine(@gk _ _ _ _ _ _ _ _ _ PassesOwn.never rfl ?_ ?_ ?_ (by intro _; rfl))
   ·exact(@eF _ _ _ _ _ (@aK _ _ _ _ (pv 1)))
   ·exact(@cO _ _ _ ([]) (4) _ aw p8.nd rfl ah ah)
   ·refine(@bq _ _ _ _ ?_);refine(@gk _ _ _ _ _ _ _ _ _ PassesOwn.never rfl ?_ ?_ ?_ (by intro _; rfl))
    ·exact(@eF _ _ _ _ _ (@pb _ _ _ _ _ _ _ _ _ [] (@aO _ _ _ _ (@cy _ _ _ _ _ _ _ _ _ (nB hq) ny (pv 2) (@bG _ _ _ _ (pv 4)) (λ_ _=>rfl))) (by decide +kernel) (by rfl) (by rfl) (by rfl) (by rfl)))
    ·exact(@cO _ _ _ ([]) (5) _ aw p8.nd rfl ah ah)
    ·refine(@bq _ _ _ _ ?_);exact(@se _ _ _ _ _ _ _ _ _ _ hq (pv 3) (@aK _ _ _ _ (pv 5)) (@oR _ _ _ _ _) (by rfl))
  refine(@bq _ _ _ _ ?_);refine(@c9 _ _ _ _ _ ?_);exact(@uX _ _ _ _ _ _ rfl T.la (@aO _ _ _ _ (wo rfl rfl T.jz (@bG _ _ _ _ (pv 3)))) (by rfl))) λss y h=>dI h
def xy:DS:=(aI (aF (hV (cb (aa 1) cV)) (ag [] 2)) (aI (aF (md (aa 1) (eD (.int 0))) (ag [] 3)) (aI (cW (pI (eD (.int 1)) (a_ bA (aT cu (ar (aq aS 0 (ar (eD (.int 2)))))) (ar (eD (.int 1))))) (ag [] 4) (aI (aF (aD j_ [.val (aa 0),.val (aa 2)]) (ag [] 2)) (cW (bu (aa 2)) (ag [] 5) (dG (aH (a_ (dU true) (aa 5) (ao 3))) (eJ 3 (aa 5) (aa 4)) dP)))) (kY [] 3))))
def mz:DF:=bW [] 6 xy
theorem ON:cJ mz:=dQ
theorem nS:cj ["rule","tile","now","found","often","other"] ["rule","tile"] (aV w8):=scc
theorem OO {K:W2} (F:bM K "_law_first_after" "_law_first_after" w8 f fd) (hm:mg "_law_first_after" = some (.ref f)) (hb:Binds K fd ["rule","tile"] []) (T:Txt K mg) (xA:bU P w K mg base 1 "_law_next_tiles" 2 j_):bU P w K mg base 2 "_law_first_after" 2 mz :=
 gm (np:=[]) (fb:=xy) F hm hb nS (λc aB A outer s H E hr aw=>by
  have hq:=dA hr;refine(@a0 _ _ _ _ _ _ ?_ ?_)
  ·exact(@bX _ _ _ _ _ _ ([]) (2) _ aw nS.nd rfl ah (@kI _ _ _ _ _ (@dR _ _ _ _ _ _ (@aK _ _ _ _ (pv 1)) (@e9 _ _) (by rfl)) (by decide)) rfl ah)
  refine(@a0 _ _ _ _ _ _ ?_ ?_)
  ·exact(@bX _ _ _ _ _ _ ([]) (3) _ aw nS.nd rfl ah (@B2 _ _ _ _ _ _ _ (λc=>(@aK _ _ _ _ (pv 1))) (λc=>(@aZ _ _ _ _ _))) rfl ah)
  refine(@a0 _ _ _ _ _ _ ?_ ?_)
  ·refine(@gk _ _ _ _ _ _ _ _ _ PassesOwn.never rfl ?_ ?_ ?_ (by intro _; rfl))
   ·exact(@LV _ _ _ _ _ _ _ _ _ rfl T.jA (@aZ _ _ _ _ _) (@dO _ _ _ _ _ _ _ _ _ _ gf gh (@lR _ _ _ _ _ _ rfl T.iX (@aO _ _ _ _ (@cy _ _ _ _ _ _ _ _ _ cZ c8 (pv 0) (@aO _ _ _ _ (@aZ _ _ _ _ _)) (λ_ _=>rfl))) (by rfl)) (@aO _ _ _ _ (@aZ _ _ _ _ _))) (by rfl) (by rfl) (by rfl))
   ·exact(@cO _ _ _ ([]) (4) _ aw nS.nd rfl ah ah)
   ·refine(@a0 _ _ _ _ _ _ ?_ ?_)
    ·exact(@bX _ _ _ _ _ _ ([]) (2) _ aw nS.nd rfl ah (@cP _ _ _ _ _ (1) _ _ _ _ _ xA OL (hr.mono (by decide)) rfl (@bD _ _ _ _ _ _ (@aK _ _ _ _ (pv 0)) (@bD _ _ _ _ _ _ (@aK _ _ _ _ (pv 2)) (@b8 _ _) (by rfl)) (by rfl)) rfl (by decide) (by rfl) (by rfl)) rfl ah)
    refine(@bq _ _ _ _ ?_);refine(@gk _ _ _ _ _ _ _ _ _ PassesOwn.never rfl ?_ ?_ ?_ (by intro _; rfl))
    ·exact(@eF _ _ _ _ _ (@aK _ _ _ _ (pv 2)))
    ·exact(@cO _ _ _ ([]) (5) _ aw nS.nd rfl ah ah)
    ·refine(@bq _ _ _ _ ?_);refine(@gM _ _ _ _ _ _ _ _ _ ?_ ?_ ?_)
     ·exact(@gc _ _ _ _ _ _ _ _ _ _ (@vD _ hq) (@rZ _ true) (@aK _ _ _ _ (pv 5)) (@bG _ _ _ _ (pv 3)) rfl)
     ·refine(@bq _ _ _ _ ?_);exact(@se _ _ _ _ _ _ _ _ _ _ hq (pv 3) (@aK _ _ _ _ (pv 5)) (@aK _ _ _ _ (pv 4)) (by rfl))
     ·exact gL
  refine(@bq _ _ _ _ ?_);exact(@vK _ _ _ _ _ _ aw (pv 3))) λss y h=>dI h
def xB:DS:=(aI (aF jX (ag [] 1)) (aI (cW (bu (aq aS 0 (ar (eD (.int 2))))) (bN 2 (aX (ag [] 2) (aX (ag [] 3) bT))) (eJ 1 (aa 2) (aT jT (ar (aT j4 (ar (aD mz [.val (aa 0),.val (aa 2)]))))))) (aI (aF (hV cV) (ag [] 4)) (aI (cW (bu (aq aS 0 (ar (eD (.int 2))))) (bN 2 (aX (ag [] 2) (aX (ag [] 3) bT))) (aI (aF (aT fc (ar (cI [6] (bu (aq dm 1 (ao 2))) (ag [] 6) (aH (a_ (gY false) (aa 2) (ar (aq dm 1 (ao 6))))) (aa 6)))) (ag [] 5)) (dG (aH (a_ (gY true) (aa 5) (ao 4))) (c_ 4 (aa 5)) dP))) (cB (e_ (cb (aa 4) (cb (cI [5] (bu (aa 4)) (ag [] 5) (aH (a_ bQ (aq dm 1 (ar (aq aS 5 (ar (eD (.int 0)))))) (ar (aT nu (ao 5))))) (aa 5)) cV))))))))
def mB:DF:=bW [] 7 xB
theorem OP:cJ mB:=dQ
theorem jC:cj ["rule","come","tile","block","found","group","other"] ["rule"] (aV w_):=scc
theorem OQ {K:W2} (F:bM K "_law_groups" "_law_groups" w_ f fd) (hm:mg "_law_groups" = some (.ref f)) (hb:Binds K fd ["rule"] []) (T:Txt K mg) (xC:bU P w K mg base 2 "_law_first_after" 2 mz):bU P w K mg base 3 "_law_groups" 1 mB :=
 gm (np:=[]) (fb:=xB) F hm hb jC (λc aB A outer s H E hr aw=>by
  have hq:=dA hr;refine(@a0 _ _ _ _ _ _ ?_ ?_)
  ·exact(@bX _ _ _ _ _ _ ([]) (1) _ aw jC.nd rfl ah (@rV _ _ _) rfl ah)
  refine(@a0 _ _ _ _ _ _ ?_ ?_)
  ·refine(@gk _ _ _ _ _ _ _ _ _ PassesOwn.never rfl ?_ ?_ ?_ (by intro _; rfl))
   ·exact(@eF _ _ _ _ _ (@cy _ _ _ _ _ _ _ _ _ cZ c8 (pv 0) (@aO _ _ _ _ (@aZ _ _ _ _ _)) (λ_ _=>rfl)))
   ·exact(@kM _ _ _ _ _ _ _ rfl (@fA _ _ _ _ _ _ (@cO _ _ _ ([]) (2) _ aw jC.nd rfl ah ah) (@fA _ _ _ _ _ _ (@cO _ _ _ ([]) (3) _ aw jC.nd rfl ah ah) (@kL _ _) (by rfl)) (by rfl)) (by rfl) (by rfl))
   ·refine(@bq _ _ _ _ ?_);exact(@se _ _ _ _ _ _ _ _ _ _ hq (pv 1) (@aK _ _ _ _ (pv 2)) (@uX _ _ _ _ _ _ rfl T.la (@aO _ _ _ _ (wo rfl rfl T.jz (@aO _ _ _ _ (@cP _ _ _ _ _ (2) _ _ _ _ _ xC ON (hr.mono (by decide)) rfl (@bD _ _ _ _ _ _ (@aK _ _ _ _ (pv 0)) (@bD _ _ _ _ _ _ (@aK _ _ _ _ (pv 2)) (@b8 _ _) (by rfl)) (by rfl)) rfl (by decide) (by rfl) (by rfl))))) (by rfl)) (by rfl))
  refine(@a0 _ _ _ _ _ _ ?_ ?_)
  ·exact(@bX _ _ _ _ _ _ ([]) (4) _ aw jC.nd rfl ah (@kI _ _ _ _ _ (@e9 _ _) (by decide)) rfl ah)
  refine(@a0 _ _ _ _ _ _ ?_ ?_)
  ·refine(@gk _ _ _ _ _ _ _ _ _ PassesOwn.never rfl ?_ ?_ ?_ (by intro _; rfl))
   ·exact(@eF _ _ _ _ _ (@cy _ _ _ _ _ _ _ _ _ cZ c8 (pv 0) (@aO _ _ _ _ (@aZ _ _ _ _ _)) (λ_ _=>rfl)))
   ·exact(@kM _ _ _ _ _ _ _ rfl (@fA _ _ _ _ _ _ (@cO _ _ _ ([]) (2) _ aw jC.nd rfl ah ah) (@fA _ _ _ _ _ _ (@cO _ _ _ ([]) (3) _ aw jC.nd rfl ah ah) (@kL _ _) (by rfl)) (by rfl)) (by rfl) (by rfl))
   ·refine(@a0 _ _ _ _ _ _ ?_ ?_)
    ·exact(@bX _ _ _ _ _ _ ([]) (5) _ aw jC.nd rfl ah (@rB _ _ _ _ _ _ rfl T.j9 (@aO _ _ _ _ (@ic _ _ ([6]) _ _ _ _ _ _ _ _ _ _ rfl (@ij _ _ _ rfl rfl) (@eF _ _ _ _ _ (@cy _ _ _ _ _ _ _ _ _ (nB hq) ny (pv 1) (@bG _ _ _ _ (pv 2)) (λ_ _=>rfl))) (λl s0 H0 ex=>(@fN _ _ _ _ ([]) (6) _ aw jC.nd rfl ah ah (by decide))) (λl s0 H0 ex=>(@pk _ _ _ _ (@gc _ _ _ _ _ _ _ _ _ _ (NA hq) (CO false) (@aK _ _ _ _ (pv 2)) (@aO _ _ _ _ (@cy _ _ _ _ _ _ _ _ _ (nB hq) ny (pv 1) (@bG _ _ _ _ (pv 6)) (λ_ _=>rfl))) rfl))) (λl s0 H0 ex=>(@aK _ _ _ _ (pv 6))) (ig aw rfl) (by intro _; rfl))) (by rfl)) rfl ah)
    refine(@bq _ _ _ _ ?_);refine(@gM _ _ _ _ _ _ _ _ _ ?_ ?_ ?_)
    ·exact(@gc _ _ _ _ _ _ _ _ _ _ (NB hq) (CO true) (@aK _ _ _ _ (pv 5)) (@bG _ _ _ _ (pv 4)) rfl)
    ·refine(@bq _ _ _ _ ?_);exact(@nr _ _ _ _ _ _ _ _ _ (pv 4) (@aK _ _ _ _ (pv 5)) (by rfl) (by rfl) (by rfl) (by rfl) (by rfl))
    ·exact gL
  refine(@bq _ _ _ _ ?_);refine(@c9 _ _ _ _ _ ?_);exact(@jk _ _ _ _ _ _ (@dR _ _ _ _ _ _ (@aK _ _ _ _ (pv 4)) (@dR _ _ _ _ _ _ (@ic _ _ ([5]) _ _ _ _ _ _ _ _ _ _ rfl (@ij _ _ _ rfl rfl) (@eF _ _ _ _ _ (@aK _ _ _ _ (pv 4))) (λl s0 H0 ex=>(@fN _ _ _ _ ([]) (5) _ aw jC.nd rfl ah ah (by decide))) (λl s0 H0 ex=>(@pk _ _ _ _ (@gc _ _ _ _ _ _ _ _ _ _ (jP hq) jR (@cy _ _ _ _ _ _ _ _ _ (nB hq) ny (pv 1) (@aO _ _ _ _ (@cy _ _ _ _ _ _ _ _ _ cZ c8 (pv 5) (@aO _ _ _ _ (@aZ _ _ _ _ _)) (λ_ _=>rfl))) (λ_ _=>rfl)) (@aO _ _ _ _ (@K8 _ _ _ _ _ _ rfl rfl T.jz (@bG _ _ _ _ (pv 5)) (by rfl))) (fU _)))) (λl s0 H0 ex=>(@aK _ _ _ _ (pv 5))) (ig aw rfl) (by intro _; rfl)) (@e9 _ _) (by rfl)) (by rfl)) (by decide))) λss y h=>dI h
def xD:DS:=(aI (aF (hV cV) (ag [] 1)) (aI (cW (pT (aa 0)) (bN 2 (aX (ag [] 2) (aX (ag [] 3) bT))) (aI (aF (aT fc (ar (cI [5] (bu (aa 3)) (ag [] 5) (aH (a_ (dU false) (aa 2) (ar (aq iC 0 (ao 5))))) (aa 5)))) (ag [] 4)) (dG (aH (a_ bQ (aq aS 4 (ar (eD (.int 0)))) (ao 2))) (c_ 1 (aa 4)) dP))) (kY [] 1)))
def ka:DF:=bW [] 6 xD
theorem Di:cJ ka:=dQ
theorem nU:cj ["coming","groups","tile","others","group","other"] ["coming"] (aV xa):=scc
theorem OR {K:W2} (F:bM K "groups_among" "groups_among" xa f fd) (hm:mg "groups_among" = some (.ref f)) (hb:Binds K fd ["coming"] []) (T:Txt K mg):bU P w K mg base 1 "groups_among" 1 ka :=
 gm (np:=[]) (fb:=xD) F hm hb nU (λc aB A outer s H E hr aw=>by
  have hq:=dA hr;refine(@a0 _ _ _ _ _ _ ?_ ?_)
  ·exact(@bX _ _ _ _ _ _ ([]) (1) _ aw nU.nd rfl ah (@kI _ _ _ _ _ (@e9 _ _) (by decide)) rfl ah)
  refine(@a0 _ _ _ _ _ _ ?_ ?_)
  ·refine(@gk _ _ _ _ _ _ _ _ _ PassesOwn.never rfl ?_ ?_ ?_ (by intro _; rfl))
   ·exact(Ov (@aK _ _ _ _ (pv 0)))
   ·exact(@kM _ _ _ _ _ _ _ rfl (@fA _ _ _ _ _ _ (@cO _ _ _ ([]) (2) _ aw nU.nd rfl ah ah) (@fA _ _ _ _ _ _ (@cO _ _ _ ([]) (3) _ aw nU.nd rfl ah ah) (@kL _ _) (by rfl)) (by rfl)) (by rfl) (by rfl))
   ·refine(@a0 _ _ _ _ _ _ ?_ ?_)
    ·exact(@bX _ _ _ _ _ _ ([]) (4) _ aw nU.nd rfl ah (@rB _ _ _ _ _ _ rfl T.j9 (@aO _ _ _ _ (@ic _ _ ([5]) _ _ _ _ _ _ _ _ _ _ rfl (@ij _ _ _ rfl rfl) (@eF _ _ _ _ _ (@aK _ _ _ _ (pv 3))) (λl s0 H0 ex=>(@fN _ _ _ _ ([]) (5) _ aw nU.nd rfl ah ah (by decide))) (λl s0 H0 ex=>(@pk _ _ _ _ (@gc _ _ _ _ _ _ _ _ _ _ (@Lm _ hq) (@rZ _ false) (@aK _ _ _ _ (pv 2)) (@aO _ _ _ _ (@cy _ _ _ _ _ _ _ _ _ (C_ hq) Dc (pv 0) (@bG _ _ _ _ (pv 5)) (λ_ _=>rfl))) rfl))) (λl s0 H0 ex=>(@aK _ _ _ _ (pv 5))) (ig aw rfl) (by intro _; rfl))) (by rfl)) rfl ah)
    refine(@bq _ _ _ _ ?_);refine(@gM _ _ _ _ _ _ _ _ _ ?_ ?_ ?_)
    ·exact(@gc _ _ _ _ _ _ _ _ _ _ (jP hq) jR (@cy _ _ _ _ _ _ _ _ _ cZ c8 (pv 4) (@aO _ _ _ _ (@aZ _ _ _ _ _)) (λ_ _=>rfl)) (@bG _ _ _ _ (pv 2)) (fU _))
    ·refine(@bq _ _ _ _ ?_);exact(@nr _ _ _ _ _ _ _ _ _ (pv 1) (@aK _ _ _ _ (pv 4)) (by rfl) (by rfl) (by rfl) (by rfl) (by rfl))
    ·exact gL
  refine(@bq _ _ _ _ ?_);exact(@vK _ _ _ _ _ _ aw (pv 1))) λss y h=>dI h
def xE:DS:=(cB (cI [1,2] (bu (aq aS 0 (ar (eD (.int 2))))) (bN 2 (aX (ag [] 1) (aX (ag [] 2) bT))) dH (aa 1)))
def jD:DF:=bW [] 3 xE
theorem Dj:cJ jD:=dQ
theorem xF:cj ["rule","tile","block"] ["rule"] (aV xb):=scc
theorem OS {K:W2} (F:bM K "rule_tiles" "rule_tiles" xb f fd) (hm:mg "rule_tiles" = some (.ref f)) (hb:Binds K fd ["rule"] []) (T:Txt K mg):bU P w K mg base 1 "rule_tiles" 1 jD :=
 gm (np:=[]) (fb:=xE) F hm hb xF (λc aB A outer s H E hr aw=>by
  have hq:=dA hr;refine(@bq _ _ _ _ ?_);refine(@c9 _ _ _ _ _ ?_);exact(@ic _ _ ([1,2]) _ _ _ _ _ _ _ _ _ _ rfl (@ij _ _ _ rfl rfl) (@eF _ _ _ _ _ (@cy _ _ _ _ _ _ _ _ _ cZ c8 (pv 0) (@aO _ _ _ _ (@aZ _ _ _ _ _)) (λ_ _=>rfl))) (λl s0 H0 ex=>(@u9 _ _ _ _ _ _ _ _ rfl (@ni _ _ _ _ _ _ _ (@fN _ _ _ _ ([]) (1) _ aw xF.nd rfl ah ah (by decide)) (@ni _ _ _ _ _ _ _ (@fN _ _ _ _ ([]) (2) _ aw xF.nd rfl ah ah (by decide)) (@u7 _ _ _) (by rfl)) (by rfl)) (by rfl) (by rfl))) (λl s0 H0 ex=>(@lX _ _)) (λl s0 H0 ex=>(@aK _ _ _ _ (pv 1))) (ig aw rfl) (by intro _; rfl))) λss y h=>dI h
def xG:DS:=(dG (jh (ji (aH (gJ "str" (ao 1)))) (aH (a_ (dU true) (aa 1) (ar (aT iV (ar (aq aS 0 (ar (eD (.int 2)))))))))) AW dP)
def nV:DF:=bW [] 2 xG
theorem OT:cJ nV:=dQ
theorem OU:cj ["rule","thing"] ["rule","thing"] (aV xf):=scc
theorem OV {K:W2} (F:bM K "refuse_no_tile" "refuse_no_tile" xf f fd) (hm:mg "refuse_no_tile" = some (.ref f)) (hb:Binds K fd ["rule","thing"] []) (T:Txt K mg):bU P w K mg base 1 "refuse_no_tile" 2 nV :=
 gm (np:=[]) (fb:=xG) F hm hb OU (λc aB A outer s H E hr aw=>by
  have hq:=dA hr;refine(@bq _ _ _ _ ?_);refine(@gM _ _ _ _ _ _ _ _ _ ?_ ?_ ?_)
  ·exact(@uP _ _ _ _ (@rh _ _ _ _ _ _ _ _ (@rj _ _ _ _ _ (@q_ _ _ _ _ (@rD _ _ _ _ _ _ _ _ _ T.ty_str rfl T.k_ rfl T.pZ boot_str (@bG _ _ _ _ (pv 1)) (by decide) (by decide) (by rfl) (by rfl)) (by intro _; rfl))) (@AF _ _ _ _ _ (@gc _ _ _ _ _ _ _ _ _ _ (@vD _ hq) (@rZ _ true) (@aK _ _ _ _ (pv 1)) (@aO _ _ _ _ (@vA _ _ _ _ _ _ rfl rfl T.mr (@aO _ _ _ _ (@cy _ _ _ _ _ _ _ _ _ cZ c8 (pv 0) (@aO _ _ _ _ (@aZ _ _ _ _ _)) (λ_ _=>rfl))) (by rfl))) rfl))))
  ·refine(@bq _ _ _ _ ?_);exact(@Kd _ _ _)
  ·exact gL) λss y h=>dI h
def xH:DS:=(cB (aT (di []) (ar (aT nH (ar (aT (di []) (ar (cI [2] (bu (aa 1)) (ag [] 2) dH (aq dm 0 (ao 2))))))))))
def iY:DF:=bW [] 3 xH
theorem Dk:cJ iY:=dQ
theorem Dm:cj ["text_of","tiles","tile"] ["text_of","tiles"] (aV xg):=scc
theorem OW {K:W2} (F:bM K "tiles_grown" "tiles_grown" xg f fd) (hm:mg "tiles_grown" = some (.ref f)) (hb:Binds K fd ["text_of","tiles"] []) (T:Txt K mg):bU P w K mg base 1 "tiles_grown" 2 iY :=
 gm (np:=[]) (fb:=xH) F hm hb Dm (λc aB A outer s H E hr aw=>by
  have hq:=dA hr;refine(@bq _ _ _ _ ?_);refine(@c9 _ _ _ _ _ ?_);exact(@pb _ _ _ _ _ _ _ _ _ [] (@aO _ _ _ _ (MU rfl rfl T.la rfl T.pY (@aO _ _ _ _ (@pb _ _ _ _ _ _ _ _ _ [] (@aO _ _ _ _ (@ic _ _ ([2]) _ _ _ _ _ _ _ _ _ _ rfl (@ij _ _ _ rfl rfl) (@eF _ _ _ _ _ (@aK _ _ _ _ (pv 1))) (λl s0 H0 ex=>(@fN _ _ _ _ ([]) (2) _ aw Dm.nd rfl ah ah (by decide))) (λl s0 H0 ex=>(@lX _ _)) (λl s0 H0 ex=>(@cy _ _ _ _ _ _ _ _ _ (nB hq) ny (pv 0) (@bG _ _ _ _ (pv 2)) (λ_ _=>rfl))) (ig aw rfl) (by intro _; rfl))) (by decide +kernel) (by rfl) (by rfl) (by rfl) (by rfl))))) (by decide +kernel) (by rfl) (by rfl) (by rfl) (by rfl))) λss y h=>dI h
theorem sL:cj ["first","step","number_of","here"] ["first","step"] (aV xh):=scc
theorem OX {K:W2} (F:bM K "walked" "walked" xh f fd) (hm:mg "walked" = some (.ref f)) (hb:Binds K fd ["first","step"] []) (T:Txt K mg):wz P w K mg base 2 "walked" 4 sF :=
 ⟨f,fd,_,_,_,["first","step","number_of","here"],rfl,hm,F.kp,hb,rfl,Nc F sL rfl (λc aB A outer s H E fa Fn hr aw wx=>by
  have hq:=dA hr;refine(@a0 _ _ _ _ _ _ ?_ ?_)
  ·exact(@bX _ _ _ _ _ _ ([]) (2) _ aw sL.nd rfl ah (@rV _ _ _) rfl ah)
  refine(@a0 _ _ _ _ _ _ ?_ ?_)
  ·exact(@bX _ _ _ _ _ _ ([]) (3) _ aw sL.nd rfl ah (@aK _ _ _ _ (pv 0)) rfl ah)
  refine(@a0 _ _ _ _ _ _ ?_ ?_)
  ·refine(@Kl _ _ _ _ _ _ _ 1000000 (λh1 h2=>Fj PassesOwn.never h1 h2) ?_ ?_)
   ·exact(@gc _ _ _ _ _ _ _ _ _ _ (@vD _ hq) (@rZ _ true) (@aK _ _ _ _ (pv 3)) (@bG _ _ _ _ (pv 2)) rfl)
   ·refine(@a0 _ _ _ _ _ _ ?_ ?_)
    ·exact(@se _ _ _ _ _ _ _ _ _ _ hq (pv 2) (@aK _ _ _ _ (pv 3)) (@lR _ _ _ _ _ _ rfl T.iX (@bG _ _ _ _ (pv 2)) (by rfl)) (by rfl))
    refine(@bq _ _ _ _ ?_);exact(@bX _ _ _ _ _ _ ([]) (3) _ aw sL.nd rfl ah (M8 wx (pv 1) (@aK _ _ _ _ (pv 3))) rfl ah)
  refine(@bq _ _ _ _ ?_);refine(@c9 _ _ _ _ _ ?_);exact(@jk _ _ _ _ _ _ (@dR _ _ _ _ _ _ (wo rfl rfl T.jz (@bG _ _ _ _ (pv 2))) (@dR _ _ _ _ _ _ (@cy _ _ _ _ _ _ _ _ _ (nB hq) ny (pv 2) (@bG _ _ _ _ (pv 3)) (λ_ _=>rfl)) (@e9 _ _) (by rfl)) (by rfl)) (by decide)))⟩
def xI:DS:=(aI (aF (aT iV (ar (cI [3,4] (bu (aq aS 0 (ar (eD (.int 2))))) (bN 2 (aX (ag [] 3) (aX (ag [] 4) bT))) dH (e_ (cb (aa 3) (cb (aD iY [.val (md (aa 3) (aT (di []) (ao 4))),.val (aa 3)]) cV)))))) (ag [] 2)) (cB (sE (aa 1) [2] (aD iY [.val (aa 1),.val (aa 0)]) pP)))
def nW:DF:=bW [] 5 xI
theorem OY:cJ nW:=dQ
theorem sM:cj ["rule","tile","text_of","own","block"] ["rule","tile"] (aV jy):=scc
theorem OZ {K:W2} {cS p9:Addr} (F:bM K "tile_sets" "tile_sets" jy f fd) (hm:mg "tile_sets" = some (.ref f)) (hb:Binds K fd ["rule","tile"] []) (T:Txt K mg) (O0:∃ oc od kV doc pm an ct dD,K.lookup f=some ⟨oc,od,.func (Q4 "tile_sets" "tile_sets" (fX jy) (du jy) (aV jy) .none kV doc pm an (.ref p9) ct),dD⟩) (dT:Jd K p9 cS=true) (gT:Wt≠cS) (tT:base.BuiltinsAt mg cS) (sN:bU P w K mg base 1 "tiles_grown" 2 iY) (xJ:wz P w K mg base 2 "walked" 4 sF):gX P w K mg base [(cS,gq,gr)] 4 "tile_sets" 2 nW :=
 pQ (np:=[]) (fb:=xI) F hm hb sM (λc aB A outer s H E hr aw ft fP=>by
  have hq:=dA hr;refine(@a0 _ _ _ _ _ _ ?_ ?_)
  ·exact(@bX _ _ _ _ _ _ ([]) (2) _ aw sM.nd rfl ah (@vA _ _ _ _ _ _ rfl rfl T.mr (@aO _ _ _ _ (@ic _ _ ([3,4]) _ _ _ _ _ _ _ _ _ _ rfl (@ij _ _ _ rfl rfl) (@eF _ _ _ _ _ (@cy _ _ _ _ _ _ _ _ _ cZ c8 (pv 0) (@aO _ _ _ _ (@aZ _ _ _ _ _)) (λ_ _=>rfl))) (λl s0 H0 ex=>(@u9 _ _ _ _ _ _ _ _ rfl (@ni _ _ _ _ _ _ _ (@fN _ _ _ _ ([]) (3) _ aw sM.nd rfl ah ah (by decide)) (@ni _ _ _ _ _ _ _ (@fN _ _ _ _ ([]) (4) _ aw sM.nd rfl ah ah (by decide)) (@u7 _ _ _) (by rfl)) (by rfl)) (by rfl) (by rfl))) (λl s0 H0 ex=>(@lX _ _)) (λl s0 H0 ex=>(@jk _ _ _ _ _ _ (@dR _ _ _ _ _ _ (@aK _ _ _ _ (pv 3)) (@dR _ _ _ _ _ _ (@cP _ _ _ _ _ (1) _ _ _ _ _ sN Dk (hr.mono (by decide)) rfl (@bD _ _ _ _ _ _ (@B2 _ _ _ _ _ _ _ (λc=>(@aK _ _ _ _ (pv 3))) (λc=>(@pb _ _ _ _ _ _ _ _ _ [] (@bG _ _ _ _ (pv 4)) (by decide +kernel) (by rfl) (by rfl) (by rfl) (by rfl)))) (@bD _ _ _ _ _ _ (@aK _ _ _ _ (pv 3)) (@b8 _ _) (by rfl)) (by rfl)) rfl (by decide) (by rfl) (by rfl)) (@e9 _ _) (by rfl)) (by rfl)) (by decide))) (ig aw rfl) (by intro _; rfl))) (by rfl)) rfl ah)
  refine(@bq _ _ _ _ ?_);refine(@c9 _ _ _ _ _ ?_);exact(Ng (P:=cS) (kl:=1) (kw:=2) (fr:=["text_of"]) (js:=[2]) (p:="tiles") xJ Nu ft Wi (hr.mono (by decide)) (by decide) rfl (@aK _ _ _ _ (pv 1)) (λ_=>rfl) rfl rfl (Nv fP O0) dT gT tT (Nd (L7 rfl)) Nf rfl (λi x j e1 e2=>by rcases i with _ | i; (cases e1; cases e2; exact⟨rfl,rfl,_,rfl⟩); cases e1) (λ_ _ _ _=>rfl) (λc fa cd A outer s H hr hp=>by have hq:=dA hr; exact(@cP _ _ _ _ _ (1) _ _ _ _ _ sN Dk (hr.mono (by decide)) rfl (@bD _ _ _ _ _ _ (@aK _ _ _ _ (pv 1)) (@bD _ _ _ _ _ _ (@aK _ _ _ _ (pv 0)) (@b8 _ _) (by rfl)) (by rfl)) rfl (by decide) (by rfl) (by rfl))))) λss y h=>dI h
def xK:DS:=(aI (nc (aD nV [.val (aa 0),.val (aa 1)])) (aI (aF (aD nW [.val (aa 0),.val (aa 1)]) (bN 2 (aX (ag [] 2) (aX (ag [] 3) bT)))) (aI (aF jX (ag [] 4)) (aI (cW (pE (aa 2)) (bN 2 (aX (ag [] 5) (aX (ag [] 6) bT))) (cW (bu (aa 6)) (ag [] 7) (j5 4 (aa 7) (aa 5)))) (cB (cI [7] (bu (aD jD [.val (aa 0)])) (ag [] 7) dH (e_ (cb (aa 7) (cb (pG 4 (aa 7)) cV)))))))))
def lh:DF:=bW [] 8 xK
theorem O1:cJ lh:=dQ
theorem lj:cj ["rule","tile","sets","start","often_of","often","tiles","other"] ["rule","tile"] (aV xi):=scc
theorem O2 {K:W2} {cS:Addr} (F:bM K "comes_after" "comes_after" xi f fd) (hm:mg "comes_after" = some (.ref f)) (hb:Binds K fd ["rule","tile"] []) (T:Txt K mg) (nX:bU P w K mg base 1 "rule_tiles" 1 jD) (xM:bU P w K mg base 1 "refuse_no_tile" 2 nV) (xN:gX P w K mg base [(cS,gq,gr)] 4 "tile_sets" 2 nW):gX P w K mg base [(cS,gq,gr)] 5 "comes_after" 2 lh :=
 pQ (np:=[]) (fb:=xK) F hm hb lj (λc aB A outer s H E hr aw ft fP=>by
  have hq:=dA hr;refine(@a0 _ _ _ _ _ _ ?_ ?_)
  ·exact(@KS _ _ _ _ _ (@cP _ _ _ _ _ (1) _ _ _ _ _ xM OT (hr.mono (by decide)) rfl (@bD _ _ _ _ _ _ (@aK _ _ _ _ (pv 0)) (@bD _ _ _ _ _ _ (@aK _ _ _ _ (pv 1)) (@b8 _ _) (by rfl)) (by rfl)) rfl (by decide) (by rfl) (by rfl)) (by rfl))
  refine(@a0 _ _ _ _ _ _ ?_ ?_)
  ·refine(@rF _ _ _ _ _ _ _ ?_ ?_ (by rfl) (by rfl) (by rfl))
   ·exact(nJ (k:=4) xN ft OY (hr.mono (by decide)) rfl (@bD _ _ _ _ _ _ (@aK _ _ _ _ (pv 0)) (@bD _ _ _ _ _ _ (@aK _ _ _ _ (pv 1)) (@b8 _ _) (by rfl)) (by rfl)) rfl)
   ·exact(@kM _ _ _ _ _ _ _ rfl (@fA _ _ _ _ _ _ (@cO _ _ _ ([]) (2) _ aw lj.nd rfl ah ah) (@fA _ _ _ _ _ _ (@cO _ _ _ ([]) (3) _ aw lj.nd rfl ah ah) (@kL _ _) (by rfl)) (by rfl)) (by rfl) (by rfl))
  refine(@a0 _ _ _ _ _ _ ?_ ?_)
  ·exact(@bX _ _ _ _ _ _ ([]) (4) _ aw lj.nd rfl ah (@rV _ _ _) rfl ah)
  refine(@a0 _ _ _ _ _ _ ?_ ?_)
  ·refine(@gk _ _ _ _ _ _ _ _ _ PassesOwn.never rfl ?_ ?_ ?_ (by intro _; rfl))
   ·exact(@Ly _ _ _ _ _ _ _ _ _ rfl T.pV (@aK _ _ _ _ (pv 2)) (by rfl))
   ·exact(@kM _ _ _ _ _ _ _ rfl (@fA _ _ _ _ _ _ (@cO _ _ _ ([]) (5) _ aw lj.nd rfl ah ah) (@fA _ _ _ _ _ _ (@cO _ _ _ ([]) (6) _ aw lj.nd rfl ah ah) (@kL _ _) (by rfl)) (by rfl)) (by rfl) (by rfl))
   ·refine(@bq _ _ _ _ ?_);refine(@gk _ _ _ _ _ _ _ _ _ PassesOwn.never rfl ?_ ?_ ?_ (by intro _; rfl))
    ·exact(@eF _ _ _ _ _ (@aK _ _ _ _ (pv 6)))
    ·exact(@cO _ _ _ ([]) (7) _ aw lj.nd rfl ah ah)
    ·refine(@bq _ _ _ _ ?_);exact(Nz (pv 4) (@aK _ _ _ _ (pv 7)) (@aK _ _ _ _ (pv 5)) ⟨rfl,rfl,rfl,rfl⟩)
  refine(@bq _ _ _ _ ?_);refine(@c9 _ _ _ _ _ ?_);exact(@ic _ _ ([7]) _ _ _ _ _ _ _ _ _ _ rfl (@ij _ _ _ rfl rfl) (@eF _ _ _ _ _ (@cP _ _ _ _ _ (1) _ _ _ _ _ nX Dj (hr.mono (by decide)) rfl (@bD _ _ _ _ _ _ (@aK _ _ _ _ (pv 0)) (@b8 _ _) (by rfl)) rfl (by decide) (by rfl) (by rfl))) (λl s0 H0 ex=>(@fN _ _ _ _ ([]) (7) _ aw lj.nd rfl ah ah (by decide))) (λl s0 H0 ex=>(@lX _ _)) (λl s0 H0 ex=>(@jk _ _ _ _ _ _ (@dR _ _ _ _ _ _ (@aK _ _ _ _ (pv 7)) (@dR _ _ _ _ _ _ (@LL _ _ _ _ _ _ _ _ hq (pv 4) (@aK _ _ _ _ (pv 7)) (by rfl) (by rfl) (by rfl) (by rfl)) (@e9 _ _) (by rfl)) (by rfl)) (by decide))) (ig aw rfl) (by intro _; rfl))) λss y h=>dI h
def xO:DS:=(aI (aF wR (ag [] 1)) (aI (cW (bu (aD jD [.val (aa 0)])) (ag [] 2) (nM 1 (aa 2) (cI [3,4] (bu (aD lh [.val (aa 0),.val (aa 2)])) (bN 2 (aX (ag [] 3) (aX (ag [] 4) bT))) (aH (a_ (l_ true) (aa 4) (ar (eD .ay)))) (aa 3)))) (kY [] 1)))
def ll:DF:=bW [] 5 xO
theorem Dn:cJ ll:=dQ
theorem p_:cj ["rule","coming","tile","other","often"] ["rule"] (aV xj):=scc
theorem O3 {K:W2} {cS:Addr} (F:bM K "tiles_coming" "tiles_coming" xj f fd) (hm:mg "tiles_coming" = some (.ref f)) (hb:Binds K fd ["rule"] []) (T:Txt K mg) (nX:bU P w K mg base 1 "rule_tiles" 1 jD) (xP:gX P w K mg base [(cS,gq,gr)] 5 "comes_after" 2 lh):gX P w K mg base [(cS,gq,gr)] 6 "tiles_coming" 1 ll :=
 pQ (np:=[]) (fb:=xO) F hm hb p_ (λc aB A outer s H E hr aw ft fP=>by
  have hq:=dA hr;refine(@a0 _ _ _ _ _ _ ?_ ?_)
  ·exact(@bX _ _ _ _ _ _ ([]) (1) _ aw p_.nd rfl ah Ot rfl ah)
  refine(@a0 _ _ _ _ _ _ ?_ ?_)
  ·refine(@gk _ _ _ _ _ _ _ _ _ PassesOwn.never rfl ?_ ?_ ?_ (by intro _; rfl))
   ·exact(@eF _ _ _ _ _ (@cP _ _ _ _ _ (1) _ _ _ _ _ nX Dj (hr.mono (by decide)) rfl (@bD _ _ _ _ _ _ (@aK _ _ _ _ (pv 0)) (@b8 _ _) (by rfl)) rfl (by decide) (by rfl) (by rfl)))
   ·exact(@cO _ _ _ ([]) (2) _ aw p_.nd rfl ah ah)
   ·refine(@bq _ _ _ _ ?_);exact(N_ hq (pv 1) (@aK _ _ _ _ (pv 2)) (@ic _ _ ([3,4]) _ _ _ _ _ _ _ _ _ _ rfl (@ij _ _ _ rfl rfl) (@eF _ _ _ _ _ (nJ (k:=5) xP ft O1 (hr.mono (by decide)) rfl (@bD _ _ _ _ _ _ (@aK _ _ _ _ (pv 0)) (@bD _ _ _ _ _ _ (@aK _ _ _ _ (pv 2)) (@b8 _ _) (by rfl)) (by rfl)) rfl)) (λl s0 H0 ex=>(@u9 _ _ _ _ _ _ _ _ rfl (@ni _ _ _ _ _ _ _ (@fN _ _ _ _ ([]) (3) _ aw p_.nd rfl ah ah (by decide)) (@ni _ _ _ _ _ _ _ (@fN _ _ _ _ ([]) (4) _ aw p_.nd rfl ah ah (by decide)) (@u7 _ _ _) (by rfl)) (by rfl)) (by rfl) (by rfl))) (λl s0 H0 ex=>(@pk _ _ _ _ (@gc _ _ _ _ _ _ _ _ _ _ FJ Lz (@aK _ _ _ _ (pv 4)) (@aO _ _ _ _ (@Ag _ _ _ _)) rfl))) (λl s0 H0 ex=>(@aK _ _ _ _ (pv 3))) (ig aw rfl) (by intro _; rfl)))
  refine(@bq _ _ _ _ ?_);exact(@vK _ _ _ _ _ _ aw (pv 1))) λss y h=>dI h
def xQ:DS:=(cB (aD ka [.val (aD ll [.val (aa 0)])]))
def mC:DF:=bW [] 1 xQ
theorem O4:cJ mC:=dQ
theorem O5:cj ["rule"] ["rule"] (aV xk):=scc
theorem O6 {K:W2} {cS:Addr} (F:bM K "tile_groups" "tile_groups" xk f fd) (hm:mg "tile_groups" = some (.ref f)) (hb:Binds K fd ["rule"] []) (T:Txt K mg) (nY:bU P w K mg base 1 "groups_among" 1 ka) (nZ:gX P w K mg base [(cS,gq,gr)] 6 "tiles_coming" 1 ll):gX P w K mg base [(cS,gq,gr)] 7 "tile_groups" 1 mC :=
 pQ (np:=[]) (fb:=xQ) F hm hb O5 (λc aB A outer s H E hr aw ft fP=>by
  have hq:=dA hr;refine(@bq _ _ _ _ ?_);refine(@c9 _ _ _ _ _ ?_);exact(@cP _ _ _ _ _ (1) _ _ _ _ _ nY Di (hr.mono (by decide)) rfl (@bD _ _ _ _ _ _ (nJ (k:=6) nZ ft Dn (hr.mono (by decide)) rfl (@bD _ _ _ _ _ _ (@aK _ _ _ _ (pv 0)) (@b8 _ _) (by rfl)) rfl) (@b8 _ _) (by rfl)) rfl (by decide) (by rfl) (by rfl))) λss y h=>dI h
def xR:DS:=(aI (aF (aD ll [.val (aa 0)]) (ag [] 1)) (cB (cI [2] (bu (aD ka [.val (aa 1)])) (ag [] 2) (aH (a_ bQ (aT cu (ar (aq iC 1 (ar (aq aS 2 (ar (eD (.int 0)))))))) (ar (aT cu (ao 2))))) (aa 2))))
def mD:DF:=bW [] 3 xR
theorem O7:cJ mD:=dQ
theorem xS:cj ["rule","coming","group"] ["rule"] (aV xl):=scc
theorem O8 {K:W2} {cS:Addr} (F:bM K "shut_groups" "shut_groups" xl f fd) (hm:mg "shut_groups" = some (.ref f)) (hb:Binds K fd ["rule"] []) (T:Txt K mg) (nY:bU P w K mg base 1 "groups_among" 1 ka) (nZ:gX P w K mg base [(cS,gq,gr)] 6 "tiles_coming" 1 ll):gX P w K mg base [(cS,gq,gr)] 7 "shut_groups" 1 mD :=
 pQ (np:=[]) (fb:=xR) F hm hb xS (λc aB A outer s H E hr aw ft fP=>by
  have hq:=dA hr;refine(@a0 _ _ _ _ _ _ ?_ ?_)
  ·exact(@bX _ _ _ _ _ _ ([]) (1) _ aw xS.nd rfl ah (nJ (k:=6) nZ ft Dn (hr.mono (by decide)) rfl (@bD _ _ _ _ _ _ (@aK _ _ _ _ (pv 0)) (@b8 _ _) (by rfl)) rfl) rfl ah)
  refine(@bq _ _ _ _ ?_);refine(@c9 _ _ _ _ _ ?_);exact(@ic _ _ ([2]) _ _ _ _ _ _ _ _ _ _ rfl (@ij _ _ _ rfl rfl) (@eF _ _ _ _ _ (@cP _ _ _ _ _ (1) _ _ _ _ _ nY Di (hr.mono (by decide)) rfl (@bD _ _ _ _ _ _ (@aK _ _ _ _ (pv 1)) (@b8 _ _) (by rfl)) rfl (by decide) (by rfl) (by rfl))) (λl s0 H0 ex=>(@fN _ _ _ _ ([]) (2) _ aw xS.nd rfl ah ah (by decide))) (λl s0 H0 ex=>(@pk _ _ _ _ (@gc _ _ _ _ _ _ _ _ _ _ (jP hq) jR (@lR _ _ _ _ _ _ rfl T.iX (@aO _ _ _ _ (@cy _ _ _ _ _ _ _ _ _ (C_ hq) Dc (pv 1) (@aO _ _ _ _ (@cy _ _ _ _ _ _ _ _ _ cZ c8 (pv 2) (@aO _ _ _ _ (@aZ _ _ _ _ _)) (λ_ _=>rfl))) (λ_ _=>rfl))) (by rfl)) (@aO _ _ _ _ (@lR _ _ _ _ _ _ rfl T.iX (@bG _ _ _ _ (pv 2)) (by rfl))) (fU _)))) (λl s0 H0 ex=>(@aK _ _ _ _ (pv 2))) (ig aw rfl) (by intro _; rfl))) λss y h=>dI h
def xT:DS:=(aI (cW (bu (a_ bA (hV (cb (aD mw [.val (aa 0),.val (eD (.int 0))]) cV)) (ar (o_ 0 (lU (eD (.int 1))) (lU (eD (.int 6))))))) (ag [] 1) (aI (aF (nC lg (aD my [.val (aa 1)]) [.val (eD (.int 6))]) (ag [] 2)) (aI (aF (aD mB [.val (aa 2)]) (bN 2 (aX (ag [] 3) (aX (ag [] 4) bT)))) (cW (gj (eD (.int 2))) (ag [] 5) (aI (aF (aD mC [.val (aa 2)]) (ag [] 6)) (aI (aF (aD mD [.val (aa 2)]) (ag [] 7)) (aI (dG (jh (ji (aH (gJ "list" (ao 6)))) (jh (ji (aH (gJ "list" (ao 7)))) (jh (aH (aq kH 6 (ao 3))) (aH (aq kH 7 (ao 4)))))) (cB (eD (.bl false))) dP) (aI (dG (ji (aH (aT jS (ar (cI [8] (bu (aq bA 6 (ao 7))) (ag [] 8) dH (gJ "tuple" (ao 8))))))) (cB (eD (.bl false))) dP) (aI (c_ 6 (e_ cV)) (c_ 7 (e_ cV))))))))))) (cB (eD (.bl true))))
def mE:DF:=bW [] 9 xT
theorem S9:cJ mE:=dQ
theorem kb:cj ["script","cell","rule","groups","shut","turn","found","some","group"] ["script"] (aV j8):=scc
theorem O9 {K:W2} {cS:Addr} (F:bM K "law" "law" j8 f fd) (T:Txt K mg) (xU:bU P w K mg base 1 "_law_cell_at" 2 mw) (xV:bU P w K mg base 4 "_law_rule_by" 2 lg) (xW:bU P w K mg base 1 "_law_pen_of" 1 my) (xX:bU P w K mg base 3 "_law_groups" 1 mB) (xY:gX P w K mg base [(cS,gq,gr)] 7 "tile_groups" 1 mC) (xZ:gX P w K mg base [(cS,gq,gr)] 7 "shut_groups" 1 mD):fK P w K mg base cG 8 f fd ["script"] (ml [(cS,gq,gr)] 1 mE) :=
 CG (np:=[]) (fb:=xT) F kb (λc aB A outer s H E hr aw ft fP=>by
  have hq:=dA hr;refine(@a0 _ _ _ _ _ _ ?_ ?_)
  ·refine(@gk _ _ _ _ _ _ _ _ _ PassesOwn.never rfl ?_ ?_ ?_ (by intro _; rfl))
   ·exact(@eF _ _ _ _ _ (@dO _ _ _ _ _ _ _ _ _ _ gf gh (@kI _ _ _ _ _ (@dR _ _ _ _ _ _ (@cP _ _ _ _ _ (1) _ _ _ _ _ xU Ow (hr.mono (by decide)) rfl (@bD _ _ _ _ _ _ (@aK _ _ _ _ (pv 0)) (@bD _ _ _ _ _ _ (@aZ _ _ _ _ _) (@b8 _ _) (by rfl)) (by rfl)) rfl (by decide) (by rfl) (by rfl)) (@e9 _ _) (by rfl)) (by decide)) (@aO _ _ _ _ (@Ka _ _ _ _ _ _ _ _ _ _ (pv 0) (@AS _ _ _ _ (@aZ _ _ _ _ _)) (@AS _ _ _ _ (@aZ _ _ _ _ _))))))
   ·exact(@cO _ _ _ ([]) (1) _ aw kb.nd rfl ah ah)
   ·refine(@a0 _ _ _ _ _ _ ?_ ?_)
    ·exact(@bX _ _ _ _ _ _ ([]) (2) _ aw kb.nd rfl ah (@LJ _ _ _ _ _ _ (4) _ _ _ _ _ xV OH (hr.mono (by decide)) rfl (@cP _ _ _ _ _ (1) _ _ _ _ _ xW OJ (hr.mono (by decide)) rfl (@bD _ _ _ _ _ _ (@aK _ _ _ _ (pv 1)) (@b8 _ _) (by rfl)) rfl (by decide) (by rfl) (by rfl)) (λ_=>(@bD _ _ _ _ _ _ (@aZ _ _ _ _ _) (@b8 _ _) (by rfl))) rfl (by decide) (by rfl) (by rfl)) rfl ah)
    refine(@a0 _ _ _ _ _ _ ?_ ?_)
    ·refine(@rF _ _ _ _ _ _ _ ?_ ?_ (by rfl) (by rfl) (by rfl))
     ·exact(@cP _ _ _ _ _ (3) _ _ _ _ _ xX OP (hr.mono (by decide)) rfl (@bD _ _ _ _ _ _ (@aK _ _ _ _ (pv 2)) (@b8 _ _) (by rfl)) rfl (by decide) (by rfl) (by rfl))
     ·exact(@kM _ _ _ _ _ _ _ rfl (@fA _ _ _ _ _ _ (@cO _ _ _ ([]) (3) _ aw kb.nd rfl ah ah) (@fA _ _ _ _ _ _ (@cO _ _ _ ([]) (4) _ aw kb.nd rfl ah ah) (@kL _ _) (by rfl)) (by rfl)) (by rfl) (by rfl))
    refine(@bq _ _ _ _ ?_);refine(@gk _ _ _ _ _ _ _ _ _ PassesOwn.never rfl ?_ ?_ ?_ (by intro _; rfl))
    ·exact(@pj _ _ _ _ _ _ _ rfl T.jA (@aZ _ _ _ _ _) (by rfl))
    ·exact(@cO _ _ _ ([]) (5) _ aw kb.nd rfl ah ah)
    ·refine(@a0 _ _ _ _ _ _ ?_ ?_)
     ·exact(@bX _ _ _ _ _ _ ([]) (6) _ aw kb.nd rfl ah (nJ (k:=7) xY ft O4 (hr.mono (by decide)) rfl (@bD _ _ _ _ _ _ (@aK _ _ _ _ (pv 2)) (@b8 _ _) (by rfl)) rfl) rfl ah)
     refine(@a0 _ _ _ _ _ _ ?_ ?_)
     ·exact(@bX _ _ _ _ _ _ ([]) (7) _ aw kb.nd rfl ah (nJ (k:=7) xZ ft O7 (hr.mono (by decide)) rfl (@bD _ _ _ _ _ _ (@aK _ _ _ _ (pv 2)) (@b8 _ _) (by rfl)) rfl) rfl ah)
     refine(@a0 _ _ _ _ _ _ ?_ ?_)
     ·refine(@gM _ _ _ _ _ _ _ _ _ ?_ ?_ ?_)
      ·exact(@uP _ _ _ _ (@rh _ _ _ _ _ _ _ _ (@rj _ _ _ _ _ (@q_ _ _ _ _ (@rD _ _ _ _ _ _ _ _ _ T.ty_list rfl T.k_ rfl T.jz boot_list (@bG _ _ _ _ (pv 6)) (by decide) (by decide) (by rfl) (by rfl)) (by intro _; rfl))) (@rh _ _ _ _ _ _ _ _ (@rj _ _ _ _ _ (@q_ _ _ _ _ (@rD _ _ _ _ _ _ _ _ _ T.ty_list rfl T.k_ rfl T.jz boot_list (@bG _ _ _ _ (pv 7)) (by decide) (by decide) (by rfl) (by rfl)) (by intro _; rfl))) (@rh _ _ _ _ _ _ _ _ (@mY _ _ _ _ _ _ _ _ _ _ (Ao hq) AI (pv 6) (@bG _ _ _ _ (pv 3)) (fU _)) (@AF _ _ _ _ _ (@mY _ _ _ _ _ _ _ _ _ _ (Ao hq) AI (pv 7) (@bG _ _ _ _ (pv 4)) (fU _)))))))
      ·refine(@bq _ _ _ _ ?_);refine(@c9 _ _ _ _ _ ?_);exact(@oR _ _ _ _ _)
      ·exact gL
     refine(@a0 _ _ _ _ _ _ ?_ ?_)
     ·refine(@gM _ _ _ _ _ _ _ _ _ ?_ ?_ ?_)
      ·exact(@rj _ _ _ _ _ (@q_ _ _ _ _ (@IL _ _ _ _ _ _ rfl rfl T.pU (@aO _ _ _ _ (@ic _ _ ([8]) _ _ _ _ _ _ _ _ _ _ rfl (@ij _ _ _ rfl rfl) (@eF _ _ _ _ _ (@kG _ _ _ _ _ _ _ _ _ _ gf gh (pv 6) (@bG _ _ _ _ (pv 7)))) (λl s0 H0 ex=>(@fN _ _ _ _ ([]) (8) _ aw kb.nd rfl ah ah (by decide))) (λl s0 H0 ex=>(@lX _ _)) (λl s0 H0 ex=>(@rD _ _ _ _ _ _ _ _ _ T.ty_tuple rfl T.k_ rfl T.j9 boot_tuple (@bG _ _ _ _ (pv 8)) (by decide) (by decide) (by rfl) (by rfl))) (ig aw rfl) (by intro _; rfl))) (by rfl)) (by intro _; rfl)))
      ·refine(@bq _ _ _ _ ?_);refine(@c9 _ _ _ _ _ ?_);exact(@oR _ _ _ _ _)
      ·exact gL
     refine(@a0 _ _ _ _ _ _ ?_ ?_)
     ·exact(@nr _ _ _ _ _ _ _ _ _ (pv 6) (@jk _ _ _ _ _ _ (@e9 _ _) (by decide)) (by rfl) (by rfl) (by rfl) (by rfl) (by rfl))
     refine(@bq _ _ _ _ ?_);exact(@nr _ _ _ _ _ _ _ _ _ (pv 7) (@jk _ _ _ _ _ _ (@e9 _ _) (by decide)) (by rfl) (by rfl) (by rfl) (by rfl) (by rfl))
  refine(@bq _ _ _ _ ?_);refine(@c9 _ _ _ _ _ ?_);exact(@oR _ _ _ _ _)) λss y h=>dI h
theorem all_mk {l:U7} {w:Wm} {K:W2} {h:Heap} {mg:Str->Option Value} {fa:Addr} (X:K.In h) (G:h.Ns Wt mg) (wu:mg "law" = some (.ref fa))
  (d0:dW K "_law_cell_at" wU)
  (d1:dW K "_law_next" wV)
  (d2:dW K "_law_draw" wW)
  (d3:dW K "_law_sizes_by" wX)
  (d4:dW K "_law_pick" wY)
  (d5:dW K "_law_rule_by" wZ)
  (d6:dW K "_law_pen_of" w4)
  (d7:dW K "_law_next_tiles" w6)
  (d8:dW K "_law_first_after" w8)
  (d9:dW K "_law_groups" w_)
  (x3:dW K "groups_among" xa)
  (x4:dW K "rule_tiles" xb)
  (x5:dW K "refuse_no_tile" xf)
  (x6:dW K "tiles_grown" xg)
  (x8:dW K "walked" xh)
  (x9:nsIn K Wt "tile_sets" = some (some (.ref f15)))
  (sO:K.lookup f15=some ⟨oc15,od15,.func (Q4 "tile_sets" "tile_sets" (fX jy) (du jy) (aV jy) .none kV15 dc15 pm15 an15 (.ref p9) ct15),sl15⟩)
  (x_:codeIn K (.ref p9) "tile_sets" = true)
  (ya:keepIn K (.ref f15)=true)
  (dT:Jd K p9 cS=true)
  (gT:(Wt == cS)=false)
  (yb:dW K "comes_after" xi)
  (yc:dW K "tiles_coming" xj)
  (yd:dW K "tile_groups" xk)
  (ye:dW K "shut_groups" xl)
  (yf:nsIn K Wt "law" = some (some (.ref f20)))
  (yg:K.lookup f20=some ⟨oc20,od20,.func (Q4 "law" "law" (fX j8) (du j8) (aV j8) .none kV20 dc20 pm20 an20 cd20 ct20),sl20⟩)
  (yh:codeIn K cd20 "law" = true)
  (yi:keepIn K (.ref f20)=true)
  (pU:nsIn K Wt "all" = some none)
  (mr:nsIn K Wt "dict" = some none)
  (pV:nsIn K Wt "enumerate" = some none)
  (pW:nsIn K Wt "int" = some none)
  (k_:nsIn K Wt "isinstance" = some none)
  (iX:nsIn K Wt "len" = some none)
  (jz:nsIn K Wt "list" = some none)
  (pX:nsIn K Wt "max" = some none)
  (jA:nsIn K Wt "range" = some none)
  (pY:nsIn K Wt "set" = some none)
  (la:nsIn K Wt "sorted" = some none)
  (pZ:nsIn K Wt "str" = some none)
  (j9:nsIn K Wt "tuple" = some none)
  : (∃ c,Jd K c cS=true)/\∃ fd:WQ,(∀ (s:W1) (v:Value),BindsTo s fd ⟨[v],[]⟩ [("script",v)])/\∀ base:Heap,K.In base->base.Ns Wt mg->base.BuiltinsAt mg cS->fK l.prog w K mg base cG 8 fa fd ["script"] (ml [(cS,gq,gr)] 1 mE):=by
 have e:=wu.symm.trans (mg_of X G yf)
 cases e;have T:Txt K mg:=⟨WR X G pU,WR X G mr,WR X G pV,WR X G pW,WR X G k_,WR X G iX,WR X G jz,WR X G pX,WR X G jA,WR X G pY,WR X G la,WR X G pZ,WR X G j9,KO,KJ,KN⟩
 obtain⟨f0,fd0,F0,m0⟩:=ei X G d0;obtain⟨f1,fd1,F1,m1⟩:=ei X G d1;obtain⟨f2,fd2,F2,m2⟩:=ei X G d2;obtain⟨f3,fd3,F3,m3⟩:=ei X G d3;obtain⟨f4,fd4,F4,m4⟩:=ei X G d4;obtain⟨f5,fd5,F5,m5⟩:=ei X G d5;obtain⟨f6,fd6,F6,m6⟩:=ei X G d6;obtain⟨f7,fd7,F7,m7⟩:=ei X G d7;obtain⟨f8,fd8,F8,m8⟩:=ei X G d8;obtain⟨f9,fd9,F9,m9⟩:=ei X G d9;obtain⟨f10,fd10,F10,m10⟩:=ei X G x3;obtain⟨f11,fd11,F11,m11⟩:=ei X G x4;obtain⟨f12,fd12,F12,m12⟩:=ei X G x5;obtain⟨f13,fd13,F13,m13⟩:=ei X G x6;obtain⟨f14,fd14,F14,m14⟩:=ei X G x8;have Dp:=ur (st:=jy) sO x_ ya;have O_:=mg_of X G x9;obtain⟨f16,fd16,F16,m16⟩:=ei X G yb;obtain⟨f17,fd17,F17,m17⟩:=ei X G yc;obtain⟨f18,fd18,F18,m18⟩:=ei X G yd;obtain⟨f19,fd19,F19,m19⟩:=ei X G ye;have Pa:=ur (st:=j8) yg yh yi;refine⟨⟨_,dT⟩,Q4 "law" "law" (fX j8) (du j8) (aV j8) .none kV20 dc20 pm20 an20 cd20 ct20,λs v=>.of_eq rfl,λbase _ _ tT=>?_⟩;have xU:=Oy (P:=l.prog) (w:=w) (base:=base) F0 m0 (jt F0 λ_ _ _ _ _ _ _ _=>rfl) T;have sJ:=Oz (P:=l.prog) (w:=w) (base:=base) F1 m1 (jZ F1 λ_ _ _ _ _ _ _=>rfl) T;have fD:=OA F2 m2 (jt F2 λ_ _ _ _ _ _ _ _=>rfl) T sJ;have xt:=OC F3 m3 (jZ F3 λ_ _ _ _ _ _ _=>rfl) T fD;have xu:=OG F4 m4 (L6 F4 λ_ _ _ _ _ _ _ _ _ _=>rfl) T fD;have xV:=OI F5 m5 (jt F5 λ_ _ _ _ _ _ _ _=>rfl) T fD xt xu;have xW:=OK (P:=l.prog) (w:=w) (base:=base) F6 m6 (jZ F6 λ_ _ _ _ _ _ _=>rfl) T;have xA:=OM (P:=l.prog) (w:=w) (base:=base) F7 m7 (jt F7 λ_ _ _ _ _ _ _ _=>rfl) T;have xC:=OO F8 m8 (jt F8 λ_ _ _ _ _ _ _ _=>rfl) T xA;have xX:=OQ F9 m9 (jZ F9 λ_ _ _ _ _ _ _=>rfl) T xC;have nY:=OR (P:=l.prog) (w:=w) (base:=base) F10 m10 (jZ F10 λ_ _ _ _ _ _ _=>rfl) T;have nX:=OS (P:=l.prog) (w:=w) (base:=base) F11 m11 (jZ F11 λ_ _ _ _ _ _ _=>rfl) T;have xM:=OV (P:=l.prog) (w:=w) (base:=base) F12 m12 (jt F12 λ_ _ _ _ _ _ _ _=>rfl) T;have sN:=OW (P:=l.prog) (w:=w) (base:=base) F13 m13 (jt F13 λ_ _ _ _ _ _ _ _=>rfl) T;have xJ:=OX (P:=l.prog) (w:=w) (base:=base) F14 m14 (jt F14 λ_ _ _ _ _ _ _ _=>rfl) T;have xN:=OZ Dp O_ (jt Dp λ_ _ _ _ _ _ _ _=>rfl) T ⟨_,_,_,_,_,_,_,_,sO⟩ dT (λz=>by rw[z] at gT; simp at gT) tT sN xJ;have xP:=O2 F16 m16 (jt F16 λ_ _ _ _ _ _ _ _=>rfl) T nX xM xN;have nZ:=O3 F17 m17 (jZ F17 λ_ _ _ _ _ _ _=>rfl) T nX xP;have xY:=O6 F18 m18 (jZ F18 λ_ _ _ _ _ _ _=>rfl) T nY nZ;have xZ:=O8 F19 m19 (jZ F19 λ_ _ _ _ _ _ _=>rfl) T nY nZ;exact O9 Pa T xU xV xW xX xY xZ
open PySem (sizeLine)
def eA(bs:List (Nat×List Tx))(n:Nat):List Tx:=((bs.find? λb=>decide (b.1=n)).map (·.2)).getD []
theorem qa(h:n ∈ bs.map (·.1)):∃ b ∈ bs,b.1=n/\(bs.find? λb=>decide (b.1=n))=some b/\eA bs n=b.2:=by
 cases e:bs.find? λb=>decide (b.1=n) with
 | none =>
  obtain⟨b,hb,rfl⟩:=WG.mp h;have:=JO.mp e b hb;simp at this
 | some b =>
  have h1:=List.mem_of_find?_eq_some e;have h2:=List.find?_some e;refine⟨b,h1,by simpa using h2,rfl,?_⟩;unfold eA;rw[e];rfl
structure S_(bs:List (Nat×List Tx))(R C:Nat)(fl:List Tx):Prop where
 rows:fl.length=R
 cols:∀ r ∈ fl,r.length=C
 tl:∀ r ∈ fl,∀ n ∈ r,n ∈ bs.map (·.1)
theorem yj(R:bB h w bs):(bs.map (·.1)).Nodup:=R.up.imp λh=>Wr h
theorem qb:∀ {z σ:List Nat},x ∈ cE σ z ↔ x ∈ σ\/x ∈ z
 | [],σ=>by simp[cE]
 | n :: r,σ=>by
  unfold cE;split
  ·rename_i h;rw[qb (z:=r)];constructor
   ·rintro (q | q)
    ·exact .inl q
    ·exact .inr (Wg _ q)
   ·rintro (q | q)
    ·exact .inl q
    ·rcases Wl.mp q with q | q
     ·exact .inl (by rw[q]; exact h)
     ·exact .inr q
  ·rw[qb (z:=r)];simp[or_assoc]
theorem sP:∀ {z σ:List Nat},σ.Nodup->(cE σ z).Nodup
 | [],σ,h=>by simpa[cE] using h
 | n :: r,σ,h=>by
  unfold cE;split
  ·exact sP h
  ·rename_i q;refine sP (Jq.mpr ⟨h,by simp,λa ha b hb e=>q ?_⟩);have:b=n:=by simpa using hb
   rw[<- this,<- e]; exact ha
def g8(z:Tx):Tx:=dJ (cE [] z)
theorem sQ{x:Nat}{z:Tx}:x ∈ g8 z ↔ x ∈ z:=by unfold g8; rw[nF,qb]; simp
theorem yk(z:Tx):(g8 z).Pairwise (· < ·):=pL (sP JS)
theorem qc:∀ {a b:List Nat},a.Pairwise (· < ·)->b.Pairwise (· < ·)->(∀ x,x ∈ a ↔ x ∈ b)->a=b
 | [],[],_,_,_=>rfl
 | [],y :: b,_,_,h=>by have:=(h y).mpr Wi; cases this
 | x :: a,[],_,_,h=>by have:=(h x).mp Wi; cases this
 | x :: a,y :: b,ha,hb,h=>by
  obtain⟨a1,a2⟩:=Q1.mp ha;obtain⟨b1,b2⟩:=Q1.mp hb;have e:x=y:=by
   rcases Wl.mp ((h x).mp Wi) with q | q
   ·exact q
   ·rcases Wl.mp ((h y).mpr Wi) with p | p
    ·exact p.symm
    ·have:=a1 y p;have:=b1 x q;omega
  subst e;congr 1
  refine qc a2 b2 λz=>?_
  constructor
  ·intro hz;rcases Wl.mp ((h z).mp (Wg _ hz)) with q | q
   ·have:=a1 z hz; omega
   ·exact q
  ·intro hz;rcases Wl.mp ((h z).mpr (Wg _ hz)) with q | q
   ·have:=b1 z hz; omega
   ·exact q
theorem Dq{a:List Nat}(h:a.Pairwise (· < ·)):a.Nodup:=h.imp λh=>Wr h
theorem mF:∀ {l ts:List Nat},l.Nodup->(∀ x ∈ l,x ∈ ts)->l.length<=ts.length
 | [],_,_,_=>Qm _
 | a :: r,ts,nd,h=>by
  obtain⟨n1,n2⟩:=Q2.mp nd;have ha:=h a Wi;have:=mF (l:=r) (ts:=ts.erase a) n2 λx hx=>by
   have:x≠a:=λe=>n1 (by rw[<- e]; exact hx)
   exact(List.mem_erase_of_ne this).mpr (h x (Wg _ hx))
  rw[List.length_erase_of_mem ha] at this;have:=List.length_pos_of_mem ha;simp;omega
theorem yl:∀ {l ts:List Tx},l.Nodup->(∀ x ∈ l,x ∈ ts)->l.length<=ts.length
 | [],_,_,_=>Qm _
 | a :: r,ts,nd,h=>by
  obtain⟨n1,n2⟩:=Q2.mp nd;have ha:=h a Wi;have:=yl (l:=r) (ts:=ts.erase a) n2 λx hx=>by
   have:x≠a:=λe=>n1 (by rw[<- e]; exact hx)
   exact(List.mem_erase_of_ne this).mpr (h x (Wg _ hx))
  rw[List.length_erase_of_mem ha] at this;have:=List.length_pos_of_mem ha;simp;omega
def tx(bs:List (Nat×List Tx))(n:Nat):Tx:=g8 (eA bs n).flatten
def iF(bs:List (Nat×List Tx))(S:Tx):Tx:=g8 (S.flatMap (tx bs))
def sq(bs:List (Nat×List Tx))(t:Nat):Nat->Tx
 | 0=>[t]
 | k + 1=>iF bs (sq bs t k)
theorem n4{bs:List (Nat×List Tx)}{S:Tx}{x:Nat}:x ∈ iF bs S ↔ ∃ y ∈ S,x ∈ (eA bs y).flatten:=by
 unfold iF;rw[sQ,List.mem_flatMap];unfold tx;constructor
 ·rintro ⟨y,h1,h2⟩; exact⟨y,h1,sQ.mp h2⟩
 ·rintro ⟨y,h1,h2⟩; exact⟨y,h1,sQ.mpr h2⟩
theorem Dr(bs:List (Nat×List Tx))(t:Nat):∀ k,(sq bs t k).Pairwise (· < ·)
 | 0=>by simp[sq]
 | k + 1=>yk _
theorem sR{h w n x:Nat}{bs:List (Nat×List Tx)}(R:bB h w bs)(hn:n ∈ bs.map (·.1))(hx:x ∈ (eA bs n).flatten):x ∈ bs.map (·.1):=by
 obtain⟨b,hb,_,_,e⟩:=qa hn;rw[e] at hx;obtain⟨r,hr,hx⟩:=List.mem_flatten.mp hx;exact((R.eA b hb).2 r hr).2 x hx
theorem jE{h w t:Nat}{bs:List (Nat×List Tx)}(R:bB h w bs)(ht:t ∈ bs.map (·.1)):∀ k,∀ x ∈ sq bs t k,x ∈ bs.map (·.1)
 | 0,x,hx=>by
  have:x=t:=by simpa[sq] using hx
  rw[this]; exact ht
 | k + 1,x,hx=>by
  obtain⟨y,hy,hx⟩:=n4.mp hx;exact sR R (jE R ht k y hy) hx
theorem ym{h w t:Nat}{bs:List (Nat×List Tx)}(R:bB h w bs)(ht:t ∈ bs.map (·.1))(k:Nat):(sq bs t k).length<=bs.length:=by
 have:=mF (Dq (Dr bs t k)) (jE R ht k);simpa using this
theorem Ds{P:Nat->Prop}[DecidablePred P]:∀ i,P i->∃ j,j<=i/\P j/\∀ k,k < j->¬ P k
 | 0,h=>⟨0,Wb _,h,λk hk=>absurd hk (Nat.not_lt_zero _)⟩
 | i + 1,h=>by
  by_cases q:∃ k,k < i + 1/\P k
  ·obtain⟨k,hk,hp⟩:=q;obtain⟨j,a,b,c⟩:=Ds k hp;exact⟨j,by omega,b,c⟩
  ·exact⟨i + 1,Wb _,h,λk hk hp=>q ⟨k,hk,hp⟩⟩
 termination_by i=>i
theorem Dt{h w t:Nat}{bs:List (Nat×List Tx)}(R:bB h w bs)(ht:t ∈ bs.map (·.1)):∀ (i x:Nat),x ∈ sq bs t i->(∀ k,k < i->x ∉ sq bs t k)->∃ l:List Nat,l.length=i + 1/\l.Nodup/\(∀ y ∈ l,y ∈ bs.map (·.1))/\∀ y ∈ l,∃ j,j<=i/\y ∈ sq bs t j
 | 0,x,hx,_=>⟨[x],rfl,by simp,λy hy=>by
   have:y=x:=by simpa using hy
   rw[this]; exact jE R ht 0 x hx,λy hy=>by
   have:y=x:=by simpa using hy
   rw[this]; exact⟨0,Wb _,hx⟩⟩
 | i + 1,x,hx,hn=>by
  obtain⟨y,hy,qX⟩:=n4.mp hx;have fy:∀ k,k < i->y ∉ sq bs t k:=λk hk Pb=>hn (k + 1) (by omega) (n4.mpr ⟨y,Pb,qX⟩)
  obtain⟨l,l1,l2,l3,l4⟩:=Dt R ht i y hy fy;refine⟨x :: l,by simp[l1],List.nodup_cons.mpr ⟨λjq=>?_,l2⟩,λz hz=>?_,λz hz=>?_⟩
  ·obtain⟨j,hj,hxj⟩:=l4 x jq;exact hn j (by omega) hxj
  ·rcases Wl.mp hz with rfl | hz
   ·exact jE R ht (i + 1) z hx
   ·exact l3 z hz
  ·rcases Wl.mp hz with rfl | hz
   ·exact⟨i + 1,Wb _,hx⟩
   ·obtain⟨j,hj,q⟩:=l4 z hz;exact⟨j,by omega,q⟩
theorem Du{h w t:Nat}{bs:List (Nat×List Tx)}(R:bB h w bs)(ht:t ∈ bs.map (·.1)){x i:Nat}(hx:x ∈ sq bs t i):∃ j,j < bs.length/\x ∈ sq bs t j:=by
 obtain⟨j,_,hj,hm⟩:=Ds (P:=λi=>x ∈ sq bs t i) i hx;obtain⟨l,l1,l2,l3,_⟩:=Dt R ht j x hj hm;have:=mF l2 l3;rw[l1] at this;exact⟨j,by simp at this; omega,hj⟩
def bF(S:Nat->Tx)(x m:Nat):Option Nat:=(Wu m).find? λi=>decide (x ∈ S i)
theorem Dv{S:Nat->Tx}{x a:Nat}(k:Nat)(h:∀ j,j < a + k->x ∈ S j->∃ i,i < a/\x ∈ S i):bF S x a=bF S x (a + k):=by
 unfold bF;rw[List.range_add,List.find?_append]
 cases e:(Wu a).find? λi=>decide (x ∈ S i) with
 | some i=>rfl
 | none =>
  have n:∀ i,i < a->x ∉ S i:=λi hi hx=>by
   have:=JO.mp e i (QQ.mpr hi);simp[hx] at this
  symm
  show((Wu k).map (a + ·)).find? _=none;refine List.find?_eq_none.mpr λj hj q=>?_
  obtain⟨i,hi,rfl⟩:=WG.mp hj;have hx:x ∈ S (a + i):=by simpa using q
  obtain⟨i',h1,h2⟩:=h (a + i) (by have:=QQ.mp hi; omega) hx;exact n i' h1 h2
theorem Pc{S:Nat->Tx}{x a b:Nat}(ha:∀ j,x ∈ S j->∃ i,i < a/\x ∈ S i)(hb:∀ j,x ∈ S j->∃ i,i < b/\x ∈ S i):bF S x a=bF S x b:=by
 by_cases h:a<=b
 ·have:=Dv (S:=S) (x:=x) (a:=a) (b - a) λj _ q=>ha j q
  rw[show a + (b - a)=b by omega] at this;exact this
 ·have:=Dv (S:=S) (x:=x) (a:=b) (a - b) λj _ q=>hb j q
  rw[show b + (a - b)=a by omega] at this;exact this.symm
theorem Pd(S:Nat->Tx)(x m:Nat):bF S x (m + 1)=match bF S x m with
  | some i=>some i
  | none=>if x ∈ S m then some m else none:=by
 unfold bF;rw[JH,List.find?_append]
 cases (Wu m).find? λi=>decide (x ∈ S i) with
 | some i=>rfl
 | none =>
  by_cases h:x ∈ S m <;> simp[h]
theorem Dw{F:D->Option D}{S:Nat->Tx}{L:List Tx}(hL:∀ k,S k ∈ L)(hF:∀ k,F (.str (S k))=some (.str (S (k + 1)))):∀ (n m:Nat),((Wu m).map S).Nodup->L.length + 1<=n + m->1<=n ->
  ∃ M s,wk F n ((Wu m).map S) (S m)=some ((Wu M).map S,s)/\s < M/\S M=S s/\M<=L.length
 | 0,m,_,_,h=>by omega
 | n + 1,m,nd,hl,_=>by
  have hs:=yl nd (ts:=L) λx hx=>by
   obtain⟨i,_,rfl⟩:=WG.mp hx;exact hL i
  simp at hs;unfold wk;by_cases h:S m ∈ (Wu m).map S
  ·rw[if_pos h];have hi:=List.idxOf_lt_length_of_mem h;have e:=List.getElem_idxOf hi;refine⟨m,_,rfl,by simpa using hi,?_,hs⟩;simp only[List.getElem_map,List.getElem_range] at e;exact e.symm
  ·rw[if_neg h,hF m];have e:(Wu m).map S ++ [S m]=(Wu (m + 1)).map S:=by rw[JH,WV]; rfl
   simp only[e];have gQ:((Wu (m + 1)).map S).Nodup:=by
    rw[<- e];exact Jq.mpr ⟨nd,by simp,λa ha b hb q=>h (by
     have:b=S m:=by simpa using hb
     rw[<- this,<- q]; exact ha)⟩
   have je:=yl gQ (ts:=L) λx hx=>by
    obtain⟨i,_,rfl⟩:=WG.mp hx;exact hL i
   simp at je;exact Dw hL hF n (m + 1) gQ (by omega) (by omega)
theorem Dx{S:Nat->Tx}{M s:Nat}(hS:∀ i j,S i=S j->S (i + 1)=S (j + 1))(hs:s < M)(e:S M=S s):∀ k,∃ j,j < M/\S k=S j
 | k=>by
  by_cases h:k < M
  ·exact⟨k,h,rfl⟩
  ·have sh:∀ d,S (M + d)=S (s + d):=λd=>by
    induction d with
    | zero=>exact e
    | succ d ih=>exact hS _ _ ih
   obtain⟨j,hj,ej⟩:=Dx hS hs e (s + (k - M));refine⟨j,hj,?_⟩;rw[<- ej,<- sh,show M + (k - M)=k by omega]
 termination_by k=>k
 decreasing_by omega
def iZ:List Nat->List Tx
 | []=>[[]]
 | a :: r=>iZ r ++ (iZ r).map (a :: ·)
theorem Dy:∀ l:List Nat,(iZ l).length=2 ^ l.length
 | []=>rfl
 | a :: r=>by
  show(iZ r ++ (iZ r).map (a :: ·)).length=_;rw[WW,Wq,Dy r,WO,Nat.pow_succ];omega
theorem yn(p:Nat->Bool):∀ l:List Nat,l.filter p ∈ iZ l
 | []=>by simp[iZ]
 | a :: r=>by
  show _ ∈ iZ r ++ (iZ r).map (a :: ·)
  cases h:p a with
  | true =>
   rw[List.filter_cons_of_pos h];exact WS _ (WG.mpr ⟨_,yn p r,rfl⟩)
  | false =>
   rw[List.filter_cons_of_neg (by simp[h])];exact Jy _ (yn p r)
theorem Pe{S ts:List Nat}(h1:S.Pairwise (· < ·))(h2:ts.Pairwise (· < ·))(h:∀ x ∈ S,x ∈ ts):S ∈ iZ ts:=by
 have:S=ts.filter λx=>decide (x ∈ S):=qc h1 (h2.filter _) λx=>by
  rw[QH];constructor
  ·intro hx; exact⟨h x hx,by simpa using hx⟩
  ·intro hx; simpa using hx.2
 rw[this];exact yn _ ts
structure i4(h w:Nat)(bs:List (Nat×List Tx)):Prop where
 R:bB h w bs
 fin:∀ t ∈ bs.map (·.1),∃ L:List Tx,L.length<=64/\∀ k,sq bs t k ∈ L
 len:∀ n ∈ bs.map (·.1),(tx bs n).length * bs.length < 64
theorem Pf(bs:List (Nat×List Tx))(n:Nat):(tx bs n).Pairwise (· < ·):=yk _
theorem Pg{h w n:Nat}{bs:List (Nat×List Tx)}(R:bB h w bs)(hn:n ∈ bs.map (·.1)){x:Nat}(hx:x ∈ tx bs n):x ∈ bs.map (·.1):=sR R hn (sQ.mp hx)
theorem Ph{h w n:Nat}{bs:List (Nat×List Tx)}(R:bB h w bs)(hn:n ∈ bs.map (·.1)):(tx bs n).length<=bs.length:=by
 have:=mF (Dq (Pf bs n)) λx hx=>Pg R hn hx
 simpa using this
theorem Pj{h w:Nat}{bs:List (Nat×List Tx)}(R:bB h w bs)(h6:bs.length<=6):i4 h w bs:=by
 refine⟨R,λt ht=>⟨iZ (bs.map (·.1)),?_,λk=>Pe (Dr bs t k) R.up (jE R ht k)⟩,λn hn=>?_⟩
 ·rw[Dy,Wq];exact WP (Nat.pow_le_pow_right (by decide) h6) (by decide)
 ·have:=Ph R hn;have:=Nat.mul_le_mul this (Wb bs.length);have:=Nat.mul_le_mul h6 h6;omega
theorem Pk{h w:Nat}{bs:List (Nat×List Tx)}(G:i4 h w bs):∀ S:Tx,(∀ n ∈ S,n ∈ bs.map (·.1))->S.length<=bs.length->(S.flatMap (tx bs)).length < 64:=by
 have n0:=G.R.n0;have key:∀ (c:Nat) (S:Tx),(∀ n ∈ S,n ∈ bs.map (·.1))->(∀ n ∈ bs.map (·.1),(tx bs n).length<=c)->(S.flatMap (tx bs)).length<=c * S.length:=λc S=>by
  induction S with
  | nil=>intro _ _; simp
  | cons a r ih =>
   intro h1 h2;have:=ih (λn hn=>h1 n (Wg _ hn)) h2;have:=h2 a (h1 a Wi);simp only[List.flatMap_cons,WW,WO,Nat.mul_add,Nat.mul_one];omega
 intro S h1 h2;have hc:∀ n ∈ bs.map (·.1),(tx bs n).length<=63 / bs.length:=λn hn=>by
  have:=G.len n hn;exact(Nat.le_div_iff_mul_le n0).mpr (by omega)
 have a:=key _ S h1 hc;have b:=Nat.mul_le_mul (Wb (63 / bs.length)) h2;have c:=Nat.div_mul_le_self 63 bs.length;omega
theorem Dz{bs:List (Nat×List Tx)}{t x:Nat}{k:Nat}(hx:x ∈ sq bs t k):∀ (m y:Nat),y ∈ sq bs x m->y ∈ sq bs t (k + m)
 | 0,y,hy=>by
  have:y=x:=by simpa[sq] using hy
  rw[this]; exact hx
 | m + 1,y,hy=>by
  obtain⟨z,hz,q⟩:=n4.mp hy;exact n4.mpr ⟨z,Dz hx m z hz,q⟩
def i5(bs:List (Nat×List Tx))(t x:Nat):Bool:=(bF (sq bs t) x (bs.length + 1)).isSome
theorem Pl{S:Nat->Tx}{x m:Nat}:(bF S x m).isSome=true ↔ ∃ k,k < m/\x ∈ S k:=by
 unfold bF;rw[List.find?_isSome];simp
theorem yo{h w t x:Nat}{bs:List (Nat×List Tx)}(R:bB h w bs)(ht:t ∈ bs.map (·.1)):i5 bs t x=true ↔ ∃ k,x ∈ sq bs t k:=by
 unfold i5;rw[Pl];constructor
 ·rintro ⟨k,_,q⟩; exact⟨k,q⟩
 ·rintro ⟨k,q⟩;obtain⟨j,h1,h2⟩:=Du R ht q;exact⟨j,by omega,h2⟩
def cm(bs:List (Nat×List Tx))(t:Nat):List Nat:=(bs.map (·.1)).filter (i5 bs t)
def bL(bs:List (Nat×List Tx))(t:Nat):List Nat:=(cm bs t).filter λo=>decide (t ∈ cm bs o)
theorem sS{h w t x:Nat}{bs:List (Nat×List Tx)}(R:bB h w bs)(ht:t ∈ bs.map (·.1)):x ∈ cm bs t ↔ ∃ k,x ∈ sq bs t k:=by
 unfold cm;rw[QH,yo R ht];exact⟨λq=>q.2,λ⟨k,q⟩=>⟨jE R ht k x q,k,q⟩⟩
theorem mG{t x:Nat}{bs:List (Nat×List Tx)}(h:x ∈ cm bs t):x ∈ bs.map (·.1):=(QH.mp h).1
theorem DB{h w:Nat}{bs:List (Nat×List Tx)}(R:bB h w bs)(t:Nat):(cm bs t).Pairwise (· < ·):=R.up.filter _
theorem qd{t x:Nat}{bs:List (Nat×List Tx)}:x ∈ bL bs t ↔ x ∈ cm bs t/\t ∈ cm bs x:=by
 unfold bL;rw[QH];simp
theorem sU{h w:Nat}{bs:List (Nat×List Tx)}(R:bB h w bs)(t:Nat):(bL bs t).Pairwise (· < ·):=(DB R t).filter _
theorem DC{h w t:Nat}{bs:List (Nat×List Tx)}(R:bB h w bs)(ht:t ∈ bs.map (·.1)):t ∈ cm bs t:=(sS R ht).mpr ⟨0,by simp[sq]⟩
theorem DH{h w t:Nat}{bs:List (Nat×List Tx)}(R:bB h w bs)(ht:t ∈ bs.map (·.1)):t ∈ bL bs t:=qd.mpr ⟨DC R ht,DC R ht⟩
theorem sV{h w t x y:Nat}{bs:List (Nat×List Tx)}(R:bB h w bs)(ht:t ∈ bs.map (·.1))(h1:x ∈ cm bs t)(h2:y ∈ cm bs x):y ∈ cm bs t:=by
 obtain⟨k,q1⟩:=(sS R ht).mp h1;obtain⟨m,q2⟩:=(sS R (mG h1)).mp h2;exact(sS R ht).mpr ⟨k + m,Dz q1 m y q2⟩
theorem DJ{h w t x:Nat}{bs:List (Nat×List Tx)}(R:bB h w bs)(ht:t ∈ bs.map (·.1))(hx:x ∈ bL bs t):bL bs x=bL bs t:=by
 obtain⟨h1,h2⟩:=qd.mp hx;have qe:=mG h1;refine qc (sU R x) (sU R t) λy=>?_
 rw[qd,qd];constructor
 ·rintro ⟨q1,q2⟩;exact⟨sV R ht h1 q1,sV R (mG q1) q2 h2⟩
 ·rintro ⟨q1,q2⟩;exact⟨sV R qe h2 q1,sV R (mG q1) q2 h1⟩
def iG(bs:List (Nat×List Tx))(t:Nat):Bool:=decide ((bL bs t).headD 0=t)
theorem yp{h w t:Nat}{bs:List (Nat×List Tx)}(R:bB h w bs)(ht:t ∈ bs.map (·.1)):∃ g r,bL bs t=g :: r/\g<=t/\g ∈ bL bs t/\iG bs g=true/\(iG bs t=decide (g=t))/\g ∈ bs.map (·.1):=by
 have hs:=DH R ht;have hl:=sU R t
 cases e:bL bs t with
 | nil=>rw[e] at hs; cases hs
 | cons g r =>
  rw[e] at hs hl;have hg:g ∈ bL bs t:=by rw[e]; exact Wi
  refine⟨g,r,rfl,?_,Wi,?_,?_,mG (qd.mp hg).1⟩
  ·rcases Wl.mp hs with q | q
   ·omega
   ·have:=(Q1.mp hl).1 t q; omega
  ·unfold iG;rw[DJ R ht hg,e];simp
  ·unfold iG; rw[e]; rfl
def ba(bs:List (Nat×List Tx))(ts:List Nat):List (List Nat):=(ts.filter (iG bs)).map (bL bs)
theorem Pm{h w t:Nat}{bs:List (Nat×List Tx)}(R:bB h w bs){p q:List Nat}(e:bs.map (·.1)=p ++ t :: q):bL bs t ∈ ba bs p ↔ iG bs t=false:=by
 have ht:t ∈ bs.map (·.1):=by rw[e]; simp
 obtain⟨g,r,e1,hle,hg,hL,hb,sr⟩:=yp R ht;have eB:=R.up;rw[e] at eB;have Pn:∀ x ∈ p,x < t:=λx hx=>(List.pairwise_append.mp eB).2.2 x hx t Wi
 constructor
 ·intro hm;unfold ba at hm;obtain⟨x,hx,ex⟩:=WG.mp hm;have jq:=QH.mp hx;have qe:x ∈ bs.map (·.1):=by rw[e]; exact Jy _ jq.1
  have:=DH R qe;rw[ex,e1] at this;rw[hb];have aQ:=Pn x jq.1;have hl:=sU R t;rw[e1] at hl;rcases Wl.mp this with z | z
  ·exact decide_eq_false (by omega)
  ·have:=(Q1.mp hl).1 x z;exact decide_eq_false (by omega)
 ·intro hn;rw[hb] at hn;have cX:g≠t:=of_decide_eq_false hn;have Po:g ∈ p:=by
   rw[e] at sr;rcases Ji.mp sr with z | z
   ·exact z
   ·rcases Wl.mp z with z | z
    ·exact absurd z cX
    ·have:=(Q1.mp (List.pairwise_append.mp eB).2.1).1 g z;omega
  exact WG.mpr ⟨g,List.mem_filter.mpr ⟨Po,hL⟩,DJ R ht hg⟩
theorem DK(bs:List (Nat×List Tx))(p:List Nat)(t:Nat):ba bs (p ++ [t])=if iG bs t=true then ba bs p ++ [bL bs t] else ba bs p:=by
 unfold ba;rw[List.filter_append,WV];by_cases h:iG bs t=true <;> simp[h]
theorem DL{h w:Nat}{bs:List (Nat×List Tx)}(R:bB h w bs){g:List Nat}(hg:g ∈ ba bs (bs.map (·.1))):∃ t r,t ∈ bs.map (·.1)/\g=t :: r/\g=bL bs t:=by
 unfold ba at hg;obtain⟨t,ht,e⟩:=WG.mp hg;obtain⟨h1,h2⟩:=QH.mp ht;obtain⟨g0,r,e1,_,_,_,hb,_⟩:=yp R h1;rw[hb] at h2;have:g0=t:=of_decide_eq_true h2;subst this;exact⟨g0,r,h1,by rw[<- e,e1],e.symm⟩
theorem yq{h w:Nat}{bs:List (Nat×List Tx)}(R:bB h w bs):(ba bs (bs.map (·.1))).length<=bs.length:=by
 unfold ba;rw[Wq];refine WP (QX _ _) ?_;simp
theorem Pp{h w t:Nat}{bs:List (Nat×List Tx)}:((cm bs t).length == (bL bs t).length)=(cm bs t == bL bs t):=by
 unfold bL;have:(cm bs t).length=((cm bs t).filter λo=>decide (t ∈ cm bs o)).length ↔ cm bs t=(cm bs t).filter λo=>decide (t ∈ cm bs o):=by
  constructor
  ·intro q;exact(List.filter_sublist.eq_of_length q.symm).symm
  ·intro q; rw[<- q]
 by_cases e:cm bs t=(cm bs t).filter λo=>decide (t ∈ cm bs o)
 ·rw[<- e]; simp
 ·have e2:¬ (cm bs t).length=((cm bs t).filter λo=>decide (t ∈ cm bs o)).length:=λq=>e (this.mp q)
  rw[beq_eq_false_iff_ne.mpr e,beq_eq_false_iff_ne.mpr e2]
theorem DM{bs:List (Nat×List Tx)}(t:Nat):(cm bs t).length<=bs.length:=by
 have:=QX (i5 bs t) (bs.map (·.1));simpa[cm] using this
theorem eQ(f:DE)(δ:Dl):bu f δ=(f δ).bind λr δ1=>match r.d with
 | .lst ds=>.ok ds δ1
 | .tup ds=>.ok ds δ1
 | .str x=>.ok (x.map λn=>.str [n]) δ1
 | _=>.stuck:=id rfl
theorem Ta(neg:Bool)(fa f g:DE)(δ:Dl):K9 neg fa f g δ=(fa δ).bind λv δ1=>(f δ1).bind λlo δ2=>(g δ2).bind λhi δ3=>match v.d,lo.d,hi.d with
 | .int i,.int l,.int h=>.ok (.pure (.bl (if neg then !(decide (l<=i) && decide (i < h)) else(decide (l<=i) && decide (i < h))))) δ3
 | _,_,_=>.stuck:=id rfl
theorem mH(f F:A->D)(p:A->Bool)(δ:Dl):∀ (as:List A) (acc:List D),acc.length + as.length<=W8 ->
  (∀ a ∈ as,∃ δ1 δ2 x δ3,g (.pure (f a)) δ=some δ1/\t δ1 = .ok (p a) δ2/\bc cs δ2=δ/\el δ2 = .ok x δ3/\bc cs δ3=δ/\x.d=F a)->da cs g t el (as.map f) δ acc = .ok (acc ++ (as.filter p).map F) δ
 | [],acc,_,_=>by simp[da]
 | a :: r,acc,hl,hs=>by
  obtain⟨δ1,δ2,x,δ3,e1,e2,ju,e3,e4,e5⟩:=hs a Wi;have fG:acc.length < W8:=by simp at hl; omega
  rw[Wc];unfold da;rw[e1]
  cases hp:p a with
  | true =>
   have ih:=mH (cs:=cs) (g:=g) (t:=t) (el:=el) f F p δ r (acc ++ [x.d]) (by simp at hl ⊢; omega) (λa ha=>hs a (Wg _ ha));rw[e5] at ih;rw[hp] at e2;simp only[e2,fQ,if_true,e3,if_pos fG,e4,e5,ih,List.filter_cons,hp];simp
  | false =>
   have ih:=mH (cs:=cs) (g:=g) (t:=t) (el:=el) f F p δ r acc (by simp at hl ⊢; omega) (λa ha=>hs a (Wg _ ha));rw[hp] at e2;simp only[e2,fQ,ju,ih,List.filter_cons,hp];simp
def nx(s:Int):Int:=(((s + 7919) % 2147483647) * ((s + 7919) % 2147483647) + 48271 * ((s + 7919) % 2147483647) + 12345) % 2147483629
theorem Pq(s:Int):mx [.pure (.int s)]=some (.pure (.int (nx s)),[.pure (.int s)]):=by
 unfold mx bW xn dz;have h1:=Int.emod_nonneg (s + 7919) (b:=2147483647) (by decide);have h2:=Int.emod_lt_of_pos (s + 7919) (b:=2147483647) (by decide);have c1:jj ((s + 7919) % 2147483647) ((s + 7919) % 2147483647)=true:=by unfold jj; simp; omega
 have c2:jj 48271 ((s + 7919) % 2147483647)=true:=by unfold jj; simp
 simp[b7,br,aF,aq,bz,ao,bA,fz,ef,gU,oX,c1,c2,cz,bI];rfl
def eR(d:D):Prop:=∃ l f s:Int,d = .lst [.int l,.int f,.int s]/\0<=l
theorem sW(hp:eR d)(m:Nat)(h0:0 < m)(h1:m < 10000000000000):∃ (r:Nat) (d':D),eO [.own d,.pure (.int m)]=some (.pure (.int r),[.own d',.pure (.int m)])/\r < m/\eR d':=by
 obtain⟨l,f,s,rfl,hl⟩:=hp;have hm:(0:Int) < (m:Int):=by omega
 have hB:(10000000000000:Int)<=nD:=by decide +kernel
 have hd:=LP l m hm (by omega);unfold eO bW xo dz;by_cases hf:f=1
 ·subst hf;have e1:=Int.emod_nonneg l (b:=(m:Int)) (by omega);have e2:=Int.emod_lt_of_pos l hm;refine⟨(l % (m:Int)).toNat,.lst [.int (l / m),.int 1,.int s],?_,by omega,⟨_,_,_,rfl,Int.ediv_nonneg hl (by omega)⟩⟩;simp[b7,br,aF,aq,bz,ao,aa,aS,bQ,ak,flat,mh,vZ,vY,aH,fz,rm,ef,h0,hd,oY,ng,gN,putL,cz,bI,e7];omega
 ·have e1:=Int.emod_nonneg (nx (nx s + 7) / 64) (b:=(m:Int)) (by omega);have e2:=Int.emod_lt_of_pos (nx (nx s + 7) / 64) hm;refine⟨(nx (nx s + 7) / 64 % (m:Int)).toNat,.lst [.int l,.int f,.int (nx (nx s + 7))],?_,by omega,⟨_,_,_,rfl,hl⟩⟩;simp[b7,br,aF,aq,bz,ao,aa,aS,bQ,ak,flat,mh,vZ,vY,aH,fz,rm,ef,h0,hd,oY,ng,gN,putL,cz,bI,e7,hf,aD,aW,bH,bO,bC,bf,Pq,bA,aR,oY];omega
theorem Pr(c:Int):∃ d,my [.pure (.int c)]=some (.own d,[.pure (.int c)])/\eR d:=by
 unfold my bW xw dz;refine⟨.lst [.int (if 0 - c > c then 0 - c else c),.int (if decide (1000000000000000000<=(if 0 - c > c then 0 - c else c)) then 1 else 0),.int ((if 0 - c > c then 0 - c else c) % 1000003)],?_,⟨_,_,_,rfl,by split <;> omega⟩⟩;simp[b7,br,aF,aq,bz,ao,aa,uY,uQ,ef,mZ,AL,hU,uS,uR,fz,cz,bI]
theorem Pt(ns:List Int):∃ c:Int,mw [.pure (.lst (ns.map .int)),.pure (.int 0)]=some (.pure (.int c),[.pure (.lst (ns.map .int)),.pure (.int 0)]):=by
 unfold mw bW xm dz
 cases ns with
 | nil=>exact⟨0,by simp[b7,br,aq,bz,ao,rn,hU,aH,cu,cz,bI]⟩
 | cons n r=>exact⟨n,by
   have:(0:Int) < (r.length:Int) + 1:=by omega
   simp[b7,br,aq,bz,ao,rn,hU,aH,cu,cz,bI,aS,mh,this]⟩
theorem lp(hp:eR d)(m:Nat)(i:Int)(hi:i=m)(h0:0 < m)(h1:m < 10000000000000):∃ (r:Nat) (d':D),eO [.own d,.pure (.int i)]=some (.pure (.int r),[.own d',.pure (.int i)])/\r < m/\eR d':=by
 subst hi;exact sW hp m h0 h1
def lq:Tx:=[97,98,99,100,101,102,103,104,105,106,107,108,109,110,111,112,113,114,115,116,117,118,119,120,121,122]
theorem Pu(hp:eR d):∃ (h w:Nat) (d':D),nQ [.own d]=some (.pure (.tup [.int h,.int w]),[.own d'])/\0 < h/\h<=4/\0 < w/\w<=4/\2 < h + w/\eR d':=by
 obtain⟨r1,d1,e1,l1,p1⟩:=lp hp 3 3 rfl (by decide) (by decide);obtain⟨r2,d2,e2,l2,p2⟩:=lp p1 3 3 rfl (by decide) (by decide);obtain⟨r3,d3,e3,l3,p3⟩:=lp p2 8 8 rfl (by decide) (by decide);obtain⟨r4,d4,e4,l4,p4⟩:=lp p3 6 6 rfl (by decide) (by decide);unfold nQ bW xp dz;by_cases h3:r3=0
 ·subst h3;have:r4=0\/r4=1\/r4=2\/r4=3\/r4=4\/r4=5:=by omega
  rcases this with rfl | rfl | rfl | rfl | rfl | rfl
  ·exact⟨4,1,d4,by simp[b7,br,aF,aD,aW,bO,bH,bC,bf,e1,e2,e3,e4,aR,bA,bQ,ak,flat,aH,aS,cU,e7,bN,aX,bT,aq,bz,ao,aa,cz,bI],by decide,by decide,by decide,by decide,by decide,p4⟩
  ·exact⟨1,4,d4,by simp[b7,br,aF,aD,aW,bO,bH,bC,bf,e1,e2,e3,e4,aR,bA,bQ,ak,flat,aH,aS,cU,e7,bN,aX,bT,aq,bz,ao,aa,cz,bI],by decide,by decide,by decide,by decide,by decide,p4⟩
  ·exact⟨4,4,d4,by simp[b7,br,aF,aD,aW,bO,bH,bC,bf,e1,e2,e3,e4,aR,bA,bQ,ak,flat,aH,aS,cU,e7,bN,aX,bT,aq,bz,ao,aa,cz,bI],by decide,by decide,by decide,by decide,by decide,p4⟩
  ·exact⟨4,3,d4,by simp[b7,br,aF,aD,aW,bO,bH,bC,bf,e1,e2,e3,e4,aR,bA,bQ,ak,flat,aH,aS,cU,e7,bN,aX,bT,aq,bz,ao,aa,cz,bI],by decide,by decide,by decide,by decide,by decide,p4⟩
  ·exact⟨1,2,d4,by simp[b7,br,aF,aD,aW,bO,bH,bC,bf,e1,e2,e3,e4,aR,bA,bQ,ak,flat,aH,aS,cU,e7,bN,aX,bT,aq,bz,ao,aa,cz,bI],by decide,by decide,by decide,by decide,by decide,p4⟩
  ·exact⟨2,1,d4,by simp[b7,br,aF,aD,aW,bO,bH,bC,bf,e1,e2,e3,e4,aR,bA,bQ,ak,flat,aH,aS,cU,e7,bN,aX,bT,aq,bz,ao,aa,cz,bI],by decide,by decide,by decide,by decide,by decide,p4⟩
 ·by_cases hs:r1=0/\r2=0
  ·obtain⟨rfl,rfl⟩:=hs;refine⟨1,2,d3,?_,by decide,by decide,by decide,by decide,by decide,p3⟩;simp[b7,br,aF,aD,aW,bO,bH,bC,bf,e1,e2,e3,aR,bA,bQ,ak,flat,aH,h3,aq,bz,ao,aa,cz,bI]
  ·have hn:¬ (1 + (r1:Int) + (1 + (r2:Int))=2):=by omega
   refine⟨1 + r1,1 + r2,d3,?_,by omega,by omega,by omega,by omega,by omega,p3⟩;simp[b7,br,aF,aD,aW,bO,bH,bC,bf,e1,e2,e3,aR,bA,bQ,ak,flat,aH,h3,hn,aq,bz,ao,aa,cz,bI]
theorem DO(ts:List Nat)(r:Nat)(h:r < ts.length):aS (.lst (ts.map λn=>.str [n])) (.int r)=some (.pure (.str [ts.getD r 0])):=by
 simp[aS,j3,h]
theorem Pw(hp:eR d)(ts:List Nat)(place way:Nat)(h1:place < ts.length)(h2:ts.length<=64):∃ (n:Nat) (d':D),
  iE [.own d,.pure (.lst (ts.map λn=>.str [n])),.pure (.int place),.pure (.int way)]=some (.pure (.str [n]),[.own d',.pure (.lst (ts.map λn=>.str [n])),.pure (.int place),.pure (.int way)])/\n ∈ ts/\eR d':=by
 have mem:∀ r,r < ts.length->ts.getD r 0 ∈ ts:=λr h=>by simp[h]
 unfold iE bW xq dz;by_cases w1:way=1
 ·subst w1;obtain⟨r,d1,e1,l1,p1⟩:=lp hp (place + 1) ((place:Int) + 1) (by omega) (by omega) (by omega);refine⟨ts.getD r 0,d1,?_,mem r (by omega),p1⟩;simp[b7,br,aq,bz,ao,bQ,ak,flat,aH,aD,aW,bO,bH,bC,bA,bf,e1,aR,aS,j3,cz,bI,show r < ts.length by omega]
 ·by_cases w2:way=2
  ·subst w2;have hr:(place + 1) % ts.length < ts.length:=Nat.mod_lt _ (by omega);refine⟨ts.getD ((place + 1) % ts.length) 0,d,?_,mem _ hr,hp⟩;have hm:fz (.int ((place:Int) + 1)) (.int ts.length)=some (.pure (.int (((place + 1) % ts.length:Nat):Int))):=by
    simp only[fz,ef];rw[if_pos (by simp; omega)];simp
   simp[b7,br,aq,bz,ao,bQ,ak,flat,aH,bA,cu,hm,cz,bI];have hx:=DO ts ((place + 1) % ts.length) hr;simp at hx;simp[hx]
  ·by_cases w3:way=3
   ·subst w3;obtain⟨r,d1,e1,l1,p1⟩:=lp hp 4 4 rfl (by decide) (by decide);by_cases hr:0 < r
    ·refine⟨ts.getD place 0,d1,?_,mem place h1,p1⟩;simp[b7,br,aq,bz,ao,bQ,ak,flat,aH,aD,aW,bO,bH,bC,bf,e1,aR,rA,hU,hr,aS,j3,h1,cz,bI]
    ·obtain⟨r',d2,e2,l2,p2⟩:=sW p1 ts.length (by omega) (by omega);refine⟨ts.getD r' 0,d2,?_,mem r' l2,p2⟩;simp[b7,br,aq,bz,ao,bQ,ak,flat,aH,aD,aW,bO,bH,bC,bf,e1,aR,rA,hU,hr,cu,e2,aS,j3,l2,cz,bI]
   ·obtain⟨r',d2,e2,l2,p2⟩:=sW hp ts.length (by omega) (by omega);refine⟨ts.getD r' 0,d2,?_,mem r' l2,p2⟩;have c1:¬ (way:Int)=1:=by omega
    have c2:¬ (way:Int)=2:=by omega
    have c3:¬ (way:Int)=3:=by omega
    simp[b7,br,aq,bz,ao,bQ,ak,flat,aH,aD,aW,bO,bH,bC,bf,aR,c1,c2,c3,cu,e2,aS,j3,l2,cz,bI]
theorem Px:∀ k,k < 26->lq.getD k 0=97 + k:=by decide
theorem yr(xs:List Nat)(h:xs.length < 64):jT (.lst (xs.map λn=>.str [n]))=some (.own (.lst ((dJ xs).map λn=>.str [n]))):=by
 have e:(xs.map λn=>D.str [n])=(xs.map λn=>[n]).map D.str:=by simp
 unfold jT;simp only[e,pK];rw[if_pos (by simpa using h),v7];simp
def i6(f n:Nat):List Nat:=(Wu n).map λk=>97 + (f + 5 * k) % 26
theorem Py(f n:Nat)(hn:n<=26):(i6 f n).Nodup:=by
 unfold i6;rw[List.nodup_iff_pairwise_ne,Jr];refine(List.pairwise_lt_range (n:=n)).imp_of_mem ?_;intro a b ha hb iR e;simp at ha hb;omega
def rb(pd:D)(m h w n f:Nat)(s7:S)(wy:Nat)(blocks:List D)(a b c:Option S):Dl :=
 [some (.own pd),some (.pure (.int m)),some (.pure (.int h)),some (.pure (.int w)),some (.pure (.int (1 + (n:Int)))),some (.pure (.int f)),some (.pure (.str lq)),some s7,some (.pure (.int wy)),some (.own (.lst blocks)),a,b,c,none,none]
def tD(ts:List Nat):D:=.lst (ts.map λn=>.str [n])
def sT(ts:List Nat)(s:S):Prop:=s = .own (tD ts)\/s = .pure (tD ts)
theorem Pz(n5:ts.length<=64)(hw:w<=4)(i7:eR pd)(h7:sT ts s7)(blocks:List D)(place:Nat)(cN:place < ts.length)(block:List D)(row:Nat) :
  ∃ (x:Tx) (fR:D) (fS:S),da [14] (ag [0] 14) dH (aD iE [.io 0,.val (aa 7),.val (aa 10),.val (aa 8)]) (bY 0 w) (rb pd m h w n f s7 wy blocks (some (.pure (.int place))) (some (.own (.lst block))) (some (.pure (.int row)))) []
   = .ok (x.map λn=>.str [n]) (rb fR m h w n f fS wy blocks (some (.pure (.int place))) (some (.own (.lst block))) (some (.pure (.int row))))/\x.length=w/\(∀ n ∈ x,n ∈ ts)/\eR fR/\sT ts fS:=by
 obtain⟨xs,δ',e,⟨fR,fS,hpd',h7',rfl⟩,hn,hf⟩:=v3 (cs:=[14]) (g:=ag [0] 14) (t:=dH) (el:=aD iE [.io 0,.val (aa 7),.val (aa 10),.val (aa 8)]) (λδ=>∃ pd s7,eR pd/\sT ts s7/\δ=rb pd m h w n f s7 wy blocks (some (.pure (.int place))) (some (.own (.lst block))) (some (.pure (.int row))))
  (λ_ x=>∃ n,n ∈ ts/\x = .str [n]) (bY 0 w) _ [] ⟨pd,s7,i7,h7,rfl⟩ (by rw[cQ]; simp; omega) (λd hd δ ⟨pd,s7,i7,h7,e⟩=>by
   subst e;obtain⟨i,hi,rfl⟩:=Cm hd;obtain⟨k,d',e,hk,p⟩:=Pw i7 ts place wy cN n5;have e':iE [.own pd,.pure (tD ts),.pure (.int place),.pure (.int wy)]=some (.pure (.str [k]),[.own d',.pure (tD ts),.pure (.int place),.pure (.int wy)]):=e;refine⟨_,_,.pure (.str [k]),(rb d' m h w n f (.pure (tD ts)) wy blocks (some (.pure (.int place))) (some (.own (.lst block))) (some (.pure (.int row)))).set 14 (some (.pure (.int i))),rfl,rfl,?_,⟨d',_,p,.inr rfl,rfl⟩,⟨_,hk,rfl⟩⟩;rcases h7 with rfl | rfl
   ·simp[rb,aD,aW,bO,bH,bC,aa,bf,e',aR]
   ·simp[rb,aD,aW,bO,bH,bC,aa,bf,e',aR])
 obtain⟨x,rfl,hx⟩:=Cr (P:=λn=>n ∈ ts) (MS hn hf λd x _ h=>h);exact⟨x,fR,fS,by simpa using e,by simpa using hn,hx,hpd',h7'⟩
theorem PB(n5:ts.length<=64)(hw:w<=4)(hh:h<=4)(i7:eR pd)(h7:sT ts s7)(blocks:List D)(place:Nat)(cN:place < ts.length)(rs:Option S) :
  ∃ (fl:List Tx) (fR:D) (fS:S) (qf:Option S),forL (ag [0] 12) (c_ 11 (aT (di []) (ar (cI [14] (gj (aa 3)) (ag [0] 14) dH (aD iE [.io 0,.val (aa 7),.val (aa 10),.val (aa 8)]))))) (bY 0 h) (rb pd m h w n f s7 wy blocks (some (.pure (.int place))) (some (.own (.lst []))) rs)
   = .ok .next (rb fR m h w n f fS wy blocks (some (.pure (.int place))) (some (.own (.lst (fl.map .str)))) qf)/\fl.length=h/\(∀ r ∈ fl,r.length=w/\∀ n ∈ r,n ∈ ts)/\eR fR/\sT ts fS:=by
 obtain⟨δ',e3,fR,fS,fl,qf,hpd',h7',lL,iP,rfl⟩:=nE (g:=ag [0] 12) (b:=c_ 11 (aT (di []) (ar (cI [14] (gj (aa 3)) (ag [0] 14) dH (aD iE [.io 0,.val (aa 7),.val (aa 10),.val (aa 8)]))))) (λk δ=>∃ (pd:D) (s7:S) (fl:List Tx) (rs:Option S),eR pd/\sT ts s7/\fl.length=k/\(∀ r ∈ fl,r.length=w/\∀ n ∈ r,n ∈ ts)/\δ=rb pd m h w n f s7 wy blocks (some (.pure (.int place))) (some (.own (.lst (fl.map .str)))) rs)
  (bY 0 h) 0 _ ⟨pd,s7,[],rs,i7,h7,rfl,by simp,rfl⟩ (λi d δ hd ⟨pd,s7,fl,rs,i7,h7,lL,iP,e⟩=>by
   subst e;obtain⟨hi,rfl⟩:=v5 hd;obtain⟨x,fR,fS,e,hx,qe,hpd',h7'⟩:=Pz (m:=m) (h:=h) (n:=n) (f:=f) (wy:=wy) n5 hw i7 h7 blocks place cN (fl.map .str) i;have hz:fl.length < W8:=by rw[cQ]; omega
   have ej:=MO x (by omega);refine⟨_,rb fR m h w n f fS wy blocks (some (.pure (.int place))) (some (.own (.lst ((fl ++ [x]).map .str)))) (some (.pure (.int i))),rfl,?_,⟨fR,fS,fl ++ [x],_,hpd',h7',by simp[lL],?_,rfl⟩⟩
   ·unfold rb at e ⊢;simp[c_,gN,aa,sv w (by omega),bH,bc];rw[e];simp[ej,dj,putL,hz]
   ·intro r hr;rcases Ji.mp hr with hr | hr
    ·exact iP r hr
    ·simp at hr; subst hr; exact⟨hx,qe⟩)
 exact⟨fl,fR,fS,qf,e3,by simpa using lL,iP,hpd',h7'⟩
theorem PD(hp:eR d)(m:Nat)(PF:0 < m)(Tb:m<=26):∃ (h w:Nat) (bs:List (Nat×List Tx)) (d':D),
  lg [.own d,.pure (.int m)]=some (.pure (au h w bs),[.own d',.pure (.int m)])/\bB h w bs/\bs.length<=m/\eR d':=by
 obtain⟨h,w,d1,e1,h0,h1,w0,w1,hw,p1⟩:=Pu hp;obtain⟨r,d2,e2,l2,p2⟩:=sW p1 m PF (by omega);obtain⟨f,d3,e3,l3,p3⟩:=lp p2 26 26 rfl (by decide) (by decide);obtain⟨wy,d4,e4,l4,p4⟩:=lp p3 5 5 rfl (by decide) (by decide);-- the tiles
 have ec:=ML (cs:=[13]) (g:=ag [0] 13) (t:=dH) (el:=aq aS 6 (ar (a_ fz (aq bA 5 (ar (a_ gU (eD (.int 5)) (ao 13)))) (ar (eD (.int 26)))))) (λd=>match d with | .int k=>.str [97 + (f + 5 * k.toNat) % 26] | _=>.ay)
  [some (.own d3),some (.pure (.int m)),some (.pure (.int h)),some (.pure (.int w)),some (.pure (.int (1 + (r:Int)))),some (.pure (.int f)),some (.pure (.str lq)),none,none,none,none,none,none,none,none] (bY 0 (1 + r)) [] (by rw[cQ]; simp; omega) (λd hd=>by
   obtain⟨i,hi,rfl⟩:=Cm hd;refine⟨_,_,.pure (.str [97 + (f + 5 * i) % 26]),[some (.own d3),some (.pure (.int m)),some (.pure (.int h)),some (.pure (.int w)),some (.pure (.int (1 + (r:Int)))),some (.pure (.int f)),some (.pure (.str lq)),none,none,none,none,none,none,some (.pure (.int i)),none],rfl,rfl,?_,rfl,rfl⟩;have hk:(f + 5 * i) % 26 < 26:=Nat.mod_lt _ (by decide);have hx:=MP lq ((f + 5 * i) % 26) hk (by decide);rw[Px _ hk] at hx;have hc:((f:Int) + 5 * (i:Int)) % 26=(((f + 5 * i) % 26:Nat):Int):=by omega
   have hmul:gU (.int 5) (.int i)=some (.pure (.int (5 * (i:Int)))):=by
    unfold gU oX ef;have:jj 5 i=true:=by unfold jj; simp
    simp only[this,if_true]
   have PH:fz (.int ((f:Int) + 5 * (i:Int))) (.int 26)=some (.pure (.int (((f + 5 * i) % 26:Nat):Int))):=by
    rw[<- hc]; rfl
   generalize lq=lt at hx ⊢;simp only[aq,bz,ao,MI,MJ,MH,fQ,MK,List.set_cons_succ,List.set_cons_zero,Jg,List.getElem?_cons_zero,MG,hmul,bA,PH,hx])
 have PJ:List.map (λ(d:D)=>match d with | .int k=>D.str [97 + (f + 5 * k.toNat) % 26] | _=>.ay) (bY 0 (1 + r))=(i6 f (1 + r)).map λn=>.str [n]:=by
  simp[bY,i6]
 rw[PJ] at ec;simp only[Q3] at ec;have DP:(i6 f (1 + r)).length=1 + r:=by simp[i6]
 have es:=yr (i6 f (1 + r)) (by rw[DP]; omega);have n5:(dJ (i6 f (1 + r))).length=1 + r:=by rw[v9,DP]
 have aQ:=pL (Py f (1 + r) (by omega));have hle:∀ t ∈ dJ (i6 f (1 + r)),97<=t/\t<=122:=λt ht=>by
  rw[nF] at ht;simp[i6] at ht;obtain⟨k,_,rfl⟩:=ht;omega
 generalize dJ (i6 f (1 + r))=ts at es n5 aQ hle;-- the blocks
 obtain⟨δ',e5,pd,s7,bs,a,b,c,i7,h7,hbl,hbt,iP,rfl⟩:=nE (g:=ag [0] 10) (b:=(aI (aF (hV cV) (ag [0] 11)) (aI (cW (gj (aa 2)) (ag [0] 12) (c_ 11 (aT (di []) (ar (cI [14] (gj (aa 3)) (ag [0] 14) dH (aD iE [.io 0,.val (aa 7),.val (aa 10),.val (aa 8)])))))) (c_ 9 (e_ (cb (aq aS 7 (ao 10)) (cb (aT fc (ao 11)) cV)))))))
  (λk δ=>∃ (pd:D) (s7:S) (bs:List (Nat×List Tx)) (a b c:Option S),eR pd/\sT ts s7/\bs.length=k/\bs.map (·.1)=ts.take k/\(∀ b ∈ bs,b.2.length=h/\∀ r ∈ b.2,r.length=w/\∀ n ∈ r,n ∈ ts)/\δ=rb pd m h w r f s7 wy (bs.map dB) a b c)
  (bY 0 (1 + r)) 0 (rb d4 m h w r f (.own (tD ts)) wy [] none none none) ⟨d4,_,[],none,none,none,p4,.inl rfl,rfl,rfl,by simp,rfl⟩ (λi d δ hd ⟨pd,s7,bs,a,b,c,i7,h7,hbl,hbt,iP,e⟩=>by
   subst e;obtain⟨hi,rfl⟩:=v5 hd;rw[Jb] at hbl hbt;obtain⟨fl,fR,fS,qf,e,lL,hflt,hpd',h7'⟩:=PB (m:=m) (n:=r) (f:=f) (wy:=wy) (ts:=ts) (by omega) w1 h1 i7 h7 (bs.map dB) i (by omega) c;have hz:bs.length < W8:=by rw[cQ]; omega
   have hx:=DO ts i (by omega);refine⟨_,rb fR m h w r f fS wy ((bs ++ [(ts.getD i 0,fl)]).map dB) (some (.pure (.int i))) (some (.own (.lst (fl.map .str)))) qf,rfl,?_,⟨fR,fS,bs ++ [(ts.getD i 0,fl)],_,_,_,hpd',h7',by simp[hbl],?_,?_,rfl⟩⟩
   ·unfold rb at e ⊢;simp[aF,aa,sv h (by omega)];rw[e];rcases h7' with rfl | rfl
    ·simp[c_,gN,aq,bz,ao,tD,hx,fc,putL,hz,dB]
    ·simp[c_,gN,aq,bz,ao,tD,hx,fc,putL,hz,dB]
   ·rw[Jb,WV,hbt,List.take_add_one];simp[show i < ts.length by omega]
   ·intro b hb;rcases Ji.mp hb with hb | hb
    ·exact iP b hb
    ·simp at hb; subst hb; exact⟨lL,hflt⟩)
 have Tc:bs.length=1 + r:=by simpa using hbl
 have yt:bs.map (·.1)=ts:=by
  rw[hbt,List.take_of_length_le];simp[n5]
 refine⟨h,w,bs,pd,?_,⟨h0,h1,w0,w1,hw,by omega,by omega,by rw[yt]; exact aQ,λb hb=>hle _ (by rw[<- yt]; exact WU hb),λb hb=>by rw[yt]; exact iP b hb⟩,by omega,i7⟩;unfold lg bW xr dz;unfold lq at ec;simp[b7,br,aF,aD,aW,bO,bH,bC,bf,e1,aR,bN,aX,bT,aa,e2,bA,e3,Cs r (by omega),bc];rw[ec];simp[dj,es,e4,aR,aa,Cs r (by omega)];unfold rb lq tD at e5;rw[e5];simp[ao,fc,cz,bI,aa]
theorem gt_int(i j:Int):rA (.int i) (.int j)=some (.pure (.bl (decide (j < i)))):=rfl
theorem PL(i j:Int):bQ (.int i) (.int j)=some (.pure (.bl (i == j))):=rfl
theorem add_int(i j:Int):bA (.int i) (.int j)=some (.pure (.int (i + j))):=rfl
theorem n8(h w:Nat)(bs:List (Nat×List Tx)):aS (au h w bs) (.int 0)=some (.pure (.int h))/\aS (au h w bs) (.int 1)=some (.pure (.int w))/\aS (au h w bs) (.int 2)=some (.pure (.tup (bs.map dB))):=by
 refine⟨?_,?_,?_⟩
 ·simp[aS,mh]
 ·simp[aS,vZ]
 ·simp[aS,vY]
theorem yu(np:List Nat)(n:Nat)(b:DS)(ss:List S):bW np n b ss=if b7 np 0 ss then(match b (br n ss) with
 | .ok fl δ=>(cz fl).bind λr=>(bI 0 ss δ).map λaA=>(r,aA)
 | _=>none) else none:=rfl
def jF(bs:List (Nat×List Tx)):D:=.az (bs.map λb=>(Sum.inr [b.1],cR b.2))
theorem yv:∀ (kps acc:List (aM×D)),((acc ++ kps).map (·.1)).Nodup->l7 kps acc=acc ++ kps
 | [],acc,_=>by simp[l7]
 | p :: r,acc,h=>by
  have hn:(acc.any λkv=>decide (kv.1=p.1))=false:=by
   rw[JU];intro kv hkv;simp only[decide_eq_true_eq];intro e;rw[WV,List.nodup_append] at h;exact h.2.2 kv.1 (WU hkv) p.1 (WU Wi) e
  have hp:putD acc p.1 p.2=acc ++ [p]:=by
   unfold putD;rw[hn];simp
  show l7 r (putD acc p.1 p.2)=_;rw[hp,yv r (acc ++ [p]) (by simpa using h)];simp
theorem DQ:∀ bs:List (Nat×List Tx),il (bs.map dB)=some (bs.map λb=>(Sum.inr [b.1],cR b.2))
 | []=>rfl
 | b :: r=>by
  have:=DQ r;simp only[Wc];simp[il,bJ,this]
theorem DU(R:bB h w bs):iV (.tup (bs.map dB))=some (.own (jF bs)):=by
 unfold iV;simp only[DQ,WL,Wq];have hz:W8=16777216:=rfl;rw[if_pos (by have:=R.n1; omega),yv]
 ·rfl
 ·simp only[Q3,Wv];rw[List.nodup_iff_pairwise_ne,Jr];have:=R.up;rw[Jr] at this;exact this.imp λ{a b} iR=>by simp; omega
theorem DW(bs:List (Nat×List Tx))(n:Nat):bj (bs.map λb=>((Sum.inr [b.1]:aM),cR b.2)) (.inr [n])=(bs.find? λb=>decide (b.1=n)).map λb=>cR b.2:=by
 unfold bj;rw[List.find?_map];simp[Function.comp_def]
theorem PM(h:n ∈ bs.map (·.1)):dm (jF bs) (.str [n])=some (.pure (cR (eA bs n))):=by
 obtain⟨b,hb,_,e,e2⟩:=qa h;show((bJ (.str [n])).bind λk=>(bj (bs.map λb=>((Sum.inr [b.1]:aM),cR b.2)) k).map S.pure)=_;simp only[bJ,WL,DW,e,Wz,e2]
theorem PN(h:n ∈ bs.map (·.1)):dU true (.str [n]) (jF bs)=some (.pure (.bl false)):=by
 obtain⟨b,hb,_,e,e2⟩:=qa h;show((bJ (.str [n])).map λk=>S.pure (.bl (if true then !(bj (bs.map λb=>((Sum.inr [b.1]:aM),cR b.2)) k).isSome else(bj (bs.map λb=>((Sum.inr [b.1]:aM),cR b.2)) k).isSome)))=_;simp only[bJ,Wz,DW,e,Wz];rfl
theorem PQ(xs:List Tx)(m:Nat)(h:∀ x ∈ xs,x.length<=m):gi xs<=xs.length * m:=by
 induction xs with
 | nil=>simp[gi]
 | cons x r ih =>
  have h1:=h x Wi;have h2:=ih λy hy=>h y (Wg _ hy)
  have e:gi (x :: r)=x.length + gi r:=by simp[gi]
  rw[e,WO,Nat.succ_mul];omega
theorem DY(xs:List Tx)(h:gi xs<=16777216):di [] (.lst (xs.map .str))=some (.pure (.str xs.flatten)):=by
 unfold di;simp only[pK,su];rw[if_pos (by simpa using h)]
theorem mul_int(i j:Int)(h0:0<=j)(h1:j<=1000):gU (.int i) (.int j)=some (.pure (.int (i * j))):=by
 unfold gU oX ef;have:jj i j=true:=by unfold jj; simp; omega
 simp only[this,if_true]
theorem qg(e:b (br n [.pure x,.pure y]) = .ok (.ret v) δ1):bW [] n b [.pure x,.pure y]=some (v,[.pure x,.pure y]):=by
 rw[yu,e]; rfl
theorem PR(e:b (br n [.pure x,.pure y]) = .ok .next δ1):bW [] n b [.pure x,.pure y]=some (.pure .ay,[.pure x,.pure y]):=by
 rw[yu,e]; rfl
theorem mI(e:b (br n [.pure x]) = .ok (.ret v) δ1):bW [] n b [.pure x]=some (v,[.pure x]):=by
 rw[yu,e]; rfl
theorem cw(h:a δ = .ok .next δ1):aI a b δ=b δ1:=by unfold aI; rw[h]; rfl
theorem iH(h:it δ = .ok ds δ1):cW it g b δ=forL g b ds δ1:=by unfold cW; rw[h]; rfl
theorem DZ(ds:List D):cu (.tup ds)=some (.pure (.int ds.length)):=rfl
theorem PU(ts:List Nat):fg (ts.map λn=>D.str [n])=some (ts.map λn=>[n]):=by
 have:=pK (ts.map λn=>[n]);simpa[Wv,Function.comp_def] using this
theorem D0(xs:List Tx)(h:gi xs<=16777216):di [] (cR xs)=some (.pure (.str xs.flatten)):=by
 unfold di;simp only[pK,su];rw[if_pos (by simpa using h)]
theorem PX(k t:Nat):bY (k:Int) (t + 1) = .int (k:Int) :: bY ((k + 1:Nat):Int) t:=by
 unfold bY;rw[Jo,Wc,Wv];simp only[Function.comp_def,List.cons.injEq,D.int.injEq];refine⟨by simp,Je λi _=>?_⟩;simp only[D.int.injEq];push_cast;omega
theorem kg(h1:g (.pure d) δ=some δ1)(h2:b δ1 = .ok .next δ2):forL g b (d :: r) δ=forL g b r δ2:=by
 conv=>lhs; unfold forL
 rw[h1];simp only[h2,fQ]
theorem PY(R:bB h w bs)(ht:t0 ∈ bs.map (·.1)):nV [.pure (au h w bs),.pure (.str [t0])]=some (.pure .ay,[.pure (au h w bs),.pure (.str [t0])]):=by
 have x2:=(n8 h w bs).2.2;have hd:=DU R;have hi:=PN ht;rw[nV,xG];generalize au h w bs=ru at *;generalize D.tup (bs.map dB)=bd at *;generalize jF bs=DD at *;refine PR (δ1:=[some (.pure ru),some (.pure (.str [t0]))]) ?_;simp[br,aa,ao,aq,bz,x2,hd,hi,gJ,lT,aH,S.d]
theorem n9:∀ xs:List Tx,gi xs=xs.flatten.length
 | []=>rfl
 | x :: r=>by
  have:=n9 r;show x.length + gi r=_;rw[this,QL,WW]
theorem yw:∀ z:Tx,(z.map λn=>([n]:Tx)).flatten=z
 | []=>rfl
 | n :: r=>by simp[yw r]
theorem PZ(z:Tx)(h:z.length<=1000):di [] (.lst (z.map λn=>.str [n]))=some (.pure (.str z)):=by
 have:=DY (z.map λn=>[n]) (by rw[n9,yw]; omega);rw[yw,Wv] at this;exact this
theorem P0(z:Tx):(g8 z).length<=z.length:=by
 unfold g8;rw[v9];have:=sx z [];simpa using this
theorem D1(DD:D)(f:Nat->Tx)(z:Tx)(hd:∀ n ∈ z,dm DD (.str [n])=some (.pure (.str (f n))))(hz:z.length<=100)(hl:(z.flatMap f).length < 64) :
  iY [.pure DD,.pure (.str z)]=some (.pure (.str (g8 (z.flatMap f))),[.pure DD,.pure (.str z)]):=by
 have c:=nG (cs:=[2]) (g:=ag [] 2) (t:=dH) (el:=aq dm 0 (ao 2)) (λn:Nat=>D.str [n]) (λn=>D.str (f n)) [some (.pure DD),some (.pure (.str z)),none] z [] (by rw[cQ]; simp; omega) (λn hn=>by
  have q:=hd n hn;refine⟨[some (.pure DD),some (.pure (.str z)),some (.pure (.str [n]))],_,.pure (.str (f n)),[some (.pure DD),some (.pure (.str z)),some (.pure (.str [n]))],rfl,rfl,?_,rfl,rfl⟩;simp[aq,bz,ao,q])
 have j1:di [] (.lst (z.map λn=>D.str (f n)))=some (.pure (.str (z.flatMap f))):=by
  have:=DY (z.map f) (by rw[n9,<- List.flatMap_def]; omega);rw[Wv,<- List.flatMap_def] at this;exact this
 have s1:nH (.str (z.flatMap f))=some (.own (.lst ((g8 (z.flatMap f)).map λn=>.str [n]))):=by
  simp only[nH];rw[if_pos hl];rfl
 have j2:=PZ (g8 (z.flatMap f)) (by have:=P0 (z.flatMap f); omega);rw[iY,xH];refine qg (δ1:=[some (.pure DD),some (.pure (.str z)),none]) ?_;generalize g8 (z.flatMap f)=W at *;generalize hY:(z.map λn=>D.str (f n))=Y at *;generalize z.flatMap f=X at *;generalize hZ:(z.map λn=>D.str [n])=ZS at *;have e:bu (aa 1) [some (.pure DD),some (.pure (.str z)),none] = .ok ZS [some (.pure DD),some (.pure (.str z)),none]:=by
  rw[<- hZ];simp[eQ,aa]
 simp only[br];simp[e,bH,bc];rw[c];simp[dj,j1,s1,j2]
def jG(bs:List (Nat×List Tx)):D:=.az (bs.map λb=>(Sum.inr [b.1],.str (tx bs b.1)))
theorem D2(g:Nat->Tx):∀ bs:List (Nat×List Tx),il (bs.map λb=>.tup [.str [b.1],.str (g b.1)])=some (bs.map λb=>(Sum.inr [b.1],.str (g b.1)))
 | []=>rfl
 | b :: r=>by
  have:=D2 g r;simp only[Wc];simp[il,bJ,this]
theorem P1{h w:Nat}{bs:List (Nat×List Tx)}(R:bB h w bs):iV (.lst (bs.map λb=>.tup [.str [b.1],.str (tx bs b.1)]))=some (.own (jG bs)):=by
 unfold iV;simp only[D2 (tx bs),WL,Wq];have hz:W8=16777216:=rfl;rw[if_pos (by have:=R.n1; omega),yv]
 ·rfl
 ·simp only[Q3,Wv];rw[List.nodup_iff_pairwise_ne,Jr];have:=R.up;rw[Jr] at this;exact this.imp λ{a b} iR=>by simp; omega
theorem P2{bs:List (Nat×List Tx)}{n:Nat}(h:n ∈ bs.map (·.1)):dm (jG bs) (.str [n])=some (.pure (.str (tx bs n))):=by
 have key:∀ l:List (Nat×List Tx),n ∈ l.map (·.1)->bj (l.map λb=>((Sum.inr [b.1]:aM),D.str (tx bs b.1))) (.inr [n])=some (.str (tx bs n)):=λl=>by
  induction l with
  | nil=>intro h; simp at h
  | cons b r ih =>
   intro h;unfold bj at ih ⊢;rw[Wc,WH];by_cases e:b.1=n
   ·simp[e]
   ·have:decide ((Sum.inr [b.1]:aM)=Sum.inr [n])=false:=by simp[e]
    simp only[this];refine ih ?_;simp at h ⊢;rcases h with h | h
    ·exact absurd h.symm e
    ·exact h
 show((bJ (.str [n])).bind λk=>(bj (bs.map λb=>((Sum.inr [b.1]:aM),D.str (tx bs b.1))) k).map S.pure)=_;simp[bJ,key bs h]
abbrev n_:DE:=aD iY [.val (aa 1),.val (aa 0)]
theorem P4{h w:Nat}{bs:List (Nat×List Tx)}(G:i4 h w bs){z:Tx}(hz:∀ n ∈ z,n ∈ bs.map (·.1))(hl:z.length<=bs.length):gp n_ [jG bs] (.str z)=some (.str (iF bs z)):=by
 have n1:=G.R.n1;have e:=D1 (jG bs) (tx bs) z (λn hn=>P2 (hz n hn)) (by omega) (Pk G z hz hl);unfold gp n_ iF;generalize jG bs=DD at *;generalize g8 (z.flatMap (tx bs))=W at *;simp[aD,aW,bO,bC,aa,bf,e,aR,S.d]
abbrev i8(bs:List (Nat×List Tx))(t M:Nat):D:=.lst ((Wu M).map λk=>.str (sq bs t k))
theorem D3{b:Nat×List Tx}:∀ {l:List (Nat×List Tx)},(l.map (·.1)).Nodup->b ∈ l->l.find? (λx=>decide (x.1=b.1))=some b
 | a :: r,nd,hb=>by
  rw[Wc] at nd;obtain⟨n1,n2⟩:=Q2.mp nd;rw[WH];rcases Wl.mp hb with rfl | hb
  ·simp
  ·have:a.1≠b.1:=λe=>n1 (by rw[e]; exact WU hb)
   simp only[this,decide_false];exact D3 n2 hb
theorem D4{h w:Nat}{bs:List (Nat×List Tx)}(R:bB h w bs){b:Nat×List Tx}(hb:b ∈ bs):b.2.flatten.length<=16/\eA bs b.1=b.2:=by
 obtain⟨h1,h2⟩:=R.eA b hb;have hh:=R.h1;have hw:=R.w1;refine⟨?_,?_⟩
 ·have:=PQ b.2 4 λr hr=>by have:=(h2 r hr).1; omega
  rw[n9] at this;omega
 ·obtain⟨b',en,e1,e3,e2⟩:=qa (bs:=bs) (n:=b.1) (WU hb);rw[e2];have:=D3 (yj R) hb;rw[this] at e3
  cases e3;rfl
theorem P5{h w t:Nat}{bs:List (Nat×List Tx)}(G:i4 h w bs)(ht:t ∈ bs.map (·.1)):∃ M s,s < M/\sq bs t M=sq bs t s/\M<=64 /\
  nW [.pure (au h w bs),.pure (.str [t])]=some (.pure (.tup [i8 bs t M,.int (s:Nat)]),[.pure (au h w bs),.pure (.str [t])]):=by
 have R:=G.R;have n1:=R.n1;obtain⟨L,hL,fO⟩:=G.fin t ht;obtain⟨M,s,hk,hs,e,hM⟩:=Dw (F:=gp n_ [jG bs]) fO (λk=>P4 G (jE R ht k) (ym R ht k)) 1000000 0 (by simp) (by omega) (by decide);refine⟨M,s,hs,e,by omega,?_⟩;have hW:pP (gp n_ [jG bs]) (.str [t])=some (.tup [i8 bs t M,.int (s:Nat)]):=by
  show(wk (gp n_ [jG bs]) 1000000 [] [t]).map _=_;have:wk (gp n_ [jG bs]) 1000000 [] [t]=some ((Wu M).map (sq bs t),s):=hk;rw[this];simp
 have x2:=(n8 h w bs).2.2;have hd:=P1 R;have c:=nG (cs:=[3,4]) (g:=bN 2 (aX (ag [] 3) (aX (ag [] 4) bT))) (t:=dH) (el:=e_ (cb (aa 3) (cb (aD iY [.val (md (aa 3) (aT (di []) (ao 4))),.val (aa 3)]) cV))) dB (λb=>D.tup [.str [b.1],.str (tx bs b.1)]) [some (.pure (au h w bs)),some (.pure (.str [t])),none,none,none] bs [] (by rw[cQ]; simp; omega) (λb hb=>by
  obtain⟨l1,l2⟩:=D4 R hb;have j:di [] (cR b.2)=some (.pure (.str b.2.flatten)):=D0 b.2 (by rw[n9]; omega);have g:=D1 (.az [(Sum.inr [b.1],.str b.2.flatten)]) (λ_=>b.2.flatten) [b.1] (λn hn=>by
   have:n=b.1:=by simpa using hn
   rw[this];show((bJ (.str [b.1])).bind λk=>(bj [((Sum.inr [b.1]:aM),D.str b.2.flatten)] k).map S.pure)=_;simp[bJ,bj]) (by simp) (by rw[show([b.1].flatMap λ_=>b.2.flatten)=b.2.flatten by simp]; omega)
  have e:g8 ([b.1].flatMap λ_=>b.2.flatten)=tx bs b.1:=by
   unfold tx;rw[l2];simp
  rw[e] at g;refine⟨[some (.pure (au h w bs)),some (.pure (.str [t])),none,some (.pure (.str [b.1])),some (.pure (cR b.2))],_,.pure (.tup [.str [b.1],.str (tx bs b.1)]),[some (.pure (au h w bs)),some (.pure (.str [t])),none,some (.pure (.str [b.1])),some (.pure (cR b.2))],rfl,rfl,?_,rfl,rfl⟩;generalize cR b.2=B at *;generalize b.2.flatten=BF at *;generalize tx bs b.1=TX at *;generalize au h w bs=ru at *;simp[md,aa,ao,j,bJ,aD,aW,bO,bC,bf,g,aR])
 rw[nW,xI];generalize au h w bs=ru at *;generalize hB:bs.map dB=B at *;generalize (bs.map λb=>D.tup [.str [b.1],.str (tx bs b.1)])=Y at *;generalize jG bs=DD at *;refine qg (δ1:=[some (.pure ru),some (.pure (.str [t])),some (.pure DD),none,none]) ?_;rw[cw (δ1:=[some (.pure ru),some (.pure (.str [t])),some (.own DD),none,none]) (by
  have i:bu (aq aS 0 (ar (eD (.int 2)))) [some (.pure ru),some (.pure (.str [t])),none,none,none] = .ok B [some (.pure ru),some (.pure (.str [t])),none,none,none]:=by
   simp[eQ,aq,bz,ao,x2]
  simp only[br];simp[aF,i,bH,bc];rw[c];simp[dj,hd])]
 have P6:pP (gp (aD iY [.val (aa 1),.val (aa 0)]) [DD]) (.str [t])=some (.tup [i8 bs t M,.int (s:Nat)]):=hW;clear hW hk;generalize aD iY [.val (aa 1),.val (aa 0)]=FB at *;simp[sE,aa,iW,S.d,P6]
def iD(o:Option Nat):Option D:=o.map λj=>D.int (j:Int)
structure Iv(S:Nat->Tx)(ds:List (aM×D))(i:Nat)(l:Tx):Prop where
 val:∀ x,bj ds (.inr [x])=iD (match bF S x i with
  | some j=>some j
  | none=>if x ∈ l then some i else none)
 len:ds.length<=26 * i + l.length
 ks:∃ K:List Nat,ds.map (·.1)=K.map (λn=>(Sum.inr [n]:aM))/\K.Nodup
def pN(ds:List (aM×D))(a i:Nat):List (aM×D):=match bj ds (.inr [a]) with
 | some _=>ds
 | none=>ds ++ [(.inr [a],.int (i:Int))]
theorem P7(ds:List (aM×D))(k:aM)(v:D)(k':aM):bj (ds ++ [(k,v)]) k'=match bj ds k' with
  | some d=>some d
  | none=>if k=k' then some v else none:=by
 unfold bj;rw[List.find?_append]
 cases ds.find? λkv=>decide (kv.1=k') with
 | some p=>rfl
 | none =>
  by_cases h:k=k' <;> simp[h]
theorem sX{ds:List (aM×D)}{k:aM}{v:D}(h:bj ds k=none):putD ds k v=ds ++ [(k,v)]:=by
 unfold putD;rw[if_neg];intro q;obtain⟨kv,h1,h2⟩:=List.any_eq_true.mp q;unfold bj at h;have:=JO.mp (by
  cases e:ds.find? λkv=>decide (kv.1=k) with
  | none=>rfl
  | some p=>rw[e] at h; cases h) kv h1
 exact this h2
theorem P8{ds:List (aM×D)}{a:Nat}{v:D}(h:∃ K:List Nat,ds.map (·.1)=K.map (λn=>(Sum.inr [n]:aM))/\K.Nodup)(e:bj ds (.inr [a])=none):∃ K:List Nat,(ds ++ [((Sum.inr [a]:aM),v)]).map (·.1)=K.map (λn=>(Sum.inr [n]:aM))/\K.Nodup:=by
 obtain⟨K,h1,h2⟩:=h;refine⟨K ++ [a],by rw[WV,WV,h1]; rfl,Jq.mpr ⟨h2,by simp,λx hx y hy q=>?_⟩⟩;have wH:y=a:=by simpa using hy
 subst wH q;have:(Sum.inr [x]:aM) ∈ ds.map (·.1):=by rw[h1]; exact WG.mpr ⟨x,hx,rfl⟩
 obtain⟨kv,hk,ek⟩:=WG.mp this;unfold bj at e
 cases f:ds.find? λkv=>decide (kv.1=(Sum.inr [x]:aM)) with
 | none=>exact absurd (decide_eq_true ek) (JO.mp f kv hk)
 | some p=>rw[f] at e; cases e
theorem Iv.put{S:Nat->Tx}{ds:List (aM×D)}{i:Nat}{l:Tx}(I:Iv S ds i l)(a:Nat):Iv S (pN ds a i) i (l ++ [a]):=by
 have va:=I.val a;have hl:=I.len;unfold pN
 cases e:bj ds (.inr [a]) with
 | some d =>
  refine⟨λx=>?_,by simp; omega,I.ks⟩;simp only;rw[I.val x]
  cases f:bF S x i with
  | some j=>rfl
  | none =>
   simp only;by_cases hx:x ∈ l
   ·simp[hx]
   ·have:x≠a:=λz=>by
     rw[e,<- z,f] at va;simp[hx,iD] at va
    simp[hx,this]
 | none =>
  refine⟨λx=>?_,by simp; omega,P8 I.ks e⟩;simp only;rw[P7,I.val x]
  cases f:bF S x i with
  | some j=>rfl
  | none =>
   simp only;by_cases hx:x ∈ l
   ·simp[hx,iD]
   ·by_cases z:x=a
    ·subst z;simp[hx,iD]
    ·have z':a≠x:=λq=>z q.symm
     simp[hx,iD,z,z']
theorem Iv.next{S:Nat->Tx}{ds:List (aM×D)}{i:Nat}(I:Iv S ds i (S i))(h:(S i).length<=26):Iv S ds (i + 1) []:=by
 have hl:=I.len;refine⟨λx=>?_,by simp; omega,I.ks⟩;rw[I.val x,Pd]
 cases bF S x i with
 | some j=>rfl
 | none =>
  by_cases hx:x ∈ S i <;> simp[hx]
abbrev s8(ru tt L st:D)(ds:List (aM×D))(o5 o6:Option S)(o7:Option D):Dl:=[some (.pure ru),some (.pure tt),some (.pure L),some (.pure st),some (.own (.az ds)),o5,o6,o7.map .pure]
theorem P9(ru tt L st:D)(ds:List (aM×D))(o6:Option S)(i a:Nat)(hz:ds.length < W8):j5 4 (aa 7) (aa 5) (s8 ru tt L st ds (some (.pure (.int (i:Int)))) o6 (some (.str [a]))) = .ok .next (s8 ru tt L st (pN ds a i) (some (.pure (.int (i:Int)))) o6 (some (.str [a]))):=by
 unfold pN
 cases e:bj ds (.inr [a]) with
 | some d=>simp[j5,ir,aa,S.d,bJ,hz,e]
 | none=>simp[j5,ir,aa,S.d,bJ,hz,e,sX e]
theorem D5(ru tt L st:D)(S:Nat->Tx)(i:Nat)(hi:i<=100)(o6:Option DV.S):∀ (l done:Tx) (ds:List (aM×D)) (o7:Option D),Iv S ds i done->(done ++ l).length<=26 ->
  ∃ bx o7',Iv S bx i (done ++ l)/\forL (ag [] 7) (j5 4 (aa 7) (aa 5)) (l.map λn=>D.str [n]) (s8 ru tt L st ds (some (.pure (.int (i:Int)))) o6 o7) = .ok .next (s8 ru tt L st bx (some (.pure (.int (i:Int)))) o6 o7')
 | [],done,ds,o7,I,_=>⟨ds,o7,by rw[Q7]; exact I,rfl⟩
 | a :: l,done,ds,o7,I,hl=>by
  have hd:=I.len;have fG:done.length + (l.length + 1)<=26:=by simpa using hl
  obtain⟨bx,o7',I',e⟩:=D5 ru tt L st S i hi o6 l (done ++ [a]) (pN ds a i) (some (.str [a])) (I.put a) (by rw[Qb]; exact hl);refine⟨bx,o7',by rw[Qb] at I'; exact I',?_⟩;rw[Wc,kg (δ1:=s8 ru tt L st ds (some (.pure (.int (i:Int)))) o6 (some (.str [a]))) rfl (P9 ru tt L st ds o6 i a (by rw[cQ]; omega))];exact e
theorem P_(ru tt L st:D)(S:Nat->Tx)(M:Nat)(hM:M<=100)(hS:∀ k,(S k).length<=26):∃ ds o5 o6 o7,Iv S ds M []/\forL (bN 2 (aX (ag [] 5) (aX (ag [] 6) bT))) (cW (bu (aa 6)) (ag [] 7) (j5 4 (aa 7) (aa 5))) (ip ((Wu M).map λk=>D.str (S k))) (s8 ru tt L st [] none none none) = .ok .next (s8 ru tt L st ds o5 o6 o7):=by
 obtain⟨δ',e,ds,o5,o6,o7,I,rfl⟩:=nE (g:=bN 2 (aX (ag [] 5) (aX (ag [] 6) bT))) (b:=cW (bu (aa 6)) (ag [] 7) (j5 4 (aa 7) (aa 5)))
  (λn δ=>∃ ds o5 o6 o7,Iv S ds n []/\δ=s8 ru tt L st ds o5 o6 o7) (ip ((Wu M).map λk=>D.str (S k))) 0 (s8 ru tt L st [] none none none) ⟨[],none,none,none,⟨λx=>by simp[bj,bF,iD],by simp,[],rfl,JS⟩,rfl⟩ (λi d δ hd ⟨ds,o5,o6,o7,I,e⟩=>by
   subst e;obtain⟨d',h1,rfl⟩:=vJ hd;have hi:i < M:=by
    have:=(W5.mp h1).1;simpa using this
   have:d' = .str (S i):=by
    rw[Wy,List.getElem?_range hi] at h1;simpa using h1.symm
   subst this;rw[Jb] at I ⊢;obtain⟨bx,o7',I',e⟩:=D5 ru tt L st S i (by omega) (some (.pure (.str (S i)))) (S i) [] ds o7 I (by simpa using hS i);rw[Q3] at I';refine⟨s8 ru tt L st ds (some (.pure (.int (i:Int)))) (some (.pure (.str (S i)))) o7,s8 ru tt L st bx (some (.pure (.int (i:Int)))) (some (.pure (.str (S i)))) o7',rfl,?_,bx,_,_,o7',I'.next (hS i),rfl⟩;have iq:bu (aa 6) (s8 ru tt L st ds (some (.pure (.int (i:Int)))) (some (.pure (.str (S i)))) o7) = .ok ((S i).map λn=>D.str [n]) (s8 ru tt L st ds (some (.pure (.int (i:Int)))) (some (.pure (.str (S i)))) o7):=by
    simp[eQ,aa]
   exact(iH iq).trans e)
 refine⟨ds,o5,o6,o7,?_,e⟩;have:0 + (ip ((Wu M).map λk=>D.str (S k))).length=M:=by simp[ip]
 rw[this] at I;exact I
theorem D6{h w:Nat}{bs:List (Nat×List Tx)}(R:bB h w bs):jD [.pure (au h w bs)]=some (.own (tD (bs.map (·.1))),[.pure (au h w bs)]):=by
 have n1:=R.n1;have x2:=(n8 h w bs).2.2;have c:=nG (cs:=[1,2]) (g:=bN 2 (aX (ag [] 1) (aX (ag [] 2) bT))) (t:=dH) (el:=aa 1) dB (λb=>D.str [b.1]) [some (.pure (au h w bs)),none,none] bs [] (by rw[cQ]; simp; omega) (λb hb=>⟨[some (.pure (au h w bs)),some (.pure (.str [b.1])),some (.pure (cR b.2))],_,.pure (.str [b.1]),[some (.pure (au h w bs)),some (.pure (.str [b.1])),some (.pure (cR b.2))],rfl,rfl,by simp[aa],rfl,rfl⟩);have et:tD (bs.map (·.1)) = .lst (bs.map λb=>D.str [b.1]):=by unfold tD; rw[Wv]; rfl
 rw[jD,xE,et];generalize au h w bs=ru at *;generalize hB:bs.map dB=B at *;generalize (bs.map λb=>D.str [b.1])=Y at *;refine mI (δ1:=[some (.pure ru),none,none]) ?_;have i:bu (aq aS 0 (ar (eD (.int 2)))) [some (.pure ru),none,none] = .ok B [some (.pure ru),none,none]:=by
  simp[eQ,aq,bz,ao,x2]
 simp only[br];simp[i,bH,bc];rw[c];simp[dj]
def og(bs:List (Nat×List Tx))(f:Nat->Option Nat):List D:=bs.map λb=>D.tup [.str [b.1],(iD (f b.1)).getD .ay]
theorem Iv.get{S:Nat->Tx}{ds:List (aM×D)}{i:Nat}(I:Iv S ds i [])(x:Nat):(bj ds (.inr [x])).getD .ay=(iD (bF S x i)).getD .ay:=by
 rw[I.val x]
 cases bF S x i with
 | some j=>rfl
 | none=>rfl
theorem Q_{h w t:Nat}{bs:List (Nat×List Tx)}(G:i4 h w bs)(ht:t ∈ bs.map (·.1)):∃ M,(∀ k,∃ j,j < M/\sq bs t k=sq bs t j) /\
  lh [.pure (au h w bs),.pure (.str [t])]=some (.own (.lst (og bs λx=>bF (sq bs t) x M)),[.pure (au h w bs),.pure (.str [t])]):=by
 have R:=G.R;have n1:=R.n1;obtain⟨M,s,hs,e,hM,gs⟩:=P5 G ht;refine⟨M,Dx (λi j q=>by show iF bs _=iF bs _; rw[q]) hs e,?_⟩;have g0:=PY R ht;have gt:=D6 R;obtain⟨ds,o5,o6,o7,I,el⟩:=P_ (au h w bs) (.str [t]) (i8 bs t M) (.int (s:Nat)) (sq bs t) M (by omega) (λk=>WP (ym R ht k) n1);have c:=nG (cs:=[7]) (g:=ag [] 7) (t:=dH) (el:=e_ (cb (aa 7) (cb (pG 4 (aa 7)) cV))) (λb:Nat×List Tx=>D.str [b.1]) (λb=>D.tup [.str [b.1],(iD (bF (sq bs t) b.1 M)).getD .ay]) (s8 (au h w bs) (.str [t]) (i8 bs t M) (.int (s:Nat)) ds o5 o6 none) bs [] (by rw[cQ]; simp; omega) (λb hb=>by
  have q:=I.get b.1;refine⟨s8 (au h w bs) (.str [t]) (i8 bs t M) (.int (s:Nat)) ds o5 o6 (some (.str [b.1])),_,.pure (.tup [.str [b.1],(iD (bF (sq bs t) b.1 M)).getD .ay]),s8 (au h w bs) (.str [t]) (i8 bs t M) (.int (s:Nat)) ds o5 o6 (some (.str [b.1])),rfl,rfl,?_,rfl,rfl⟩;rw[<- q];generalize i8 bs t M=L at *;generalize au h w bs=ru at *;simp[aa,pG,sf,S.d,bJ])
 have et:tD (bs.map (·.1)) = .lst (bs.map λb=>D.str [b.1]):=by unfold tD; rw[Wv]; rfl
 have Ra:∀ δ:Dl,δ[2]? = some (some (.pure (i8 bs t M)))->pE (aa 2) δ = .ok (ip ((Wu M).map λk=>D.str (sq bs t k))) δ:=λδ hδ=>by
  have Td:δ.set 2 (some (.pure (i8 bs t M)))=δ:=by
   apply List.ext_getElem?;intro i;by_cases hi:2=i
   ·subst hi;rw[Wp (W5.mp hδ).1,hδ]
   ·rw[W9 hi]
  simp[pE,aa,hδ,S.d]
 rw[lh,xK];have hR:og bs (λx=>bF (sq bs t) x M)=bs.map λb=>D.tup [.str [b.1],(iD (bF (sq bs t) b.1 M)).getD .ay]:=rfl
 rw[hR];generalize (bs.map λb=>D.tup [.str [b.1],(iD (bF (sq bs t) b.1 M)).getD .ay])=Y at *;generalize ip ((Wu M).map λk=>D.str (sq bs t k))=EN at *;generalize i8 bs t M=L at *;generalize hTD:tD (bs.map (·.1))=T at *;generalize (bs.map λb:Nat×List Tx=>D.str [b.1])=TS at *;generalize au h w bs=ru at *;refine qg (δ1:=s8 ru (.str [t]) L (.int (s:Nat)) ds o5 o6 o7) ?_;rw[cw (δ1:=[some (.pure ru),some (.pure (.str [t])),none,none,none,none,none,none]) (by
  simp[br,nc,aD,aW,bO,bC,aa,bf,g0,aR])]
 rw[cw (δ1:=[some (.pure ru),some (.pure (.str [t])),some (.pure L),some (.pure (.int (s:Nat))),none,none,none,none]) (by
  simp[aF,aD,aW,bO,bC,aa,bf,gs,aR,bN,aX,bT])]
 rw[cw (δ1:=s8 ru (.str [t]) L (.int (s:Nat)) [] none none none) (by simp[aF,jX])];rw[cw ((iH (Ra _ rfl)).trans el)];have i:bu (aD jD [.val (aa 0)]) (s8 ru (.str [t]) L (.int (s:Nat)) ds o5 o6 o7) = .ok TS (s8 ru (.str [t]) L (.int (s:Nat)) ds o5 o6 o7):=by
  simp[eQ,aD,aW,bO,bC,aa,bf,gt,aR,S.d,et]
 have cT:([7]:List Nat).any (bH (s8 ru (.str [t]) L (.int (s:Nat)) ds o5 o6 o7))=false:=by cases o7 <;> rfl
 have eM:bc [7] (s8 ru (.str [t]) L (.int (s:Nat)) ds o5 o6 o7)=s8 ru (.str [t]) L (.int (s:Nat)) ds o5 o6 none:=rfl;show((cI _ _ _ _ _ _).bind _)=_;rw[mf,i];simp only[fQ];rw[cT,eM,c];rfl
def kd(K:List Nat):List (aM×D):=K.map λn=>(.inr [n],.bl true)
theorem Rb(K:List Nat)(n:Nat):bj (kd K) (.inr [n])=if n ∈ K then some (.bl true) else none:=by
 induction K with
 | nil=>rfl
 | cons a r ih =>
  unfold bj kd at ih ⊢;rw[Wc,WH];by_cases e:a=n
  ·simp[e]
  ·have e':n≠a:=λz=>e z.symm
   have:decide ((Sum.inr [a]:aM)=Sum.inr [n])=false:=by simp[e]
   simp only[this,ih];simp[e']
theorem Rc(K:List Nat)(n:Nat):putD (kd K) (.inr [n]) (.bl true)=kd (if n ∈ K then K else K ++ [n]):=by
 by_cases h:n ∈ K
 ·rw[if_pos h];unfold putD;have:(kd K).any (λkv=>decide (kv.1 = .inr [n]))=true:=List.any_eq_true.mpr ⟨(.inr [n],.bl true),WG.mpr ⟨n,h,rfl⟩,by simp⟩;rw[if_pos this];unfold kd;rw[Wv];refine Je λa _=>?_
  simp only[Function.comp];split
  ·rfl
  ·rfl
 ·rw[if_neg h,sX (by rw[Rb,if_neg h])];unfold kd;rw[WV];rfl
abbrev s6(ru so dd:D)(K:List Nat)(o4 o5:Option S):Dl:=[some (.pure ru),some (.pure so),some (.own dd),some (.own (.az (kd K))),o4,o5]
theorem D7(ru so dd:D)(ts:List Nat)(ht:ts.length<=26)(o4:Option S):∀ (z:Tx) (K:List Nat) (o5:Option S),(∀ n ∈ z,n ∈ ts)->K.Nodup->(∀ n ∈ K,n ∈ ts) ->
  ∃ o5',forL (ag [] 5) (eJ 3 (aa 5) (eD (.bl true))) (z.map λn=>D.str [n]) (s6 ru so dd K o4 o5) = .ok .next (s6 ru so dd (cE K z) o4 o5')
 | [],K,o5,_,_,_=>⟨o5,rfl⟩
 | a :: z,K,o5,hz,nd,hK=>by
  have hl:=mF nd hK;have gQ:(if a ∈ K then K else K ++ [a]).Nodup:=by
   split
   ·exact nd
   ·rename_i q;refine Jq.mpr ⟨nd,by simp,λx hx y hy e=>q ?_⟩;have:y=a:=by simpa using hy
    rw[<- this,<- e]; exact hx
  have yx:∀ n ∈ (if a ∈ K then K else K ++ [a]),n ∈ ts:=λn hn=>by
   split at hn
   ·exact hK n hn
   ·rcases Ji.mp hn with q | q
    ·exact hK n q
    ·have:n=a:=by simpa using q
     rw[this]; exact hz a Wi
  obtain⟨o5',e⟩:=D7 ru so dd ts ht o4 z _ (some (.pure (.str [a]))) (λn hn=>hz n (Wg _ hn)) gQ yx;have ed:cE K (a :: z)=cE (if a ∈ K then K else K ++ [a]) z:=by
   conv=>lhs; unfold cE
   split <;> rfl
  refine⟨o5',?_⟩;rw[ed,<- e,Wc,kg (δ1:=s6 ru so dd K o4 (some (.pure (.str [a])))) rfl];have Rf:(kd K).length < W8:=by rw[cQ]; unfold kd; rw[Wq]; omega
  have:=Rc K a;unfold s6;rw[<- this];generalize kd K=ds at *;simp[eJ,ir,aa,S.d,bJ,Rf]
theorem D8{h w:Nat}{bs:List (Nat×List Tx)}(R:bB h w bs)(ru so:D):∀ (z:Tx) (K:List Nat) (o4 o5:Option S),(∀ n ∈ z,n ∈ bs.map (·.1))->K.Nodup->(∀ n ∈ K,n ∈ bs.map (·.1)) ->
  ∃ K' o4' o5',K'.Nodup/\(∀ n ∈ K',n ∈ bs.map (·.1))/\(∀ x,x ∈ K' ↔ x ∈ K\/∃ y ∈ z,x ∈ (eA bs y).flatten) /\
   forL (ag [] 4) (cW (bu (aT (di []) (ar (aq dm 2 (ao 4))))) (ag [] 5) (eJ 3 (aa 5) (eD (.bl true)))) (z.map λn=>D.str [n]) (s6 ru so (jF bs) K o4 o5) = .ok .next (s6 ru so (jF bs) K' o4' o5')
 | [],K,o4,o5,_,nd,hK=>⟨K,o4,o5,nd,hK,λx=>by simp,rfl⟩
 | a :: z,K,o4,o5,hz,nd,hK=>by
  have n1:=R.n1;have ha:=hz a Wi;obtain⟨o5',e⟩:=D7 ru so (jF bs) (bs.map (·.1)) (by simpa using n1) (some (.pure (.str [a]))) (eA bs a).flatten K o5 (λn hn=>sR R ha hn) nd hK;have gQ:=sP (z:=(eA bs a).flatten) nd;have yx:∀ n ∈ cE K (eA bs a).flatten,n ∈ bs.map (·.1):=λn hn=>by
   rcases qb.mp hn with q | q
   ·exact hK n q
   ·exact sR R ha q
  obtain⟨K',p4,p5,a1,a2,a3,e2⟩:=D8 R ru so z _ (some (.pure (.str [a]))) o5' (λn hn=>hz n (Wg _ hn)) gQ yx;refine⟨K',p4,p5,a1,a2,λx=>?_,?_⟩
  ·rw[a3 x,qb];constructor
   ·rintro ((q | q) | ⟨y,q1,q2⟩)
    ·exact .inl q
    ·exact .inr ⟨a,Wi,q⟩
    ·exact .inr ⟨y,Wg _ q1,q2⟩
   ·rintro (q | ⟨y,q1,q2⟩)
    ·exact .inl (.inl q)
    ·rcases Wl.mp q1 with rfl | q1
     ·exact .inl (.inr q2)
     ·exact .inr ⟨y,q1,q2⟩
  ·have hx:=PM ha;obtain⟨b,hb,_,_,eb⟩:=qa ha;have j:di [] (cR (eA bs a))=some (.pure (.str (eA bs a).flatten)):=D0 _ (by
    rw[n9,eb];have:=(D4 R hb).1;omega)
   rw[<- e2,Wc,kg (δ1:=s6 ru so (jF bs) K (some (.pure (.str [a]))) o5) rfl];refine(iH (ds:=(eA bs a).flatten.map λn=>D.str [n]) ?_).trans e;unfold s6;generalize (eA bs a).flatten=BF at *;generalize cR (eA bs a)=BB at *;generalize jF bs=DD at *;simp[eQ,aq,bz,ao,hx,j,S.d]
theorem Rg{h w:Nat}{bs:List (Nat×List Tx)}(R:bB h w bs){z:Tx}(hz:∀ n ∈ z,n ∈ bs.map (·.1)):j_ [.pure (au h w bs),.pure (tD z)]=some (.own (tD (iF bs z)),[.pure (au h w bs),.pure (tD z)]):=by
 have n1:=R.n1;have x2:=(n8 h w bs).2.2;have hd:=DU R;obtain⟨K,o4,o5,nd,hK,hm,e⟩:=D8 R (au h w bs) (tD z) z [] none none hz JS (by simp);have hl:=mF nd hK;rw[Wq] at hl;have hs:dJ K=iF bs z:=qc (pL nd) (yk _) λx=>by
  rw[nF,hm x,n4];simp
 have p1:j4 (.az (kd K))=some (.own (.lst (K.map λn=>.str [n]))):=by
  show some (S.own (D.lst ((kd K).map λp=>iw p.1)))=_;unfold kd;rw[Wv];rfl
 have p2:=yr K (by omega);rw[hs] at p2;have ez:tD z = .lst (z.map λn=>D.str [n]):=rfl;have et:tD (iF bs z) = .lst ((iF bs z).map λn=>D.str [n]):=rfl;rw[j_,xx,et];generalize ((iF bs z).map λn=>D.str [n])=Y at *;generalize (z.map λn=>D.str [n])=ZS at *;generalize tD z=T at *;generalize au h w bs=ru at *;generalize D.tup (bs.map dB)=bd at *;generalize jF bs=dd at *;refine qg (δ1:=s6 ru T dd K o4 o5) ?_;rw[cw (δ1:=[some (.pure ru),some (.pure T),some (.own dd),none,none,none]) (by simp[br,aF,aq,bz,ao,x2,hd])];rw[cw (δ1:=s6 ru T dd [] none none) (by simp[aF,jX,kd])];have i:bu (aa 1) (s6 ru T dd [] none none) = .ok ZS (s6 ru T dd [] none none):=by simp[eQ,aa,S.d,ez]
 rw[cw ((iH i).trans e)];unfold s6;generalize kd K=kk at *;simp[ao,p1,p2]
theorem Rh(f g:DE)(δ:Dl):pI f g δ=(f δ).bind λr δ1=>(g δ1).bind λs δ2=>match r,s with
 | .pure (.int i),.pure (.int j)=>.ok (bY i (j - i).toNat) δ2
 | _,_=>.stuck:=id rfl
abbrev f6(ru tt:D)(nw:Option S)(ds:List (aM×D))(o4 o5:Option S):Dl:=[some (.pure ru),some (.pure tt),nw,some (.own (.az ds)),o4,o5]
abbrev fI:DS:=(dG (aH (a_ (dU true) (aa 5) (ao 3))) (eJ 3 (aa 5) (aa 4)) dP)
theorem Ri(ds:List (aM×D))(a:Nat):dU true (.str [a]) (.az ds)=some (.pure (.bl (!(bj ds (.inr [a])).isSome))):=rfl
theorem Rj(ru tt:D)(nw:Option S)(ds:List (aM×D))(i a:Nat)(hz:ds.length < W8):fI (f6 ru tt nw ds (some (.pure (.int (i:Int)))) (some (.pure (.str [a])))) = .ok .next (f6 ru tt nw (pN ds a i) (some (.pure (.int (i:Int)))) (some (.pure (.str [a])))):=by
 have hp:=Ri ds a;unfold pN
 cases e:bj ds (.inr [a]) with
 | some d =>
  rw[e] at hp;simp at hp;simp[fI,aH,aa,ao,hp]
 | none =>
  rw[e] at hp;simp at hp;simp[fI,aH,aa,ao,hp,eJ,ir,S.d,bJ,hz,sX e]
theorem D9(ru tt:D)(S:Nat->Tx)(i:Nat)(hi:i<=100)(nw:Option DV.S):∀ (l done:Tx) (ds:List (aM×D)) (o5:Option DV.S),Iv S ds i done->(done ++ l).length<=26 ->
  ∃ bx o5',Iv S bx i (done ++ l)/\forL (ag [] 5) fI (l.map λn=>D.str [n]) (f6 ru tt nw ds (some (.pure (.int (i:Int)))) o5) = .ok .next (f6 ru tt nw bx (some (.pure (.int (i:Int)))) o5')
 | [],done,ds,o5,I,_=>⟨ds,o5,by rw[Q7]; exact I,rfl⟩
 | a :: l,done,ds,o5,I,hl=>by
  have hd:=I.len;have fG:done.length + (l.length + 1)<=26:=by simpa using hl
  obtain⟨bx,o5',I',e⟩:=D9 ru tt S i hi nw l (done ++ [a]) (pN ds a i) (some (.pure (.str [a]))) (I.put a) (by rw[Qb]; exact hl);refine⟨bx,o5',by rw[Qb] at I'; exact I',?_⟩;rw[Wc,kg (δ1:=f6 ru tt nw ds (some (.pure (.int (i:Int)))) (some (.pure (.str [a])))) rfl (Rj ru tt nw ds i a (by rw[cQ]; omega))];exact e
abbrev fB:DS:=(aI (aF (aD j_ [.val (aa 0),.val (aa 2)]) (ag [] 2)) (cW (bu (aa 2)) (ag [] 5) fI))
theorem D_{h w t:Nat}{bs:List (Nat×List Tx)}(R:bB h w bs)(ht:t ∈ bs.map (·.1)):∀ (m i:Nat) (ds:List (aM×D)) (s:S) (o4 o5:Option S),(s = .own (tD (sq bs t i))\/s = .pure (tD (sq bs t i)))->Iv (sq bs t) ds (i + 1) []->i + m<=99 ->
  ∃ bx nw o4' o5',Iv (sq bs t) bx (i + m + 1) []/\forL (ag [] 4) fB (bY ((i + 1:Nat):Int) m) (f6 (au h w bs) (.str [t]) (some s) ds o4 o5) = .ok .next (f6 (au h w bs) (.str [t]) nw bx o4' o5')
 | 0,i,ds,s,o4,o5,_,I,_=>⟨ds,some s,o4,o5,I,rfl⟩
 | m + 1,i,ds,s,o4,o5,hs,I,hb=>by
  have n1:=R.n1;have g:=Rg R (jE R ht i);have hl:=WP (ym R ht (i + 1)) n1;obtain⟨ds1,o51,I1,e1⟩:=D9 (au h w bs) (.str [t]) (sq bs t) (i + 1) (by omega) (some (.pure (tD (sq bs t (i + 1))))) (sq bs t (i + 1)) [] ds o5 I (by simpa using hl);rw[Q3] at I1;obtain⟨bx,nw,p4,p5,I2,e2⟩:=D_ R ht m (i + 1) ds1 _ (some (.pure (.int ((i + 1:Nat):Int)))) o51 (.inr rfl) (I1.next hl) (by omega);refine⟨bx,nw,p4,p5,by rw[show i + (m + 1) + 1=i + 1 + m + 1 by omega]; exact I2,?_⟩;have eN:tD (sq bs t (i + 1)) = .lst ((sq bs t (i + 1)).map λn=>D.str [n]):=rfl;have g':j_ [.pure (au h w bs),.pure (tD (sq bs t i))]=some (.own (tD (sq bs t (i + 1))),[.pure (au h w bs),.pure (tD (sq bs t i))]):=g;rw[PX,kg (δ1:=f6 (au h w bs) (.str [t]) (some s) ds (some (.pure (.int ((i + 1:Nat):Int)))) o5) rfl]
  ·exact e2
  ·generalize au h w bs=ru at *;generalize ((sq bs t (i + 1)).map λn=>D.str [n])=NS at *;generalize tD (sq bs t (i + 1))=N at *;generalize tD (sq bs t i)=T0 at *;generalize (((i + 1:Nat):Int))=ii at *;have k1:aF (aD j_ [.val (aa 0),.val (aa 2)]) (ag [] 2) (f6 ru (.str [t]) (some s) ds (some (.pure (.int ii))) o5) = .ok .next (f6 ru (.str [t]) (some (.own N)) ds (some (.pure (.int ii))) o5):=by
    rcases hs with rfl | rfl <;> simp[aF,aD,aW,bO,bC,aa,bf,g',aR]
   rw[fB,cw k1];have iq:bu (aa 2) (f6 ru (.str [t]) (some (.own N)) ds (some (.pure (.int ii))) o5) = .ok NS (f6 ru (.str [t]) (some (.pure N)) ds (some (.pure (.int ii))) o5):=by
    simp[eQ,aa,S.d,eN]
   exact(iH iq).trans e1
theorem Rk{h w t:Nat}{bs:List (Nat×List Tx)}(R:bB h w bs)(ht:t ∈ bs.map (·.1)):∃ ds,Iv (sq bs t) ds (bs.length + 1) []/\mz [.pure (au h w bs),.pure (.str [t])]=some (.own (.az ds),[.pure (au h w bs),.pure (.str [t])]):=by
 have n1:=R.n1;have x2:=(n8 h w bs).2.2;obtain⟨ds,nw,o4,o5,I,e⟩:=D_ R ht bs.length 0 [(.inr [t],.int 0)] (.own (tD (sq bs t 0))) none none (.inl rfl) ⟨λx=>by
  have:bF (sq bs t) x 1=if x=t then some 0 else none:=by
   unfold bF;by_cases h:x=t <;> simp[sq,h,JH]
  rw[this];by_cases h:x=t
  ·simp[h,bj,iD]
  ·have h':¬ t=x:=λz=>h z.symm
   simp[h,h',bj,iD],by simp,[t],rfl,by simp⟩ (by omega)
 refine⟨ds,by rw[Jb] at I; exact I,?_⟩;have hlen:cu (.tup (bs.map dB))=some (.pure (.int ((bs.length:Nat):Int))):=by rw[DZ]; simp
 have e':forL (ag [] 4) fB (bY 1 bs.length) (f6 (au h w bs) (.str [t]) (some (.own (.lst [.str [t]]))) [(.inr [t],.int 0)] none none) = .ok .next (f6 (au h w bs) (.str [t]) nw ds o4 o5):=e;rw[mz,xy];generalize au h w bs=ru at *;generalize D.tup (bs.map dB)=bd at *;refine qg (δ1:=[some (.pure ru),some (.pure (.str [t])),nw,none,o4,o5]) ?_;rw[cw (δ1:=[some (.pure ru),some (.pure (.str [t])),some (.own (.lst [.str [t]])),none,none,none]) (by simp[br,aF,aa])];rw[cw (δ1:=f6 ru (.str [t]) (some (.own (.lst [.str [t]]))) [(.inr [t],.int 0)] none none) (by simp[aF,md,aa,bJ])];have iq:pI (eD (.int 1)) (a_ bA (aT cu (ar (aq aS 0 (ar (eD (.int 2)))))) (ar (eD (.int 1)))) (f6 ru (.str [t]) (some (.own (.lst [.str [t]]))) [(.inr [t],.int 0)] none none) = .ok (bY 1 bs.length) (f6 ru (.str [t]) (some (.own (.lst [.str [t]]))) [(.inr [t],.int 0)] none none):=by
  have:(((bs.length:Nat):Int) + 1 - 1).toNat=bs.length:=by omega
  simp[Rh,aq,bz,ao,x2,hlen,add_int,this]
 rw[cw ((iH iq).trans e')];simp[kY]
theorem Rm{h w t M:Nat}{bs:List (Nat×List Tx)}(R:bB h w bs)(ht:t ∈ bs.map (·.1))(hM:∀ k,∃ j,j < M/\sq bs t k=sq bs t j):(og bs λx=>bF (sq bs t) x M)=og bs λx=>bF (sq bs t) x (bs.length + 1):=by
 unfold og;refine Je λb hb=>?_
 have:bF (sq bs t) b.1 M=bF (sq bs t) b.1 (bs.length + 1):=Pc (λj hj=>by
  obtain⟨i,h1,h2⟩:=hM j;exact⟨i,h1,by rw[<- h2]; exact hj⟩) λj hj=>by
  obtain⟨i,h1,h2⟩:=Du R ht hj;exact⟨i,by omega,h2⟩
 simp only[this]
def dS(f:Nat->D)(p:List Nat):List (D×D):=p.map λt=>(D.str [t],f t)
theorem qh(a b:Nat):ak (.str [a]) (.str [b])=decide (a=b):=by
 simp only[ak];by_cases h:a=b
 ·subst h; simp
 ·rw[decide_eq_false h]; simp[h]
theorem Ea(f:Nat->D)(p:List Nat)(t:Nat):k9 (nL (.str [t])) (dS f p) (.str [t])=true:=by
 unfold k9 nL dS;simp[iB,b_]
theorem Rn(f:Nat->D)(p:List Nat)(t:Nat):((dS f p).any λq=>ak q.1 (.str [t]))=decide (t ∈ p):=by
 unfold dS;rw[List.any_map];induction p with
 | nil=>simp
 | cons a r ih =>
  rw[WZ,ih];simp only[Function.comp,qh];by_cases h:a=t
  ·simp[h]
  ·have h':t≠a:=λq=>h q.symm
   simp[h,h']
theorem Ro(f:Nat->D)(p:List Nat)(t:Nat)(h:t ∉ p):pR (dS f p) (.str [t]) (f t)=dS f (p ++ [t]):=by
 unfold pR;rw[Rn,decide_eq_false h];simp[dS]
theorem Rp(f:Nat->D)(p:List Nat)(t:Nat):jx (dS f p) (.str [t])=if t ∈ p then some (f t) else none:=by
 unfold jx dS;induction p with
 | nil=>simp
 | cons a r ih =>
  rw[Wc,WH];simp only[qh];by_cases h:a=t
  ·subst h; simp
  ·have h':t≠a:=λq=>h q.symm
   simp only[decide_eq_false h,ih];simp[h']
theorem Eb(f:Nat->D){p:List Nat}{t:Nat}(h:t ∈ p):iC (.dic (dS f p)) (.str [t])=some (.pure (f t)):=by
 unfold iC;simp only[Ea,if_true,Rp,if_pos h,Wz]
theorem Rq(f:Nat->D)(p:List Nat):(dS f p).length=p.length:=by simp[dS]
abbrev cD(bs:List (Nat×List Tx))(p:List Nat):D:=.dic (dS (λt=>tD (cm bs t)) p)
abbrev t5(ru:D)(ds:List (D×D))(o2:Option S):Dl:=[some (.pure ru),some (.own (.dic ds)),o2,none,none]
abbrev sY:DE:=(cI [3,4] (bu (aD lh [.val (aa 0),.val (aa 2)])) (bN 2 (aX (ag [] 3) (aX (ag [] 4) bT))) (aH (a_ (l_ true) (aa 4) (ar (eD .ay)))) (aa 3))
theorem Rr(o:Option Nat):l_ true ((iD o).getD .ay) .ay=some (.pure (.bl o.isSome)):=by cases o <;> rfl
theorem Rt{h w t:Nat}{bs:List (Nat×List Tx)}(G:i4 h w bs)(ht:t ∈ bs.map (·.1))(ds:List (D×D)):sY (t5 (au h w bs) ds (some (.pure (.str [t])))) = .ok (.own (tD (cm bs t))) (t5 (au h w bs) ds (some (.pure (.str [t])))):=by
 have R:=G.R;have n1:=R.n1;obtain⟨M,hM,g⟩:=Q_ G ht;rw[Rm R ht hM] at g;have c:=mH (cs:=[3,4]) (g:=bN 2 (aX (ag [] 3) (aX (ag [] 4) bT))) (t:=aH (a_ (l_ true) (aa 4) (ar (eD .ay)))) (el:=aa 3)
  (λb:Nat×List Tx=>D.tup [.str [b.1],(iD (bF (sq bs t) b.1 (bs.length + 1))).getD .ay]) (λb=>D.str [b.1]) (λb=>i5 bs t b.1) (t5 (au h w bs) ds (some (.pure (.str [t])))) bs [] (by rw[cQ]; simp; omega) (λb hb=>by
   have q:=Rr (bF (sq bs t) b.1 (bs.length + 1));refine⟨[some (.pure (au h w bs)),some (.own (.dic ds)),some (.pure (.str [t])),some (.pure (.str [b.1])),some (.pure ((iD (bF (sq bs t) b.1 (bs.length + 1))).getD .ay))],[some (.pure (au h w bs)),some (.own (.dic ds)),some (.pure (.str [t])),some (.pure (.str [b.1])),some (.pure ((iD (bF (sq bs t) b.1 (bs.length + 1))).getD .ay))],.pure (.str [b.1]),[some (.pure (au h w bs)),some (.own (.dic ds)),some (.pure (.str [t])),some (.pure (.str [b.1])),some (.pure ((iD (bF (sq bs t) b.1 (bs.length + 1))).getD .ay))],rfl,?_,rfl,by simp[aa],rfl,rfl⟩;unfold i5;generalize (iD (bF (sq bs t) b.1 (bs.length + 1))).getD .ay=OD at *;simp[aH,aa,q])
 have eY:tD (cm bs t) = .lst ((bs.filter λb=>i5 bs t b.1).map λb=>D.str [b.1]):=by
  unfold tD cm;rw[List.filter_map,Wv];rfl
 have Ru:og bs (λx=>bF (sq bs t) x (bs.length + 1))=bs.map λb=>D.tup [.str [b.1],(iD (bF (sq bs t) b.1 (bs.length + 1))).getD .ay]:=rfl
 rw[Ru] at g;rw[eY];generalize ((bs.filter λb=>i5 bs t b.1).map λb=>D.str [b.1])=Y at *;generalize (bs.map λb=>D.tup [.str [b.1],(iD (bF (sq bs t) b.1 (bs.length + 1))).getD .ay])=Z at *;generalize au h w bs=ru at *;have i:bu (aD lh [.val (aa 0),.val (aa 2)]) (t5 ru ds (some (.pure (.str [t])))) = .ok Z (t5 ru ds (some (.pure (.str [t])))):=by
  simp[eQ,aD,aW,bO,bC,aa,bf,g,aR,S.d]
 unfold sY;rw[mf,i];simp only[fQ];have cT:([3,4]:List Nat).any (bH (t5 ru ds (some (.pure (.str [t])))))=false:=rfl;have eM:bc [3,4] (t5 ru ds (some (.pure (.str [t]))))=t5 ru ds (some (.pure (.str [t]))):=rfl;rw[cT,eM,c];rfl
theorem Ec{h w:Nat}{bs:List (Nat×List Tx)}(G:i4 h w bs):∀ (l p:List Nat) (o2:Option S),bs.map (·.1)=p ++ l ->
  ∃ o2',forL (ag [] 2) (nM 1 (aa 2) sY) (l.map λn=>D.str [n]) (t5 (au h w bs) (dS (λt=>tD (cm bs t)) p) o2) = .ok .next (t5 (au h w bs) (dS (λt=>tD (cm bs t)) (p ++ l)) o2')
 | [],p,o2,_=>⟨o2,by simp⟩
 | t :: l,p,o2,e=>by
  have R:=G.R;have n1:=R.n1;have ht:t ∈ bs.map (·.1):=by rw[e]; simp
  have qj:=yj R;rw[e] at qj;have hn:t ∉ p:=λq=>(List.nodup_append.mp qj).2.2 t q t Wi rfl
  have hlen:p.length < 26 + 1:=by
   have:=congrArg Qx e;simp at this;omega
  have c:=Rt G ht (dS (λt=>tD (cm bs t)) p);obtain⟨o2',ih⟩:=Ec G l (p ++ [t]) (some (.pure (.str [t]))) (by rw[e]; simp);refine⟨o2',?_⟩;rw[Wc,kg (δ1:=t5 (au h w bs) (dS (λt=>tD (cm bs t)) p) (some (.pure (.str [t])))) (δ2:=t5 (au h w bs) (dS (λt=>tD (cm bs t)) (p ++ [t])) (some (.pure (.str [t])))) rfl,ih]
  ·rw[Qb]; rfl
  ·have hg:=Ea (λt=>tD (cm bs t)) p t;have hp:=Ro (λt=>tD (cm bs t)) p t hn;have hz:(dS (λt=>tD (cm bs t)) p).length < W8:=by rw[Rq,cQ]; omega
   rw[<- hp];unfold nM;rw[c];generalize (dS (λt=>tD (cm bs t)) p)=ds at *;generalize tD (cm bs t)=Y at *;generalize au h w bs=ru at *;simp[sI,aa,S.d,hg,hz]
theorem Ed{h w:Nat}{bs:List (Nat×List Tx)}(G:i4 h w bs):ll [.pure (au h w bs)]=some (.own (cD bs (bs.map (·.1))),[.pure (au h w bs)]):=by
 have g:=D6 G.R;obtain⟨o2,e⟩:=Ec G (bs.map (·.1)) [] none rfl;rw[Q3] at e;have et:tD (bs.map (·.1)) = .lst ((bs.map (·.1)).map λn=>D.str [n]):=rfl;rw[ll,xO];have e':forL (ag [] 2) (nM 1 (aa 2) sY) ((bs.map (·.1)).map λn=>D.str [n]) (t5 (au h w bs) [] none) = .ok .next (t5 (au h w bs) (dS (λt=>tD (cm bs t)) (bs.map (·.1))) o2):=e;clear e;rw[show cD bs (bs.map (·.1)) = .dic (dS (λt=>tD (cm bs t)) (bs.map (·.1))) from rfl];generalize (dS (λt=>tD (cm bs t)) (bs.map (·.1)))=DD at *;generalize ((bs.map (·.1)).map λn=>D.str [n])=T at *;generalize tD (bs.map (·.1))=TD at *;generalize au h w bs=ru at *;refine mI (δ1:=[some (.pure ru),none,o2,none,none]) ?_;rw[cw (δ1:=t5 ru [] none) (by simp[br,aF,wR])];have i:bu (aD jD [.val (aa 0)]) (t5 ru [] none) = .ok T (t5 ru [] none):=by
  simp[eQ,aD,aW,bO,bC,aa,bf,g,aR,S.d,et]
 rw[cw ((iH i).trans e')];simp[kY]
abbrev gD(g:List Nat):D:=.tup (g.map λn=>.str [n])
abbrev a6(cd:D)(gs:List (List Nat))(o2 o3 o4:Option S):Dl:=[some (.pure cd),some (.own (.lst (gs.map gD))),o2,o3,o4,none]
abbrev yy:DE:=(cI [5] (bu (aa 3)) (ag [] 5) (aH (a_ (dU false) (aa 2) (ar (aq iC 0 (ao 5))))) (aa 5))
theorem Rv(t:Nat)(l:List Nat):dU false (.str [t]) (tD l)=some (.pure (.bl (decide (t ∈ l)))):=by
 unfold tD;simp only[dU,PU];congr 3
 simp only[QC,if_false];rw[JF];simp
theorem Rw{h w t:Nat}{bs:List (Nat×List Tx)}(R:bB h w bs)(ht:t ∈ bs.map (·.1))(gs:List (List Nat))(o4:Option S):yy (a6 (cD bs (bs.map (·.1))) gs (some (.pure (.str [t]))) (some (.pure (tD (cm bs t)))) o4) = .ok (.own (tD (bL bs t))) (a6 (cD bs (bs.map (·.1))) gs (some (.pure (.str [t]))) (some (.pure (tD (cm bs t)))) o4):=by
 have n1:=R.n1;have hl:=DM (bs:=bs) t;have c:=mH (cs:=[5]) (g:=ag [] 5) (t:=aH (a_ (dU false) (aa 2) (ar (aq iC 0 (ao 5))))) (el:=aa 5) (λn:Nat=>D.str [n]) (λn=>D.str [n]) (λo=>decide (t ∈ cm bs o))
  (a6 (cD bs (bs.map (·.1))) gs (some (.pure (.str [t]))) (some (.pure (tD (cm bs t)))) o4) (cm bs t) [] (by rw[cQ]; simp; omega) (λo ho=>by
   have q:=Eb (λt=>tD (cm bs t)) (mG ho);have q2:=Rv t (cm bs o);refine⟨[some (.pure (cD bs (bs.map (·.1)))),some (.own (.lst (gs.map gD))),some (.pure (.str [t])),some (.pure (tD (cm bs t))),o4,some (.pure (.str [o]))],[some (.pure (cD bs (bs.map (·.1)))),some (.own (.lst (gs.map gD))),some (.pure (.str [t])),some (.pure (tD (cm bs t))),o4,some (.pure (.str [o]))],.pure (.str [o]),[some (.pure (cD bs (bs.map (·.1)))),some (.own (.lst (gs.map gD))),some (.pure (.str [t])),some (.pure (tD (cm bs t))),o4,some (.pure (.str [o]))],rfl,?_,rfl,by simp[aa],rfl,rfl⟩;have q':iC (cD bs (bs.map (·.1))) (.str [o])=some (.pure (tD (cm bs o))):=q;generalize cD bs (bs.map (·.1))=CD at *;generalize tD (cm bs o)=Y at *;generalize tD (cm bs t)=Y2 at *;simp[aH,aa,ao,aq,bz,q',q2])
 have eG:tD (bL bs t) = .lst (((cm bs t).filter λo=>decide (t ∈ cm bs o)).map λn=>D.str [n]):=rfl;have eC:tD (cm bs t) = .lst ((cm bs t).map λn=>D.str [n]):=rfl;rw[eG];generalize (((cm bs t).filter λo=>decide (t ∈ cm bs o)).map λn=>D.str [n])=Y at *;generalize ((cm bs t).map λn=>D.str [n])=Z at *;generalize tD (cm bs t)=TC at *;generalize cD bs (bs.map (·.1))=CD at *;have i:bu (aa 3) (a6 CD gs (some (.pure (.str [t]))) (some (.pure TC)) o4) = .ok Z (a6 CD gs (some (.pure (.str [t]))) (some (.pure TC)) o4):=by
  simp[eQ,aa,S.d,eC]
 unfold yy;rw[mf,i];simp only[fQ];have cT:([5]:List Nat).any (bH (a6 CD gs (some (.pure (.str [t]))) (some (.pure TC)) o4))=false:=rfl;have eM:bc [5] (a6 CD gs (some (.pure (.str [t]))) (some (.pure TC)) o4)=a6 CD gs (some (.pure (.str [t]))) (some (.pure TC)) o4:=rfl;rw[cT,eM,c];rfl
abbrev sZ:DS:=(aI (aF (aT fc (ar yy)) (ag [] 4)) (dG (aH (a_ bQ (aq aS 4 (ar (eD (.int 0)))) (ao 2))) (c_ 1 (aa 4)) dP))
theorem Rx(a b:Nat):bQ (.str [a]) (.str [b])=some (.pure (.bl (decide (a=b)))):=by
 unfold bQ;rw[show(flat 50 (D.str [a]) && flat 50 (D.str [b]))=true from rfl,if_pos rfl,qh]
theorem Ry{h w t:Nat}{bs:List (Nat×List Tx)}(R:bB h w bs)(ht:t ∈ bs.map (·.1))(p:List Nat)(hp:p.length<=26)(o4:Option S):∃ o4',sZ (a6 (cD bs (bs.map (·.1))) (ba bs p) (some (.pure (.str [t]))) (some (.pure (tD (cm bs t)))) o4) = .ok .next (a6 (cD bs (bs.map (·.1))) (ba bs (p ++ [t])) (some (.pure (.str [t]))) (some (.pure (tD (cm bs t)))) o4'):=by
 have c:=Rw R ht (ba bs p) o4;obtain⟨g,r,e1,_,_,_,hb,_⟩:=yp R ht;have hz:(ba bs p).length<=26:=by
  unfold ba;rw[Wq];exact WP (QX _ _) hp
 have eT:fc (tD (bL bs t))=some (.pure (gD (bL bs t))):=rfl;have x0:aS (gD (bL bs t)) (.int 0)=some (.pure (.str [g])):=by rw[e1]; simp[aS,mh]
 have q:=Rx g t;rw[<- hb] at q;refine⟨some (.pure (gD (bL bs t))),?_⟩;rw[DK];generalize hgs:ba bs p=gs at *;generalize tD (bL bs t)=TG at *;generalize hGD:gD (bL bs t)=GD at *;generalize cD bs (bs.map (·.1))=CD at *;generalize tD (cm bs t)=TC at *;rw[sZ,cw (δ1:=a6 CD gs (some (.pure (.str [t]))) (some (.pure TC)) (some (.pure GD))) (by
  unfold aF aT ar;rw[c];simp[eT,S.d])]
 cases me:iG bs t with
 | true =>
  rw[me] at q;have hl:gs.length < W8:=by rw[cQ]; omega
  simp[aH,aa,ao,aq,bz,x0,q,c_,gN,putL,S.d,hl,hGD]
 | false =>
  rw[me] at q;simp[aH,aa,ao,aq,bz,x0,q]
theorem Ee{h w:Nat}{bs:List (Nat×List Tx)}(R:bB h w bs):∀ (l p:List Nat) (o2 o3 o4:Option S),bs.map (·.1)=p ++ l ->
  ∃ o2' o3' o4',forL (bN 2 (aX (ag [] 2) (aX (ag [] 3) bT))) sZ (l.map λt=>D.tup [.str [t],tD (cm bs t)]) (a6 (cD bs (bs.map (·.1))) (ba bs p) o2 o3 o4) = .ok .next (a6 (cD bs (bs.map (·.1))) (ba bs (p ++ l)) o2' o3' o4')
 | [],p,o2,o3,o4,_=>⟨o2,o3,o4,by simp⟩
 | t :: l,p,o2,o3,o4,e=>by
  have n1:=R.n1;have ht:t ∈ bs.map (·.1):=by rw[e]; simp
  have hlen:p.length<=26:=by
   have:=congrArg Qx e;simp at this;omega
  obtain⟨o4',s1⟩:=Ry R ht p hlen o4;obtain⟨p2,p3,p4,ih⟩:=Ee R l (p ++ [t]) (some (.pure (.str [t]))) (some (.pure (tD (cm bs t)))) o4' (by rw[e]; simp);refine⟨p2,p3,p4,?_⟩;rw[Wc,kg (δ1:=a6 (cD bs (bs.map (·.1))) (ba bs p) (some (.pure (.str [t]))) (some (.pure (tD (cm bs t)))) o4) rfl s1,ih];rw[Qb];rfl
theorem Ef{h w:Nat}{bs:List (Nat×List Tx)}(R:bB h w bs):ka [.pure (cD bs (bs.map (·.1)))]=some (.own (.lst ((ba bs (bs.map (·.1))).map gD)),[.pure (cD bs (bs.map (·.1)))]):=by
 obtain⟨p2,p3,p4,e⟩:=Ee R (bs.map (·.1)) [] none none none rfl;rw[Q3] at e;rw[ka,xD];have e':forL (bN 2 (aX (ag [] 2) (aX (ag [] 3) bT))) sZ ((bs.map (·.1)).map λt=>D.tup [.str [t],tD (cm bs t)]) (a6 (cD bs (bs.map (·.1))) [] none none none) = .ok .next (a6 (cD bs (bs.map (·.1))) (ba bs (bs.map (·.1))) p2 p3 p4):=e;clear e;have i:pT (aa 0) (a6 (cD bs (bs.map (·.1))) [] none none none) = .ok ((bs.map (·.1)).map λt=>D.tup [.str [t],tD (cm bs t)]) (a6 (cD bs (bs.map (·.1))) [] none none none):=by
  have:nN (dS (λt=>tD (cm bs t)) (bs.map (·.1)))=(bs.map (·.1)).map λt=>D.tup [.str [t],tD (cm bs t)]:=by
   unfold nN dS;rw[Wv];rfl
  rw[<- this];simp[pT,aa,S.d]
 generalize ((bs.map (·.1)).map λt=>D.tup [.str [t],tD (cm bs t)])=T at *;generalize cD bs (bs.map (·.1))=CD at *;generalize ba bs (bs.map (·.1))=gs at *;refine mI (δ1:=[some (.pure CD),none,p2,p3,p4,none]) ?_;rw[cw (δ1:=a6 CD [] none none none) (by simp[br,aF])];rw[cw ((iH i).trans e')];simp[kY]
theorem Rz{h w:Nat}{bs:List (Nat×List Tx)}(G:i4 h w bs):mC [.pure (au h w bs)]=some (.own (.lst ((ba bs (bs.map (·.1))).map gD)),[.pure (au h w bs)]):=by
 have g1:=Ed G;have g2:=Ef G.R;rw[mC,xQ];generalize cD bs (bs.map (·.1))=CD at *;generalize ((ba bs (bs.map (·.1))).map gD)=Y at *;generalize au h w bs=ru at *;refine mI (δ1:=[some (.pure ru)]) ?_;simp[br,aD,aW,bO,bC,aa,bf,g1,g2,aR,S.d]
theorem yz:∀ a b:List Nat,c7 (a.map λn=>D.str [n]) (b.map λn=>D.str [n])=decide (a=b)
 | [],[]=>by simp[c7]
 | [],_ :: _=>by simp[c7]
 | _ :: _,[]=>by simp[c7]
 | x :: a,y :: b=>by
  simp only[Wc,c7,qh,yz a b];by_cases h1:x=y
  ·by_cases h2:a=b <;> simp[h1,h2]
  ·simp[h1]
theorem qk(n:Nat):∀ a:List Nat,fM n (a.map λn=>D.str [n])=true
 | []=>by simp[fM]
 | x :: a=>by
  simp only[Wc,fM,qk n a,Bool.and_true]
  cases n <;> rfl
theorem RA(a b:List Nat):bQ (tD a) (tD b)=some (.pure (.bl (decide (a=b)))):=by
 unfold bQ tD;have h1:flat 50 (.lst (a.map λn=>D.str [n]))=true:=by simp only[flat]; exact qk 49 a
 have h2:flat 50 (.lst (b.map λn=>D.str [n]))=true:=by simp only[flat]; exact qk 49 b
 simp only[h1,h2,Bool.and_self,if_true,ak,yz]
def fE(bs:List (Nat×List Tx))(g:List Nat):Bool:=decide (cm bs (g.headD 0)=g)
abbrev c3(ru cd:D)(o2:Option S):Dl:=[some (.pure ru),some (.pure cd),o2]
abbrev Eg:DT:=(aH (a_ bQ (aT cu (ar (aq iC 1 (ar (aq aS 2 (ar (eD (.int 0)))))))) (ar (aT cu (ao 2)))))
theorem RB(ds:List D):cu (.lst ds)=some (.pure (.int ds.length)):=rfl
theorem RC{h w:Nat}{bs:List (Nat×List Tx)}(G:i4 h w bs):mD [.pure (au h w bs)]=some (.own (.lst (((ba bs (bs.map (·.1))).filter (fE bs)).map gD)),[.pure (au h w bs)]):=by
 have R:=G.R;have n1:=R.n1;have g1:=Ed G;have g2:=Ef R;have hl:=yq R;have c:=mH (cs:=[2]) (g:=ag [] 2) (t:=Eg) (el:=aa 2) gD gD (fE bs) (c3 (au h w bs) (cD bs (bs.map (·.1))) none) (ba bs (bs.map (·.1))) [] (by rw[cQ]; simp; omega) (λg hg=>by
  obtain⟨t,r,ht,e1,e2⟩:=DL R hg;refine⟨c3 (au h w bs) (cD bs (bs.map (·.1))) (some (.pure (gD g))),c3 (au h w bs) (cD bs (bs.map (·.1))) (some (.pure (gD g))),.pure (gD g),c3 (au h w bs) (cD bs (bs.map (·.1))) (some (.pure (gD g))),rfl,?_,rfl,by simp[aa],rfl,rfl⟩;have x0:aS (gD g) (.int 0)=some (.pure (.str [t])):=by rw[e1]; simp[aS,mh]
  have q:iC (cD bs (bs.map (·.1))) (.str [t])=some (.pure (tD (cm bs t))):=Eb (λt=>tD (cm bs t)) ht;have l1:cu (tD (cm bs t))=some (.pure (.int ((cm bs t).length:Nat))):=by unfold tD; rw[RB]; simp
  have l2:cu (gD g)=some (.pure (.int (g.length:Nat))):=by rw[DZ]; simp
  have l3:bQ (.int ((cm bs t).length:Nat)) (.int (g.length:Nat))=some (.pure (.bl (fE bs g))):=by
   rw[PL];have z:((((cm bs t).length:Nat):Int) == ((g.length:Nat):Int))=((cm bs t).length == g.length):=by
    rw[JF];simp;omega
   rw[z,e2,Pp (h:=h) (w:=w)];have:fE bs (bL bs t)=(cm bs t == bL bs t):=by
    unfold fE;rw[<- e2,e1,JF];simp
   rw[this]
  generalize tD (cm bs t)=Y at *;generalize cD bs (bs.map (·.1))=CD at *;generalize au h w bs=ru at *;generalize gD g=GG at *;simp[Eg,aH,aa,ao,aq,bz,x0,q,l1,l2,l3])
 rw[mD,xR];generalize (((ba bs (bs.map (·.1))).filter (fE bs)).map gD)=Y at *;generalize ((ba bs (bs.map (·.1))).map gD)=Z at *;generalize cD bs (bs.map (·.1))=CD at *;generalize au h w bs=ru at *;refine mI (δ1:=c3 ru CD none) ?_;rw[cw (δ1:=[some (.pure ru),some (.own CD),none]) (by
  simp[br,aF,aD,aW,bO,bC,aa,bf,g1,aR,S.d])]
 have i:bu (aD ka [.val (aa 1)]) [some (.pure ru),some (.own CD),none] = .ok Z (c3 ru CD none):=by
  simp[eQ,aD,aW,bO,bC,aa,bf,g2,aR,S.d]
 show((cI _ _ _ _ _ _).bind _)=_;rw[mf,i];simp only[fQ];have cT:([2]:List Nat).any (bH (c3 ru CD none))=false:=rfl;have eM:bc [2] (c3 ru CD none)=c3 ru CD none:=rfl;rw[cT,eM,c];rfl
theorem RD{h w t:Nat}{bs:List (Nat×List Tx)}(R:bB h w bs)(ht:t ∈ bs.map (·.1)){ds:List (aM×D)}(I:Iv (sq bs t) ds (bs.length + 1) []):∃ K:List Nat,(ds.map λp=>iw p.1)=K.map (λn=>D.str [n])/\dJ K=cm bs t/\K.length<=26:=by
 have n1:=R.n1;obtain⟨K,h1,h2⟩:=I.ks;have hv:∀ x,x ∈ K ↔ i5 bs t x=true:=λx=>by
  have hx:=I.val x;have e2:i5 bs t x=(bj ds (.inr [x])).isSome:=by
   rw[hx];unfold i5
   cases bF (sq bs t) x (bs.length + 1) <;> simp[iD]
  rw[e2];unfold bj;rw[JW,List.find?_isSome];constructor
  ·intro q;have:(Sum.inr [x]:aM) ∈ ds.map (·.1):=by rw[h1]; exact WG.mpr ⟨x,q,rfl⟩
   obtain⟨kv,hk,ek⟩:=WG.mp this;exact⟨kv,hk,decide_eq_true ek⟩
  ·rintro ⟨kv,hk,ek⟩;have:kv.1 ∈ ds.map (·.1):=WU hk;rw[h1,of_decide_eq_true ek] at this;obtain⟨y,hy,ey⟩:=WG.mp this;have:y=x:=by injection ey with ey; simpa using ey
   rw[<- this]; exact hy
 refine⟨K,?_,?_,?_⟩
 ·have:(ds.map λp=>iw p.1)=(ds.map (·.1)).map iw:=by rw[Wv]; rfl
  rw[this,h1,Wv];rfl
 ·refine qc (pL h2) (DB R t) λx=>?_
  rw[nF,hv x];unfold cm;rw[QH];constructor
  ·intro q;obtain⟨k,hk⟩:=(yo R ht).mp q;exact⟨jE R ht k x hk,q⟩
  ·exactλq=>q.2
 ·have:=mF h2 (ts:=bs.map (·.1)) λx hx=>by
   obtain⟨k,hk⟩:=(yo R ht).mp ((hv x).mp hx);exact jE R ht k x hk
  simp at this;omega
def dK(f:Nat->D)(p:List Nat):List (aM×D):=p.map λt=>(.inr [t],f t)
theorem Eh(f:Nat->D)(p:List Nat)(t:Nat):bj (dK f p) (.inr [t])=if t ∈ p then some (f t) else none:=by
 unfold bj dK;induction p with
 | nil=>simp
 | cons a r ih =>
  rw[Wc,WH];by_cases h:a=t
  ·subst h; simp
  ·have h':t≠a:=λq=>h q.symm
   have:decide ((Sum.inr [a]:aM)=Sum.inr [t])=false:=by simp[h]
   simp only[this,ih];simp[h']
theorem RE(f:Nat->D)(p:List Nat)(t:Nat)(h:t ∉ p):putD (dK f p) (.inr [t]) (f t)=dK f (p ++ [t]):=by
 rw[sX (by rw[Eh,if_neg h])];simp[dK]
theorem yC(f:Nat->D){p:List Nat}{t:Nat}(h:t ∈ p):dm (.az (dK f p)) (.str [t])=some (.pure (f t)):=by
 show((bJ (.str [t])).bind λk=>(bj (dK f p) k).map S.pure)=_;simp only[bJ,WL,Eh,if_pos h,Wz]
theorem RF(f:Nat->D)(p:List Nat):(dK f p).length=p.length:=by simp[dK]
abbrev kD(bs:List (Nat×List Tx))(p:List Nat):D:=.az (dK (λt=>tD (cm bs t)) p)
abbrev g7(ru kd:D)(o2 o3 o4 o5 o6:Option S):Dl:=[some (.pure ru),some (.own kd),o2,o3,o4,o5,o6]
abbrev s_:DE:=(aT jT (ar (aT j4 (ar (aD mz [.val (aa 0),.val (aa 2)])))))
theorem RG{h w t:Nat}{bs:List (Nat×List Tx)}(R:bB h w bs)(ht:t ∈ bs.map (·.1))(kd:D)(o3 o4 o5 o6:Option S):s_ (g7 (au h w bs) kd (some (.pure (.str [t]))) o3 o4 o5 o6) = .ok (.own (tD (cm bs t))) (g7 (au h w bs) kd (some (.pure (.str [t]))) o3 o4 o5 o6):=by
 obtain⟨ds,I,g⟩:=Rk R ht;obtain⟨K,k1,k2,k3⟩:=RD R ht I;have p1:j4 (.az ds)=some (.own (.lst (K.map λn=>D.str [n]))):=by
  show some (S.own (D.lst (ds.map λp=>iw p.1)))=_;rw[k1]
 have p2:=yr K (by omega);rw[k2] at p2;have eY:tD (cm bs t) = .lst ((cm bs t).map λn=>D.str [n]):=rfl;rw[eY];generalize ((cm bs t).map λn=>D.str [n])=Y at *;generalize D.lst (K.map λn=>D.str [n])=KL at *;generalize D.az ds=DD at *;generalize au h w bs=ru at *;simp[s_,aD,aW,bO,bC,aa,bf,g,aR,S.d,p1,p2]
theorem Ei{h w:Nat}{bs:List (Nat×List Tx)}(R:bB h w bs):∀ (l p:List (Nat×List Tx)) (o2 o3:Option S),bs=p ++ l ->
  ∃ o2' o3',forL (bN 2 (aX (ag [] 2) (aX (ag [] 3) bT))) (eJ 1 (aa 2) s_) (l.map dB) (g7 (au h w bs) (kD bs (p.map (·.1))) o2 o3 none none none) = .ok .next (g7 (au h w bs) (kD bs ((p ++ l).map (·.1))) o2' o3' none none none)
 | [],p,o2,o3,_=>⟨o2,o3,by simp⟩
 | b :: l,p,o2,o3,e=>by
  have n1:=R.n1;have ht:b.1 ∈ bs.map (·.1):=by rw[e]; simp
  have qj:=yj R;have e2:bs.map (·.1)=p.map (·.1) ++ b.1 :: l.map (·.1):=by rw[e]; simp
  rw[e2] at qj;have hn:b.1 ∉ p.map (·.1):=λq=>(List.nodup_append.mp qj).2.2 b.1 q b.1 Wi rfl
  have hlen:p.length<=26:=by
   have:=congrArg Qx e;simp at this;omega
  have c:=RG R ht (kD bs (p.map (·.1))) (some (.pure (cR b.2))) none none none;obtain⟨q2,q3,ih⟩:=Ei R l (p ++ [b]) (some (.pure (.str [b.1]))) (some (.pure (cR b.2))) (by rw[e]; simp);refine⟨q2,q3,?_⟩;rw[Wc,kg (δ1:=g7 (au h w bs) (kD bs (p.map (·.1))) (some (.pure (.str [b.1]))) (some (.pure (cR b.2))) none none none) (δ2:=g7 (au h w bs) (kD bs ((p ++ [b]).map (·.1))) (some (.pure (.str [b.1]))) (some (.pure (cR b.2))) none none none) rfl,ih]
  ·rw[Qb]; rfl
  ·have hp:=RE (λt=>tD (cm bs t)) (p.map (·.1)) b.1 hn;have hz:(dK (λt=>tD (cm bs t)) (p.map (·.1))).length < W8:=by rw[RF,Wq,cQ]; omega
   rw[WV,show([b].map λx:Nat×List Tx=>x.1)=[b.1] from rfl];unfold eJ kD;rw[<- hp];unfold kD at c;have hi:ir (g7 (au h w bs) (.az (dK (λt=>tD (cm bs t)) (p.map (·.1)))) (some (.pure (.str [b.1]))) (some (.pure (cR b.2))) none none none) 1=true:=rfl;rw[hi,if_pos rfl,c];generalize (dK (λt=>tD (cm bs t)) (p.map (·.1)))=ds at *;generalize tD (cm bs b.1)=Y at *;generalize au h w bs=ru at *;simp[ir,aa,S.d,bJ,hz]
abbrev yD:DE:=(cI [6] (bu (aq dm 1 (ao 2))) (ag [] 6) (aH (a_ (gY false) (aa 2) (ar (aq dm 1 (ao 6))))) (aa 6))
theorem RH(t:Nat)(l:List Nat):gY false (.str [t]) (tD l)=some (.pure (.bl (decide (t ∈ l)))):=by
 unfold gY tD;have h1:(flat 49 (D.str [t]) && (l.map λn=>D.str [n]).all (flat 49))=true:=by
  rw[Ws];exact⟨rfl,by rw[JL]; exact Q8.mpr λ_ _=>rfl⟩
 simp only[h1,if_true,QC,if_false];congr 3
 rw[List.any_map];induction l with
 | nil=>simp
 | cons a r ih =>
  rw[WZ,ih (by
   rw[Ws];exact⟨rfl,by rw[JL]; exact Q8.mpr λ_ _=>rfl⟩)]
  simp only[Function.comp,qh];by_cases h:a=t
  ·simp[h]
  ·have h':t≠a:=λq=>h q.symm
   simp[h,h']
theorem RI{h w t:Nat}{bs:List (Nat×List Tx)}(R:bB h w bs)(ht:t ∈ bs.map (·.1))(gs:List (List Nat))(o3 o5:Option S):yD (g7 (au h w bs) (kD bs (bs.map (·.1))) (some (.pure (.str [t]))) o3 (some (.own (.lst (gs.map gD)))) o5 none) = .ok (.own (tD (bL bs t))) (g7 (au h w bs) (kD bs (bs.map (·.1))) (some (.pure (.str [t]))) o3 (some (.own (.lst (gs.map gD)))) o5 none):=by
 have n1:=R.n1;have hl:=DM (bs:=bs) t;have q0:dm (kD bs (bs.map (·.1))) (.str [t])=some (.pure (tD (cm bs t))):=yC (λt=>tD (cm bs t)) ht;have c:=mH (cs:=[6]) (g:=ag [] 6) (t:=aH (a_ (gY false) (aa 2) (ar (aq dm 1 (ao 6))))) (el:=aa 6) (λn:Nat=>D.str [n]) (λn=>D.str [n]) (λo=>decide (t ∈ cm bs o))
  (g7 (au h w bs) (kD bs (bs.map (·.1))) (some (.pure (.str [t]))) o3 (some (.own (.lst (gs.map gD)))) o5 none) (cm bs t) [] (by rw[cQ]; simp; omega) (λo ho=>by
   have q:dm (kD bs (bs.map (·.1))) (.str [o])=some (.pure (tD (cm bs o))):=yC (λt=>tD (cm bs t)) (mG ho);have q2:=RH t (cm bs o);refine⟨g7 (au h w bs) (kD bs (bs.map (·.1))) (some (.pure (.str [t]))) o3 (some (.own (.lst (gs.map gD)))) o5 (some (.pure (.str [o]))),g7 (au h w bs) (kD bs (bs.map (·.1))) (some (.pure (.str [t]))) o3 (some (.own (.lst (gs.map gD)))) o5 (some (.pure (.str [o]))),.pure (.str [o]),g7 (au h w bs) (kD bs (bs.map (·.1))) (some (.pure (.str [t]))) o3 (some (.own (.lst (gs.map gD)))) o5 (some (.pure (.str [o]))),rfl,?_,rfl,by simp[aa],rfl,rfl⟩;generalize kD bs (bs.map (·.1))=CD at *;generalize tD (cm bs o)=Y at *;generalize au h w bs=ru at *;simp[aH,aa,ao,aq,bz,q,q2])
 have eG:tD (bL bs t) = .lst (((cm bs t).filter λo=>decide (t ∈ cm bs o)).map λn=>D.str [n]):=rfl;have eC:tD (cm bs t) = .lst ((cm bs t).map λn=>D.str [n]):=rfl;rw[eG];generalize (((cm bs t).filter λo=>decide (t ∈ cm bs o)).map λn=>D.str [n])=Y at *;generalize ((cm bs t).map λn=>D.str [n])=Z at *;generalize tD (cm bs t)=TC at *;generalize kD bs (bs.map (·.1))=CD at *;generalize au h w bs=ru at *;have i:bu (aq dm 1 (ao 2)) (g7 ru CD (some (.pure (.str [t]))) o3 (some (.own (.lst (gs.map gD)))) o5 none) = .ok Z (g7 ru CD (some (.pure (.str [t]))) o3 (some (.own (.lst (gs.map gD)))) o5 none):=by
  simp[eQ,aa,ao,aq,bz,q0,S.d,eC]
 unfold yD;rw[mf,i];simp only[fQ];have cT:([6]:List Nat).any (bH (g7 ru CD (some (.pure (.str [t]))) o3 (some (.own (.lst (gs.map gD)))) o5 none))=false:=rfl;have eM:bc [6] (g7 ru CD (some (.pure (.str [t]))) o3 (some (.own (.lst (gs.map gD)))) o5 none)=g7 ru CD (some (.pure (.str [t]))) o3 (some (.own (.lst (gs.map gD)))) o5 none:=rfl;rw[cT,eM,c];rfl
theorem RJ(a b:List Nat):ak (gD a) (gD b)=decide (a=b):=by
 simp only[gD,ak,yz]
theorem RK(g:List Nat)(gs:List (List Nat)):gY true (gD g) (.lst (gs.map gD))=some (.pure (.bl (!decide (g ∈ gs)))):=by
 unfold gY;have fl:∀ a:List Nat,flat 49 (gD a)=true:=λa=>by simp only[gD,flat]; exact qk 48 a
 have h1:(flat 49 (gD g) && (gs.map gD).all (flat 49))=true:=by
  rw[fl g,JL];exact Q8.mpr λx _=>fl x
 simp only[h1,if_true];congr 4
 rw[List.any_map];clear h1;induction gs with
 | nil=>simp
 | cons a r ih =>
  rw[WZ,ih];simp only[Function.comp,RJ];by_cases h:a=g
  ·simp[h]
  ·have h':g≠a:=λq=>h q.symm
   simp[h,h']
abbrev tf:DS:=(aI (aF (aT fc (ar yD)) (ag [] 5)) (dG (aH (a_ (gY true) (aa 5) (ao 4))) (c_ 4 (aa 5)) dP))
theorem RL{h w t:Nat}{bs:List (Nat×List Tx)}(R:bB h w bs){p q:List Nat}(e:bs.map (·.1)=p ++ t :: q)(o3 o5:Option S):∃ o5':Option D,tf (g7 (au h w bs) (kD bs (bs.map (·.1))) (some (.pure (.str [t]))) o3 (some (.own (.lst ((ba bs p).map gD)))) o5 none) = .ok .next (g7 (au h w bs) (kD bs (bs.map (·.1))) (some (.pure (.str [t]))) o3 (some (.own (.lst ((ba bs (p ++ [t])).map gD)))) (o5'.map S.pure) none):=by
 have n1:=R.n1;have ht:t ∈ bs.map (·.1):=by rw[e]; simp
 have c:=RI R ht (ba bs p) o3 o5;have hz:(ba bs p).length<=26:=by
  unfold ba;rw[Wq];refine WP (QX _ _) ?_;have:=congrArg Qx e;simp at this;omega
 have eT:fc (tD (bL bs t))=some (.pure (gD (bL bs t))):=rfl;have hf:=Pm R e;have q1:=RK (bL bs t) (ba bs p);refine⟨some (gD (bL bs t)),?_⟩;rw[DK];have q2:gY true (gD (bL bs t)) (.lst ((ba bs p).map gD))=some (.pure (.bl (iG bs t))):=by
  rw[q1];congr 3
  cases hL:iG bs t with
  | true=>rw[decide_eq_false λz=>by rw[hf.mp z] at hL; cases hL]; rfl
  | false=>rw[decide_eq_true (hf.mpr hL)]; rfl
 clear q1 hf;generalize hgs:ba bs p=gs at *;generalize tD (bL bs t)=TG at *;generalize hGD:gD (bL bs t)=GD at *;generalize kD bs (bs.map (·.1))=CD at *;generalize au h w bs=ru at *;rw[tf,cw (δ1:=g7 ru CD (some (.pure (.str [t]))) o3 (some (.own (.lst (gs.map gD)))) (some (.pure GD)) none) (by
  unfold aF aT ar;rw[c];simp[eT,S.d])]
 cases me:iG bs t with
 | true =>
  rw[me] at q2;have hl:gs.length < W8:=by rw[cQ]; omega
  simp[aH,aa,ao,q2,c_,gN,putL,S.d,hl,hGD]
 | false =>
  rw[me] at q2;simp[aH,aa,ao,q2]
theorem Ej{h w:Nat}{bs:List (Nat×List Tx)}(R:bB h w bs):∀ (l p:List (Nat×List Tx)) (o2 o3:Option S) (o5:Option D),bs=p ++ l ->
  ∃ o2' o3' o5',forL (bN 2 (aX (ag [] 2) (aX (ag [] 3) bT))) tf (l.map dB) (g7 (au h w bs) (kD bs (bs.map (·.1))) o2 o3 (some (.own (.lst ((ba bs (p.map (·.1))).map gD)))) (o5.map S.pure) none) = .ok .next (g7 (au h w bs) (kD bs (bs.map (·.1))) o2' o3' (some (.own (.lst ((ba bs ((p ++ l).map (·.1))).map gD)))) (Option.map S.pure o5') none)
 | [],p,o2,o3,o5,_=>⟨o2,o3,o5,by simp⟩
 | b :: l,p,o2,o3,o5,e=>by
  have e2:bs.map (·.1)=p.map (·.1) ++ b.1 :: l.map (·.1):=by rw[e]; simp
  obtain⟨q5,s1⟩:=RL R e2 (some (.pure (cR b.2))) (o5.map S.pure);obtain⟨q2,q3,q6,ih⟩:=Ej R l (p ++ [b]) (some (.pure (.str [b.1]))) (some (.pure (cR b.2))) q5 (by rw[e]; simp);refine⟨q2,q3,q6,?_⟩;rw[Wc,kg (δ1:=g7 (au h w bs) (kD bs (bs.map (·.1))) (some (.pure (.str [b.1]))) (some (.pure (cR b.2))) (some (.own (.lst ((ba bs (p.map (·.1))).map gD)))) (o5.map S.pure) none) rfl s1];rw[Qb,WV] at ih;exact ih
abbrev tj:DT:=(aH (a_ bQ (aq dm 1 (ar (aq aS 5 (ar (eD (.int 0)))))) (ar (aT nu (ao 5)))))
theorem RM{h w:Nat}{bs:List (Nat×List Tx)}(R:bB h w bs):mB [.pure (au h w bs)]=some (.pure (.tup [.lst ((ba bs (bs.map (·.1))).map gD),.lst (((ba bs (bs.map (·.1))).filter (fE bs)).map gD)]),[.pure (au h w bs)]):=by
 have n1:=R.n1;have x2:=(n8 h w bs).2.2;have hl:=yq R;obtain⟨o2,o3,e1⟩:=Ei R bs [] none none rfl;rw[Q3] at e1;obtain⟨p2,p3,p5,e2⟩:=Ej R bs [] o2 o3 none rfl;rw[Q3] at e2;have c:=mH (cs:=[5]) (g:=ag [] 5) (t:=tj) (el:=aa 5) gD gD (fE bs) (g7 (au h w bs) (kD bs (bs.map (·.1))) p2 p3 (some (.pure (.lst ((ba bs (bs.map (·.1))).map gD)))) none none) (ba bs (bs.map (·.1))) [] (by rw[cQ]; simp; omega) (λg hg=>by
  obtain⟨t,r,ht,f1,f2⟩:=DL R hg;refine⟨g7 (au h w bs) (kD bs (bs.map (·.1))) p2 p3 (some (.pure (.lst ((ba bs (bs.map (·.1))).map gD)))) (some (.pure (gD g))) none,g7 (au h w bs) (kD bs (bs.map (·.1))) p2 p3 (some (.pure (.lst ((ba bs (bs.map (·.1))).map gD)))) (some (.pure (gD g))) none,.pure (gD g),g7 (au h w bs) (kD bs (bs.map (·.1))) p2 p3 (some (.pure (.lst ((ba bs (bs.map (·.1))).map gD)))) (some (.pure (gD g))) none,rfl,?_,rfl,by simp[aa],rfl,rfl⟩;have x0:aS (gD g) (.int 0)=some (.pure (.str [t])):=by rw[f1]; simp[aS,mh]
  have q:dm (kD bs (bs.map (·.1))) (.str [t])=some (.pure (tD (cm bs t))):=yC (λt=>tD (cm bs t)) ht;have l1:nu (gD g)=some (.own (tD g)):=rfl;have l3:bQ (tD (cm bs t)) (tD g)=some (.pure (.bl (fE bs g))):=by
   rw[RA];unfold fE;rw[show g.headD 0=t by rw[f1]; rfl]
  generalize tD (cm bs t)=Y at *;generalize tD g=TG at *;generalize kD bs (bs.map (·.1))=CD at *;generalize au h w bs=ru at *;generalize gD g=GG at *;simp[tj,aH,aa,ao,aq,bz,x0,q,l1,l3])
 rw[mB,xB];generalize (((ba bs (bs.map (·.1))).filter (fE bs)).map gD)=Y at *;generalize ((ba bs (bs.map (·.1))).map gD)=Z at *;have pf:forL (bN 2 (aX (ag [] 2) (aX (ag [] 3) bT))) (eJ 1 (aa 2) s_) (bs.map dB) (g7 (au h w bs) (.az []) none none none none none) = .ok .next (g7 (au h w bs) (kD bs (bs.map (·.1))) o2 o3 none none none):=e1;have ju:forL (bN 2 (aX (ag [] 2) (aX (ag [] 3) bT))) tf (bs.map dB) (g7 (au h w bs) (kD bs (bs.map (·.1))) o2 o3 (some (.own (.lst []))) none none) = .ok .next (g7 (au h w bs) (kD bs (bs.map (·.1))) p2 p3 (some (.own (.lst Z))) (p5.map S.pure) none):=e2;clear e1 e2;generalize kD bs (bs.map (·.1))=CD at *;generalize au h w bs=ru at *;generalize bs.map dB=B at *;refine mI (δ1:=g7 ru CD p2 p3 (some (.pure (.lst Z))) (p5.map S.pure) none) ?_;rw[cw (δ1:=g7 ru (.az []) none none none none none) (by simp[br,aF,jX])];have i1:bu (aq aS 0 (ar (eD (.int 2)))) (g7 ru (.az []) none none none none none) = .ok B (g7 ru (.az []) none none none none none):=by simp[eQ,aq,bz,ao,x2]
 rw[cw ((iH i1).trans pf)];rw[cw (δ1:=g7 ru CD o2 o3 (some (.own (.lst []))) none none) (by simp[aF])];have i2:bu (aq aS 0 (ar (eD (.int 2)))) (g7 ru CD o2 o3 (some (.own (.lst []))) none none) = .ok B (g7 ru CD o2 o3 (some (.own (.lst []))) none none):=by simp[eQ,aq,bz,ao,x2]
 rw[cw ((iH i2).trans ju)];have i3:bu (aa 4) (g7 ru CD p2 p3 (some (.pure (.lst Z))) (p5.map S.pure) none) = .ok Z (g7 ru CD p2 p3 (some (.pure (.lst Z))) (p5.map S.pure) none):=by simp[eQ,aa,S.d]
 have cT:([5]:List Nat).any (bH (g7 ru CD p2 p3 (some (.pure (.lst Z))) (p5.map S.pure) none))=false:=by cases p5 <;> rfl
 have eM:bc [5] (g7 ru CD p2 p3 (some (.pure (.lst Z))) (p5.map S.pure) none)=g7 ru CD p2 p3 (some (.pure (.lst Z))) none none:=rfl;have hC:cI [5] (bu (aa 4)) (ag [] 5) tj (aa 5) (g7 ru CD p2 p3 (some (.pure (.lst Z))) (p5.map S.pure) none) = .ok (.own (.lst Y)) (g7 ru CD p2 p3 (some (.pure (.lst Z))) (p5.map S.pure) none):=by
  rw[mf,i3];simp only[fQ];rw[cT,eM,c];rfl
 clear c i1 i2 i3 pf ju;generalize cI [5] (bu (aa 4)) (ag [] 5) tj (aa 5)=EC at *;generalize p5.map S.pure=o5 at *;simp[aa,hC,S.d]
abbrev s9(bE:D)(a1 a2 a3 a4 a5 a6 a7:Option S):Dl:=[some (.pure bE),a1,a2,a3,a4,a5,a6,a7,none]
abbrev y1:DS:=(aF (nC lg (aD my [.val (aa 1)]) [.val (eD (.int 6))]) (ag [] 2))
abbrev y2:DS:=(aF (aD mB [.val (aa 2)]) (bN 2 (aX (ag [] 3) (aX (ag [] 4) bT))))
abbrev yA:DE:=(cI [8] (bu (aq bA 6 (ao 7))) (ag [] 8) dH (gJ "tuple" (ao 8)))
abbrev yB:DS:=(aI (aF (aD mC [.val (aa 2)]) (ag [] 6)) (aI (aF (aD mD [.val (aa 2)]) (ag [] 7)) (aI (dG (jh (ji (aH (gJ "list" (ao 6)))) (jh (ji (aH (gJ "list" (ao 7)))) (jh (aH (aq kH 6 (ao 3))) (aH (aq kH 7 (ao 4)))))) (cB (eD (.bl false))) dP) (aI (dG (ji (aH (aT jS (ar yA)))) (cB (eD (.bl false))) dP) (aI (c_ 6 (e_ cV)) (c_ 7 (e_ cV)))))))
abbrev y3:DS:=(cW (gj (eD (.int 2))) (ag [] 5) yB)
theorem Ek:∀ gs:List (List Nat),fM 49 (gs.map gD)=true
 | []=>by simp[fM]
 | g :: r=>by
  simp only[Wc,fM,Ek r,Bool.and_true];simp only[gD,flat];exact qk 48 g
theorem El(gs:List (List Nat)):kH (.lst (gs.map gD)) (.lst (gs.map gD))=some (.pure (.bl false)):=by
 unfold kH;have h1:flat 50 (.lst (gs.map gD))=true:=by simp only[flat]; exact Ek gs
 rw[h1,qQ h1];rfl
theorem Em:∀ n:Nat,jl (Wf n (.bl true))=some (Wf n true)
 | 0=>rfl
 | n + 1=>by rw[WY,WY]; simp[jl,Em n]
theorem RN(n:Nat):jS (.lst (Wf n (.bl true)))=some (.pure (.bl true)):=by
 simp[jS,Em]
theorem RO(bE ru gd sd:D)(a1 a5:Option S)(xs ys:List (List Nat))(hx:xs.length<=26)(hy:ys.length<=26) :
  yA (s9 bE a1 (some (.pure ru)) (some (.pure gd)) (some (.pure sd)) a5 (some (.own (.lst (xs.map gD)))) (some (.own (.lst (ys.map gD))))) = .ok (.own (.lst (Wf (xs.length + ys.length) (.bl true)))) (s9 bE a1 (some (.pure ru)) (some (.pure gd)) (some (.pure sd)) a5 (some (.own (.lst (xs.map gD)))) (some (.own (.lst (ys.map gD))))):=by
 have ha:bA (.lst (xs.map gD)) (.lst (ys.map gD))=some (.own (.lst ((xs ++ ys).map gD))):=by
  simp only[bA];rw[if_pos (by rw[cQ]; simp; omega)];simp
 have c:=nG (cs:=[8]) (g:=ag [] 8) (t:=dH) (el:=gJ "tuple" (ao 8)) gD (λ_=>D.bl true) (s9 bE a1 (some (.pure ru)) (some (.pure gd)) (some (.pure sd)) a5 (some (.own (.lst (xs.map gD)))) (some (.own (.lst (ys.map gD))))) (xs ++ ys) [] (by rw[cQ]; simp; omega) (λg hg=>⟨[some (.pure bE),a1,some (.pure ru),some (.pure gd),some (.pure sd),a5,some (.own (.lst (xs.map gD))),some (.own (.lst (ys.map gD))),some (.pure (gD g))],[some (.pure bE),a1,some (.pure ru),some (.pure gd),some (.pure sd),a5,some (.own (.lst (xs.map gD))),some (.own (.lst (ys.map gD))),some (.pure (gD g))],.pure (.bl true),[some (.pure bE),a1,some (.pure ru),some (.pure gd),some (.pure sd),a5,some (.own (.lst (xs.map gD))),some (.own (.lst (ys.map gD))),some (.pure (gD g))],rfl,rfl,by simp[gJ,ao,lT,S.d],rfl,rfl⟩);have er:((xs ++ ys).map λ_=>D.bl true)=Wf (xs.length + ys.length) (.bl true):=by
  rw[List.map_const',WW]
 rw[er] at c;generalize Wf (xs.length + ys.length) (D.bl true)=Y at *;generalize ((xs ++ ys).map gD)=Z at *;generalize D.lst (xs.map gD)=X1 at *;generalize D.lst (ys.map gD)=X2 at *;have i:bu (aq bA 6 (ao 7)) (s9 bE a1 (some (.pure ru)) (some (.pure gd)) (some (.pure sd)) a5 (some (.own X1)) (some (.own X2))) = .ok Z (s9 bE a1 (some (.pure ru)) (some (.pure gd)) (some (.pure sd)) a5 (some (.own X1)) (some (.own X2))):=by
  simp[eQ,aq,bz,ao,ha,S.d]
 unfold yA;rw[mf,i];simp only[fQ];have cT:([8]:List Nat).any (bH (s9 bE a1 (some (.pure ru)) (some (.pure gd)) (some (.pure sd)) a5 (some (.own X1)) (some (.own X2))))=false:=rfl;have eM:bc [8] (s9 bE a1 (some (.pure ru)) (some (.pure gd)) (some (.pure sd)) a5 (some (.own X1)) (some (.own X2)))=s9 bE a1 (some (.pure ru)) (some (.pure gd)) (some (.pure sd)) a5 (some (.own X1)) (some (.own X2)):=rfl;rw[cT,eM,c];rfl
theorem RP{h w:Nat}{bs:List (Nat×List Tx)}(G:i4 h w bs)(bE:D)(a1 a5 a6 a7:Option S):∃ q6 q7,yB (s9 bE a1 (some (.pure (au h w bs))) (some (.pure (.lst ((ba bs (bs.map (·.1))).map gD)))) (some (.pure (.lst (((ba bs (bs.map (·.1))).filter (fE bs)).map gD)))) a5 a6 a7) =
  .ok .next (s9 bE a1 (some (.pure (au h w bs))) (some (.pure (.lst ((ba bs (bs.map (·.1))).map gD)))) (some (.pure (.lst (((ba bs (bs.map (·.1))).filter (fE bs)).map gD)))) a5 q6 q7):=by
 have R:=G.R;have n1:=R.n1;have l1:=yq R;have l2:((ba bs (bs.map (·.1))).filter (fE bs)).length<=26:=WP (QX _ _) (by omega);have g1:=Rz G;have g2:=RC G;generalize au h w bs=ru at *;generalize hxs:(ba bs (bs.map (·.1))).filter (fE bs)=ys at *;generalize ba bs (bs.map (·.1))=xs at *;have n2:=El xs;have n3:=El ys;have c:=RO bE ru (.lst (xs.map gD)) (.lst (ys.map gD)) a1 a5 xs ys (by omega) l2;have al:=RN (xs.length + ys.length);generalize Wf (xs.length + ys.length) (D.bl true)=Y at *;have z1:(xs.map gD).length < W8:=by rw[Wq,cQ]; omega
 have z2:(ys.map gD).length < W8:=by rw[Wq,cQ]; omega
 generalize xs.map gD=XD at *;generalize ys.map gD=YD at *;refine⟨some (.own (.lst (XD ++ [.tup []]))),some (.own (.lst (YD ++ [.tup []]))),?_⟩;rw[yB,cw (δ1:=s9 bE a1 (some (.pure ru)) (some (.pure (.lst XD))) (some (.pure (.lst YD))) a5 (some (.own (.lst XD))) a7) (by simp[aF,aD,aW,bO,bC,aa,bf,g1,aR])];rw[cw (δ1:=s9 bE a1 (some (.pure ru)) (some (.pure (.lst XD))) (some (.pure (.lst YD))) a5 (some (.own (.lst XD))) (some (.own (.lst YD)))) (by simp[aF,aD,aW,bO,bC,aa,bf,g2,aR])];rw[cw (δ1:=s9 bE a1 (some (.pure ru)) (some (.pure (.lst XD))) (some (.pure (.lst YD))) a5 (some (.own (.lst XD))) (some (.own (.lst YD)))) (by simp[aH,gJ,lT,ao,aa,aq,bz,n2,n3,S.d])];rw[cw (δ1:=s9 bE a1 (some (.pure ru)) (some (.pure (.lst XD))) (some (.pure (.lst YD))) a5 (some (.own (.lst XD))) (some (.own (.lst YD)))) (by
  have t:aH (aT jS (ar yA)) (s9 bE a1 (some (.pure ru)) (some (.pure (.lst XD))) (some (.pure (.lst YD))) a5 (some (.own (.lst XD))) (some (.own (.lst YD)))) = .ok true (s9 bE a1 (some (.pure ru)) (some (.pure (.lst XD))) (some (.pure (.lst YD))) a5 (some (.own (.lst XD))) (some (.own (.lst YD)))):=by
   unfold aH aT ar;rw[c];simp[al,S.d]
  generalize aH (aT jS (ar yA))=T at *;simp[t])]
 rw[cw (δ1:=s9 bE a1 (some (.pure ru)) (some (.pure (.lst XD))) (some (.pure (.lst YD))) a5 (some (.own (.lst (XD ++ [.tup []])))) (some (.own (.lst YD)))) (by simp[c_,gN,putL,S.d,z1])];simp[c_,gN,putL,S.d,z2]
theorem RQ(bE:D)(c:Int)(o2 o3 o4 o5 o6 o7:Option S):∃ (q2 q3 q4 q5 q6 q7:Option S),(aI y1 (aI y2 y3)) (s9 bE (some (.pure (.int c))) o2 o3 o4 o5 o6 o7) = .ok .next (s9 bE (some (.pure (.int c))) q2 q3 q4 q5 q6 q7):=by
 obtain⟨d0,e0,p0⟩:=Pr c;obtain⟨h,w,bs,d1,e1,R,n6,p1⟩:=PD p0 6 (by decide) (by decide);have e1:lg [.own d0,.pure (.int 6)]=some (.pure (au h w bs),[.own d1,.pure (.int 6)]):=e1;have G:=Pj R n6;have e2:=RM R;have tb:=λa5 a6 a7=>RP G bE (some (.pure (.int c))) a5 a6 a7
 generalize D.lst ((ba bs (bs.map (·.1))).map gD)=XD at *;generalize D.lst (((ba bs (bs.map (·.1))).filter (fE bs)).map gD)=YD at *;generalize au h w bs=RU at *;obtain⟨δ',e,o5',o6',o7',rfl⟩:=nE (g:=ag [] 5) (b:=yB) (λ_ δ=>∃ o5 o6 o7,δ=s9 bE (some (.pure (.int c))) (some (.pure RU)) (some (.pure XD)) (some (.pure YD)) o5 o6 o7) (bY 0 2) 0 (s9 bE (some (.pure (.int c))) (some (.pure RU)) (some (.pure XD)) (some (.pure YD)) o5 o6 o7) ⟨_,_,_,rfl⟩ (λi d δ hd ⟨o5,o6,o7,e⟩=>by
  subst e;obtain⟨q6,q7,e⟩:=tb (some (.pure d)) o6 o7;exact⟨_,_,rfl,e,_,_,_,rfl⟩)
 refine⟨some (.pure RU),some (.pure XD),some (.pure YD),o5',o6',o7',?_⟩;rw[cw (δ1:=s9 bE (some (.pure (.int c))) (some (.pure RU)) o3 o4 o5 o6 o7) (by simp[aF,nC,aD,aW,bO,bH,bC,aa,bf,aR,e0,e1])];rw[cw (δ1:=s9 bE (some (.pure (.int c))) (some (.pure RU)) (some (.pure XD)) (some (.pure YD)) o5 o6 o7) (by simp[aF,aD,aW,bO,bH,bC,aa,bf,aR,e2,bN,aX,bT])];have iq:gj (eD (.int 2)) (s9 bE (some (.pure (.int c))) (some (.pure RU)) (some (.pure XD)) (some (.pure YD)) o5 o6 o7) = .ok (bY 0 2) (s9 bE (some (.pure (.int c))) (some (.pure RU)) (some (.pure XD)) (some (.pure YD)) o5 o6 o7):=by
  have:=sv 2 (by decide);simp at this;simp[this]
 exact(iH iq).trans e
theorem RS(ns:List Int)(hn:ns.length<=63):mE [.pure (.lst (ns.map .int))]=some (.pure (.bl true),[.pure (.lst (ns.map .int))]):=by
 obtain⟨c0,e0⟩:=Pt ns;have RT:∀ (ns:List Int) (lo hi:Option Int),cH (ns.map D.int) lo hi=(cH ns lo hi).map D.int:=λns lo hi=>by
  unfold cH;simp[List.map_take,List.map_drop]
 have ha:bA (.lst [.int c0]) (.lst (cH (ns.map .int) (some 1) (some 6)))=some (.own (.lst ((c0 :: cH ns (some 1) (some 6)).map .int))):=by
  rw[RT];have hl:(cH ns (some 1) (some 6)).length<=63:=by
   unfold cH;simp;omega
  simp only[bA];rw[if_pos (by rw[cQ]; simp; omega)];simp
 have hs:jm (some 1) (some 6) (.lst (ns.map .int))=some (.own (.lst (cH (ns.map .int) (some 1) (some 6)))):=rfl;generalize D.lst (ns.map .int)=bE at *;obtain⟨δ',e,o1,o2,o3,o4,o5,o6,o7,rfl⟩:=nE (g:=ag [] 1) (b:=(aI y1 (aI y2 y3)))
  (λ_ δ=>∃ (o1 o2 o3 o4 o5 o6 o7:Option S),δ=s9 bE o1 o2 o3 o4 o5 o6 o7) ((c0 :: cH ns (some 1) (some 6)).map .int) 0 (s9 bE none none none none none none none) ⟨none,none,none,none,none,none,none,rfl⟩ (λi d δ hd ⟨o1,o2,o3,o4,o5,o6,o7,e⟩=>by
   subst e;simp only[Wy,Q9] at hd;obtain⟨k,_,rfl⟩:=hd;obtain⟨q2,q3,q4,q5,q6,q7,e⟩:=RQ bE k o2 o3 o4 o5 o6 o7;exact⟨_,_,rfl,e,_,_,_,_,_,_,_,rfl⟩)
 generalize ((c0 :: cH ns (some 1) (some 6)).map D.int)=cs at *;generalize D.lst (cH (ns.map .int) (some 1) (some 6))=cl at *;rw[mE];refine mI (δ1:=s9 bE o1 o2 o3 o4 o5 o6 o7) ?_;rw[xT];have qi:bu (a_ bA (hV (cb (aD mw [.val (aa 0),.val (eD (.int 0))]) cV)) (ar (o_ 0 (lU (eD (.int 1))) (lU (eD (.int 6)))))) (s9 bE none none none none none none none) = .ok cs (s9 bE none none none none none none none):=by
  simp[eQ,aD,aW,bO,bC,aa,bf,e0,aR,o_,lU,ao,hs,ha]
 refine(cw ((iH qi).trans e)).trans ?_;rfl
theorem RV(ns:List Int)(h:ns.length<=63):∃ aA,mE [.pure (.lst (ns.map .int))]=some (.pure (.bl true),aA):=⟨_,RS ns h⟩
end K50
open PySem PySem.W PyProof.Rows
namespace PySem.W.Fast
def tw1695908504799342677:=0
def tw16106232834382371122:=0
def tw17736130894180359082:=0
def tw16237973725015126556:=0
def tw2926967243328108364:=0
def tw4997581461376553471:=0
def tw12813515944870338416:=0
def tw3028150464542084236:=0
def tw1878221900771407301:=0
def tw6376292913565688800:=0
def tw16124105395907381078:=0
def tw7752463794155137244:=0
def tw14538777508868174070:=0
def tw7553388687783055998:=0
def tw8937097943404976729:=0
def tw16715312924867972019:=0
def tw6250761051977010496:=0
end PySem.W.Fast
set_option maxRecDepth 100000 in
set_option maxHeartbeats 0 in
theorem PySem.Challenge.cw_tilegrow_k50_groups_of_tiles_holds : PySem.Challenge.rw_tilegrow_k50_groups_of_tiles.Holds := by
 w_on; o_law; k_head; (case hw=>w_witness2)
 k_fill
 refine DV.Nr (l:=PySem.Challenge.rw_tilegrow_k50_groups_of_tiles) (k:=8) (G:=K50.mE) (tpos:=K50.gq) (tq:=K50.gr) rfl rfl ⟨rfl,by decide,by decide⟩ (λw h Y=>⟨PySem.W.km_in_of Y,PySem.W.km_tabs_of Y _ Wi⟩) ?L ?KT K50.RV ?F
 case L=>intro p; exact Eq.refl true
 case KT=>intro p; exact Eq.refl none
 case F =>
  intro w mg fa h KX G jL;refine' K50.all_mk KX G jL ?d0 ?d1 ?d2 ?d3 ?d4 ?d5 ?d6 ?d7 ?d8 ?d9 ?x3 ?x4 ?x5 ?x6 ?x8 ?x9 ?sO ?x_ ?ya ?dT ?gT ?yb ?yc ?yd ?ye ?yf ?yg ?yh ?yi ?pU ?mr ?pV ?pW ?k_ ?iX ?jz ?pX ?jA ?pY ?la ?pZ ?j9
  (case d0|d1|d2|d3|d4|d5|d6|d7|d8|d9|x3|x4|x5|x6|x8|yb|yc|yd|ye=>exact⟨_,_,_,_,_,_,_,_,_,_,by k_is,by k_is,by k_is,by k_is⟩)
  (case x9|sO|x_|ya|yf|yg|yh|yi|pU|mr|pV|pW|k_|iX|jz|pX|jA|pY|la|pZ|j9=>k_is)
  (case dT|gT=>kernel_rfl)
