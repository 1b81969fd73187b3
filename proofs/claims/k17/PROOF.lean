import PyProof.Rows.All
import Wide.All
import OpenK.AllK
import Wide.FinOn
import Lean
import PyProof.EqAt
import PyProof.EqKinds
import PyProof.TupleCall
import PyProof.NeKinds
import PyProof.StrWalks
import PyProof.ListStr
import PyProof.StrOps2
import PyProof.StrLawsIn
import KE.KDictOf
import PyProof.AttrMissHeap
import PyProof.Draws
import PyProof.EnumMake
import PyProof.Rows.EnumRows
import PyProof.LongRange
import PyProof.NoPylong
import PyProof.SeqI3
import PyProof.Rows.SeqCalls
import PyProof.StrLawsChain
import PyProof.StrCalls2
import KE.KIntText
import PyProof.Rows.CallKwBuiltin
import OpenK.KOwn
import OpenK.KRaise
import PyProof.ExcBaseAll.ValueError
import PyProof.Rows.CatchOwn
import KE.KIsAll
import PyProof.ExcArgsOwn
import PyProof.ExcAttrAll.ValueError
import PyProof.Rows.SeqMore2
import PyProof.ListMulAny
import PyProof.ListMulRoad
import PyProof.ZipIter
import PyProof.Rows.FactsT2
import PyProof.ExcInit
import PyProof.InstStoreFacts
import PyProof.StrCalls
import PyProof.FactsAll.dict_1
import PyProof.FactsAll.subtypes_3
import PyProof.FactsAll.subtypes_4
import PyProof.Dict
import PyProof.MinMaxWalk
import PyProof.WalkInts
import PyProof.WalksMore
import PyProof.FactsAll.tuple_2
import KE.KSortTup
import PyProof.Rows.SortWalk
import PyProof.Rows.SetFrom
import PyProof.DictKinds
import PyProof.DictStraight
import PyProof.SetRoads
import PyProof.CollectWalk
import PyProof.CollectStr
import PyProof.DictIter
import PyProof.Rows.SortShell
import KE.KItemsList
import PyProof.Rows.SortStr
import PyProof.DictItemsLoops
import PyProof.ListNew
import PySem.Challenge.RW_tilegrow_k17_tiles_of_far_floors
open PySem renaming wpAny_bind→W0,Shared→W2,wpAny_pure→W4,starEach→W7,wpAny→W8,sizeLine→Wb,Spec→Wh,Program→Wm,Around→Wp,World→Wq,mainGlobals→Ws,mem_of_lookup→Wz,wpAny_mono→WC,wpAny_holding→WG,FuncData→WP,backTo→WU,wpAny_newObj_type→WX,compareOp→WY,codeAny_builtin→Q2,rawInt→Q4,wpAny_callSpecial?_slot→Q5,attributeBase→Q6,wpAny_call_entry→Q9,codeAny→Qa,pyNext→Qb,assignEach→Qc,wpAny_field→Qg,bootBuiltins→Qj,wpAny_loadPart_at→Ql,binaryOp→Qn,cLine→Qp,sizeLine_eq→Qr,plainId_quiet→Qt,foldedSetIterable→Qw,cellsFrom→Qy,wpAny_updateSeq→QB,behindInMarks→QD,builtinLookup_eq_fast→QI,wpAny_typeOf→QN,swapsWith→QQ,wpAny_setField→QT,codeAny_mono→QV,wpAny_Call_Name_kw→QW,wpAny_truthy_bool→QZ,wpAny_setState_of→J1,sysModules→J3,call_meets→Ja,codeAny_call_builtin→Jb,keywordEach→Jc,wpAny_askSetting→Ji,wpAny_setEntries_of→Jk,wpAny_attempt→Jo,wpAny_rule→Jq,typeLookup_type→Jr,updateSeq→Jy,sliceBounds→JE,wpAny_passesOwn→JH,wpAny_loadPart'→JI,wpAny_ite_split→JJ,backToKw→JL,tupleKind_room_in1→JM,pushCells→JN,noteFrame→JO,getattributeRaised→JQ,scanBound→JS,typeLookup→JT,wpAny_seqItems→JU
open PySem.W renaming Frag→W1,mg_none_of→WH,kia_one→Q8,fnOf→QC,kitOne→QG,keepIn→QH,cellsFrom_some→Ju,findIn→JD,looks_findIn→JR,hasDictIn→JX
open List renaming getElem?_set_ne→W3,getElem?_eq_some_iff→W6,mem_cons_of_mem→W9,replicate→Wa,getElem?_set_self→Wc,mem_cons_self→Wf,getElem?_eq_getElem→Wk,mem_cons→Wl,size_toArray→Wn,map_cons→Wo,getElem?_map→Ww,length_map→Wy,map_map→WB,length_cons→WD,mem_of_getElem?→WF,range→WJ,replicate_succ→WL,getElem?_set→WO,getElem?_eq_none→WQ,nodup_cons→WR,length_set→WS,lookup_cons→WT,mem_map→WV,mem_append_right→WW,length_append→WZ,append_nil→Q0,nil_append→Q1,map_congr_left→Q3,flatten_cons→Qd,mem_map_of_mem→Qo,all_eq_true→Qq,getElem?_of_mem→Qu,find?_cons→Qz,getD_eq_getElem?_getD→QE,getElem_mem→QF,drop_eq_getElem_cons→QJ,foldl_cons→QO,eq_nil_of_length_eq_zero→QR,mem_append→QX,any_cons→QY,take_add_one→J0,mem_append_left→J4,getElem?_append_left→J5,getElem?_take_of_lt→Jg,getElem?_cons_zero→Jl,length_nil→Jp,contains_cons→Js,map_append→Jt,length→Jv,range_succ_eq_map→Jw,count_append→Jx,length_take→JA,cons_append→JB,count_cons→JK,pairwise_cons→JP,any_eq_false→JW,ext_getElem?→JY,length_range→JZ,all_cons→U2,range'_succ→U4,of_mem_zip→U5,forIn_cons→U6,range_succ→U8
open PySem.Heap renaming get?_push_of_some→W5,lt_size→We,get?_push_size→Wj,get?_update_self→Wt,get?_update_other→Wu,size_push→Jd,SameBut→Je,get?_none_of_le→Jz
open Option.some renaming injEq→Wd,inj→Wx
open Nat renaming le_refl→Wg,ne_of_lt→Wi,lt_of_lt_of_le→Wv,ne_of_gt→WI,le_trans→WK,zero_add→WN,lt_irrefl→Qf,zero_le→Qs,lt_succ_of_lt→QP,le_of_lt→QU,le_add_right→JC,mul_le_mul→JV,le_succ→U1,lt_succ_self→U3,mul_comm→U7
open Bool renaming and_eq_true→Wr,false_ne_true→Q7,false_eq_true→Qh,not_eq_true'→U0
open Option renaming map_some→WA,bind_some→WE,map_eq_some_iff→WM,isSome_iff_exists→QM
open Int renaming toNat_natCast→Qe
open PySem.Builtin.List renaming listExtendWith→Qi,listSameRef→Jj
open Array renaming getElem?_eq_some_iff→Qk,length_toList→Qm
open PySem.Builtin.SmallTypes renaming ownedTupleIsFree→Qv
open PyProof.Rows renaming callWith_type1→Qx,slot_tuple_getitem→QL,envOfC→Jf
open PySem.Builtin.Str renaming strSliceIndices→QA
open PySem.F renaming plain_extend_loop→QK,plainAttrs_list→Jm,slot_list_index→Jn,plain_extend_loop→JG
open PySem.Builtin.Slice renaming slicePlaces→J9
open PySem.Builtin.Tuple renaming tupleExact→Jh
open PySem.Heap.SameBut renaming update→JF
set_option Elab.async false
set_option linter.all false
set_option maxRecDepth 100000
namespace L2
open PySem PySem.Spec PyProof.Rows
abbrev Key:=Sum Int Str
def l_:Key->Value->Bool
 | .inl k,v=>Value.isInt k v
 | .inr x,v=>Value.isStrOf x v
def Hm(w:Wq):Key->Int
 | .inl k=>hashInt k
 | .inr x=>hashStr w x
theorem jw:∀ {k:Key} {v:Value},l_ k v=true->(∃ i t,k=Sum.inl i/\v=Value.int i t)\/(∃ x t,k=Sum.inr x/\v=Value.str x t)
 | .inl i,v,h=>by
  obtain⟨t,e⟩:=Value.isInt_shape (k:=i) (v:=v) h;exact .inl ⟨i,t,rfl,e⟩
 | .inr x,v,h=>by
  obtain⟨t,e⟩:=Value.isStrOf_shape (x:=x) (v:=v) h;exact .inr ⟨x,t,rfl,e⟩
theorem Hn(i:Int)(t:Tok):l_ (.inl i) (.int i t)=true:=by simp[l_,Value.isInt]
theorem Ho(x:Str)(t:Tok):l_ (.inr x) (.str x t)=true:=by simp[l_,Value.isStrOf]
theorem Hq(a b:Int):decide ((Sum.inl a:Key)=Sum.inl b)=(a == b):=by
 by_cases e:a=b
 ·subst e; simp
 ·have h:¬ (Sum.inl a:Key)=Sum.inl b:=λq=>e (Sum.inl.inj q)
  rw[decide_eq_false h];exact(beq_eq_false_iff_ne.mpr e).symm
theorem Hr(a b:Str):decide ((Sum.inr a:Key)=Sum.inr b)=decide (a=b):=by
 by_cases e:a=b
 ·subst e; simp
 ·have h:¬ (Sum.inr a:Key)=Sum.inr b:=λq=>e (Sum.inr.inj q)
  rw[decide_eq_false h,decide_eq_false e]
theorem Ht(a:Int)(b:Str):decide ((Sum.inl a:Key)=Sum.inr b)=false:=decide_eq_false (λq=>nomatch q)
theorem Hu(a:Str)(b:Int):decide ((Sum.inr a:Key)=Sum.inl b)=false:=decide_eq_false (λq=>nomatch q)
def dO(prog:Wm)(w:Wq):PySem.KeyKind prog w Key where
 is:=l_
 hash:=Hm w
 inj:=λv a b ha hb=>by
  rcases jw ha with ⟨i,t,rfl,rfl⟩ | ⟨x,t,rfl,rfl⟩
  ·rcases jw hb with ⟨j,u,rfl,e⟩ | ⟨y,u,rfl,e⟩
   ·injection e with e1 _; rw[e1]
   ·exact nomatch e
  ·rcases jw hb with ⟨j,u,rfl,e⟩ | ⟨y,u,rfl,e⟩
   ·exact nomatch e
   ·injection e with e1 _; rw[e1]
 byValue:=λk v h=>by
  rcases jw h with ⟨i,t,rfl,rfl⟩ | ⟨x,t,rfl,rfl⟩ <;> rfl
 pyHash:=λhv h=>by
  rcases jw hv with ⟨i,t,rfl,rfl⟩ | ⟨x,t,rfl,rfl⟩
  ·exact wpAny_pyHash_int h
  ·exact wpAny_pyHash_str h
 eqBool:=λhu hv h=>by
  rcases jw hu with ⟨i,t,rfl,rfl⟩ | ⟨x,t,rfl,rfl⟩
  ·rcases jw hv with ⟨j,u,rfl,rfl⟩ | ⟨y,u,rfl,rfl⟩
   ·rw[Hq] at h; exact wpAny_eqBool_int h
   ·rw[Ht] at h; exact SeqAt.EqAt.int_str i t y u _ _ _ _ h
  ·rcases jw hv with ⟨j,u,rfl,rfl⟩ | ⟨y,u,rfl,rfl⟩
   ·rw[Hu] at h; exact SeqAt.EqAt.str_int x t j u _ _ _ _ h
   ·rw[Hr] at h; exact wpAny_eqBool_str h
 «strs»:=λk x t v h=>by
  rcases jw h with ⟨i,u,rfl,e⟩ | ⟨y,u,rfl,e⟩
  ·exact nomatch e
  ·injection e with e1 _
   subst e1
   cases v <;> rfl
theorem Hv(prog:Wm)(w:Wq)(k:Key)(v:Value):(dO prog w).is k v=l_ k v:=rfl
theorem Hw(prog:Wm)(w:Wq)(i:Int)(t:Tok):(dO prog w).is (.inl i) (.int i t)=true:=Hn i t
theorem Hx(prog:Wm)(w:Wq)(x:Str)(t:Tok):(dO prog w).is (.inr x) (.str x t)=true:=Ho x t
inductive V where
 | aN | bl (b:Bool) | int (i:Int) | str (x:Str) | byt (b:Array UInt8) | flt (b:UInt64) | ref (a:Addr) | ty (n:String)
 deriving DecidableEq
def RelV:V->Value->Prop
 | .aN,u=>u=Value.none
 | .bl b,u=>u=Value.bool b
 | .int i,u=>∃ t,u=Value.int i t
 | .str x,u=>∃ t,u=Value.str x t
 | .byt b,u=>∃ t,u=Value.bytes b t
 | .flt b,u=>∃ t,u=Value.float b t
 | .ref a,u=>u=Value.ref a
 | .ty n,u=>u=Value.type n
abbrev Vals:List V->List Value->Prop:=Paired RelV
theorem Vals.length(r:Vals xs us):xs.length=us.length:=Paired.length r
theorem Vals.get:∀ {xs:List V} {us:List Value} {i:Nat} {x:V},Vals xs us->xs[i]? = some x->∃ u,us[i]? = some u/\RelV x u
 | _,_,_,_,.nil,e=>by simp at e
 | _,_,0,_,.cons r _,e=>by simp at e; subst e; exact⟨_,rfl,r⟩
 | _,_,i + 1,x,.cons _ t,e=>by
  obtain⟨u,h1,h2⟩:=Vals.get (i:=i) (x:=x) t (by simpa using e);exact⟨u,by simpa using h1,h2⟩
theorem Vals.set(r:RelV x u):∀ {xs:List V} {us:List Value} (i:Nat),Vals xs us->Vals (xs.set i x) (us.set i u)
 | _,_,_,.nil=>.nil
 | _,_,0,.cons _ t=>.cons r t
 | _,_,i + 1,.cons q t=>.cons q (Vals.set r i t)
theorem Vals.append:∀ {xs ys:List V} {us ws:List Value},Vals xs us->Vals ys ws->Vals (xs ++ ys) (us ++ ws)
 | _,_,_,_,.nil,s=>s
 | _,_,_,_,.cons r t,s=>.cons r (Vals.append t s)
theorem Vals.take:∀ {xs:List V} {us:List Value} (n:Nat),Vals xs us->Vals (xs.take n) (us.take n)
 | _,_,0,_=>.nil
 | _,_,_ + 1,.nil=>.nil
 | _,_,n + 1,.cons r t=>.cons r (Vals.take n t)
theorem Vals.drop:∀ {xs:List V} {us:List Value} (n:Nat),Vals xs us->Vals (xs.drop n) (us.drop n)
 | _,_,0,r=>r
 | _,_,_ + 1,.nil=>.nil
 | _,_,n + 1,.cons _ t=>Vals.drop n t
def fH:Option V->Option Value->Prop
 | some v,some u=>RelV v u
 | none,none=>True
 | _,_=>False
def KV{κ:Type}:List (κ×V)->List (κ×Value)->Prop:=Paired λ(p:κ×V) (q:κ×Value)=>p.1=q.1/\RelV p.2 q.2
def kV:Key->V
 | .inl i=>.int i
 | .inr x=>.str x
inductive HO where
  | lst (xs:List V)
  | tup (xs:List V)
  | dK (kvs:List (Key×V)) | dT (kvs:List (List Key×V))
  | set (S:Int->Bool) (n:Nat)
  | ins (C dx:Addr) (fs:List (Str×V))
  | own (x:Addr)
  | xd (fs:List (Str×V))
  | met (f x:Addr)
  | jx (lo hi:Int)
  | frz (o:Obj) (u:HO)
  | tbl (ps:Array Value)
  | ext (φ:Heap->Prop)
abbrev Hp:=Addr->Option HO
def upd(H:Hp)(a:Addr)(o:HO):Hp:=λb=>if b=a then some o else H b
theorem cg:upd H a o a=some o:=by unfold upd; rw[if_pos rfl]
theorem aG(h:b≠a):upd H a o b=H b:=by unfold upd; rw[if_neg h]
theorem Hy:upd (upd H a o) a u=upd H a u:=by
 funext b; unfold upd; split <;> rfl
theorem Hz{H:Hp}{a b:Addr}{o u:HO}(h:H a=some o)(h':H b=some u)(d:o≠u):a≠b:=by
 intro e; subst e; rw[h] at h'; exact d (Wx h')
theorem fP{H:Hp}{a b:Addr}{o:HO}(h:H a=some o)(h':H b=none):a≠b:=by
 intro e; subst e; rw[h] at h'; cases h'
def ir (h:Heap) (a:Addr) (ag:Array Value):Prop:=∃ n,h.get? a=some { cls:=.type "tuple",dict:=none,data:=.seq ag n,slots:=#[] }
theorem ir.tup(x:ir h a ag):IsTup h a ag:=let ⟨n,e⟩:=x; ⟨_,e,rfl,n,rfl⟩
theorem ir.new (h:Heap) (ag:Array Value):ir (h.push { cls:=.type "tuple",data:=.seq ag }) h.objs.size ag:=⟨_,Wj _ rfl⟩
theorem ir.lt(x:ir h a ag):a < h.objs.size:=let ⟨_,e⟩:=x; We e
section
variable (P:Wm) (w:Wq)
def bG(H:Hp)(h:Heap)(a:Addr):HO->Prop
 | .lst xs=>xs.length<=Wb/\∃ (ag:List Value) (n:Nat),Vals xs ag/\h.get? a=some { cls:=.type "list",data:=.seq ag.toArray n }
 | .tup xs=>xs.length<=Wb/\∃ ag:List Value,Vals xs ag/\ir h a ag.toArray
 | .dK kvs=>kvs.length<=Wb/\(a == J3)=false/\∃ vs,KV kvs vs/\h.DictOf (dO P w) a vs
 | .dT kvs=>kvs.length<=Wb/\(a == J3)=false/\∃ xs:List (List Key×Addr×Value),
   Paired (λ(p:List Key×V) (q:List Key×Addr×Value)=>p.1=q.1/\H q.2.1=some (.tup (p.1.map kV))/\RelV p.2 q.2.2) kvs xs /\
   ∃ o es ep,h.get? a=some o/\o.ExactDict/\o.data = .dict es ep/\es.toList=xs.map (entryOfKey (tupleKind (dO P w)))/\(xs.map (·.1)).Nodup
 | .set S n=>h.SetOf (intKind P w) a S n
 | .ins C dx fs=>H dx=some (.own a)/\fs.length<=1000/\dx≠a/\h.get? a=some (PySem.W.instObj C dx) /\
   ∃ mA,h.Ns1 dx mA/\(∀ f,fH (fs.lookup f) (mA f))/\PySem.Within mA (fs.map (·.1))
 | .own _=>∃ o,h.get? a=some o
 | .xd fs=>∃ mA,h.Ns1 a mA/\∀ f,fH (fs.lookup f) (mA f)
 | .jx lo hi=>∃ t u v,h.get? a=some { cls:=.type "range",data:=.fields #[.int lo t,.int hi u,.int 1 v] }
 | .frz o u=>h.get? a=some o/\bG H h a u
 | .tbl ps=>h.get? a=some { cls:=.none,data:=.fields ps }
 | .met f x=>h.get? a=some (PySem.W.methodObj (.ref f) (.ref x))
 | .ext φ=>φ h/\(∃ o,h.get? a=some o)/\∀ h1 h2:Heap,φ h1->(∀ o,h1.get? a=some o->h2.get? a=some o)->φ h2
def cM(H:Hp)(h:Heap):Prop:=∀ a o,H a=some o->bG P w H h a o
end
section
variable {P:Wm} {w:Wq} {H H':Hp} {h h':Heap} {a:Addr} {o:HO}
theorem bG.lt(x:bG P w H h a o):a < h.objs.size:=by
 cases o with
 | lst xs=>obtain⟨_,_,_,_,e⟩:=x; exact We e
 | tup xs=>obtain⟨_,_,_,p⟩:=x; exact p.lt
 | dK kvs=>obtain⟨_,_,_,_,o,_,_,e,_⟩:=x; exact We e
 | dT kvs=>obtain⟨_,_,_,_,o,_,_,e,_⟩:=x; exact We e
 | set S n=>obtain⟨o,_,_,_,e,_⟩:=x; exact We e
 | ins C dx fs=>obtain⟨_,_,_,e,_⟩:=x; exact We e
 | own y=>obtain⟨_,e⟩:=x; exact We e
 | xd fs=>obtain⟨_,⟨_,_,_,e,_⟩,_⟩:=x; exact We e
 | jx lo hi=>obtain⟨_,_,_,e⟩:=x; exact We e
 | frz ob u=>obtain⟨e,_⟩:=x; exact We e
 | tbl ps=>exact We (show h.get? a=some _ from x)
 | met f y=>exact We (show h.get? a=some _ from x)
 | ext φ=>obtain⟨_,⟨_,e⟩,_⟩:=x; exact We e
theorem Paired.rK:∀ {l₁:List α} {l₂:List β},Paired F l₁ l₂->(∀ a b,F a b->G a b)->Paired G l₁ l₂
 | _,_,.nil,_=>.nil
 | _,_,.cons r t,f=>.cons (f _ _ r) (Paired.rK t f)
theorem bG.jy(x:bG P w H h a o)(k:∀ b u,(b=a\/H b=some (.own a))->h.get? b=some u->h'.get? b=some u)
  (ho:∀ b,H b=some (.own a)->H' b=some (.own a)) (ht:∀ b xs,H b=some (.tup xs)->H' b=some (.tup xs)):bG P w H' h' a o:=by
 induction o with
 | lst xs=>obtain⟨z,ag,n,r,e⟩:=x; exact⟨z,ag,n,r,k _ _ (.inl rfl) e⟩
 | tup xs=>obtain⟨z,ag,r,n,e⟩:=x; exact⟨z,ag,r,n,k _ _ (.inl rfl) e⟩
 | dK kvs=>obtain⟨z,y,vs,r,ob,es,ep,e,c⟩:=x; exact⟨z,y,vs,r,ob,es,ep,k _ _ (.inl rfl) e,c⟩
 | dT kvs =>
  obtain⟨z,y,xs,r,ob,es,ep,e,c⟩:=x;exact⟨z,y,xs,Paired.rK r λp q z=>⟨z.1,ht _ _ z.2.1,z.2.2⟩,ob,es,ep,k _ _ (.inl rfl) e,c⟩
 | set S n=>obtain⟨ob,es,ep,t,e,c⟩:=x; exact⟨ob,es,ep,t,k _ _ (.inl rfl) e,c⟩
 | ins C dx fs =>
  obtain⟨d,z,ne,e,mA,⟨od,es,ep,e2,c⟩,r⟩:=x;exact⟨ho _ d,z,ne,k _ _ (.inl rfl) e,mA,⟨od,es,ep,k _ _ (.inr d) e2,c⟩,r⟩
 | own y=>obtain⟨ob,e⟩:=x; exact⟨ob,k _ _ (.inl rfl) e⟩
 | xd fs=>obtain⟨mA,⟨od,es,ep,e,c⟩,r⟩:=x; exact⟨mA,⟨od,es,ep,k _ _ (.inl rfl) e,c⟩,r⟩
 | jx lo hi=>obtain⟨t,u,v,e⟩:=x; exact⟨t,u,v,k _ _ (.inl rfl) e⟩
 | frz ob u ih=>obtain⟨e,q⟩:=x; exact⟨k _ _ (.inl rfl) e,ih q⟩
 | tbl ps =>
  have e:h.get? a=some { cls:=.none,data:=.fields ps }:=x;show h'.get? a=some { cls:=.none,data:=.fields ps };exact k a _ (.inl rfl) e
 | met f y =>
  have e:h.get? a=some (PySem.W.methodObj (.ref f) (.ref y)):=x;show h'.get? a=some (PySem.W.methodObj (.ref f) (.ref y));exact k a _ (.inl rfl) e
 | ext φ=>obtain⟨p,⟨o,e⟩,st⟩:=x; exact⟨st _ _ p λo q=>k _ _ (.inl rfl) q,⟨o,k _ _ (.inl rfl) e⟩,st⟩
theorem cM.lt(x:cM P w H h)(e:H a=some o):a < h.objs.size:=(x a o e).lt
theorem cM.fresh(x:cM P w H h)(e:h.objs.size<=a):H a=none:=by
 cases q:H a with
 | none=>rfl
 | some u=>exact absurd (Wv (x.lt q) e) (Qf _)
theorem cM.kept(x:cM P w H h)(k:∀ b u,h.get? b=some u->h'.get? b=some u):cM P w H h':=λa o e =>
 (x a o e).jy (λb u _ q=>k b u q) (λ_ q=>q) λ_ _ q=>q
theorem cM.laid(x:cM P w H h)(k:∀ b u,h.get? b=some u->h'.get? b=some u)(hp:h.objs.size<=a)(new:bG P w (upd H a o) h' a o):cM P w (upd H a o) h':=λb u e=>by
 have hn:=x.fresh hp;by_cases hb:b=a
 ·subst hb; rw[cg] at e; cases e; exact new
 ·rw[aG hb] at e;exact(x b u e).jy (λc v _ q=>k c v q) (λc q=>by rw[aG (fP q hn)]; exact q) λc xs q=>by rw[aG (fP q hn)]; exact q
end
def Rd(H:Hp)(a:Addr)(u:HO):Prop:=H a=some u\/∃ o,H a=some (.frz o u)
theorem Rd.ok(r:Rd H a u)(x:cM P w H h):bG P w H h a u:=by
 rcases r with r | ⟨o,r⟩
 ·exact x a u r
 ·obtain⟨_,q⟩:=x a _ r;exact q
def pj:Option HO->Prop
 | some (.lst _)=>True
 | some (.dK _)=>True
 | some (.dT _)=>True
 | some (.set _ _)=>True
 | some (.ins _ _ _)=>True
 | some (.ext _)=>True
 | _=>False
section
variable {P:Wm} {w:Wq} {H:Hp} {h h':Heap} {x e:Addr} {o':HO}
theorem cM.write(ok:cM P w H h)(mu:pj (H x))(he:e=x\/H e=some (.own x))(k:∀ b u,b≠e->h.get? b=some u->h'.get? b=some u)(nM:∃ u,h'.get? e=some u)
  (new:bG P w (upd H x o') h' x o'):cM P w (upd H x o') h':=λb u q=>by
 have pk:∀ c y,H c=some (.own y)->c≠x:=λc y r z=>by subst z; rw[r] at mu; exact mu
 have HA:∀ c xs,H c=some (.tup xs)->c≠x:=λc xs r z=>by subst z; rw[r] at mu; exact mu
 by_cases hb:b=x
 ·subst hb; rw[cg] at q; cases q; exact new
 ·rw[aG hb] at q;by_cases hbe:b=e
  ·have q':H b=some (.own x):=by
    rcases he with z | z
    ·exact absurd (hbe.trans z) hb
    ·rw[hbe]; exact z
   rw[q] at q'; cases q'
   obtain⟨v,hv⟩:=nM;exact⟨v,by rw[hbe]; exact hv⟩
  ·refine(ok b u q).jy (λc v hc r=>k c v ?_ r) (λc r=>by rw[aG (pk c b r)]; exact r) λc xs r=>by rw[aG (HA c xs r)]; exact r
   rcases hc with rfl | hc
   ·exact hbe
   ·rintro rfl;rcases he with z | z
    ·exact pk c b hc z
    ·rw[hc] at z; cases z; exact hb rfl
end
structure Un(fs ex:List Addr)(H H':Hp)(h h':Heap):Prop where
 keep:∀ b o,h.get? b=some o->H b=none->b ∉ fs->b ∉ ex->h'.get? b=some o
 slot:∀ b o,h.get? b=some o->H b=none->b ∈ fs->b ∉ ex->∃ sl,h'.get? b=some { o with slots:=sl }
 free:∀ b o,h.get? b=some o->H b=none->b ∉ ex->H' b=none
 there:∀ b o,h.get? b=some o->b ∉ ex->∃ o',h'.get? b=some o'
 iu:∀ b xs,H b=some (.tup xs)->H' b=some (.tup xs)
 gQ:∀ b o u,H b=some (.frz o u)->H' b=some (.frz o u)
 iw:∀ b ps,H b=some (.tbl ps)->∃ more,H' b=some (.tbl (ps ++ more))
section
variable {fs HB ex Vm:List Addr} {H H1 H2:Hp} {h h1 h2 h':Heap} {a x e:Addr} {o:HO}
theorem Un.any(u:Un fs ex H H1 h h1)(q:h.get? b=some ob)(n:H b=none)(hx:b ∉ ex):∃ sl,h1.get? b=some { ob with slots:=sl }:=by
 by_cases hb:b ∈ fs
 ·exact u.slot b ob q n hb hx
 ·exact⟨ob.slots,u.keep b ob q n hb hx⟩
theorem Un.kept(k:∀ b u,h.get? b=some u->h'.get? b=some u):Un fs ex H H h h' :=
 ⟨λb ob q _ _ _=>k b ob q,λb ob q _ _ _=>⟨ob.slots,k b ob q⟩,λ_ _ _ n _=>n,λb ob q _=>⟨ob,k b ob q⟩,λ_ _ q=>q,λ_ _ _ q=>q,λ_ ps q=>⟨#[],by rw[q]; simp⟩⟩
theorem Un.refl:Un fs ex H H h h:=Un.kept λ_ _ q=>q
theorem Un.laid(k:∀ b u,h.get? b=some u->h'.get? b=some u)(hp:h.objs.size<=a)(hn:H a=none):Un fs ex H (upd H a o) h h' where
 keep:=λb u q _ _ _=>k b u q
 slot:=λb u q _ _ _=>⟨u.slots,k b u q⟩
 free:=λb u q n _=>by rw[aG (Wi (Wv (We q) hp))]; exact n
 there:=λb u q _=>⟨u,k b u q⟩
 iu:=λb xs q=>by rw[aG (fP q hn)]; exact q
 gQ:=λb u xs q=>by rw[aG (fP q hn)]; exact q
 iw:=λb ps q=>⟨#[],by rw[aG (fP q hn),q]; simp⟩
theorem Un.write(mu:pj (H x))(he:e=x\/H e=some (.own x))(k:∀ b u,b≠e->h.get? b=some u->h'.get? b=some u)(nM:∃ u,h'.get? e=some u):Un fs ex H (upd H x o) h h':=by
 have hx:∀ b,H b=none->b≠x:=λb n z=>by subst z; rw[n] at mu; exact mu
 have hb:∀ b,H b=none->b≠e:=λb n z=>by
  subst z;rcases he with r | r
  ·exact hx b n r
  ·rw[n] at r; cases r
 have hm:∀ b u,H b=some u->¬ pj (some u)->b≠x:=λb u q nm z=>by subst z; rw[q] at mu; exact nm mu
 refine⟨λb u q n _ _=>k b u (hb b n) q,λb u q n _ _=>⟨u.slots,k b u (hb b n) q⟩,λb u q n _=>by rw[aG (hx b n)]; exact n,λb u q _=>?_,
  λb xs q=>by rw[aG (hm b _ q λz=>z)]; exact q,λb u xs q=>by rw[aG (hm b _ q λz=>z)]; exact q,λb ps q=>⟨#[],by rw[aG (hm b _ q λz=>z),q]; simp⟩⟩
 by_cases hbe:b=e
 ·subst hbe; exact nM
 ·exact⟨u,k b u hbe q⟩
end
def rL(h:Heap)(H:Hp):List Addr:=(WJ h.objs.size).filter λa=>(H a).isSome
def j9(h:Heap)(H:Hp):Heap:=PySem.W.hideAll h (rL h H)
theorem HC(h:Heap)(H:Hp):(j9 h H).objs.size=h.objs.size:=PySem.W.hideAll_size _ _
theorem HD(e:h.get? b=some o)(n:H b=none):(j9 h H).get? b=some o :=
 PySem.W.hideAll_get _ e λhm=>by
  have q:(H b).isSome=true:=(List.mem_filter.mp hm).2;rw[n] at q; simp at q
theorem HE(e:(j9 h H).get? b=some o):h.get? b=some o/\H b=none:=by
 have e':h.get? b=some o:=PySem.W.of_hideAll (rL h H) e;refine⟨e',?_⟩
 cases q:H b with
 | none=>rfl
 | some x =>
  have hm:b ∈ rL h H:=List.mem_filter.mpr ⟨List.mem_range.mpr (We e'),by simp[q]⟩;have z:(j9 h H).get? b=none:=PySem.W.hideAll_none (rL h H) hm;rw[z] at e; cases e
def HF(g h:Heap)(L:Addr):List (Addr×Obj):=(WJ h.objs.size).filterMap λa=>if a=L\/(g.get? a).isSome=true then none else(h.get? a).map λo=>(a,o)
def rest(g h:Heap)(L d:Addr):List (Addr×Obj):=(HF g h L).filter λp=>decide (p.1≠d)
structure Mod(K:W1)(mg:Str->Option Value)(base:Heap):Prop where
 ma:K.In base
 glob:base.Ns Ws mg
 blt:∃ mb,base.Ns builtinsNs mb/\∀ x:Str,x≠"__name__"->mb x=Qj x
 nolimit:base.NoLimit
structure Cx where
 prog:Wm
 w:Wq
 K:W1
 mg:Str->Option Value
 base:Heap
 A:Wp
 N:List Str
 s₀:W2
 H₀:Hp
 env:Env
 outer:List Env
 stack:List Env
 ex:List Addr
 fn:Str->Bool
 calm:Bool
 pn:List (Addr×Obj)
 xe:Value->W2->Prop
def eM(l:List Env):List Addr:=l.filterMap (·.frame)
abbrev Cx.fs(X:Cx):List Addr:=eM X.outer
def rM(sc:Scope)(x:Str):Prop:=sc.names.lookup x=some .local\/sc.names.lookup x=some .cell\/sc.names.lookup x=some .free
def Loc(sc:Scope)(x:Str):Prop:=sc.names.lookup x=some .local\/sc.names.lookup x=some .cell
def Look(env:Env)(h:Heap)(m:Str->Option Value)(x:Str)(u:Value):Prop :=
 (env.kindOf x=some .local/\m x=some u)\/((env.kindOf x=some .cell\/env.kindOf x=some .free)/\∃ c,env.cells.lookup x=some c/\h.IsCell c (some u))
structure Cx.Ok(X:Cx):Prop where
 mod:Mod X.K X.mg X.base
 kind:X.env.scope.kind = .function
 glob:X.env.globals=Ws
 blt:X.env.builtins=builtinsNs
 above:X.s₀.heap.objs.size<=X.env.locals
 inj:∀ x y c,X.env.cells.lookup x=some c->X.env.cells.lookup y=some c->x=y
 has:∀ x,(X.env.kindOf x=some .cell\/X.env.kindOf x=some .free)->∃ c,X.env.cells.lookup x=some c
 kM:∀ x c,X.fn x=true->X.env.cells.lookup x=some c->X.s₀.heap.objs.size<=c
 hd:X.calm=true->X.A.handled=none
 frames:X.A.frames=some X.stack
 md:X.stack=X.outer\/(X.stack=X.env :: X.outer/\X.env.frame=some X.env.locals)
 me:∀ b ∈ X.ex,b≠X.env.locals/\∀ x c,X.env.cells.lookup x=some c->c≠b
 bs:∀ b o,X.base.get? b=some o->X.s₀.heap.get? b=some o/\X.H₀ b=none
 gR:X.base.objs.size<=X.s₀.heap.objs.size
 kN:∀ b o,X.base.get? b=some o->b ∉ X.ex
 kO:∀ b ∈ X.ex,b ∉ X.fs
 fQ:X.s₀.heap.FunFrames X.base X.outer
 iT:∀ b ∈ X.fs,X.H₀ b=none
structure Inv(X:Cx)(pins:List (Addr×Obj))(σ:List (Option V))(H:Hp)(s:W2):Prop where
 ok:X.Ok
 os:s.os=X.s₀.os
 bare:AllBare s.gens
 base:Un X.fs X.ex X.H₀ H X.s₀.heap s.heap
 loc:∃ m,s.heap.Ns X.env.locals m/\∀ (i:Nat) (x:Str) (v:V),X.N[i]? = some x->σ[i]? = some (some v)->rM X.env.scope x->∃ u,RelV v u/\Look X.env s.heap m x u
 cell:∀ x c,X.env.cells.lookup x=some c->∃ v,s.heap.IsCell c v
 free:H X.env.locals=none
 dY:∀ x c,X.env.cells.lookup x=some c->H c=none
 pin:∀ p ∈ X.pn ++ pins,s.heap.get? p.1=some p.2/\H p.1=none/\p.1≠X.env.locals/\p.1 ∉ X.fs/\∀ v,p.2.data≠.cell v
 aw:cM X.prog X.w H s.heap
 len:σ.length=X.N.length
section
variable {X:Cx} {pins:List (Addr×Obj)} {σ:List (Option V)} {H H':Hp} {s:W2} {h':Heap}
theorem Cx.Ok.HG(ok:X.Ok)(e:X.base.get? b=some o):b ∉ X.fs:=λhb=>by
 have:=(ok.fQ.mem hb).1;rw[e] at this; cases this
theorem Inv.bs(I:Inv X pins σ H s):∀ b o,X.base.get? b=some o->s.heap.get? b=some o/\H b=none:=λb o e =>
 ⟨I.base.keep b o (I.ok.bs b o e).1 (I.ok.bs b o e).2 (I.ok.HG e) (I.ok.kN b o e),I.base.free b o (I.ok.bs b o e).1 (I.ok.bs b o e).2 (I.ok.kN b o e)⟩
theorem Inv.bk(I:Inv X pins σ H s):∀ b o,X.base.get? b=some o->s.heap.get? b=some o:=λb o e=>(I.bs b o e).1
theorem Inv.mod(I:Inv X pins σ H s):Mod X.K X.mg X.base:=I.ok.mod
theorem Inv.cW(I:Inv X pins σ H s):X.K.In s.heap:=I.ok.mod.ma.keeps I.bk
theorem Inv.fr(I:Inv X pins σ H s):∃ m,Fr X.base X.env.locals s.heap m :=
 let ⟨m,hn,_⟩:=I.loc
 ⟨m,hn,I.bk,WK I.ok.gR I.ok.above⟩
theorem Inv.lt(I:Inv X pins σ H s):X.env.locals < s.heap.objs.size:=let ⟨_,hn,_⟩:=I.loc; hn.lt
theorem Inv.sz(I:Inv X pins σ H s):X.s₀.heap.objs.size<=s.heap.objs.size:=WK I.ok.above (QU I.lt)
theorem Inv.HH(I:Inv X pins σ H s)(h:s.heap.objs.size<=a):a ∉ X.fs:=λhb=>by
 obtain⟨_,o,ho,_⟩:=I.ok.fQ.mem hb;exact absurd (Wv (We ho) (WK I.sz h)) (Qf _)
theorem Inv.iU(I:Inv X pins σ H s):∀ x c,X.env.cells.lookup x=some c->c≠X.env.locals:=λx c e z=>by
 obtain⟨v,o,ho,hd⟩:=I.cell x c e;obtain⟨m,⟨o',es,ep,ho',hd',_⟩,_⟩:=I.loc;rw[z,ho'] at ho; cases ho; rw[hd'] at hd; cases hd
theorem Inv.fQ(I:Inv X pins σ H s):s.heap.FunFrames X.base X.outer:=by
 have all:∀ (l:List Env),(∀ b ∈ eM l,b ∈ X.fs)->X.s₀.heap.FunFrames X.base l->s.heap.FunFrames X.base l:=by
  intro l;induction l with
  | nil=>intro _ _; trivial
  | cons env r ih =>
   intro hs hl;obtain⟨hk,⟨L,o,hf,hn,ho,hd⟩,hr⟩:=hl;have hL:L ∈ X.fs:=hs L (by unfold eM; rw[List.filterMap_cons,hf]; exact Wf);obtain⟨sl,e⟩:=I.base.slot L o ho (I.ok.iT L hL) hL λz=>I.ok.kO L z hL
   exact⟨hk,⟨L,_,hf,hn,e,hd⟩,ih (λb hb=>hs b (by unfold eM; rw[List.filterMap_cons,hf]; exact W9 _ hb)) hr⟩
 exact all X.outer (λ_ hb=>hb) I.ok.fQ
theorem Inv.stack(I:Inv X pins σ H s):s.heap.FunFrames X.base X.stack:=by
 rcases I.ok.md with e | ⟨e,hf⟩
 ·rw[e]; exact I.fQ
 ·rw[e];obtain⟨m,hn,_⟩:=I.loc;refine .cons (by rw[I.ok.kind]; decide) hf hn ?_ I.fQ;exact Jz (WK I.ok.gR I.ok.above)
theorem Inv.rN(I:Inv X pins σ H s):∀ b ∈ eM X.stack,b ∈ X.env.locals :: X.fs:=λb hb=>by
 rcases I.ok.md with e | ⟨e,hf⟩
 ·rw[e] at hb; exact W9 _ hb
 ·rw[e] at hb;unfold eM at hb;rw[List.filterMap_cons,hf] at hb;exact hb
theorem Inv.rO(I:Inv X pins σ H s):∀ b ∈ eM X.stack,H b=none:=λb hb=>by
 rcases Wl.mp (I.rN b hb) with e | hb
 ·rw[e]; exact I.free
 ·obtain⟨_,o,ho,_⟩:=I.ok.fQ.mem hb;exact I.base.free b o ho (I.ok.iT b hb) λz=>I.ok.kO b z hb
theorem Inv.step{g':Array GenState}{t':Nat}{d':Drawn}{ch:List Addr}(I:Inv X pins σ H s)
  (jz:∀ b ∈ ch,(b ∈ X.ex\/X.s₀.heap.objs.size<=b)/\b≠X.env.locals/\(∀ x c,X.env.cells.lookup x=some c->c≠b)/\∀ p ∈ X.pn ++ pins,p.1≠b)
  (keep:∀ b o,b≠X.env.locals->b ∉ X.fs->b ∉ ch->s.heap.get? b=some o->H b=none->h'.get? b=some o)
  (slot:∀ b o,b≠X.env.locals->b ∈ X.fs->b ∉ ch->s.heap.get? b=some o->H b=none->∃ sl,h'.get? b=some { o with slots:=sl }) (free:∀ b o,b ∉ ch->s.heap.get? b=some o->H b=none->H' b=none)
  (there:∀ b o,b ∉ ch->s.heap.get? b=some o->∃ o',h'.get? b=some o')
  (iu:∀ b xs,H b=some (.tup xs)->H' b=some (.tup xs)) (gQ:∀ b o u,H b=some (.frz o u)->H' b=some (.frz o u)) (iw:∀ b ps,H b=some (.tbl ps)->∃ more,H' b=some (.tbl (ps ++ more)))
  (ns:∀ m,s.heap.Ns X.env.locals m->h'.Ns X.env.locals m) (aw:cM X.prog X.w H' h') (hg:AllBare g') :
  Inv X pins σ H' { s with heap:=h',gens:=g',drawn:=d',toks:=t' }:=by
 have mf:∀ b o,X.s₀.heap.get? b=some o->b≠X.env.locals:=λb o e=>Wi (Wv (We e) I.ok.above)
 have rP:∀ b o,X.s₀.heap.get? b=some o->b ∉ X.ex->b ∉ ch:=λb o e hx hb=>by
  rcases (jz b hb).1 with z | z
  ·exact hx z
  ·exact absurd (Wv (We e) z) (Qf _)
 have cellK:∀ x c,X.env.cells.lookup x=some c->∀ v,s.heap.IsCell c v->h'.IsCell c v:=λx c e v ⟨o,ho,hd⟩=>by
  have pq:c ∉ ch:=λz=>(jz c z).2.2.1 x c e rfl
  by_cases hc:c ∈ X.fs
  ·obtain⟨sl,q⟩:=slot c o (I.iU x c e) hc pq ho (I.dY x c e);exact⟨_,q,hd⟩
  ·exact⟨o,keep c o (I.iU x c e) hc pq ho (I.dY x c e),hd⟩
 refine⟨I.ok,I.os,hg,⟨λb o e n hb hx=>?_,λb o e n hb hx=>?_,λb o e n hx=>?_,λb o e hx=>?_,λb xs e=>iu b xs (I.base.iu b xs e),λb o xs e=>gQ b o xs (I.base.gQ b o xs e),λb ps e=>?_⟩,?_,λx c e=>?_,?_,λx c e=>?_,λp hp=>?_,aw,I.len⟩
 ·exact keep b o (mf b o e) hb (rP b o e hx) (I.base.keep b o e n hb hx) (I.base.free b o e n hx)
 ·obtain⟨sl,e1⟩:=I.base.slot b o e n hb hx;obtain⟨sl',e2⟩:=slot b _ (mf b o e) hb (rP b o e hx) e1 (I.base.free b o e n hx);exact⟨sl',e2⟩
 ·obtain⟨o',e1⟩:=I.base.there b o e hx;exact free b o' (rP b o e hx) e1 (I.base.free b o e n hx)
 ·obtain⟨o',e1⟩:=I.base.there b o e hx;exact there b o' (rP b o e hx) e1
 ·obtain⟨m1,e1⟩:=I.base.iw b ps e;obtain⟨m2,e2⟩:=iw b _ e1;exact⟨m1 ++ m2,by rw[e2,Array.append_assoc]⟩
 ·obtain⟨m,hn,hl⟩:=I.loc;refine⟨m,ns m hn,λi x v e1 e2 e3=>?_⟩;obtain⟨u,r,l⟩:=hl i x v e1 e2 e3;refine⟨u,r,?_⟩;rcases l with l | ⟨k,c,e,z⟩
  ·exact .inl l
  ·exact .inr ⟨k,c,e,cellK x c e _ z⟩
 ·obtain⟨v,z⟩:=I.cell x c e;exact⟨v,cellK x c e v z⟩
 ·obtain⟨m,⟨o,_,_,ho,_⟩,_⟩:=I.loc;exact free _ o (λz=>(jz _ z).2.1 rfl) ho I.free
 ·obtain⟨v,o,ho,hd⟩:=I.cell x c e;exact free c o (λz=>(jz c z).2.2.1 x c e rfl) ho (I.dY x c e)
 ·obtain⟨e,n,ne,nf,d⟩:=I.pin p hp;have pq:p.1 ∉ ch:=λz=>(jz p.1 z).2.2.2 p hp rfl
  exact⟨keep p.1 p.2 ne nf pq e n,free p.1 p.2 pq e n,ne,nf,d⟩
theorem Inv.un{t':Nat}(I:Inv X pins σ H s)(u:Un X.fs [] H H' s.heap h')(aw:cM X.prog X.w H' h'):Inv X pins σ H' { s with heap:=h',toks:=t' }:=by
 obtain⟨m,⟨o,es,ep,ho,r⟩,_⟩:=id I.loc;obtain⟨sl,hL⟩:=u.any ho I.free (by simp);exact I.step (g':=s.gens) (d':=s.drawn) (ch:=[]) (λ_ z=>nomatch z) (λb o _ hb _ e n=>u.keep b o e n hb (by simp)) (λb o _ hb _ e n=>u.slot b o e n hb (by simp)) (λb o _ e n=>u.free b o e n (by simp)) (λb o _ e=>u.there b o e (by simp)) u.iu u.gQ u.iw (λm' hm=>by
  obtain⟨o',es',ep',ho',r'⟩:=hm;rw[ho] at ho'; cases ho'
  exact⟨_,es',ep',hL,r'⟩) aw I.bare
theorem Inv.call{g':Array GenState}{t':Nat}{d':Drawn}{ch:List Addr}(I:Inv X pins σ H s)(u:Un (eM X.stack) ch H H' s.heap h')(aw:cM X.prog X.w H' h')(hg:AllBare g')
  (jz:∀ b ∈ ch,(b ∈ X.ex\/X.s₀.heap.objs.size<=b)/\b≠X.env.locals/\(∀ x c,X.env.cells.lookup x=some c->c≠b)/\∀ p ∈ X.pn ++ pins,p.1≠b) :
  Inv X pins σ H' { s with heap:=h',gens:=g',drawn:=d',toks:=t' }:=by
 obtain⟨m,⟨o,es,ep,ho,r⟩,_⟩:=id I.loc;obtain⟨sl,hL⟩:=u.any ho I.free λz=>(jz _ z).2.1 rfl
 exact I.step (ch:=ch) jz (λb o hL hb hc e n=>u.keep b o e n (λz=>(Wl.mp (I.rN b z)).elim hL hb) hc) (λb o _ _ hc e n=>u.any e n hc) (λb o hc e n=>u.free b o e n hc) (λb o hc e=>u.there b o e hc) u.iu u.gQ u.iw (λm' hm=>by
  obtain⟨o',es',ep',ho',r'⟩:=hm;rw[ho] at ho'; cases ho'
  exact⟨_,es',ep',hL,r'⟩) aw hg
theorem Inv.turned{t':Nat}{it:Addr}(I:Inv X pins σ H s)(k:∀ b o,b≠it->s.heap.get? b=some o->h'.get? b=some o)(hn:H it=none)(hL:it≠X.env.locals)
  (h1:it ∈ X.ex\/X.s₀.heap.objs.size<=it) (h2:∀ x c,X.env.cells.lookup x=some c->c≠it) (h3:∀ p ∈ X.pn ++ pins,p.1≠it):Inv X pins σ H { s with heap:=h',toks:=t' }:=by
 have kP:∀ b u,H b=some u->b≠it:=λb u e z=>by rw[z,hn] at e; cases e
 refine I.step (g':=s.gens) (d':=s.drawn) (ch:=[it]) (λb hb=>?_) (λb o _ _ hc e _=>k b o (λz=>hc (by simp[z])) e) (λb o _ _ hc e _=>⟨o.slots,k b o (λz=>hc (by simp[z])) e⟩) (λ_ _ _ _ n=>n)
  (λb o hc e=>⟨o,k b o (λz=>hc (by simp[z])) e⟩) (λ_ _ e=>e) (λ_ _ _ e=>e) (λb ps e=>⟨#[],by rw[e]; simp⟩) (λm hm=>?_) (λb u e=>?_) I.bare
 ·have e:b=it:=by simpa using hb
  subst e;exact⟨h1,hL,h2,h3⟩
 ·obtain⟨o,es,ep,ho,r⟩:=hm;exact⟨o,es,ep,k _ o (Ne.symm hL) ho,r⟩
 ·refine(I.aw b u e).jy (λc v hc q=>k c v ?_ q) (λ_ q=>q) λ_ _ q=>q
  rcases hc with z | z
  ·rw[z]; exact kP b u e
  ·exact kP c _ z
theorem Inv.tok(I:Inv X pins σ H s)(t:Nat):Inv X pins σ H { s with toks:=t }:=I.un (h':=s.heap) (t':=t) Un.refl I.aw
theorem Inv.kept(I:Inv X pins σ H s)(k:∀ b u,s.heap.get? b=some u->h'.get? b=some u):Inv X pins σ H { s with heap:=h',toks:=t' }:=I.un (Un.kept k) (I.aw.kept k)
theorem Inv.laid(I:Inv X pins σ H s)(k:∀ b u,s.heap.get? b=some u->h'.get? b=some u)(hp:s.heap.objs.size<=a)(new:bG X.prog X.w (upd H a o) h' a o) :
  Inv X pins σ (upd H a o) { s with heap:=h',toks:=t' }:=I.un (Un.laid k hp (I.aw.fresh hp)) (I.aw.laid k hp new)
theorem Inv.write(I:Inv X pins σ H s)(mu:pj (H x))(he:e=x\/H e=some (.own x))(k:∀ b u,b≠e->s.heap.get? b=some u->h'.get? b=some u)(nM:∃ u,h'.get? e=some u)
  (new:bG X.prog X.w (upd H x o) h' x o):Inv X pins σ (upd H x o) { s with heap:=h',toks:=t' }:=I.un (Un.write mu he k nM) (I.aw.write mu he k nM new)
theorem Inv.weak(I:Inv X pins σ H s)(hl:σ'.length=σ.length)(w:∀ (i:Nat) v,σ'[i]? = some (some v)->σ[i]? = some (some v)):Inv X pins σ' H s :=
 ⟨I.ok,I.os,I.bare,I.base,let ⟨m,hn,iV⟩:=I.loc; ⟨m,hn,λi x v e1 e2 e3=>iV i x v e1 (w i v e2) e3⟩,I.cell,I.free,I.dY,I.pin,I.aw,hl.trans I.len⟩
theorem Inv.AJ(I:Inv X pins σ H s)(h:∀ p ∈ pins',s.heap.get? p.1=some p.2/\H p.1=none/\p.1≠X.env.locals/\p.1 ∉ X.fs/\∀ v,p.2.data≠.cell v):Inv X pins' σ H s :=
 ⟨I.ok,I.os,I.bare,I.base,I.loc,I.cell,I.free,I.dY,λp hp=>(QX.mp hp).elim (λz=>I.pin p (J4 _ z)) (h p),I.aw,I.len⟩
theorem uJ{N:List Str}(hN:N.Nodup){i j:Nat}{x:Str}(a:N[i]? = some x)(b:N[j]? = some x):i=j:=by
 obtain⟨h1,e1⟩:=W6.mp a;obtain⟨h2,e2⟩:=W6.mp b;exact(List.getElem_inj hN).mp (e1.trans e2.symm)
theorem rQ{M:Model}{A:Wp}{E:Value->W2->Prop}{i:Nat}{x:Str}{v:V}{u:Value}{Q:Unit->W2->Prop}(I:Inv X pins σ H s)(hN:X.N.Nodup)(hi:X.N[i]? = some x)(hx:Loc X.env.scope x)(r:RelV v u)
  (h:∀ s',Inv X pins (σ.set i (some v)) H s'->(∃ a,Je a s.heap s'.heap/\(a=X.env.locals\/X.env.cells.lookup x=some a))->Q () s') (hf:X.fn x=true\/X.env.scope.names.lookup x=some .local:=by first | exact .inl rfl | exact .inr rfl | assumption):W8 M A (storeName X.env x u) Q E s:=by
 obtain⟨m,hn,hl⟩:=id I.loc;have HI:(X.env.scope.kind == .class || (X.env.scope.kind == .module && X.env.locals != X.env.globals))=false:=by rw[I.ok.kind]; rfl
 have pw:i < σ.length:=by rw[I.len]; exact(W6.mp hi).1
 have iU:=I.iU;have tracked:∀ {a:Addr} {h':Heap},(∃ o,s.heap.get? a=some o/\H a=none)->Je a s.heap h'->cM X.prog X.w H h':=λ{a h'} ha hs b ob e=>by
  obtain⟨_,_,mh⟩:=ha;refine(I.aw b ob e).jy (λc w' hc q=>(hs.2 c ?_).trans q) (λ_ q=>q) λ_ _ q=>q
  rintro rfl;rcases hc with rfl | hc
  ·rw[mh] at e; cases e
  ·rw[mh] at hc; cases hc
 rcases hx with hk | hk
 ·refine wpAny_storeName_local hk hn (λh' jA hs=>?_) HI;obtain⟨oL,_,_,hoL,_⟩:=id hn;refine h _ ⟨I.ok,I.os,I.bare,⟨λb o e n hb hx=>?_,λb o e n hb hx=>?_,I.base.free,λb o e hx=>?_,I.base.iu,I.base.gQ,I.base.iw⟩,⟨_,jA,λj y v' e1 e2 e3=>?_⟩,λy c e=>?_,I.free,I.dY,λp hp=>?_,tracked ⟨oL,hoL,I.free⟩ hs,by simpa using I.len⟩ ⟨_,hs,.inl rfl⟩
  ·exact(hs.2 b (Wi (Wv (We e) I.ok.above))).trans (I.base.keep b o e n hb hx)
  ·obtain⟨sl,e1⟩:=I.base.slot b o e n hb hx;exact⟨sl,(hs.2 b (Wi (Wv (We e) I.ok.above))).trans e1⟩
  ·obtain⟨o',e1⟩:=I.base.there b o e hx;exact⟨o',(hs.2 b (Wi (Wv (We e) I.ok.above))).trans e1⟩
  ·by_cases hj:j=i
   ·subst hj;rw[hi] at e1; cases e1
    rw[Wc pw] at e2
    cases e2;exact⟨u,r,.inl ⟨hk,by simp⟩⟩
   ·rw[W3 (Ne.symm hj)] at e2;obtain⟨u',r',q⟩:=hl j y v' e1 e2 e3;refine⟨u',r',?_⟩;rcases q with ⟨k,e⟩ | ⟨k,c,e,z⟩
    ·refine .inl ⟨k,?_⟩;have:y≠x:=λe=>hj (uJ hN e1 (e ▸ hi))
     simp[this,e]
    ·exact .inr ⟨k,c,e,z.sameBut hs (iU y c e)⟩
  ·obtain⟨w',z⟩:=I.cell y c e;exact⟨w',z.sameBut hs (iU y c e)⟩
  ·obtain⟨e,n,ne,nf,d⟩:=I.pin p hp;exact⟨(hs.2 p.1 ne).trans e,n,ne,nf,d⟩
 ·have iW:X.fn x=true:=by
   rcases hf with z | z
   ·exact z
   ·rw[z] at hk; cases hk
  obtain⟨c,hc⟩:=I.ok.has x (.inl hk);obtain⟨w',z⟩:=I.cell x c hc;refine wpAny_storeName_cell I.ok.kind hk hc z (λh' gA hs=>?_);obtain⟨oc,hoc,hocd⟩:=id z;refine h { s with heap:=h' } ⟨I.ok,I.os,I.bare,⟨λb o e n hb hx=>?_,λb o e n hb hx=>?_,I.base.free,λb o e hx=>?_,I.base.iu,I.base.gQ,I.base.iw⟩,⟨m,hn.sameBut hs (Ne.symm (iU x c hc)),λj y v' e1 e2 e3=>?_⟩,λy c' e=>?_,I.free,I.dY,λp hp=>?_,tracked ⟨oc,hoc,I.dY x c hc⟩ hs,by simpa using I.len⟩ ⟨c,hs,.inr hc⟩
  ·exact(hs.2 b (Wi (Wv (We e) (I.ok.kM x c iW hc)))).trans (I.base.keep b o e n hb hx)
  ·obtain⟨sl,e1⟩:=I.base.slot b o e n hb hx;exact⟨sl,(hs.2 b (Wi (Wv (We e) (I.ok.kM x c iW hc)))).trans e1⟩
  ·obtain⟨o',e1⟩:=I.base.there b o e hx;exact⟨o',(hs.2 b (Wi (Wv (We e) (I.ok.kM x c iW hc)))).trans e1⟩
  ·by_cases hj:j=i
   ·subst hj;rw[hi] at e1; cases e1
    rw[Wc pw] at e2
    cases e2;exact⟨u,r,.inr ⟨.inl hk,c,hc,gA⟩⟩
   ·rw[W3 (Ne.symm hj)] at e2;obtain⟨u',r',q⟩:=hl j y v' e1 e2 e3;refine⟨u',r',?_⟩;rcases q with q | ⟨k,c',e,z'⟩
    ·exact .inl q
    ·refine .inr ⟨k,c',e,z'.sameBut hs ?_⟩;rintro rfl;exact hj (uJ hN e1 (I.ok.inj _ _ _ e hc ▸ hi))
  ·by_cases hcc:c'=c
   ·subst hcc; exact⟨_,gA⟩
   ·obtain⟨w2,z2⟩:=I.cell y c' e;exact⟨w2,z2.sameBut hs hcc⟩
  ·obtain⟨e,n,ne,nf,d⟩:=I.pin p hp;refine⟨(hs.2 p.1 ?_).trans e,n,ne,nf,d⟩;intro q;rw[q,hoc] at e;have q':oc=p.2:=Wx e;exact d w' (by rw[<- q']; exact hocd)
theorem AK(I:Inv X pins σ H s)(hN:X.N.Nodup)(hi:X.N[i]? = some x)(hx:Loc X.env.scope x)(r:RelV v u)
  (h:∀ s',Inv X pins (σ.set i (some v)) H s'->Q () s') (hf:X.fn x=true\/X.env.scope.names.lookup x=some .local:=by first | exact .inl rfl | exact .inr rfl | assumption):W8 M A (storeName X.env x u) Q E s :=
 rQ I hN hi hx r (λs' I' _=>h s' I') hf
theorem Inv.AL(I:Inv X pins σ H s)(ho:s'.os=s.os)(u:Un (eM X.stack) ch H H' s.heap s'.heap)(aw:cM X.prog X.w H' s'.heap)(hg:AllBare s'.gens)
  (jz:∀ b ∈ ch,(b ∈ X.ex\/X.s₀.heap.objs.size<=b)/\b≠X.env.locals/\(∀ x c,X.env.cells.lookup x=some c->c≠b)/\∀ p ∈ X.pn ++ pins,p.1≠b):Inv X pins σ H' s':=by
 obtain⟨h',g',d',t',o'⟩:=s';have e:o'=s.os:=ho;subst e;exact I.call (g':=g') (t':=t') (d':=d') u aw hg jz
end
abbrev XK:=Value->Option Addr->Hp->Prop
abbrev St:=List (Option V)
abbrev VK:=V->Hp->Prop
abbrev TE:=St->Hp->VK->Prop
abbrev TT:=St->Hp->(Bool->Hp->Prop)->Prop
abbrev TA:=St->Hp->(List V->Hp->Prop)->Prop
structure Ends where
 nx:St->Hp->Prop
 rt:VK
 bk:St->Hp->Prop:=λ_ _=>False
 ct:St->Hp->Prop:=λ_ _=>False
abbrev TS:=Ends->St->Hp->Prop
def EP(X:Cx)(pins:List (Addr×Obj))(σ:St)(Q:VK)(u:Value)(s':W2):Prop:=∃ v H',Inv X pins σ H' s'/\RelV v u/\Q v H'
def TP(X:Cx)(pins:List (Addr×Obj))(σ:St)(Q:Bool->Hp->Prop)(b:Bool)(s':W2):Prop:=∃ H',Inv X pins σ H' s'/\Q b H'
def AP(X:Cx)(pins:List (Addr×Obj))(σ:St)(Q:List V->Hp->Prop)(us:List Value)(s':W2):Prop:=∃ vs H',Inv X pins σ H' s'/\Vals vs us/\Q vs H'
def SP(X:Cx)(pins:List (Addr×Obj))(D:Ends)(f:Flow)(s':W2):Prop :=
 match f with
 | .next=>∃ σ' H',Inv X pins σ' H' s'/\D.nx σ' H'
 | .brk=>∃ σ' H',Inv X pins σ' H' s'/\D.bk σ' H'
 | .cont=>∃ σ' H',Inv X pins σ' H' s'/\D.ct σ' H'
 | .ret u=>∃ v σ' H',Inv X pins σ' H' s'/\RelV v u/\D.rt v H'
def PE(X:Cx)(e:Expr)(t:TE):Prop :=
 ∀ (pins:List (Addr×Obj)) (s:W2) (σ:St) (H:Hp) (Q:VK),Inv X pins σ H s->t σ H Q->W8 (model X.prog X.w) X.A (eval e X.env) (EP X pins σ Q) X.xe s
def PT(X:Cx)(e:Expr)(t:TT):Prop :=
 ∀ (pins:List (Addr×Obj)) (s:W2) (σ:St) (H:Hp) (Q:Bool->Hp->Prop),Inv X pins σ H s->t σ H Q->W8 (model X.prog X.w) X.A (isTrue e X.env (eval e X.env)) (TP X pins σ Q) X.xe s
def PW(X:Cx)(e:Expr)(t:TT):Prop :=
 ∀ (whole:Sem Value) (pins:List (Addr×Obj)) (s:W2) (σ:St) (H:Hp) (Q:Bool->Hp->Prop),Inv X pins σ H s->t σ H Q->W8 (model X.prog X.w) X.A (isTrue e X.env whole) (TP X pins σ Q) X.xe s
theorem PW.pt(h:PW X e t):PT X e t:=h _
def PA(X:Cx)(es:List Expr)(t:TA):Prop :=
 ∀ (pos:Pos) (pins:List (Addr×Obj)) (s:W2) (σ:St) (H:Hp) (Q:List V->Hp->Prop),Inv X pins σ H s->t σ H Q->W8 (model X.prog X.w) X.A (spliced (WU pos (W7 es X.env))) (AP X pins σ Q) X.xe s
def PS(X:Cx)(st:Stmt)(t:TS):Prop :=
 ∀ (pins:List (Addr×Obj)) (s:W2) (σ:St) (H:Hp) (D:Ends),Inv X pins σ H s->t D σ H->W8 (model X.prog X.w) X.A (exec st X.env) (SP X pins D) X.xe s
def dC(X:Cx)(st:List Stmt)(t:TS):Prop :=
 ∀ (pins:List (Addr×Obj)) (s:W2) (σ:St) (H:Hp) (D:Ends),Inv X pins σ H s->t D σ H->W8 (model X.prog X.w) X.A (execs st X.env) (SP X pins D) X.xe s
theorem aV(h:W8 M A t Q E s)(hQ:∀ a s,Q a s->Q' a s):W8 M A t Q' E s:=WC h hQ λ_ _ x=>x
section
variable {X:Cx}
def b_(i:Nat):TE:=λσ H Q=>∃ v,σ[i]? = some (some v)/\Q v H
def tC(v:V):TE:=λ_ H Q=>Q v H
theorem HJ (hN:X.N[i]? = some x) (hv:rM X.env.scope x) (hd:(x == ("__debug__" : Str))=false:=by decide) (dP:(x == ("__classdict__" : Str))=false:=by decide):PE X (.Name x pos) (b_ i):=by
 intro pins s σ H Q I h;obtain⟨v,e,h⟩:=h;obtain⟨m,hn,hl⟩:=I.loc;obtain⟨u,r,l⟩:=hl i x v hN e hv;have fin:EP X pins σ Q u s:=⟨v,H,I,r,h⟩
 rcases l with ⟨hk,hm⟩ | ⟨hk,c,hc,hcell⟩
 ·exact wpAny_Name (wpAny_loadName_local I.ok.kind hk hn hm fin) hd
 ·rcases hk with hk | hk
  ·exact wpAny_Name (wpAny_loadName_cell I.ok.kind hk hc hcell fin) hd
  ·exact wpAny_Name (wpAny_loadName_free I.ok.kind hk hc hcell fin dP) hd
theorem AM{i j pos}:PE X (.Constant (.int i) j pos) (tC (.int i)):=λ_ _ _ H _ I h=>wpAny_Constant_int ⟨.int i,H,I.tok _,⟨_,rfl⟩,h⟩
theorem uK{b j pos}:PE X (.Constant (.bool b) j pos) (tC (.bl b)):=λ_ _ _ H _ I h=>Constant_bool ⟨.bl b,H,I,rfl,h⟩
theorem HK{j pos}:PE X (.Constant .none j pos) (tC .aN):=λ_ _ _ H _ I h=>Constant_none ⟨.aN,H,I,rfl,h⟩
theorem AN{x j pos}:PE X (.Constant (.str x) j pos) (tC (.str x)):=λ_ _ _ H _ I h=>Calls.Constant_str ⟨.str x,H,I.tok _,⟨_,rfl⟩,h⟩
def Gl(X:Cx)(x:Str):Prop:=X.env.kindOf x=some .globalImplicit
theorem nN(I:Inv X pins σ H s)(hg:Gl X x)(hm:X.mg x=some u)(h:Q u s)
  (hd:(x == ("__debug__" : Str))=false:=by decide):W8 (model X.prog X.w) X.A (eval (.Name x pos) X.env) Q E s :=
 Calls.Name_function_global I.ok.kind hg (Calls.loadGlobal_global (by rw[I.ok.glob]; exact I.mod.glob.keeps I.bk) hm h) hd
theorem mj(I:Inv X pins σ H s)(hg:Gl X x)(hm:X.mg x=none)(hv:Qj x=some u)(h:Q u s)
  (hn:x≠"__name__":=by decide) (hd:(x == ("__debug__" : Str))=false:=by decide):W8 (model X.prog X.w) X.A (eval (.Name x pos) X.env) Q E s:=by
 obtain⟨mb,h1,h2⟩:=I.mod.blt;exact Calls.Name_function_global I.ok.kind hg (Calls.loadGlobal_builtin (by rw[I.ok.glob]; exact I.mod.glob.keeps I.bk) hm (by rw[I.ok.blt]; exact h1.keeps I.bk) ((h2 x hn).trans hv) h) hd
theorem AO (hg:Gl X x) (hm:X.mg x=none) (hv:Qj x=some u) (r:RelV v u) (hn:x≠"__name__":=by decide) (hd:(x == ("__debug__" : Str))=false:=by decide):PE X (.Name x pos) (tC v) :=
 λ_ _ _ H _ I h=>mj I hg hm hv ⟨v,H,I,r,h⟩ hn hd
variable {a b:Expr} {ta tb:TE} {pos:Pos}
theorem Vn(b:Expr)(h:op≠.In)(h2:op≠.NotIn):QD op b=false:=by
 have e1:(op == CmpOp.In)=false:=by cases op <;> first | rfl | exact absurd rfl h
 have e2:(op == CmpOp.NotIn)=false:=by cases op <;> first | rfl | exact absurd rfl h2
 cases b <;> simp[QD,e1,e2]
def tB(t:TE):TT:=λσ H Q=>t σ H λx H1=>∃ c,x = .bl c/\Q c H1
theorem HL(h:PE X e t)(he:∀ whole,isTrue e X.env whole=(do let v <- whole; standAt e.pos; holding [v] (truthy v)):=by intro _; rfl):PT X e (tB t):=by
 intro pins s σ H Q I hw;refine isTrue_plain (aV (h pins s σ H _ I hw) λv s1 ⟨x,H1,I1,r1,q1⟩=>?_) (he _);obtain⟨d,rfl,q⟩:=q1
 cases r1;exact QZ ⟨H1,I1,q⟩
variable {tA rR:TT} {rest:List Expr}
def HM(t u:TT):TT:=λσ H Q=>t σ H λc H1=>if c=true then u σ H1 Q else Q false H1
def HN(t u:TT):TT:=λσ H Q=>t σ H λc H1=>if c=true then Q true H1 else u σ H1 Q
def HP(t:TT):TT:=λσ H Q=>t σ H λc H1=>Q (!c) H1
theorem HQ(ha:PT X a tA):PW X (.BoolOp .And [a] pos) tA:=by
 intro wh pins s σ H Q I h;refine isTrue_and (aV (ha pins s σ H Q I h) λc s1 e=>?_)
 cases c with
 | true=>exact isTrue_and_nil e
 | false=>exact e
theorem HR(ha:PT X a tA):PW X (.BoolOp .Or [a] pos) tA:=by
 intro wh pins s σ H Q I h;refine isTrue_or (aV (ha pins s σ H Q I h) λc s1 e=>?_)
 cases c with
 | false=>exact isTrue_or_nil e
 | true=>exact e
theorem HS(ha:PT X a tA)(hb:PW X (.BoolOp .And (b :: rest) pos) rR):PW X (.BoolOp .And (a :: b :: rest) pos) (HM tA rR):=by
 intro wh pins s σ H Q I h;refine isTrue_and (aV (ha pins s σ H _ I h) λc s1 ⟨H1,I1,q1⟩=>?_)
 cases c with
 | true=>exact hb wh pins s1 σ H1 Q I1 q1
 | false=>exact⟨H1,I1,q1⟩
theorem pw_or(ha:PT X a tA)(hb:PW X (.BoolOp .Or (b :: rest) pos) rR):PW X (.BoolOp .Or (a :: b :: rest) pos) (HN tA rR):=by
 intro wh pins s σ H Q I h;refine isTrue_or (aV (ha pins s σ H _ I h) λc s1 ⟨H1,I1,q1⟩=>?_)
 cases c with
 | true=>exact⟨H1,I1,q1⟩
 | false=>exact hb wh pins s1 σ H1 Q I1 q1
theorem HU(ha:PT X a tA):PT X (.UnaryOp .Not a pos) (HP tA):=by
 intro pins s σ H Q I h;exact isTrue_not (ha pins s σ H (λc H1=>Q (!c) H1) I h)
def HV(ta tb:TE):TE:=λσ H Q=>ta σ H λx H1=>∃ c,x = .bl c/\if c=true then tb σ H1 Q else Q (.bl false) H1
def HW(ta:TE):TE:=λσ H Q=>ta σ H λx H1=>∃ c,x = .bl c/\Q (.bl (!c)) H1
theorem HX{op}(h:PE X a t):PE X (.BoolOp op [a] pos) t:=λpins s σ H Q I hw=>BoolOp_one (h pins s σ H Q I hw)
theorem HY(ha:PE X a ta)(hb:PE X (.BoolOp .And (b :: rest) pos) tb):PE X (.BoolOp .And (a :: b :: rest) pos) (HV ta tb):=by
 intro pins s σ H Q I h;refine BoolOp_and (aV (ha pins s σ H _ I h) λv s1 ⟨x,H1,I1,r1,q1⟩=>?_);obtain⟨c,rfl,q1⟩:=q1
 cases r1;refine QZ ?_
 cases c with
 | true=>exact hb pins s1 σ H1 Q I1 q1
 | false=>exact⟨.bl false,H1,I1,rfl,q1⟩
theorem HZ(ha:PE X a ta):PE X (.UnaryOp .Not a pos) (HW ta):=by
 intro pins s σ H Q I h;refine UnaryOp_ (aV (ha pins s σ H _ I h) λv s1 ⟨x,H1,I1,r1,q1⟩=>?_);obtain⟨c,rfl,q1⟩:=q1
 cases r1;exact not_of (QZ ⟨.bl (!c),H1,I1,rfl,q1⟩)
end
def bS(K:W1)(H:Hp)(a:Addr)(xs:List V):Prop :=
 Rd H a (.lst xs) \/
  ∃ (o:Obj) (ag:Array Value) (n:Nat),K.lookup a=some o/\o.cls = .type "list"/\o.dict=none/\o.data = .seq ag n/\ag.size<=Wb/\Vals xs ag.toList
def c_(K:W1)(H:Hp)(a:Addr)(xs:List V):Prop :=
 Rd H a (.tup xs) \/
  ∃ (o:Obj) (ag:Array Value) (n:Nat),K.lookup a=some o/\o.cls = .type "tuple"/\o.data = .seq ag n/\ag.size<=Wb/\Vals xs ag.toList
def H_:Value->Option V
 | .none=>some .aN
 | .bool b=>some (.bl b)
 | .int i _=>some (.int i)
 | .str x _=>some (.str x)
 | .bytes b _=>some (.byt b)
 | .float b _=>some (.flt b)
 | .ref a=>some (.ref a)
 | .type n=>some (.ty n)
 | _=>none
theorem RelV.abs(r:RelV x u):H_ u=some x:=by
 cases x with
 | aN=>cases r; rfl
 | bl _=>cases r; rfl
 | int _=>obtain⟨t,rfl⟩:=r; rfl
 | str _=>obtain⟨t,rfl⟩:=r; rfl
 | byt _=>obtain⟨t,rfl⟩:=r; rfl
 | flt _=>obtain⟨t,rfl⟩:=r; rfl
 | ref _=>cases r; rfl
 | ty _=>cases r; rfl
theorem RelV.inj(r:RelV x u)(q:RelV y u):x=y:=Wx (r.abs.symm.trans q.abs)
theorem Vals.inj:∀ {xs ys:List V} {us:List Value},Vals xs us->Vals ys us->xs=ys
 | _,_,_,.nil,.nil=>rfl
 | _,_,_,.cons r t,.cons r' t'=>by rw[r.inj r',Vals.inj t t']
section
variable {X:Cx} {pins:List (Addr×Obj)} {σ:St} {H:Hp} {s:W2} {a:Addr} {xs ys:List V}
theorem bS.of{K:W1}(h:H a=some (.lst xs)):bS K H a xs:=.inl (.inl h)
theorem c_.of{K:W1}(h:H a=some (.tup xs)):c_ K H a xs:=.inl (.inl h)
theorem Inv.list(I:Inv X pins σ H s)(h:bS X.K H a xs):∃ ag:List Value,Vals xs ag/\PlainL s.heap a ag.toArray/\xs.length<=Wb:=by
 rcases h with h | ⟨o,ag,n,hk,hc,hd,hs,hz,r⟩
 ·obtain⟨z,ag,n,r,e⟩:=h.ok I.aw;exact⟨ag,r,⟨_,n,e,rfl,rfl,rfl⟩,z⟩
 ·refine⟨ag.toList,r,⟨o,n,I.cW a o hk,hc,hd,by simpa using hs⟩,?_⟩;have e:=r.length;simp only[Qm] at e;omega
theorem Inv.tuple(I:Inv X pins σ H s)(h:c_ X.K H a xs):∃ ag:List Value,Vals xs ag/\IsTup s.heap a ag.toArray/\xs.length<=Wb:=by
 rcases h with h | ⟨o,ag,n,hk,hc,hs,hz,r⟩
 ·obtain⟨z,ag,r,p⟩:=h.ok I.aw;exact⟨ag,r,p.tup,z⟩
 ·refine⟨ag.toList,r,⟨o,I.cW a o hk,hc,n,by simpa using hs⟩,?_⟩;have e:=r.length;simp only[Qm] at e;omega
theorem Inv.uL(I:Inv X pins σ H s)(h:bS X.K H a xs)(h':bS X.K H a ys):xs=ys:=by
 obtain⟨ag,r,⟨o,n,e,_,_,d⟩,_⟩:=I.list h;obtain⟨its',r',⟨o',n',e',_,_,d'⟩,_⟩:=I.list h';rw[e] at e'; cases e'
 rw[d] at d';injection d' with d1 _
 have:ag=its':=by simpa using congrArg Array.toList d1
 subst this;exact r.inj r'
theorem Inv.Ia(I:Inv X pins σ H s)(h:c_ X.K H a xs)(h':c_ X.K H a ys):xs=ys:=by
 obtain⟨ag,r,⟨o,e,_,n,d⟩,_⟩:=I.tuple h;obtain⟨its',r',⟨o',e',_,n',d'⟩,_⟩:=I.tuple h';rw[e] at e'; cases e'
 rw[d] at d';injection d' with d1 _
 have:ag=its':=by simpa using congrArg Array.toList d1
 subst this;exact r.inj r'
end
abbrev Cx.gU(X:Cx)(E:Value->W2->Prop):Cx:={ X with xe:=E }
abbrev Cx.iy(X:Cx):Cx:=X.gU λ_ _=>False
theorem Cx.Ok.gU{X:Cx}(ok:X.Ok)(E:Value->W2->Prop):(X.gU E).Ok :=
 ⟨ok.mod,ok.kind,ok.glob,ok.blt,ok.above,ok.inj,ok.has,ok.kM,ok.hd,ok.frames,ok.md,ok.me,ok.bs,ok.gR,ok.kN,ok.kO,ok.fQ,ok.iT⟩
theorem Cx.Ok.j_{X:Cx}{E:Value->W2->Prop}(ok:(X.gU E).Ok):X.Ok :=
 ⟨ok.mod,ok.kind,ok.glob,ok.blt,ok.above,ok.inj,ok.has,ok.kM,ok.hd,ok.frames,ok.md,ok.me,ok.bs,ok.gR,ok.kN,ok.kO,ok.fQ,ok.iT⟩
section
variable {X:Cx} {pins:List (Addr×Obj)} {σ:St} {H:Hp} {s:W2} {E:Value->W2->Prop}
theorem Inv.gU(I:Inv X pins σ H s)(E:Value->W2->Prop):Inv (X.gU E) pins σ H s:=⟨I.ok.gU E,I.os,I.bare,I.base,I.loc,I.cell,I.free,I.dY,I.pin,I.aw,I.len⟩
theorem Inv.j_(I:Inv (X.gU E) pins σ H s):Inv X pins σ H s:=⟨I.ok.j_,I.os,I.bare,I.base,I.loc,I.cell,I.free,I.dY,I.pin,I.aw,I.len⟩
theorem SP.j_(h:SP (X.gU E) pins D f s'):SP X pins D f s':=by
 cases f with
 | next=>obtain⟨σ',H',I,q⟩:=h; exact⟨σ',H',I.j_,q⟩
 | brk=>obtain⟨σ',H',I,q⟩:=h; exact⟨σ',H',I.j_,q⟩
 | cont=>obtain⟨σ',H',I,q⟩:=h; exact⟨σ',H',I.j_,q⟩
 | ret u=>obtain⟨v,σ',H',I,r,q⟩:=h; exact⟨v,σ',H',I.j_,r,q⟩
theorem dC.iy{st:List Stmt}{t:TS}(h:dC X.iy st t):dC X st t:=λpins s σ H D I hw =>
 WC (h pins s σ H D (I.gU _) hw) (λ_ _ q=>q.j_) λ_ _ z=>False.elim z
end
section
variable {X:Cx} {st:Stmt} {rest:List Stmt} {t u:TS} {e:Expr} {te:TE} {pos:Pos}
def Ib:TS:=λD σ H=>D.nx σ H
def Ic(t u:TS):TS:=λD σ H=>t { D with nx:=u D } σ H
theorem Ie:dC X [] Ib:=λ_ _ σ H _ I h=>wpAny_execs_nil ⟨σ,H,I,h⟩
theorem rS(h1:PS X st t)(h2:dC X rest u):dC X (st :: rest) (Ic t u):=by
 intro pins s σ H D I h;refine wpAny_execs_cons (aV (h1 pins s σ H { D with nx:=u D } I h) λf s1 q=>?_)
 cases f with
 | next =>
  obtain⟨σ',H',I',q⟩:=q;exact h2 pins s1 σ' H' D I' q
 | ret v=>exact q
 | brk=>exact q
 | cont=>exact q
theorem uM(h1:PS X st t):dC X [st] t:=by
 intro pins s σ H D I h;refine wpAny_execs_cons (aV (h1 pins s σ H D I h) λf s1 q=>?_)
 cases f with
 | next=>exact wpAny_execs_nil q
 | ret v=>exact q
 | brk=>exact q
 | cont=>exact q
theorem Inv.quiet(I:Inv X pins σ H s):interactive X.env=false:=by simp[interactive,I.ok.kind]
def uN(te:TE):TS:=λD σ H=>te σ H λ_ H1=>D.nx σ H1
theorem AQ(he:PE X e te)(hs:QQ e none pos.line X.env=pure false:=by rfl):PS X (.Expr e pos) (uN te):=by
 intro pins s σ H D I h;exact wpAny_Expr_any (aV (he pins s σ H _ I h) λv s1 ⟨x,H1,I1,r1,q1⟩=>⟨σ,H1,I1,q1⟩) I.quiet hs
def Ig(te:TE):TS:=λD σ H=>te σ H D.rt
theorem AR(he:PE X e te):PS X (.Return (some e) pos) (Ig te):=by
 intro pins s σ H D I h;exact wpAny_Return_some (aV (he pins s σ H _ I h) λv s1 ⟨x,H1,I1,r1,q1⟩=>⟨x,σ,H1,I1,r1,q1⟩)
def Ih(c:TT)(t u:TS):TS:=λD σ H=>c σ H λb H1=>if b=true then t D σ H1 else u D σ H1
theorem Ii(hc:PT X c tc)(ha:dC X a t)(hb:dC X b u):PS X (.If c a b pos) (Ih tc t u):=by
 intro pins s σ H D I h;refine wpAny_If (aV (hc pins s σ H _ I h) λd s1 ⟨H1,I1,q1⟩=>?_)
 cases d with
 | true=>exact ha pins s1 σ H1 D I1 q1
 | false=>exact hb pins s1 σ H1 D I1 q1
end
abbrev TG:=V->St->Hp->(St->Hp->Prop)->Prop
abbrev kQ:=List V->St->Hp->(St->Hp->Prop)->Prop
def PG(X:Cx)(target:Expr)(t:TG):Prop :=
 ∀ (pins:List (Addr×Obj)) (s:W2) (σ:St) (H:Hp) (v:V) (u:Value) (Q:St->Hp->Prop),Inv X pins σ H s->RelV v u->t v σ H Q ->
  W8 (model X.prog X.w) X.A (assign target X.env u) (λ_ s'=>∃ σ' H',Inv X pins σ' H' s'/\Q σ' H') X.xe s
def gW(X:Cx)(ts:List Expr)(t:kQ):Prop :=
 ∀ (pins:List (Addr×Obj)) (s:W2) (σ:St) (H:Hp) (vs:List V) (us:List Value) (Q:St->Hp->Prop),Inv X pins σ H s->Vals vs us->t vs σ H Q ->
  W8 (model X.prog X.w) X.A (assignInOrder ((Qc ts X.env).map (·.2)) us) (λ_ s'=>∃ σ' H',Inv X pins σ' H' s'/\Q σ' H') X.xe s
abbrev AS:=V->V->V->Hp->(Hp->Prop)->Prop
def AU(X:Cx)(t:AS):Prop :=
 ∀ (pins:List (Addr×Obj)) (s:W2) (σ:St) (H:Hp) (o i v:V) (ov iv u:Value) (Q:Hp->Prop),Inv X pins σ H s->RelV o ov->RelV i iv->RelV v u->t o i v H Q ->
  W8 (model X.prog X.w) X.A (setItem ov iv u) (λ_ s'=>∃ H',Inv X pins σ H' s'/\Q H') X.xe s
section
variable {X:Cx} {pos:Pos}
def rT(i:Nat):TG:=λv σ H Q=>Q (σ.set i (some v)) H
theorem AV(hN:X.N.Nodup)(hi:X.N[i]? = some x)(hx:Loc X.env.scope x)(hf:X.fn x=true\/X.env.scope.names.lookup x=some .local:=by first | exact .inl rfl | exact .inr rfl | assumption):PG X (.Name x pos) (rT i):=by
 intro pins s σ H v u Q I r h;exact wpAny_assign_Name (AK I hN hi hx r (λs' I'=>⟨_,H,I',h⟩) hf)
def Ij:kQ:=λvs σ H Q=>vs=[]/\Q σ H
def Ik(t:TG)(u:kQ):kQ:=λvs σ H Q=>∃ v r,vs=v :: r/\t v σ H λσ' H'=>u r σ' H' Q
theorem AW:gW X [] Ij:=by
 intro pins s σ H vs us Q I r h;obtain⟨e,h⟩:=h;subst e
 cases r;exact assignInOrder_nil ⟨σ,H,I,h⟩
theorem AX(h1:PG X e t)(h2:gW X es u)
  (hs:(Qc (e :: es) X.env).map (·.2)=assign e X.env :: (Qc es X.env).map (·.2):=by rfl):gW X (e :: es) (Ik t u):=by
 intro pins s σ H vs us Q I r h;obtain⟨v,vr,e1,h⟩:=h;subst e1
 cases r with
 | cons r rr =>
  rw[hs];refine assignInOrder_cons (aV (h1 pins s σ H _ _ _ I r h) λ_ s1 ⟨σ1,H1,I1,q1⟩=>?_);exact h2 pins s1 σ1 H1 _ _ Q I1 rr q1
def Il(K:W1)(n:Nat)(t:kQ):TG:=λv σ H Q=>∃ a xs,v = .ref a/\c_ K H a xs/\xs.length=n/\t xs σ H Q
theorem AY(hc:X.calm=true)(h:gW X es t)
  (hn:(Qc es X.env).length=n:=by rfl) (c9:(Qc es X.env).findIdx? (·.1)=none:=by rfl):PG X (.Tuple es k pos) (Il X.K n t):=by
 intro pins s σ H v u Q I r hw;obtain⟨a,xs,e1,hq,hl,hw⟩:=hw;subst e1
 cases r;obtain⟨ag,rv,ht,hz⟩:=I.tuple hq;refine assign_Tuple_tuple (I.ok.hd hc) ht (by simp[hn,<- hl,rv.length]) c9 λh' hx=>?_
 have I1:Inv X pins σ H { s with heap:=h' }:=I.kept (t':=s.toks) λb o e=>hx b o (Wi (We e)) e
 exact h pins _ σ H xs _ Q I1 (by simpa using rv) hw
def AZ(to ti:TE)(t:AS):TG:=λv σ H Q=>to σ H λo H1=>ti σ H1 λi H2=>t o i v H2 λH3=>Q σ H3
theorem A0(ho:PE X o to)(hi:PE X i ti)(hs:AU X t)
  (ha:∀ v,assign (.Subscript o i pos) X.env v=(do
   let ov <- holding [v] (eval o X.env)
   let iv <- holding [v,ov] (eval i X.env)
   standAt pos
   holding [v,ov,iv] (setItem ov iv v)
   release [v,ov,iv] []):=by intro _; rfl):PG X (.Subscript o i pos) (AZ to ti t):=by
 intro pins s σ H v u Q I r h;rw[ha];refine W0 (WG (aV (ho pins s σ H _ I h) λov s1 ⟨x,H1,I1,r1,q1⟩=>?_));refine W0 (WG (aV (hi pins s1 σ H1 _ I1 q1) λiv s2 ⟨y,H2,I2,r2,q2⟩=>?_));refine W0 (wpAny_standAt (W0 (WG (aV (hs pins s2 σ H2 x y v ov iv u _ I2 r1 r2 r q2) λ_ s3 ⟨H3,I3,q3⟩=>?_))));exact wpAny_release ⟨σ,H3,I3,q3⟩
def px(te:TE)(g:TG):TS:=λD σ H=>te σ H λx H1=>g x σ H1 D.nx
theorem uO(he:PE X e te)(hg:PG X tg g)(hs:swapsWithSole [tg] e pos.line X.env=pure false:=by rfl)(hw:swappedStores [tg] e X.env=pure none:=by rfl)
  (h1:(Qc [tg] X.env).map (·.2)=[assign tg X.env]:=by rfl):PS X (.Assign [tg] e pos) (px te g):=by
 intro pins s σ H D I h;refine wpAny_Assign_stores (aV (he pins s σ H _ I h) λv s1 ⟨x,H1,I1,r1,q1⟩=>?_) hs hw;rw[h1];exact aV (hg pins s1 σ H1 x v _ I1 r1 q1) λ_ s2 q=>q
theorem A5(hN:X.N.Nodup)(hi:X.N[i]? = some x)(hx:Loc X.env.scope x)(he:PE X e te)(hs:QQ e (some (.Name x pos')) pos.line X.env=pure false:=by rfl)(hf:X.fn x=true\/X.env.scope.names.lookup x=some .local:=by first | exact .inl rfl | exact .inr rfl | assumption) :
  PS X (.Assign [.Name x pos'] e pos) (px te (rT i)):=by
 intro pins s σ H D I h;refine wpAny_Assign_Name (aV (he pins s σ H _ I h) λv s1 ⟨y,H1,I1,r1,q1⟩=>?_) hs;exact AK I1 hN hi hx r1 (λs2 I2=>⟨_,H1,I2,q1⟩) hf
end
section
variable {X:Cx} {pos:Pos}
end
structure It where
 go:Nat->Hp->Prop
 pA:Nat->Hp->V->Hp->Prop
 stop:Nat->Hp->Prop
def ft(X:Cx)(pins:List (Addr×Obj))(H:Hp)(b:Addr):Prop :=
 H b=none/\b≠X.env.locals/\b ∉ X.fs/\(b ∈ X.ex\/X.s₀.heap.objs.size<=b)/\(∀ x c,X.env.cells.lookup x=some c->c≠b)/\∀ p ∈ X.pn ++ pins,p.1≠b
theorem Inv.jB(I:Inv X pins σ H s)(hb:s.heap.objs.size<=b)(hn:H' b=none):ft X pins H' b:=by
 refine⟨hn,WI (Wv I.lt hb),I.HH hb,.inr (WK I.sz hb),λx c e z=>?_,λp hp z=>?_⟩
 ·obtain⟨v,q⟩:=I.cell x c e;exact absurd (Wv q.lt (by rw[z]; exact hb)) (Qf _)
 ·exact absurd (Wv (We (I.pin p hp).1) (by rw[z]; exact hb)) (Qf _)
structure Turn(P:Wm)(w:Wq)(K:W1)(tg:Expr)(J:It)(fp:List Addr)(it:Addr)(tn:Nat->Heap->Prop):Prop where
 mem:it ∈ fp
 obj:∀ i h,tn i h->∀ b ∈ fp,∃ o,h.get? b=some o/\∀ v,o.data≠.cell v
 keep:∀ i h h',tn i h->(∀ b ∈ fp,∀ o,h.get? b=some o->h'.get? b=some o)->tn i h'
 item:∀ (X:Cx),X.prog=P->X.w=w->X.K=K->X.calm=true->∀ (i:Nat) (pins:List (Addr×Obj)) (s:W2) (σ:St) (H:Hp) (E:Value->W2->Prop),Inv X pins σ H s->(∀ b ∈ fp,ft X pins H b)->tn i s.heap->J.go i H ->
  W8 (model P w) X.A (Qb (.ref it)) (λr s1=>∃ u,r=some u /\
   W8 (model P w) X.A (letOwnedTupleGo tg (.ref it) u) (λ_ s2=>∃ x H',Inv X pins σ H' s2/\RelV x u/\J.pA i H x H'/\tn (i + 1) s2.heap/\∀ b ∈ fp,H' b=none) E s1) E s
 done:∀ (X:Cx),X.prog=P->X.w=w->X.K=K->X.calm=true->∀ (i:Nat) (pins:List (Addr×Obj)) (s:W2) (σ:St) (H:Hp) (E:Value->W2->Prop),Inv X pins σ H s->(∀ b ∈ fp,ft X pins H b)->tn i s.heap->J.stop i H ->
  W8 (model P w) X.A (Qb (.ref it)) (λr s1=>r=none/\Inv X pins σ H s1) E s
 self:∀ (A:Wp) (i:Nat) (s:W2) (Q:Value->W2->Prop) (E:Value->W2->Prop),tn i s.heap->Q (.ref it) s->W8 (model P w) A (pyIter (.ref it)) Q E s
abbrev TI:=St->Hp->(It->Hp->Prop)->Prop
def A6(X:Cx)(pins:List (Addr×Obj))(σ:St)(tg:Expr)(R:It->Hp->Prop)(rU:Value)(s2:W2):Prop :=
 ∃ (it:Addr) (fp:List Addr) (tn:Nat->Heap->Prop) (J:It) (H':Hp),rU = .ref it/\Inv X pins σ H' s2/\Turn X.prog X.w X.K tg J fp it tn/\tn 0 s2.heap/\(∀ b ∈ fp,ft X pins H' b)/\R J H'
def PI(X:Cx)(tg iter:Expr)(wi:TI):Prop :=
 ∀ (pins:List (Addr×Obj)) (s:W2) (σ:St) (H:Hp) (R:It->Hp->Prop),Inv X pins σ H s->wi σ H R ->
  W8 (model X.prog X.w) X.A (eval iter X.env) (λv s1=>W8 (model X.prog X.w) X.A (pyIter v) (A6 X pins σ tg R) X.xe s1) X.xe s
theorem rV(ho:s.heap.get? it=some o)(hc:o.cls = .type n)(hd:o.data = .fields vs)
  (hn:["enumerate","zip","dict_itemiterator","dict_reverseitemiterator","odict_iterator","itertools.zip_longest","itertools.pairwise"].contains n=false) (hQ:Q () s):W8 M A (letOwnedTupleGo tg (.ref it) u) Q E s:=by
 unfold letOwnedTupleGo
 cases tg <;> first
  | exact W4 hQ
  | (cases u <;> first
    | exact W4 hQ
    | (refine W0 (wpAny_load ho ?_); rw[hc,hd]; show W8 M A (if (["enumerate","zip","dict_itemiterator","dict_reverseitemiterator","odict_iterator","itertools.zip_longest","itertools.pairwise"].contains n && vs[0]? == some (Q4 _))=true then _ else _) Q E s; rw[if_neg (by intro h; rw[hn,Bool.false_and] at h; cases h)]; exact W4 hQ))
def rW(K:W1)(a:Addr):It :=
 ⟨λi H=>∃ xs x,bS K H a xs/\xs[i]? = some x,λi H x H'=>H'=H/\∀ xs,bS K H a xs->xs[i]? = some x,λi H=>∃ xs,bS K H a xs/\xs.length<=i⟩
def uP(K:W1)(a:Addr):It :=
 ⟨λi H=>∃ xs x,c_ K H a xs/\xs[i]? = some x,λi H x H'=>H'=H/\∀ xs,c_ K H a xs->xs[i]? = some x,λi H=>∃ xs,c_ K H a xs/\xs.length<=i⟩
def rX(lo:Int)(n:Nat):It:=⟨λi _=>i < n,λi H x H'=>H'=H/\x = .int (lo + i),λi _=>n<=i⟩
theorem Im{P:Wm}{w:Wq}{K:W1}{tg:Expr}(a it:Addr):Turn P w K tg (rW K a) [it] it (λi h=>h.IsListIter it a i) where
 mem:=by simp
 obj:=λi h st b hb=>by
  have e:b=it:=by simpa using hb
  subst e;obtain⟨o,e,c,d⟩:=st;exact⟨o,e,λv z=>by rw[d] at z; cases z⟩
 keep:=λi h h' st k=>st.at λo e=>k it (by simp) o e
 item:=by
  intro X hP hw hK hc i pins s σ H E I hf st hg;subst hP hw hK;obtain⟨xs,x,hq,hx⟩:=hg;obtain⟨ag,rv,p,hz⟩:=I.list hq;obtain⟨u,hu,ru⟩:=rv.get hx;obtain⟨f0,f1,f2,f3,f4,f5⟩:=hf it (by simp);refine wpAny_pyNext_list_item st p.isList (x:=u) (by simpa using hu) λh' eN sb=>?_
  have I1:Inv X pins σ H { s with heap:=h' }:=I.turned (t':=s.toks) (λb o hb e=>(sb.2 b hb).trans e) f0 f1 f3 f4 f5;obtain⟨o,e,c,d⟩:=id eN;exact⟨u,rfl,rV (s:={ s with heap:=h' }) e c d (by decide) ⟨x,H,I1,ru,⟨rfl,λys hy=>by rw[I.uL hy hq]; exact hx⟩,eN,λb hb=>(hf b hb).1⟩⟩
 done:=by
  intro X hP hw hK hc i pins s σ H E I hf st hg;subst hP hw hK;obtain⟨xs,hq,hx⟩:=hg;obtain⟨ag,rv,p,hz⟩:=I.list hq;obtain⟨f0,f1,f2,f3,f4,f5⟩:=hf it (by simp);have hl:=rv.length;exact wpAny_pyNext_list_end (I.ok.hd hc) st p.isList (by simp; omega) λh' eb=>⟨rfl,I.turned (t':=s.toks) (λb o hb e=>eb b o hb e) f0 f1 f3 f4 f5⟩
 self:=λ_ _ _ _ _ st h=>wpAny_pyIter_listiter st h
theorem Io{P:Wm}{w:Wq}{K:W1}{tg:Expr}(a it:Addr):Turn P w K tg (uP K a) [it] it (λi h=>h.IsTupleIter it a i) where
 mem:=by simp
 obj:=λi h st b hb=>by
  have e:b=it:=by simpa using hb
  subst e;obtain⟨o,e,c,d⟩:=st;exact⟨o,e,λv z=>by rw[d] at z; cases z⟩
 keep:=λi h h' st k=>st.at λo e=>k it (by simp) o e
 item:=by
  intro X hP hw hK hc i pins s σ H E I hf st hg;subst hP hw hK;obtain⟨xs,x,hq,hx⟩:=hg;obtain⟨ag,rv,p,hz⟩:=I.tuple hq;obtain⟨u,hu,ru⟩:=rv.get hx;obtain⟨f0,f1,f2,f3,f4,f5⟩:=hf it (by simp);refine wpAny_pyNext_tuple_item st (show s.heap.IsTuple a ag.toArray from p) (x:=u) (by simpa using hu) λh' eN sb=>?_
  have I1:Inv X pins σ H { s with heap:=h' }:=I.turned (t':=s.toks) (λb o hb e=>(sb.2 b hb).trans e) f0 f1 f3 f4 f5;obtain⟨o,e,c,d⟩:=id eN;exact⟨u,rfl,rV (s:={ s with heap:=h' }) e c d (by decide) ⟨x,H,I1,ru,⟨rfl,λys hy=>by rw[I.Ia hy hq]; exact hx⟩,eN,λb hb=>(hf b hb).1⟩⟩
 done:=by
  intro X hP hw hK hc i pins s σ H E I hf st hg;subst hP hw hK;obtain⟨xs,hq,hx⟩:=hg;obtain⟨ag,rv,p,hz⟩:=I.tuple hq;obtain⟨f0,f1,f2,f3,f4,f5⟩:=hf it (by simp);have hl:=rv.length;exact wpAny_pyNext_tuple_end (I.ok.hd hc) st (show s.heap.IsTuple a ag.toArray from p) (by simp; omega) λh' eb=>⟨rfl,I.turned (t':=s.toks) (λb o hb e=>eb b o hb e) f0 f1 f3 f4 f5⟩
 self:=λ_ _ _ _ _ st h=>wpAny_pyIter_tupleiter st h
theorem Ip{P:Wm}{w:Wq}{K:W1}{tg:Expr}(it:Addr)(lo:Int)(n:Nat):Turn P w K tg (rX lo n) [it] it (λi h=>IsRangeIter h it (lo + (i:Nat) * 1) ((n:Int) - (i:Nat)) 1) where
 mem:=by simp
 obj:=λi h st b hb=>by
  have e:b=it:=by simpa using hb
  subst e;exact⟨_,st,λv z=>by
   have z':Data.fields _=Data.cell v:=z
   cases z'⟩
 keep:=λi h h' st k=>k it (by simp) _ st
 item:=by
  intro X hP hw hK hc i pins s σ H E I hf st hg;subst hP hw hK;obtain⟨f0,f1,f2,f3,f4,f5⟩:=hf it (by simp);have W:=Walks.range (prog:=X.prog) (w:=X.w) (I.ok.hd hc) it lo 1 n;refine W.item i s _ _ hg st λv h' tk hv eN kk=>?_
  obtain⟨t,rfl⟩:=hv;have I1:Inv X pins σ H { s with heap:=h',toks:=tk }:=I.turned (λb o hb e=>kk b o (by simpa using hb) e) f0 f1 f3 f4 f5;refine⟨_,rfl,rV (s:={ s with heap:=h',toks:=tk }) (n:="range_iterator") eN rfl rfl (by decide) ⟨.int (lo + i),H,I1,⟨t,?_⟩,⟨rfl,rfl⟩,eN,λb hb=>(hf b hb).1⟩⟩;rw[Int.mul_one]
 done:=by
  intro X hP hw hK hc i pins s σ H E I hf st hg;subst hP hw hK;obtain⟨f0,f1,f2,f3,f4,f5⟩:=hf it (by simp);exact wpAny_pyNext_range_end (I.ok.hd hc) st (by have:n<=i:=hg; omega) λh' eb=>⟨rfl,I.turned (t':=s.toks) (λb o hb e=>eb b o hb e) f0 f1 f3 f4 f5⟩
 self:=λ_ _ _ _ _ st h=>wpAny_pyIter_rangeiter st h
section
variable {X:Cx} {tg:Expr}
theorem Iq{pins:List (Addr×Obj)}{σ:St}{H:Hp}{s:W2}{R:It->Hp->Prop}{E:Value->W2->Prop}{lo hi:Int}{t u v:Tok}{tk:Nat}(I:Inv X pins σ H s)(h1 : -(2 ^ 62)<=lo)(h2:lo < 2 ^ 62)(h3 : -(2 ^ 62)<=hi)(h4:hi < 2 ^ 62)
  (q:R (rX lo (hi - lo).toNat) H):W8 (model X.prog X.w) X.A (pyIter (.ref s.heap.objs.size)) (A6 X pins σ tg R) E { s with heap:=s.heap.push { cls:=.type "range",data:=.fields #[.int lo t,.int hi u,.int 1 v] },toks:=tk }:=by
 refine wpAny_pyIter_range (IsRange.new ..) (small_one h1 h2 h3 h4) ?_;have I1:Inv X pins σ H { s with heap:=s.heap.push { cls:=.type "range",data:=.fields #[.int lo t,.int hi u,.int 1 v] },toks:=tk }:=I.kept λb o e=>W5 _ e
 refine⟨(s.heap.push { cls:=.type "range",data:=.fields #[.int lo t,.int hi u,.int 1 v] }).objs.size,[(s.heap.push { cls:=.type "range",data:=.fields #[.int lo t,.int hi u,.int 1 v] }).objs.size],_,_,H,rfl,
  I1.kept (t':=tk) λb o e=>W5 _ e,Ip _ lo (hi - lo).toNat,?_,λb hb=>?_,q⟩
 ·have e1:lo + ((0:Nat):Int) * 1=lo:=by simp
  have e2:(((hi - lo).toNat:Nat):Int) - ((0:Nat):Int)=Builtin.Range.rangeSize lo hi 1:=by rw[rangeSize_one]; split <;> omega
  show IsRangeIter _ _ (lo + ((0:Nat):Int) * 1) ((((hi - lo).toNat:Nat):Int) - ((0:Nat):Int)) 1;rw[e1,e2];exact Wj _ rfl
 ·have e:b=(s.heap.push { cls:=.type "range",data:=.fields #[.int lo t,.int hi u,.int 1 v] }).objs.size:=by simpa using hb
  subst e;exact I1.jB (Wg _) (I1.aw.fresh (Wg _))
def Ir(ta:TA):TI:=λσ H R=>ta σ H λvs H1=>∃ j:Int,vs=[.int j]/\-(2 ^ 62)<=j/\j < 2 ^ 62/\R (rX 0 j.toNat) H1
theorem Iu {a:Expr} {ta:TA} {p pos:Pos} (hg:Gl X "range") (hm:X.mg "range" = none) (ha:PA X [a] ta) (hs:W7 [a] X.env=[(false,eval a X.env)]:=by rfl):PI X tg (.Call (.Name "range" p) [a] [] pos) (Ir ta):=by
 intro pins s σ H R I h;refine Call_ (mj I hg hm boot_range (Qx (aV (ha pos pins s σ H _ I h) λus s1 ⟨vs,H1,I1,r1,q1⟩=>?_) hs rfl));obtain⟨j,e,q1,q2,q⟩:=q1;subst e
 cases r1 with
 | cons r rr =>
  cases rr;obtain⟨t,rfl⟩:=r;exact call_range_1 (Iq I1 (by omega) (by omega) q1 q2 (by simpa using q))
def Iv(wi:TI)(g:TG)(tb:TS):TS:=λD σ H=>wi σ H λJ H1=>∃ W:Nat->Nat->St->Hp->Prop,(∃ m,W 0 m σ H1)/\∀ i m σ H,W i m σ H ->
 (J.stop i H/\D.nx σ H)\/(J.go i H/\∃ N:St->Hp->Prop,(∀ σ' H',N σ' H'->∃ m',m' < m/\W (i + 1) m' σ' H')/\∀ x H',J.pA i H x H'->g x σ H' λσ2 H2=>tb { D with nx:=N,ct:=N,bk:=D.nx } σ2 H2)
def pB(fp:List Addr)(h:Heap):List (Addr×Obj):=fp.filterMap λb=>(h.get? b).map λo=>(b,o)
theorem rY(hb:b ∈ fp)(e:h.get? b=some o):(b,o) ∈ pB fp h:=List.mem_filterMap.mpr ⟨b,hb,by rw[e]; rfl⟩
theorem Iy(hp:p ∈ pB fp h):p.1 ∈ fp/\h.get? p.1=some p.2:=by
 obtain⟨b,hb,e⟩:=List.mem_filterMap.mp hp
 cases q:h.get? b with
 | none=>rw[q] at e; cases e
 | some o =>
  rw[q] at e;have e':(b,o)=p:=Wx e;subst e';exact⟨hb,q⟩
theorem Inv.pinned(I:Inv X pins σ H s)(hf:∀ b ∈ fp,ft X pins H b)(ho:∀ b ∈ fp,∃ o,s.heap.get? b=some o/\∀ v,o.data≠.cell v):Inv X (pins ++ pB fp s.heap) σ H s :=
 I.AJ λp hp=>(QX.mp hp).elim (λz=>I.pin p (WW _ z)) λz=>by
  obtain⟨hb,e⟩:=Iy z;obtain⟨f0,f1,f2,_⟩:=hf p.1 hb;obtain⟨o,e',d⟩:=ho p.1 hb;rw[e] at e'; cases e'
  exact⟨e,f0,f1,f2,d⟩
theorem Inv.rZ(I:Inv X (pins ++ pl) σ H s):Inv X pins σ H s:=I.AJ λp hp=>I.pin p (WW _ (J4 _ hp))
theorem A7(hp:PassesOwn (model X.prog X.w) X.A X.env X.xe)(hc:X.calm=true)(hi:PI X tg iter wi)(hg:PG X tg g)(hb:dC X body tb)
  (hs:∀ x,Qw iter X.env x=pure x:=by intro _; rfl):PS X (.For tg iter body [] pos) (Iv wi g tb):=by
 intro pins s σ H D I h;refine wpAny_For (aV (hi pins s σ H _ I h) λv s1 h1=>aV h1 λrU s2 h2=>?_) hs;obtain⟨it,fp,tn,J,H2,e,I2,T,st2,f2,W,⟨m0,w0⟩,turn⟩:=h2;subst e;-- what stays true of the iterator's objects through the loop
 have uQ:∀ {H':Hp},(∀ b ∈ fp,H' b=none)->∀ b ∈ fp,ft X pins H' b:=λhn b hb=>⟨hn b hb,(f2 b hb).2⟩
 refine codeAny_forLoop_any (λn s'=>∃ i σ' H',Inv X pins σ' H' s'/\tn i s'.heap/\(∀ b ∈ fp,H' b=none)/\W i n σ' H') ?_ m0 ⟨0,σ,H2,I2,st2,λb hb=>(f2 b hb).1,w0⟩;rintro n s3 ⟨i,σ3,H3,I3,kR,fr3,w3⟩;rcases turn i n σ3 H3 w3 with ⟨stop,qn⟩ | ⟨go,N,hN,step⟩
 ·refine JH hp (aV (T.done X rfl rfl rfl hc i pins s3 σ3 H3 X.xe I3 (uQ fr3) kR stop) λr s4 ⟨hr,I4⟩=>?_);subst hr;exact wpAny_execs_nil ⟨σ3,H3,I4,qn⟩
 ·refine JH hp (aV (T.item X rfl rfl rfl hc i pins s3 σ3 H3 X.xe I3 (uQ fr3) kR go) λr s4 ⟨u,hr,h4⟩=>?_);subst hr;refine JH hp (aV h4 λ_ s5 ⟨x,H5,I5,r5,y5,st5,fr5⟩=>?_);have Iz:=I5.pinned (uQ fr5) (T.obj _ _ st5);refine JH hp (aV (hg _ s5 σ3 H5 x u _ Iz r5 (step x H5 y5)) λ_ s6 ⟨σ6,H6,I6,q6⟩=>?_);refine JH hp (aV (hb _ s6 σ6 H6 _ I6 q6) λf s7 q7=>?_);have again:∀ {σ7:St} {H7:Hp},Inv X (pins ++ pB fp s5.heap) σ7 H7 s7->N σ7 H7->∃ m,m < n/\∃ i σ' H',Inv X pins σ' H' s7/\tn i s7.heap/\(∀ b ∈ fp,H' b=none)/\W i m σ' H':=λ{σ7 H7} I7 n7=>by
   obtain⟨m',hm,w7⟩:=hN σ7 H7 n7;refine⟨m',hm,i + 1,σ7,H7,I7.rZ,T.keep _ _ _ st5 λb hb o e=>(I7.pin (b,o) (WW _ (WW _ (rY hb e)))).1,λb hb=>?_,w7⟩;obtain⟨o,e,d⟩:=T.obj _ _ st5 b hb;exact(I7.pin (b,o) (WW _ (WW _ (rY hb e)))).2.1
  cases f with
  | next=>obtain⟨σ7,H7,I7,n7⟩:=q7; exact again I7 n7
  | cont=>obtain⟨σ7,H7,I7,n7⟩:=q7; exact again I7 n7
  | brk=>obtain⟨σ7,H7,I7,q7⟩:=q7; exact⟨σ7,H7,I7.rZ,q7⟩
  | ret v=>obtain⟨x7,σ7,H7,I7,r7,q7⟩:=q7; exact⟨x7,σ7,H7,I7.rZ,r7,q7⟩
end
abbrev R2:=V->V->Hp->VK->Prop
def bT(X:Cx)(f:Value->Value->Sem Value)(r:R2):Prop :=
 ∀ (pins:List (Addr×Obj)) (s:W2) (σ:St) (H:Hp) (x y:V) (v u:Value) (Q:VK),Inv X pins σ H s->RelV x v->RelV y u->r x y H Q ->
  W8 (model X.prog X.w) X.A (f v u) (EP X pins σ Q) X.xe s
def eE(X:Cx)(f:Value)(r:List V->Hp->VK->Prop):Prop :=
 ∀ (pins:List (Addr×Obj)) (s:W2) (σ:St) (H:Hp) (xs:List V) (us:List Value) (Q:VK),Inv X pins σ H s->Vals xs us->r xs H Q ->
  W8 (model X.prog X.w) X.A (call f us) (EP X pins σ Q) X.xe s
def iX(r:R2)(ta tb:TE):TE:=λσ H Q=>ta σ H λx H1=>tb σ H1 λy H2=>r x y H2 Q
def IA(r:V->Hp->VK->Prop)(ta:TE):TE:=λσ H Q=>ta σ H λx H1=>r x H1 Q
def rI(C:Int->Int->Prop)(g:Int->Int->V):R2:=λx y H Q=>∃ i j,x = .int i/\y = .int j/\C i j/\Q (g i j) H
def iz(g:Int->Int->V):R2:=λx y H Q=>∃ i j,x = .int i/\y = .int j/\Q (g i j) H
section
variable {X:Cx} {a b c:Expr} {ta tb tc:TE} {pos:Pos}
theorem uR(ha:PE X a ta)(hb:PE X b tb){pins:List (Addr×Obj)}{s:W2}{σ:St}{H:Hp}{R:V->V->Hp->Prop}(I:Inv X pins σ H s)
  (h:ta σ H λx H1=>tb σ H1 λy H2=>R x y H2) {Q:Value->W2->Prop} {f:Value->Value->Sem Value}
  (hf:∀ v u s2 x y H2,Inv X pins σ H2 s2->RelV x v->RelV y u->R x y H2->W8 (model X.prog X.w) X.A (f v u) Q X.xe s2) :
  W8 (model X.prog X.w) X.A (eval a X.env) (λv s₁=>W8 (model X.prog X.w) X.A (eval b X.env) (λu s₂=>W8 (model X.prog X.w) X.A (f v u) Q X.xe s₂) X.xe s₁) X.xe s:=by
 refine aV (ha pins s σ H _ I h) λv s1 ⟨x,H1,I1,r1,q1⟩=>?_
 refine aV (hb pins s1 σ H1 _ I1 q1) λu s2 ⟨y,H2,I2,r2,q2⟩=>?_
 exact hf v u s2 x y H2 I2 r1 r2 q2
theorem uS{op:Operator}{r:R2}(ho:bT X (Qn op) r)(ha:PE X a ta)(hb:PE X b tb):PE X (.BinOp a op b pos) (iX r ta tb):=by
 intro pins s σ H Q I h;exact wpAny_BinOp (uR ha hb I h λv u s2 x y H2 I2 rx ry q=>ho pins s2 σ H2 x y v u Q I2 rx ry q)
theorem r9{f:Value->Value->Sem Value}{C:Int->Int->Prop}{g:Int->Int->Int}
  (rule:∀ (i j:Int) (t u:Tok) (s:W2) (Q:Value->W2->Prop) (E:Value->W2->Prop),C i j->Q (.int (g i j) s.toks) { s with toks:=s.toks + 1 }->W8 (model X.prog X.w) X.A (f (.int i t) (.int j u)) Q E s) :
  bT X f (rI C λi j=>.int (g i j)):=by
 intro pins s σ H x y v u Q I rx ry h;obtain⟨i,j,rfl,rfl,hc,q⟩:=h;obtain⟨t,rfl⟩:=rx;obtain⟨t',rfl⟩:=ry;exact rule i j t t' s _ _ hc ⟨.int (g i j),H,I.tok _,⟨_,rfl⟩,q⟩
theorem A8{f:Value->Value->Sem Value}{g:Int->Int->Int}
  (rule:∀ (i j:Int) (t u:Tok) (s:W2) (Q:Value->W2->Prop) (E:Value->W2->Prop),Q (.int (g i j) s.toks) { s with toks:=s.toks + 1 }->W8 (model X.prog X.w) X.A (f (.int i t) (.int j u)) Q E s) :
  bT X f (iz λi j=>.int (g i j)):=by
 intro pins s σ H x y v u Q I rx ry h;obtain⟨i,j,rfl,rfl,q⟩:=h;obtain⟨t,rfl⟩:=rx;obtain⟨t',rfl⟩:=ry;exact rule i j t t' s _ _ ⟨.int (g i j),H,I.tok _,⟨_,rfl⟩,q⟩
theorem uT{f:Value->Value->Sem Value}{g:Int->Int->Bool}
  (rule:∀ (i j:Int) (t u:Tok) (s:W2) (Q:Value->W2->Prop) (E:Value->W2->Prop),Q (.bool (g i j)) s->W8 (model X.prog X.w) X.A (f (.int i t) (.int j u)) Q E s) :
  bT X f (iz λi j=>.bl (g i j)):=by
 intro pins s σ H x y v u Q I rx ry h;obtain⟨i,j,rfl,rfl,q⟩:=h;obtain⟨t,rfl⟩:=rx;obtain⟨t',rfl⟩:=ry;exact rule i j t t' s _ _ ⟨.bl (g i j),H,I,rfl,q⟩
def A9(i j:Int):Prop:=0 < j/\j < 1073741824
def A_(i j:Int):Prop:=0<=j/\j<=1000000/\i.natAbs < 2 ^ 64
def pC(i j:Int):Prop:=(-(2 ^ 64) < i/\i < 2 ^ 64)\/(-(2 ^ 64) < j/\j < 2 ^ 64)
theorem pC.ok(h:pC i j):IntMulOk i j:=by
 rcases h with ⟨h1,h2⟩ | ⟨h1,h2⟩
 ·exact .of_left (intBits_le_64 h1 h2)
 ·exact .of_right (intBits_le_64 h1 h2)
theorem Ba:bT X (Qn .Add) (iz λi j=>.int (i + j)):=A8 λ_ _ _ _ _ _ _ q=>add_int q
theorem Bb:bT X (Qn .Sub) (iz λi j=>.int (i - j)):=A8 λ_ _ _ _ _ _ _ q=>sub_int q
theorem IB:bT X (Qn .Mult) (rI pC λi j=>.int (i * j)):=r9 λ_ _ _ _ _ _ _ hc q=>mul_int q hc.ok
theorem Bc:bT X (Qn .FloorDiv) (rI A9 λi j=>.int (i / j)):=r9 λi j _ _ _ _ _ hc q=>by
 have h1:(0:Int) < j:=hc.1;have h2:j < 1073741824:=hc.2;exact floordiv_int (by omega) (by rw[Int.fdiv_eq_ediv_of_nonneg i (by omega)]; exact q) (.inl (PyProof.noPylong_small (by omega)))
theorem ml:bT X (Qn .Mod) (rI (λ_ j=>0 < j) λi j=>.int (i % j)):=r9 λi j _ _ _ _ _ hc q=>by
 have h1:(0:Int) < j:=hc;exact mod_int' (by omega) (by rw[Int.fmod_eq_emod_of_nonneg i (by omega)]; exact q)
theorem IC:bT X (Qn .Pow) (rI A_ λi j=>.int (i ^ j.toNat)):=r9 λ_ _ _ _ _ _ _ hc q=>pow_int_small hc.1 hc.2.1 hc.2.2 q
end
section
variable {X:Cx} {a b c:Expr} {ta tb tc:TE} {pos:Pos}
theorem Be(I:Inv X pins σ H s)(q:Q (.bl k) H)(e:k=k'):EP X pins σ Q (.bool k') s:=by
 subst e;exact⟨.bl k,H,I,rfl,q⟩
theorem ID:bT X (WY .Lt) (iz λi j=>.bl (decide (i < j))):=uT λ_ _ _ _ _ _ _ q=>lt_int q
theorem IE:bT X (WY .Gt) (iz λi j=>.bl (decide (j < i))):=uT λ_ _ _ _ _ _ _ q=>gt_int q
theorem IF:bT X (WY .GtE) (iz λi j=>.bl (decide (j<=i))):=uT λ_ _ _ _ _ _ _ q=>ge_int q
theorem IG:bT X (WY .Lt) (λx y H Q=>∃ i j,x = .str i/\y = .str j/\Q (.bl (decide (i.cps.toList < j.cps.toList))) H):=by
 intro pins s σ H x y v u Q I rx ry h;obtain⟨i,j,rfl,rfl,q⟩:=h;obtain⟨t,rfl⟩:=rx;obtain⟨t',rfl⟩:=ry;exact lt_str (Be I q rfl)
theorem IH:bT X (WY .NotIn) (λx y H Q=>∃ i j,x = .str i/\y = .str j/\Q (.bl (!(!(Builtin.Str.occurrences j i 0 j.length 1).isEmpty))) H):=by
 intro pins s σ H x y v u Q I rx ry h;obtain⟨i,j,rfl,rfl,q⟩:=h;obtain⟨t,rfl⟩:=rx;obtain⟨t',rfl⟩:=ry;exact notIn_str (Be I q rfl)
theorem bT.or(h:bT X f r)(h':bT X f r'):bT X f (λx y H Q=>r x y H Q\/r' x y H Q):=by
 intro pins s σ H x y v u Q I rx ry q;rcases q with q | q
 ·exact h pins s σ H x y v u Q I rx ry q
 ·exact h' pins s σ H x y v u Q I rx ry q
theorem fu(b:Expr)(h:op≠.In:=by decide)(h2:op≠.NotIn:=by decide):QD op b=false:=by
 have e1:(op == CmpOp.In)=false:=by cases op <;> first | rfl | exact absurd rfl h
 have e2:(op == CmpOp.NotIn)=false:=by cases op <;> first | rfl | exact absurd rfl h2
 cases b <;> simp[QD,e1,e2]
theorem Bf{op:CmpOp}{r:R2}(ho:bT X (WY op) r)(ha:PE X a ta)(hb:PE X b tb)(hm:QD op b=false):PE X (.Compare a [op] [b] pos) (iX r ta tb):=by
 intro pins s σ H Q I h;exact wpAny_Compare1 (uR ha hb I h λv u s2 x y H2 I2 rx ry q=>ho pins s2 σ H2 x y v u Q I2 rx ry q) hm
def II(t:TE):TT:=λσ H Q=>t σ H λx H'=>∃ k,x = .bl k/\Q k H'
theorem Bg(ho:bT X (WY op) r)(ha:PE X a ta)(hb:PE X b tb)(hm:QD op b=false):PT X (.Compare a [op] [b] pos) (II (iX r ta tb)):=by
 intro pins s σ H Q I h;refine wpAny_isTrue_Compare1 (aV (ha pins s σ H _ I h) λv s1 ⟨x,H1,I1,r1,q1⟩=>aV (hb pins s1 σ H1 _ I1 q1) λu s2 ⟨y,H2,I2,r2,q2⟩ =>
  aV (ho pins s2 σ H2 x y v u _ I2 r1 r2 q2) λc s3 ⟨z,H3,I3,r3,k,e,q3⟩=>?_) hm
 subst e
 cases r3;exact QZ ⟨H3,I3,q3⟩
theorem nO:(Wb:Nat) < 2 ^ 63:=by rw[Qr]; decide
theorem IJ:bT X (Qn .Add) (λx y H Q=>∃ i j,x = .str i/\y = .str j/\i.length + j.length<=Wb/\Q (.str (i ++ j)) H):=by
 intro pins s σ H x y v u Q I rx ry h;obtain⟨i,j,rfl,rfl,hz,q⟩:=h;obtain⟨t,rfl⟩:=rx;obtain⟨t',rfl⟩:=ry;exact add_str (λt' tk=>⟨.str (i ++ j),H,I.tok _,⟨_,rfl⟩,q⟩) hz
theorem gB(r:Vals [x] us):∃ u,us=[u]/\RelV x u:=by
 cases r with
 | cons r1 r2=>cases r2; exact⟨_,rfl,r1⟩
theorem uU(r:Vals [x,y] us):∃ u w',us=[u,w']/\RelV x u/\RelV y w':=by
 cases r with
 | cons r1 r2 =>
  cases r2 with
  | cons r3 r4=>cases r4; exact⟨_,_,rfl,r1,r3⟩
theorem IK (hc:X.calm=true):eE X (.builtin "max") (λxs H Q=>∃ i j,xs=[.int i,.int j]/\Q (.int (if j > i then j else i)) H):=by
 intro pins s σ H xs us Q I r h;obtain⟨i,j,rfl,q⟩:=h;obtain⟨u,w',rfl,⟨t,rfl⟩,⟨t',rfl⟩⟩:=uU r;refine max_two_ints (I.ok.hd hc) λh' tk k=>⟨_,H,I.kept k,?_,q⟩
 by_cases hj:j > i
 ·rw[if_pos hj,if_pos hj]; exact⟨_,rfl⟩
 ·rw[if_neg hj,if_neg hj]; exact⟨_,rfl⟩
theorem IL:eE X (.type "int") (λxs H Q=>(∃ i,xs=[.int i]/\Q (.int i) H)\/∃ k,xs=[.bl k]/\Q (.int (if k then 1 else 0)) H):=by
 intro pins s σ H xs us Q I r h;rcases h with ⟨i,rfl,q⟩ | ⟨k,rfl,q⟩
 ·obtain⟨u,rfl,t,rfl⟩:=gB r;exact call_int_int ⟨.int i,H,I,⟨_,rfl⟩,q⟩
 ·obtain⟨u,rfl,r1⟩:=gB r
  cases r1;exact call_int_bool ⟨.int (if k then 1 else 0),H,I.tok _,⟨_,rfl⟩,q⟩
end
structure uV(h:Heap)(x dx C:Addr)(mA:Str->Option Value):Prop where
 obj:h.get? x=some (PySem.W.instObj C dx)
 ns:h.Ns1 dx mA
 ne:dx≠x
theorem Bh{h:Heap}{dx:Addr}{mA:Str->Option Value}(n:h.Ns1 dx mA):∃ od,h.get? dx=some od/\∀ name,PySem.W.lookIn name od=some (mA name):=by
 obtain⟨o,es,ep,ho,hd,hk,_,hm⟩:=n;refine⟨o,ho,λname=>?_⟩;have e:=hm name;unfold nsFind findBy at e;rw[<- Array.find?_toList] at e;unfold PySem.W.lookIn;rw[hd];dsimp only;split
 ·rename_i y q;rw[q] at e;exact congrArg some e
 ·rename_i q;rw[q] at e;have a:es.toList.any (·.refKey)=false:=by
   rw[JW];intro y hy;obtain⟨z,t,uW⟩:=hk y (Array.mem_toList_iff.mp hy);simp[DictEntry.refKey,uW]
  have a':¬ es.toList.any (·.refKey)=true:=by rw[a]; exact Q7
  rw[if_neg a'];exact congrArg some e
theorem uV.look(I:uV h x dx C mA):∃ od,PySem.W.InstAt h x (PySem.W.instObj C dx) C (some od)/\∀ name,PySem.W.lookIn name od=some (mA name) :=
 let ⟨od,ho,hl⟩:=Bh I.ns
 ⟨od,⟨I.obj,rfl,rfl,ho⟩,hl⟩
section
variable {prog:Wm} {w:Wq} {A:Wp} {E:Value->W2->Prop} {s:W2} {K:W1} {x dx C f:Addr} {mA:Str->Option Value} {name:Str} {v:Value}
end
theorem fH.some_of(r:fH (some v) o):∃ u,o=some u/\RelV v u:=by
 cases o with
 | none=>exact(show False from r).elim
 | some u=>exact⟨u,rfl,r⟩
theorem IM(r:RelV v u):PySem.W.handedIn u=true:=by
 cases v with
 | aN=>cases (show u=Value.none from r); rfl
 | bl b=>cases (show u=Value.bool b from r); rfl
 | int i=>obtain⟨t,e⟩:=(show ∃ t,u=Value.int i t from r); cases e; rfl
 | str x=>obtain⟨t,e⟩:=(show ∃ t,u=Value.str x t from r); cases e; rfl
 | byt b=>obtain⟨t,e⟩:=(show ∃ t,u=Value.bytes b t from r); cases e; rfl
 | flt b=>obtain⟨t,e⟩:=(show ∃ t,u=Value.float b t from r); cases e; rfl
 | ref a=>cases (show u=Value.ref a from r); rfl
 | ty n=>cases (show u=Value.type n from r); rfl
section
variable {P:Wm} {w:Wq} {H H':Hp} {h h':Heap} {a C dx:Addr} {fs HB:List (Str×V)}
theorem IP(aw:cM P w H h)(e:H a=some (.ins C dx fs)):∃ mA,uV h a dx C mA/\(∀ f,fH (fs.lookup f) (mA f))/\PySem.Within mA (fs.map (·.1))/\fs.length<=1000/\H dx=some (.own a):=by
 obtain⟨d,z,ne,ob,mA,n,r,q⟩:=(show bG P w H h a (.ins C dx fs) from aw a _ e)
 exact⟨mA,⟨ob,n,ne⟩,r,q,z,d⟩
end
structure uX(K:W1)(C:Addr):Prop where
 pg:PySem.W.plainGet K C Str.empty=true
 hd:JX K C=true
 po:PySem.W.plainOver K C=true
 sa:PySem.W.findIn K (.ref C) "__setattr__" = some (some (.builtin "object.__setattr__"))
theorem uX.get{K:W1}{C:Addr}(c:uX K C)(f:Str):PySem.W.plainGet K C f=true:=c.pg
section
variable {X:Cx} {pins:List (Addr×Obj)} {σ:St} {H:Hp} {s:W2} {a C dx:Addr} {fs:List (Str×V)} {f:Str} {v:V} {A:Wp} {E:Value->W2->Prop}
theorem IQ(hb:Q6 e f env (eval e env)=eval e env)
  (h:W8 (model prog w) A (eval e env) (λo s₁=>W8 (model prog w) A (getAttr o f true) Q E s₁) E s):W8 (model prog w) A (eval (.Attribute e f pos) env) Q E s :=
 Attribute_any_ h (by rw[arm_eval_Attribute,hb])
end
section
variable {X:Cx} {o e value:Expr} {f:Str} {pos pos' IS:Pos} {ta tv:TE}
end
section
variable {X:Cx} {pins:List (Addr×Obj)} {σ:St} {H:Hp} {s:W2} {A:Wp} {E:Value->W2->Prop} {Q:Value->W2->Prop} {c:Value} {b:Bool}
inductive iA (K:W1) (H:Hp):V->Value->Prop where
 | aN:iA K H .aN (.type "NoneType")
 | bl (x:Bool):iA K H (.bl x) (.type "bool")
 | int (i:Int):iA K H (.int i) (.type "int")
 | str (x:Str):iA K H (.str x) (.type "str")
 | flt (x:UInt64):iA K H (.flt x) (.type "float")
 | lst {a:Addr} {xs:List V} (e:H a=some (.lst xs)):iA K H (.ref a) (.type "list")
 | frz {a:Addr} {o:Obj} {xs:List V} (e:H a=some (.frz o (.lst xs))):iA K H (.ref a) (.type "list")
 | tup {a:Addr} {xs:List V} (e:H a=some (.tup xs)):iA K H (.ref a) (.type "tuple")
 | dK {a:Addr} {kvs:List (Key×V)} (e:H a=some (.dK kvs)):iA K H (.ref a) (.type "dict")
 | dT {a:Addr} {kvs:List (List Key×V)} (e:H a=some (.dT kvs)):iA K H (.ref a) (.type "dict")
 | ins {a C dx:Addr} {fs:List (Str×V)} (e:H a=some (.ins C dx fs)) (cl:uX K C) (ha:PySem.W.findIn K (.ref C) "__class__" = some (some (.builtin "object.__class__")))
   (hn:PySem.W.specialIn K (.builtin "object.__class__") "__get__" = some (some (.builtin "getset_descriptor.__get__"))) (Bi:PySem.W.takesIn K (.builtin "object.__class__")=some true)
   (hm:PySem.W.mroIn K C (.type "object")=some true):iA K H (.ref a) (.ref C)
theorem kS(I:Inv X pins σ H s)(rx:RelV x u)(ty:iA X.K H x t)(e:QG X.K t c=some b)(h:∀ tk,Q (.bool b) { s with toks:=tk }) :
  W8 (model X.prog X.w) A (call (.builtin "isinstance") [u,c]) Q E s:=by
 cases ty with
 | aN=>cases (show u=Value.none from rx); exact Q8 PySem.W.kitx_none I.cW True.intro e (λz=>nomatch z) h
 | bl y=>cases (show u=Value.bool y from rx); exact Q8 PySem.W.kitx_bool I.cW True.intro e (λz=>nomatch z) h
 | int i=>obtain⟨t,q⟩:=(show ∃ t,u=Value.int i t from rx); cases q; exact Q8 PySem.W.kitx_int I.cW True.intro e (λz=>nomatch z) h
 | str y=>obtain⟨t,q⟩:=(show ∃ t,u=Value.str y t from rx); cases q; exact Q8 PySem.W.kitx_str I.cW True.intro e (λz=>nomatch z) h
 | flt y=>obtain⟨t,q⟩:=(show ∃ t,u=Value.float y t from rx); cases q; exact Q8 PySem.W.kitx_float I.cW True.intro e (λz=>nomatch z) h
 | @lst a xs ea =>
  cases (show u=Value.ref a from rx);obtain⟨_,_,n,_,h1⟩:=(show bG X.prog X.w H s.heap a (.lst xs) from I.aw a _ ea)
  exact Q8 PySem.W.kitx_list I.cW ⟨_,h1,rfl⟩ e (λz=>nomatch z) h
 | @frz a ob xs ea =>
  cases (show u=Value.ref a from rx);obtain⟨_,_,_,n,_,h1⟩:=(show bG X.prog X.w H s.heap a (.frz ob (.lst xs)) from I.aw a _ ea)
  exact Q8 PySem.W.kitx_list I.cW ⟨_,h1,rfl⟩ e (λz=>nomatch z) h
 | @tup a xs ea =>
  cases (show u=Value.ref a from rx);obtain⟨_,_,_,p⟩:=(show bG X.prog X.w H s.heap a (.tup xs) from I.aw a _ ea)
  obtain⟨o,h1,h2,_⟩:=p.tup;exact Q8 PySem.W.kitx_tuple I.cW ⟨o,h1,h2⟩ e (λz=>nomatch z) h
 | @dK a kvs ea =>
  cases (show u=Value.ref a from rx);obtain⟨_,_,vs,_,p⟩:=(show bG X.prog X.w H s.heap a (.dK kvs) from I.aw a _ ea)
  obtain⟨o,es,ep,h1,h2,_⟩:=p;exact Q8 PySem.W.kitx_dict I.cW ⟨o,h1,h2.1⟩ e (λz=>nomatch z) h
 | @dT a kvs ea =>
  cases (show u=Value.ref a from rx);obtain⟨_,_,xs,_,o,es,ep,h1,h2,_⟩:=(show bG X.prog X.w H s.heap a (.dT kvs) from I.aw a _ ea)
  exact Q8 PySem.W.kitx_dict I.cW ⟨o,h1,h2.1⟩ e (λz=>nomatch z) h
 | @ins a C dx fs ea cl ha hn Bi hm =>
  cases (show u=Value.ref a from rx);obtain⟨mA,O,_⟩:=IP I.aw ea;obtain⟨od,J,_⟩:=O.look;exact Q8 (PySem.W.kitx_own (cl.get _) cl.hd ha hn Bi hm) I.cW J e (λz=>nomatch z) h
end
structure cG(k:Nat)(A:Wp):Prop where
 hd:A.handled=none
 dp:A.depth + 3 * k + 5 < recursionLimit
 un:A.units + 16 * k + 200 < Qp
theorem cG.mono(r:cG k A)(h:j<=k):cG j A:=⟨r.hd,by have:=r.dp; omega,by have:=r.un; omega⟩
theorem cG.deeper(r:cG (k + 1) A)(env:Env):cG k (A.deeper env) :=
 ⟨r.hd,by have:=r.dp; show A.depth + 1 + 3 * k + 5 < _; omega,by have:=r.un; show A.units + 3 + 16 * k + 200 < _; omega⟩
theorem IT {A:Wp} {C:Addr} {us:List Value} {kw:List (Str×Value)}:(A.under (.builtin "type.__call__" ⟨.ref C :: us,kw⟩)).depth=A.depth + 1:=by
 first | rfl | simp[Around.under,Code.weight,Code.isCreation,Code.isGuard,Code.isCaller,Code.frames,Code.isFrame,guardIds]
theorem IU {A:Wp} {C:Addr} {us:List Value} {kw:List (Str×Value)}:(A.under (.builtin "type.__call__" ⟨.ref C :: us,kw⟩)).units=A.units + 1:=by
 first | rfl | simp[Around.under,Code.cUnits,Code.frames,Code.isFrame]
theorem cG.make (r:cG (k + 1) A) (C:Addr) (us:List Value) (kw:List (Str×Value)):cG k (A.under (.builtin "type.__call__" ⟨.ref C :: us,kw⟩)) :=
 ⟨r.hd,by have:=r.dp; rw[IT]; omega,by have:=r.un; rw[IU]; omega⟩
theorem cG.depth(r:cG k A):A.depth < recursionLimit:=by have:=r.dp; omega
def Bj:TA:=λ_ H Q=>Q [] H
def Bk(ta:TE)(tr:TA):TA:=λσ H Q=>ta σ H λx H1=>tr σ H1 λxs H2=>Q (x :: xs) H2
section
variable {X:Cx} {e:Expr} {es:List Expr} {te:TE} {t:TA} {pos:Pos}
theorem eU:PA X [] Bj:=λ_ _ _ _ H Q I h=>Calls.spliced_nil ⟨[],H,I,.nil,h⟩
theorem dt(ha:PE X e te)(hr:PA X es t)(hs:W7 (e :: es) X.env=(false,eval e X.env) :: W7 es X.env:=by rfl):PA X (e :: es) (Bk te t):=by
 intro pos pins s σ H Q I h;rw[hs];show W8 _ _ (spliced ((false,eval e X.env) :: WU pos (W7 es X.env))) _ _ s;refine Calls.spliced_cons (aV (ha pins s σ H _ I h) λu s1 ⟨x,H1,I1,r1,q1⟩=>?_);exact aV (hr pos pins s1 σ H1 _ I1 q1) λus s2 ⟨xs,H2,I2,r2,q2⟩=>⟨x :: xs,H2,I2,.cons r1 r2,q2⟩
def IV(t:TA):TE:=λσ H Q=>t σ H λxs H1=>xs.length<=Wb/\∀ p,H1 p=none->Q (.ref p) (upd H1 p (.tup xs))
def IW(t:TA):TE:=λσ H Q=>t σ H λxs H1=>xs.length<=Wb/\∀ p,H1 p=none->Q (.ref p) (upd H1 p (.lst xs))
theorem IX{x1}(h:PA X es t):PE X (.Tuple es x1 pos) (IV t):=by
 intro pins s σ H Q I hq;refine wpAny_Tuple_spliced (aV (h pos pins s σ H _ I hq) λus s1 ⟨xs,H1,I1,r,z,q⟩=>⟨by rw[<- r.length]; exact z,?_⟩);have hf:H1 s1.heap.objs.size=none:=I1.aw.fresh (Wg _);refine⟨.ref s1.heap.objs.size,upd H1 s1.heap.objs.size (.tup xs),I1.laid (t':=s1.toks) (λb u e=>W5 _ e) (Wg _) ?_,rfl,q _ hf⟩;exact⟨z,us,r,⟨_,Wj _ rfl⟩⟩
theorem IY(h:PA X es t):PE X (.List es pos) (IW t):=by
 intro pins s σ H Q I hq;refine wpAny_List_spliced (aV (h pos pins s σ H _ I hq) λus s1 ⟨xs,H1,I1,r,z,q⟩=>⟨by rw[<- r.length]; exact z,?_⟩);have hf:H1 s1.heap.objs.size=none:=I1.aw.fresh (Wg _);refine⟨.ref s1.heap.objs.size,upd H1 s1.heap.objs.size (.lst xs),I1.laid (t':=s1.toks) (λb u e=>W5 _ e) (Wg _) ?_,rfl,q _ hf⟩;exact⟨z,us,0,r,Wj _ rfl⟩
end
abbrev Sp:=List V->Hp->VK->XK->Prop
abbrev iB:=List Env->Hp->W2->XK->Value->W2->Prop
structure ka(P:Wm)(w:Wq)(K:W1)(mg:Str->Option Value)(base:Heap)(A:Wp)(outer:List Env)(s:W2)(H:Hp):Prop where
 frames:A.frames=some outer
 mod:Mod K mg base
 bs:∀ b o,base.get? b=some o->s.heap.get? b=some o/\H b=none
 gR:base.objs.size<=s.heap.objs.size
 fQ:s.heap.FunFrames base outer
 iT:∀ b ∈ eM outer,H b=none
 aw:cM P w H s.heap
 bare:AllBare s.gens
def CE(outer:List Env)(P:Wm)(w:Wq)(H:Hp)(s:W2)(Q:VK)(u:Value)(s':W2):Prop :=
 ∃ v H',s'.os=s.os/\AllBare s'.gens/\Un (eM outer) [] H H' s.heap s'.heap/\cM P w H' s'.heap/\RelV v u/\Q v H'
def CR(CX:iB)(outer:List Env)(P:Wm)(w:Wq)(H:Hp)(s:W2)(Q:VK)(E:XK)(r:Result)(s':W2):Prop :=
 match r with
 | .ok (.ret u)=>CE outer P w H s Q u s'
 | .ok _=>False
 | .error e=>CX outer H s E e s'
structure eV(P:Wm)(w:Wq)(K:W1)(mg:Str->Option Value)(base:Heap)(CX:iB)(k:Nat)(f:Addr)(fd:WP)(ps:List Str)(sp:Sp):Prop where
 len:∀ vs H Q E,sp vs H Q E->vs.length=ps.length
 run:∀ (A:Wp) (outer:List Env) (s:W2) (H:Hp) (args:Args) (us:List Value) (vs:List V) (Q:VK) (E:XK),cG k A->ka P w K mg base A outer s H->BindsTo s fd args (ps.zip us)->Vals vs us->sp vs H Q E ->
  Qa (model P w) A (.call (.ref f) args) (CR CX outer P w H s Q E) s
theorem ka.make{P:Wm}{w:Wq}{K:W1}{mg:Str->Option Value}{base:Heap}{A:Wp}{outer:List Env}{s:W2}{H:Hp}(e:ka P w K mg base A outer s H)(C:Addr)(us:List Value)(kw:List (Str×Value)) :
  ka P w K mg base (A.under (.builtin "type.__call__" ⟨.ref C :: us,kw⟩)) outer s H:=⟨by first | exact e.frames | (simpa[Around.under,Code.envs,Code.isFrame,pushEnvs] using e.frames),e.mod,e.bs,e.gR,e.fQ,e.iT,e.aw,e.bare⟩
section
variable {X:Cx} {pins:List (Addr×Obj)} {σ:St} {H:Hp} {s s':W2}
theorem Inv.r_(I:Inv X pins σ H s):ka X.prog X.w X.K X.mg X.base X.A X.stack s H :=
 ⟨I.ok.frames,I.ok.mod,I.bs,WK I.ok.gR I.sz,I.stack,I.rO,I.aw,I.bare⟩
theorem Inv.after(I:Inv X pins σ H s)(h:CE X.stack X.prog X.w H s Q u s'):EP X pins σ Q u s':=by
 obtain⟨v,H',os,bare,un,aw,r,q⟩:=h;obtain⟨hh,g,d,t,os'⟩:=s';obtain rfl:os'=s.os:=os;exact⟨v,H',I.call (h':=hh) (g':=g) (d':=d) (t':=t) (ch:=[]) un aw bare (λb z=>absurd z (by simp)),r,q⟩
end
def uY(sp:Sp)(kT:List V)(E:XK)(t:TA):TE:=λσ H Q=>t σ H λvs H1=>sp (vs ++ kT) H1 Q E
def Binds(K:W1)(fd:WP)(ps:List Str)(ds:List Value):Prop :=
 ∀ (s:W2) (us:List Value),K.In s.heap->(us ++ ds).length=ps.length->BindsTo s fd ⟨us,[]⟩ (ps.zip (us ++ ds))
theorem Binds.all{K:W1}{fd:WP}{ps:List Str}(h:∀ us:List Value,us.length=ps.length->bindArgs fd ⟨us,[]⟩=pure (ps.zip us)):Binds K fd ps []:=λs us _ hl=>by
 rw[Q0] at hl ⊢;exact .of_eq (h us hl)
def uZ(CX:iB)(X:Cx)(E:XK):Prop:=∀ (pins:List (Addr×Obj)) (σ:St) (H:Hp) (s:W2) (e:Value) (s':W2),Inv X pins σ H s->CX X.stack H s E e s'->X.xe e s'
section
variable {X:Cx} {CX:iB} {k:Nat} {f C:Addr} {fd:WP} {ps:List Str} {sp:Sp} {kT:List V} {ds:List Value} {E:XK} {x m:Str} {p pos apos:Pos} {e o:Expr} {es:List Expr} {ta:TE} {t:TA}
theorem IZ(F:eV X.prog X.w X.K X.mg X.base CX k f fd ps sp)(hr:cG k X.A)(hb:Binds X.K fd ps ds)(hd:Vals kT ds)(hx:uZ CX X E)
  (I:Inv X pins σ H s) (r:Vals vs us) (h:sp (vs ++ kT) H Q E):W8 (model X.prog X.w) X.A (call (.ref f) us) (EP X pins σ Q) X.xe s:=by
 have r2:Vals (vs ++ kT) (us ++ ds):=r.append hd;have hl:(us ++ ds).length=ps.length:=by rw[<- r2.length]; exact F.len _ _ _ _ h
 refine wpAny_call (QV (F.run X.A X.stack s H ⟨us,[]⟩ (us ++ ds) (vs ++ kT) Q E hr I.r_ (hb s us I.cW hl) r2 h) λr s' hq=>?_)
 cases r with
 | error e=>exact hx pins σ H s e s' I hq
 | ok fl =>
  cases fl with
  | ret u=>exact I.after hq
  | next=>exact False.elim hq
  | brk=>exact False.elim hq
  | cont=>exact False.elim hq
theorem zev(F:eV X.prog X.w X.K X.mg X.base CX k f fd ps sp)(hr:cG k X.A)(hg:Gl X x)(hm:X.mg x=some (.ref f))(hk:QH X.K (.ref f)=true)(hb:Binds X.K fd ps ds)(hd:Vals kT ds)(hx:uZ CX X E)
  (ha:PA X (e :: es) t) (da:(x == ("__debug__" : Str))=false:=by decide) (he:W7 (e :: es) X.env=(false,eval e X.env) :: W7 es X.env:=by rfl) (bE:(WU pos (W7 es X.env)).any (·.1)=false:=by rfl) :
  PE X (.Call (.Name x p) (e :: es) [] pos) (uY sp kT E t):=by
 intro pins s σ H Q I h;refine QW (nN I hg hm ?_ da);refine PySem.W.callWith_K (h₀:=X.base) I.ok.mod.ma hk (aV (ha pos pins s σ H _ I h) λus s1 ⟨vs,H1,I1,r,q⟩=>⟨I1.cW,?_⟩) he bE;exact IZ F hr hb hd hx I1 r q
end
section
variable {X:Cx} {CX:iB} {k:Nat} {f C:Addr} {fd:WP} {ps ks:List Str} {sp:Sp} {E:XK} {x m:Str} {p pos apos Vo:Pos} {e o:Expr} {es:List Expr} {Vp:List Keyword} {te ta:TE} {t tk:TA} {nm:Option Str}
variable {g:List Value->List Value->List Value} {gV:List V->List V->List V}
end
structure cA(N P:List Str)(sc:Scope):Prop where
 kind:sc.kind = .function
 co:sc.isCoroutine=false
 gen:sc.isGenerator=false
 nd:N.Nodup
 pre:N.take P.length=P
 par:∀ x ∈ P,sc.names.lookup x=some .local\/sc.names.lookup x=some .cell
 u0:∀ y ∈ sc.names,y.2≠.free
theorem scc{N P:List Str}{sc:Scope}(kind:sc.kind = .function:=by rfl)(co:sc.isCoroutine=false:=by rfl)(gen:sc.isGenerator=false:=by rfl)(nd:N.Nodup:=by decide +kernel)(pre:N.take P.length=P:=by rfl)(par:∀ x ∈ P,sc.names.lookup x=some .local\/sc.names.lookup x=some .cell:=by decide +kernel)(u0:∀ y ∈ sc.names,y.2≠.free:=by decide +kernel):cA N P sc:=⟨kind,co,gen,nd,pre,par,u0⟩
theorem Bl{kindOf:Str->Option NameKind}{x:Str}:∀ {binds:List (Str×Value)} {m:Str->Option Value},(∀ v,(x,v) ∉ binds)->bindL kindOf binds m x=m x
 | [],_,_=>rfl
 | (n,v) :: r,m,h=>by
  unfold bindL;rw[Bl λw hw=>h w (W9 _ hw)];split
  ·have:x≠n:=by rintro rfl; exact h v Wf
   simp[this]
  ·rfl
theorem Bm{kindOf:Str->Option NameKind}{x:Str}:∀ {binds:List (Str×Value)} {m:Str->Option Value},(∀ v,(x,v) ∉ binds)->bindC kindOf binds m x=m x
 | [],_,_=>rfl
 | (n,v) :: r,m,h=>by
  unfold bindC;rw[Bm λw hw=>h w (W9 _ hw)];split
  ·rfl
  ·have:x≠n:=by rintro rfl; exact h v Wf
   simp[this]
theorem Bn{kindOf:Str->Option NameKind}{x:Str}{v:Value}:∀ {P:List Str} {vs:List Value} {i:Nat} {m:Str->Option Value},P.Nodup->P[i]? = some x->vs[i]? = some v->kindOf x=some .local ->
  bindL kindOf (P.zip vs) m x=some v
 | [],_,_,_,_,h,_,_=>by simp at h
 | _ :: _,[],_,_,_,_,h,_=>by simp at h
 | p :: P,w :: vs,0,m,nd,h1,h2,hk=>by
  simp at h1 h2; subst h1; subst h2
  show bindL kindOf ((p,w) :: P.zip vs) m p=_;unfold bindL;rw[Bl λv hv=>(WR.mp nd).1 (U5 hv).1,if_pos hk];simp
 | p :: P,w :: vs,i + 1,m,nd,h1,h2,hk=>by
  show bindL kindOf ((p,w) :: P.zip vs) m x=_;unfold bindL;exact Bn (i:=i) (WR.mp nd).2 (by simpa using h1) (by simpa using h2) hk
theorem Bo{kindOf:Str->Option NameKind}{x:Str}{v:Value}:∀ {P:List Str} {vs:List Value} {i:Nat} {m:Str->Option Value},P.Nodup->P[i]? = some x->vs[i]? = some v->kindOf x≠some .local ->
  bindC kindOf (P.zip vs) m x=some v
 | [],_,_,_,_,h,_,_=>by simp at h
 | _ :: _,[],_,_,_,_,h,_=>by simp at h
 | p :: P,w :: vs,0,m,nd,h1,h2,hk=>by
  simp at h1 h2; subst h1; subst h2
  show bindC kindOf ((p,w) :: P.zip vs) m p=_;unfold bindC;rw[Bm λv hv=>(WR.mp nd).1 (U5 hv).1,if_neg hk];simp
 | p :: P,w :: vs,i + 1,m,nd,h1,h2,hk=>by
  show bindC kindOf ((p,w) :: P.zip vs) m x=_;unfold bindC;exact Bo (i:=i) (WR.mp nd).2 (by simpa using h1) (by simpa using h2) hk
def start(N:List Str)(vs:List V):St:=vs.map some ++ Wa (N.length - vs.length) none
def fI(CX:iB)(P:Wm)(w:Wq)(K:W1)(mg:Str->Option Value)(base:Heap)(N:List Str)(qual:Str)(scope:Scope)(f:Addr)(cd:Value)(A:Wp)(outer:List Env)(s:W2)(H:Hp)(E:XK):Cx where
 prog:=P
 w:=w
 K:=K
 mg:=mg
 base:=base
 A:=A.deeper (Jf qual scope s.heap.objs.size f cd)
 N:=N
 s₀:=s
 H₀:=H
 env:=Jf qual scope s.heap.objs.size f cd
 outer:=outer
 stack:=Jf qual scope s.heap.objs.size f cd :: outer
 ex:=[]
 calm:=true
 fn:=λ_=>true
 pn:=[]
 xe:=λe s'=>W8 (model P w) (A.deeper (Jf qual scope s.heap.objs.size f cd)) (leaving (Jf qual scope s.heap.objs.size f cd) e) (λ_ mn=>CX outer H s E e mn) (λe' mn=>CX outer H s E e' mn) s'
theorem Bp{sc:Scope}{n:Nat}{x:Str}(h:sc.names.lookup x=some .cell):∃ c,(Qy n sc.names []).lookup x=some c:=by
 have q:=Ju sc.names n [] (.inl h);exact QM.mp q
theorem Bq{CX:iB}{P:Wm}{w:Wq}{K:W1}{mg:Str->Option Value}{base:Heap}{N ps:List Str}{qual:Str}{scope:Scope}{f:Addr}{cd:Value}{A:Wp}{outer:List Env}{s s1:W2}{H:Hp}{E:XK}{us:List Value}{vs:List V}
  (S:cA N ps scope) (hd:A.handled=none) (e0:ka P w K mg base A outer s H) (hl:vs.length=ps.length) (r:Vals vs us)
  (x:InCallC s s.heap.objs.size (bindL (Jf qual scope s.heap.objs.size f cd).kindOf (ps.zip us) λ_=>none) (Qy (s.heap.objs.size + 1) scope.names []) (bindC (Jf qual scope s.heap.objs.size f cd).kindOf (ps.zip us) λ_=>none) s1) :
  Inv (fI CX P w K mg base N qual scope f cd A outer s H E) [] (start N vs) H s1:=by
 have bE:ps.length<=N.length:=by have:=congrArg Jv S.pre; rw[JA] at this; omega
 obtain⟨h1,tk,rfl,hk⟩:=x.done;have pD:∀ b:Addr,b ∉ (fI CX P w K mg base N qual scope f cd A outer s H E).ex:=λb z=>absurd (show b ∈ ([]:List Addr) from z) (by simp)
 refine⟨⟨e0.mod,S.kind,rfl,rfl,Wg _,λy z c h1 h2=>?_,λy hy=>?_,λy c _ h=>?_,λ_=>hd,Around.frames_deeper e0.frames,.inr ⟨rfl,rfl⟩,λb z=>absurd z (pD b),e0.bs,e0.gR,λb _ _=>pD b,λb z=>absurd z (pD b),e0.fQ,e0.iT⟩,
  rfl,e0.bare,Un.kept hk,⟨_,x.toInCall.ns,λi y v h1 h2 h3=>?_⟩,λy c h=>⟨_,x.cell y c h⟩,e0.aw.fresh (Wg _),λy c h=>?_,λp hp=>absurd (show p ∈ ([]:List (Addr×Obj)) from hp) (by simp),e0.aw.kept hk,?_⟩
 ·exact name_of_addr x.apart (Wz h1) (Wz h2)
 ·have hy:scope.names.lookup y=some .cell\/scope.names.lookup y=some .free:=hy;rcases hy with hy | hy
  ·exact Bp hy
  ·exact absurd rfl (S.u0 _ (Wz hy))
 ·exact QU (x.above y c (Wz h))
 ·have hi:i < vs.length:=by
   unfold start at h2;by_cases hi:i < vs.length
   ·exact hi
   ·rw[List.getElem?_append_right (by simpa using hi)] at h2;rw[List.getElem?_replicate] at h2;split at h2 <;> cases h2
  have ha:vs[i]? = some v:=by
   unfold start at h2;rw[J5 (by simpa using hi),Ww] at h2
   cases e:vs[i]? with
   | none=>rw[e] at h2; cases h2
   | some a=>rw[e] at h2; cases h2; rfl
  obtain⟨u,hu,rv⟩:=r.get ha;have hp:ps[i]? = some y:=by
   rw[<- S.pre,Jg (by omega)]; exact h1
  have Br:ps.Nodup:=by rw[<- S.pre]; exact S.nd.sublist (List.take_sublist _ _)
  refine⟨u,rv,?_⟩;rcases S.par y (WF hp) with k | k
  ·exact .inl ⟨k,Bn Br hp hu k⟩
  ·obtain⟨c,e⟩:=Bp (n:=s.heap.objs.size + 1) k;refine .inr ⟨.inl k,c,e,?_⟩;have q:=x.cell y c e;rw[Bo Br hp hu (by show scope.names.lookup y≠_; rw[k]; decide)] at q;exact q
 ·exact e0.aw.fresh (QU (x.above y c (Wz h)))
 ·unfold start;show _=N.length;rw[WZ,Wy,List.length_replicate];omega
theorem Bs{CX:iB}{P:Wm}{w:Wq}{K:W1}{mg:Str->Option Value}{base:Heap}{k:Nat}{f:Addr}{name qual:Str}{params:Arguments}{body:List Stmt}{scope:Scope}{dV kV doc pm aL ct oc:Value}{an od:Option Addr}
  {jC:Array (Option Value)} {N ps:List Str} {sp:Sp} (lk:K.lookup f=some ⟨oc,od,.func (QC name qual params body scope dV kV doc pm an aL ct),jC⟩) (dP:PySem.W.codeIn K aL qual=true) (S:cA N ps scope)
  (len:∀ vs H Q E,sp vs H Q E->vs.length=ps.length)
  (eW:∀ (A:Wp) (outer:List Env) (s:W2) (H:Hp) (vs:List V) (Q:VK) (E:XK),cG k (A.deeper (Jf qual scope s.heap.objs.size f aL))->sp vs H Q E ->
   ∃ t,dC (fI CX P w K mg base N qual scope f aL A outer s H E) body t/\t { nx:=λ_ H'=>Q .aN H',rt:=Q } (start N vs) H) :
  eV P w K mg base CX (k + 1) f (QC name qual params body scope dV kV doc pm an aL ct) ps sp:=by
 refine⟨len,λA outer s H args us vs Q E hr e0 hb r iY=>?_⟩;have hl:=len _ _ _ _ iY;have KX:K.In s.heap:=e0.mod.ma.keeps λb o e=>(e0.bs b o e).1
 have lim:s.heap.NoLimit:=e0.mod.nolimit.keeps λb o e=>(e0.bs b o e).1
 have u2:∀ y ∈ ps.zip us,scope.names.lookup y.1=some .local\/(scope.names.lookup y.1=some .cell/\((Qy (s.heap.objs.size + 1) scope.names []).lookup y.1).isSome=true):=λ⟨n,v⟩ hy=>by
  rcases S.par n (U5 hy).1 with q | q
  ·exact .inl q
  ·exact .inr ⟨q,Ju _ _ _ (.inl q)⟩
 refine codeAny_call_function hr.depth (KX _ _ lk) rfl S.co S.gen rfl (PySem.W.codeRec_of KX dP) (hb _ _ _ _ ?_);refine wpAny_newFunctionEnv_cells S.kind u2 λenv he s1 x=>?_
 subst he;refine⟨lim.keeps x.toInCall.keep,codeAny_func ?_⟩;obtain⟨t,ht,hq⟩:=eW A outer s H vs Q E (hr.deeper _) iY;have I:Inv (fI CX P w K mg base N qual scope f aL A outer s H E) [] (start N vs) H s1:=Bq S hr.hd e0 hl r x;refine WC (ht [] s1 (start N vs) H _ I hq) (λfl s' hs=>?_) λe s' hs=>hs
 have fin:∀ {σ':St} {H':Hp} {v:V} {u:Value},Inv (fI CX P w K mg base N qual scope f aL A outer s H E) [] σ' H' s'->RelV v u->Q v H'->CE outer P w H s Q u s' :=
  λ{σ' H' v u} J rv q=>⟨v,H',J.os,J.bare,J.base,J.aw,rv,q⟩
 cases fl with
 | ret u =>
  obtain⟨v,σ',H',J,rv,q⟩:=hs;exact fin J rv q
 | next =>
  obtain⟨σ',H',J,q⟩:=hs;exact fin (v:=V.aN) (u:=Value.none) J rfl q
 | brk =>
  obtain⟨_,_,_,q⟩:=hs;exact False.elim q
 | cont =>
  obtain⟨_,_,_,q⟩:=hs;exact False.elim q
section
variable {X:Cx} {x:Str} {p pos:Pos} {e:Expr} {es:List Expr} {t:TA} {id T:String} {r:List V->Hp->VK->Prop}
def Bt(r:List V->Hp->VK->Prop)(t:TA):TE:=λσ H Q=>t σ H λvs H1=>r vs H1 Q
theorem nP (hc:eE X (.builtin id) r) (hg:Gl X x) (hm:X.mg x=none) (hv:Qj x=some (.builtin id)) (ha:PA X (e :: es) t) (hn:x≠"__name__":=by decide) (da:(x == ("__debug__" : Str))=false:=by decide)
  (he:W7 (e :: es) X.env=(false,eval e X.env) :: W7 es X.env:=by rfl) (bE:(WU pos (W7 es X.env)).any (·.1)=false:=by rfl):PE X (.Call (.Name x p) (e :: es) [] pos) (Bt r t):=by
 intro pins s σ H Q I h;refine QW (mj I hg hm hv ?_ hn da);exact PyProof.Rows.callWith_builtin1 (aV (ha pos pins s σ H _ I h) λus s1 ⟨vs,H1,I1,r1,q1⟩=>hc pins s1 σ H1 vs us Q I1 r1 q1) he bE
theorem Bu (hc:eE X (.type T) r) (hg:Gl X x) (hm:X.mg x=none) (hv:Qj x=some (.type T)) (ha:PA X (e :: es) t) (hn:x≠"__name__":=by decide) (da:(x == ("__debug__" : Str))=false:=by decide)
  (he:W7 (e :: es) X.env=(false,eval e X.env) :: W7 es X.env:=by rfl) (bE:(WU pos (W7 es X.env)).any (·.1)=false:=by rfl):PE X (.Call (.Name x p) (e :: es) [] pos) (Bt r t):=by
 intro pins s σ H Q I h;refine QW (mj I hg hm hv ?_ hn da);exact Qx (aV (ha pos pins s σ H _ I h) λus s1 ⟨vs,H1,I1,r1,q1⟩=>hc pins s1 σ H1 vs us Q I1 r1 q1) he bE
end
end L2
namespace HT
open PySem PyProof.Rows
section
open PySem.SeqAt
open PySem.AutoSeq1 (wpAny_loadPart')
open PySem.MeetsSeq PySem.MeetsSeq2 PySem.MeetsSeq3
end
section
variable {prog:Wm} {w:Wq} {A:Wp} {E:Value->W2->Prop} {s:W2}
theorem I0(ht:IsTup s.heap t vs.toArray)(hb:IsTup s.heap b ws.toArray)(hv:vs≠[])
  (h1:ws=[]->Q (.ref t) s) (h2:ws≠[]->Q (.ref s.heap.objs.size) { s with heap:=s.heap.push { cls:=.type "tuple",data:=.seq (vs ++ ws).toArray } })
  (hsz:vs.length + ws.length<=Wb):W8 (model prog w) A (Qn .Add (.ref t) (.ref b)) Q E s:=by
 obtain⟨⟨cls,dd,data,sl⟩,ho,hc,n,hd⟩:=id ht;obtain⟨⟨cls2,dd2,data2,sl2⟩,kb,iC,n2,hd2⟩:=id hb;simp only at hc hd iC hd2;subst hc hd iC hd2;have e:vs.toArray ++ ws.toArray=(vs ++ ws).toArray:=by simp
 by_cases hw:ws=[]
 ·exact concat_meets ⟨_,ho,rfl⟩ ⟨_,kb,rfl⟩ noFill_tuple_add seq_tuple_add PySem.F.slot_tuple_add PySem.F.entry_tuple_add (PySem.F.args_tuple_add_2 _ _)
   (tuple_addW1 t b vs.toArray ws.toArray n n2 dd dd2 sl sl2 (by simpa using hv) (by simp[hw])) ⟨ho,kb,h1 hw⟩
 ·refine concat_meets ⟨_,ho,rfl⟩ ⟨_,kb,rfl⟩ noFill_tuple_add seq_tuple_add PySem.F.slot_tuple_add PySem.F.entry_tuple_add (PySem.F.args_tuple_add_2 _ _)
   (tuple_addW2 t b vs.toArray ws.toArray n n2 dd dd2 sl sl2 (by simpa using hv) (by simpa using hw) (by rw[Wn,Wn]; exact hsz)) ⟨ho,kb,?_⟩
  rw[e];exact h2 hw
def aX(n d:Nat):Option Int->Nat
 | none=>d
 | some v=>if v < 0 then(v + (n:Int)).toNat else min v.toNat n
theorem u4(n d:Nat)(hd:d<=n)(o:Option Int):aX n d o<=n:=by
 cases o with
 | none=>exact hd
 | some v =>
  show(if v < 0 then(v + (n:Int)).toNat else min v.toNat n)<=n;by_cases hv:v < 0
  ·rw[if_pos hv]; omega
  ·rw[if_neg hv]; exact Nat.min_le_right _ _
theorem Bv(v:Int)(n d:Nat):(if v < 0 then max (v + (n:Int)) 0 else min v (n:Int))=((aX n d (some v):Nat):Int):=by
 show(if v < 0 then max (v + (n:Int)) 0 else min v (n:Int))=(((if v < 0 then(v + (n:Int)).toNat else min v.toNat n):Nat):Int);by_cases hv:v < 0
 ·simp only[if_pos hv]; omega
 ·simp only[if_neg hv]; omega
theorem I_(lo hi:Option Int)(n:Nat):Builtin.Slice.sliceAdjust lo hi 1 (n:Int)=(((aX n 0 lo:Nat):Int),((aX n n hi:Nat):Int)):=by
 have h1:¬ ((1:Int) < 0):=by omega
 unfold Builtin.Slice.sliceAdjust;simp only[h1,if_false];refine Prod.ext ?_ ?_
 ·cases lo with
  | none=>rfl
  | some v=>exact Bv v n 0
 ·cases hi with
  | none=>rfl
  | some v=>exact Bv v n n
theorem J_(i j:Nat):J9 (i:Int) (j:Int) 1=j - i:=by
 unfold J9;have h1:(1:Int) > 0:=by omega
 simp only[h1,if_true,Int.ediv_one];split <;> omega
theorem Bw(p:IsPart v o)(h:Q o s):W8 (model prog w) A (Builtin.Slice.slicePartIndex v) Q E s:=by
 cases p with
 | none=>exact slicePart_none h
 | int i t=>exact slicePart_int h
theorem Bx{sl:Addr}{vl vu:Value}{lo hi:Option Int}{n:Nat}{Q:Int×Int×Nat->W2->Prop}(hs:s.heap.IsSliceOf sl vl vu .none)(pl:IsPart vl lo)(pu:IsPart vu hi)
  (h:Q (((aX n 0 lo:Nat):Int),1,aX n n hi - aX n 0 lo) s):W8 (model prog w) A (Builtin.Slice.sliceApplied (.ref sl) (pure (n:Int))) Q E s:=by
 obtain⟨os,hos,hcs,hds⟩:=id hs;unfold Builtin.Slice.sliceApplied Builtin.Slice.sliceFields;refine W0 (W0 (Qg hos hds (x:=vl) rfl (W0 (Qg hos hds (x:=vu) rfl (W0 (Qg hos hds (x:=.none) rfl (W4 ?_)))))));refine W0 (slicePart_none ?_);show W8 _ _ (if ((1:Int) == 0)=true then _ else _) _ _ s;rw[if_neg (by decide)];refine W0 (Bw pl (W0 (Bw pu (W0 (W4 ?_)))));show W8 _ _ (match Builtin.Slice.sliceAdjust lo hi 1 (n:Int) with | (lo,hi)=>pure (lo,(1:Int),J9 lo hi 1)) _ _ s;rw[I_ lo hi n];show W8 _ _ (pure (((aX n 0 lo:Nat):Int),(1:Int),J9 ((aX n 0 lo:Nat):Int) ((aX n n hi:Nat):Int) 1)) _ _ s;rw[J_];exact W4 h
theorem Ka(xs:Array Value)(i k:Nat):((WJ k).filterMap λ(m:Nat)=>xs[((i:Int) + (m:Int) * 1).toNat]?).toArray=((xs.toList.drop i).take k).toArray:=by
 have e:(λ(m:Nat)=>xs[((i:Int) + (m:Int) * 1).toNat]?)=λm=>xs[i + m]?:=by
  funext m
  have:((i:Int) + (m:Int) * 1).toNat=i + m:=by omega
  rw[this]
 rw[e];have:=pick_run xs i k;rw[List.filterMap_map] at this;have e2:((λx=>xs[x]?) ∘ λx=>i + x)=λm=>xs[i + m]?:=rfl
 rw[e2] at this;rw[this]
theorem Kb{t sl:Addr}{items:Array Value}{vl vu:Value}{lo hi:Option Int}{Q:Value->W2->Prop}(ht:IsTup s.heap t items)(hs:s.heap.IsSliceOf sl vl vu .none)(pl:IsPart vl lo)(pu:IsPart vu hi)
  (hw:¬ (aX items.size 0 lo=0/\aX items.size items.size hi=items.size))
  (h:Q (.ref s.heap.objs.size) { s with heap:=s.heap.push { cls:=.type "tuple",data:=.seq ((items.toList.drop (aX items.size 0 lo)).take (aX items.size items.size hi - aX items.size 0 lo)).toArray } })
  (hsz:items.size<=Wb):W8 (model prog w) A (getItem (.ref t) (.ref sl)) Q E s:=by
 have sd:sizeOk (.seq ((items.toList.drop (aX items.size 0 lo)).take (aX items.size items.size hi - aX items.size 0 lo)).toArray):=by
  show((items.toList.drop (aX items.size 0 lo)).take (aX items.size items.size hi - aX items.size 0 lo)).toArray.size<=Wb;rw[Wn,JA,List.length_drop,Qm];omega
 have hj:aX items.size items.size hi<=items.size:=u4 _ _ (Wg _) hi;obtain⟨os,hos,hcs,hds⟩:=id hs;have u5:s.TypeIs (.ref sl) "slice":=⟨os,hos,hcs⟩
 unfold getItem;try with_reducible refine WG ?_
 first | refine W0 (W4 ?_) | skip
 refine W0 (wpAny_sequenceKey ht.typeIs (by decide) ?_);refine W0 (Q5 (name:=Str.ofString "__getitem__") ht.typeIs QL
  (Q9 QL ht.typeIs entry_tuple_getitem ?_ (args_tuple_getitem _ _)))
 show W8 _ _ (Builtin.Tuple.tupleItemsOf (.ref t) >>= _) _ _ s;refine W0 (tupleItemsOf_ ht ?_);refine W0 (QN u5 ?_);rw[if_pos (by decide)];refine W0 (Bx hs pl pu ?_);have jD:¬ ((((aX items.size 0 lo:Nat):Int) == 0 && (1:Int) == 1 && (aX items.size items.size hi - aX items.size 0 lo) == items.size)=true):=by
  intro q;rw[Wr,Wr] at q;have q1:((aX items.size 0 lo:Nat):Int)=0:=eq_of_beq q.1.1;have q2:aX items.size items.size hi - aX items.size 0 lo=items.size:=eq_of_beq q.2;exact hw ⟨by omega,by omega⟩
 show W8 _ _ (if (((aX items.size 0 lo:Nat):Int) == 0 && (1:Int) == 1 && (aX items.size items.size hi - aX items.size 0 lo) == items.size)=true then _ else _) _ _ s;rw[if_neg jD,Ka];first
  | exact W0 (m:=Jh _) (WX (W4 ⟨_,rfl,W4 h⟩) sd)
  | exact W0 (m:=Jh _) (WX (W0 (W4 (W4 ⟨_,rfl,W4 h⟩))) sd)
  | exact W0 (W0 (m:=Jh _) (WX (W4 (W4 ⟨_,rfl,W4 h⟩)) sd))
  | exact W0 (W0 (m:=Jh _) (WX (W4 ⟨_,rfl,W4 h⟩) sd))
end
end HT
namespace L2
open PySem PySem.Spec PyProof.Rows
abbrev TO:=St->Hp->(Option Int->Hp->Prop)->Prop
def PO(X:Cx)(e:Option Expr)(t:TO):Prop :=
 ∀ (pins:List (Addr×Obj)) (s:W2) (σ:St) (H:Hp) (Q:Option Int->Hp->Prop),Inv X pins σ H s->t σ H Q ->
  W8 (model X.prog X.w) X.A (evalPart e X.env) (λu s'=>∃ o H',Inv X pins σ H' s'/\IsPart u o/\Q o H') X.xe s
def Kc(t:TE):TO:=λσ H Q=>t σ H λx H1=>∃ i,x = .int i/\Q (some i) H1
section
variable {X:Cx} {e:Expr} {te:TE} {lo hi:Option Expr} {tl th:TO} {pos p2:Pos}
theorem Kd(h:PE X e te):PO X (some e) (Kc te):=by
 intro pins s σ H Q I hw;rw[evalPart_some];refine aV (h pins s σ H _ I hw) λu s1 ⟨x,H1,I1,r1,q1⟩=>?_
 obtain⟨i,rfl,q⟩:=q1;obtain⟨t,rfl⟩:=r1;exact⟨some i,H1,I1,.int i t,q⟩
def jE(X:Cx)(r:V->Option Int->Option Int->Hp->VK->Prop):Prop :=
 ∀ (pins:List (Addr×Obj)) (s:W2) (σ:St) (H:Hp) (x:V) (v vl vu:Value) (lo hi:Option Int) (sl:Addr) (Q:VK),Inv X pins σ H s->RelV x v->s.heap.IsSliceOf sl vl vu .none->IsPart vl lo->IsPart vu hi->r x lo hi H Q ->
  ∃ T id,JT (.type T) "__getitem__" = pure (some (.builtin id))/\s.TypeIs v T/\W8 (model X.prog X.w) X.A (getItem v (.ref sl)) (EP X pins σ Q) X.xe s
theorem jE.or(h:jE X r)(h':jE X r'):jE X (λx lo hi H Q=>r x lo hi H Q\/r' x lo hi H Q):=by
 intro pins s σ H x v vl vu lo hi sl Q I rx hs pl pu q;rcases q with q | q
 ·exact h pins s σ H x v vl vu lo hi sl Q I rx hs pl pu q
 ·exact h' pins s σ H x v vl vu lo hi sl Q I rx hs pl pu q
def Ke(r:V->Option Int->Option Int->Hp->VK->Prop)(te:TE)(tl th:TO):TE:=λσ H Q=>te σ H λx H1=>tl σ H1 λl H2=>th σ H2 λu H3=>r x l u H3 Q
theorem Kf(hr:jE X r)(he:PE X e te)(hl:PO X lo tl)(hu:PO X hi th):PE X (.Subscript e (.Slice lo hi none p2) pos) (Ke r te tl th):=by
 intro pins s σ H Q I h;refine Subscript_ (aV (he pins s σ H _ I h) λv s1 ⟨x,H1,I1,r1,q1⟩=>?_);refine wpAny_Slice (aV (hl pins s1 σ H1 _ I1 q1) λvl s2 ⟨l,H2,I2,pl,q2⟩=>aV (hu pins s2 σ H2 _ I2 q2) λvu s3 ⟨u,H3,I3,pu,q3⟩=>?_);rw[evalPart_none];refine W4 ?_;have I4:Inv X pins σ H3 { s3 with heap:=s3.heap.push { cls:=.type "slice",data:=.fields #[vl,vu,.none] } }:=I3.kept (t':=s3.toks) λb ob q=>W5 _ q
 obtain⟨T,id,hT,ht,hg⟩:=hr pins { s3 with heap:=s3.heap.push { cls:=.type "slice",data:=.fields #[vl,vu,.none] } } σ H3 x v vl vu l u s3.heap.objs.size Q I4 r1 (Heap.IsSliceOf.new ..) pl pu q3;show W8 (model X.prog X.w) X.A (subscriptTail e (.Slice lo hi none p2) v (.ref s3.heap.objs.size)) (EP X pins σ Q) X.xe { s3 with heap:=s3.heap.push { cls:=.type "slice",data:=.fields #[vl,vu,.none] } };exact tail_any (ops:=[.ref s3.heap.objs.size,v]) ht hT hg (by with_unfolding_all rfl)
def kU(xs:List V)(lo hi:Option Int):List V:=(xs.drop (HT.aX xs.length 0 lo)).take (HT.aX xs.length xs.length hi - HT.aX xs.length 0 lo)
theorem By(xs:List V)(lo hi:Option Int):(kU xs lo hi).length<=xs.length:=by
 unfold kU;rw[JA,List.length_drop];omega
def Kg(K:W1):V->Option Int->Option Int->Hp->VK->Prop:=λx lo hi H Q=>∃ a xs,x = .ref a/\c_ K H a xs /\
 ¬ (HT.aX xs.length 0 lo=0/\HT.aX xs.length xs.length hi=xs.length)/\∀ p,H p=none->Q (.ref p) (upd H p (.tup (kU xs lo hi)))
theorem Kh:jE X (Kg X.K):=by
 intro pins s σ H x v vl vu lo hi sl Q I rx hs pl pu h;obtain⟨a,xs,rfl,hx,hw,q⟩:=h
 cases rx;obtain⟨ag,r,ht,hz⟩:=I.tuple hx;have hlen:ag.toArray.size=xs.length:=by rw[Wn]; exact r.length.symm
 refine⟨"tuple",_,PyProof.Rows.slot_tuple_getitem.lookup,ht.typeIs,?_⟩;refine HT.Kb ht hs pl pu (by rw[hlen]; exact hw) ?_ (by rw[hlen]; exact hz);rw[hlen];refine⟨.ref s.heap.objs.size,_,I.laid (t':=s.toks) (o:=.tup (kU xs lo hi)) (λb ob q=>W5 _ q) (Wg _) ?_,rfl,q _ (I.aw.fresh (Wg _))⟩;exact⟨WK (By xs lo hi) hz,_,(r.drop (HT.aX xs.length 0 lo)).take (HT.aX xs.length xs.length hi - HT.aX xs.length 0 lo),ir.new _ _⟩
def Bz(K:W1):R2:=λx y H Q=>∃ a b xs ys,x = .ref a/\y = .ref b/\c_ K H a xs/\c_ K H b ys/\xs≠[]/\xs.length + ys.length<=Wb /\
 (ys=[]->Q (.ref a) H)/\(ys≠[]->∀ p,H p=none->Q (.ref p) (upd H p (.tup (xs ++ ys))))
theorem Vals.pE(r:Vals xs us):us=[] ↔ xs=[]:=by
 cases r with
 | nil=>simp
 | cons _ _=>simp
theorem Ki:bT X (Qn .Add) (Bz X.K):=by
 intro pins s σ H x y v u Q I rx ry h;obtain⟨a,b,xs,ys,rfl,rfl,ha,hb,hx,hz,q1,q2⟩:=h
 cases rx
 cases ry;obtain⟨ag,r1,p1,_⟩:=I.tuple ha;obtain⟨its2,r2,p2,_⟩:=I.tuple hb;refine HT.I0 p1 p2 (λz=>hx (r1.pE.mp z)) (λz=>⟨.ref a,H,I,rfl,q1 (r2.pE.mp z)⟩) (λz=>?_) (by rw[<- r1.length,<- r2.length]; exact hz);refine⟨.ref s.heap.objs.size,_,I.laid (t':=s.toks) (o:=.tup (xs ++ ys)) (λb ob q=>W5 _ q) (Wg _) ?_,rfl,q2 (λw=>z (r2.pE.mpr w)) _ (I.aw.fresh (Wg _))⟩;exact⟨by rw[WZ]; exact hz,_,r1.append r2,ir.new _ _⟩
end
def dQ(n:Nat)(i:Int):Option Nat:=if 0<=i then(if i < n then some i.toNat else none) else if -(n:Int)<=i then some (i + n).toNat else none
def cS{α:Type}(xs:List α)(i:Int):Option α:=(dQ xs.length i).bind λj=>xs[j]?
theorem BA(h:dQ n i=some j):seqIndex? i n=some j/\j < n/\-(n:Int)<=i/\i < n:=by
 unfold dQ at h;by_cases h0:0<=i
 ·rw[if_pos h0] at h;by_cases h1:i < n
  ·rw[if_pos h1] at h;have e:i.toNat=j:=Wx h;exact⟨by rw[seqIndex_of h0 h1,e],by omega,by omega,h1⟩
  ·rw[if_neg h1] at h; cases h
 ·rw[if_neg h0] at h;by_cases h1 : -(n:Int)<=i
  ·rw[if_pos h1] at h;have e:(i + n).toNat=j:=Wx h;exact⟨by rw[seqIndex_neg (by omega) h1,e],by omega,h1,by omega⟩
  ·rw[if_neg h1] at h; cases h
theorem u6(h:cS xs i=some v):∃ j,seqIndex? i xs.length=some j/\xs[j]? = some v/\j < xs.length/\-(xs.length:Int)<=i/\i < xs.length:=by
 unfold cS at h
 cases e:dQ xs.length i with
 | none=>rw[e] at h; cases h
 | some j =>
  rw[e] at h;obtain⟨h1,h2,h3,h4⟩:=BA e;exact⟨j,h1,h,h2,h3,h4⟩
def nQ(b:Expr):Prop:=∀ o i,subscripted b false o i=operate [o,i] (getItem o i)
def gX(X:Cx)(r:R2):Prop :=
 ∀ (value slice:Expr) (pins:List (Addr×Obj)) (s:W2) (σ:St) (H:Hp) (x y:V) (v u:Value) (Q:VK),Inv X pins σ H s->RelV x v->RelV y u->r x y H Q ->
  subscripted slice false v u=operate [v,u] (getItem v u)->W8 (model X.prog X.w) X.A (subscriptTail value slice v u) (EP X pins σ Q) X.xe s
def nR(X:Cx)(id:String)(r:V->List V->Hp->VK->Prop):Prop :=
 ∀ (pins:List (Addr×Obj)) (s:W2) (σ:St) (H:Hp) (x:V) (xs:List V) (v:Value) (us:List Value) (Q:VK),Inv X pins σ H s->RelV x v->Vals xs us->r x xs H Q ->
  W8 (model X.prog X.w) X.A (call (.builtin id) (v :: us)) (EP X pins σ Q) X.xe s
section
variable {X:Cx} {a b:Expr} {ta tb:TE} {pos:Pos}
theorem gX.or(h:gX X r)(h':gX X r'):gX X (λx y H Q=>r x y H Q\/r' x y H Q):=by
 intro value slice pins s σ H x y v u Q I rx ry q hs;rcases q with q | q
 ·exact h value slice pins s σ H x y v u Q I rx ry q hs
 ·exact h' value slice pins s σ H x y v u Q I rx ry q hs
theorem pF(hr:gX X r)(ha:PE X a ta)(hb:PE X b tb)(hs:nQ b):PE X (.Subscript a b pos) (iX r ta tb):=by
 intro pins s σ H Q I h;exact Subscript_ (uR ha hb I h λv u s2 x y H2 I2 rx ry q=>hr a b pins s2 σ H2 x y v u Q I2 rx ry q (hs _ _))
def BC(K:W1):R2:=λx y H Q=>∃ p xs i v,x = .ref p/\y = .int i/\bS K H p xs/\cS xs i=some v/\Q v H
def BD(K:W1):R2:=λx y H Q=>∃ p xs i v,x = .ref p/\y = .int i/\c_ K H p xs/\cS xs i=some v/\Q v H
def BF:R2:=λx y H Q=>∃ z i c,x = .str z/\y = .int i/\z.length<=Wb/\cS z.cps.toList i=some c/\Q (.str ⟨#[c]⟩) H
theorem Kj:gX X (BC X.K):=by
 intro value slice pins s σ H x y v u Q I rx ry h hs;obtain⟨p,xs,i,z,rfl,rfl,hq,he,q⟩:=h
 cases rx;obtain⟨t,rfl⟩:=ry;obtain⟨ag,r,pl,hz⟩:=I.list hq;obtain⟨j,h1,h2,h3,h4,h5⟩:=u6 he;obtain⟨w,ew,aH⟩:=r.get h2;have hl:=r.length;have hn:=nO;have fin:EP X pins σ Q w s:=⟨z,H,I,aH,q⟩
 by_cases h0:0<=i
 ·have hj:i.toNat=j:=by
   rw[seqIndex_of h0 h5] at h1;exact Wx h1
  exact item_listR pl.isList h0 (by omega) (by rw[hj]; simpa using ew) fin hs
 ·have hj:(i + (ag.toArray.size:Int)).toNat=j:=by
   rw[seqIndex_neg (by omega) h4] at h1;rw[Wn,<- hl];exact Wx h1
  exact subscriptTail_builtinR (x:=w) pl.isList.typeIs slot_list_getitem.lookup
   (wpAny_getItem_list_neg (Q:=λr s'=>r=w/\EP X pins σ Q r s') pl.isList (by omega) (by rw[Wn] <;> omega) (by omega) (by rw[hj]; simpa using ew) ⟨rfl,fin⟩) hs
theorem Kk:gX X (BD X.K):=by
 intro value slice pins s σ H x y v u Q I rx ry h hs;obtain⟨p,xs,i,z,rfl,rfl,hq,he,q⟩:=h
 cases rx;obtain⟨t,rfl⟩:=ry;obtain⟨ag,r,pl,hz⟩:=I.tuple hq;obtain⟨j,h1,h2,h3,h4,h5⟩:=u6 he;obtain⟨w,ew,aH⟩:=r.get h2;have hl:=r.length;have hn:=nO;have fin:EP X pins σ Q w s:=⟨z,H,I,aH,q⟩
 exact subscriptTail_builtinR (x:=w) pl.typeIs slot_tuple_getitem.lookup
  (getItem_tuple (j:=j) (Q:=λr s'=>r=w/\EP X pins σ Q r s') pl (by omega) (by omega) (by rw[Wn,<- hl]; exact h1) (by simpa using ew) ⟨rfl,fin⟩) hs
theorem Kl:gX X BF:=by
 intro value slice pins s σ H x y v u Q I rx ry h hs;obtain⟨z,i,c,rfl,rfl,hz,he,q⟩:=h;obtain⟨t,rfl⟩:=rx;obtain⟨t',rfl⟩:=ry;obtain⟨j,h1,h2,h3,h4,h5⟩:=u6 he;have hl:z.cps.toList.length=z.length:=by simp[Str.length]
 rw[hl] at h1 h4 h5;have hn:=nO;exact tail_any (typeIs_str s z t) slot_str_getitem.lookup (getItem_str (c:=c) (by
  have e1:decide (i < -(2 ^ 63:Int))=false:=decide_eq_false (by omega);have e2:decide (i ≥ 2 ^ 63)=false:=decide_eq_false (by omega);rw[e1,e2,Bool.or_false]) (by rw[h1]; simpa using h2) ⟨.str ⟨#[c]⟩,H,I.tok _,⟨_,rfl⟩,q⟩) hs
def pG(K:W1):R2:=λx y H Q=>BC K x y H Q\/BD K x y H Q\/BF x y H Q
theorem cx:gX X (pG X.K):=Kj.or (Kk.or Kl)
theorem Km (ag:List Value) (n j:Nat) (u:Value):Obj.mapSeq (·.setIfInBounds j u) { cls:=.type "list",data:=.seq ag.toArray n } = { cls:=.type "list",data:=.seq (ag.set j u).toArray n }:=by
 simp[Obj.mapSeq]
theorem Inv.lst(I:Inv X pins σ H s)(h:H p=some (.lst xs)) :
  ∃ (ag:List Value) (n:Nat),Vals xs ag/\s.heap.get? p=some { cls:=.type "list",data:=.seq ag.toArray n }/\xs.length<=Wb:=by
 obtain⟨z,ag,n,r,e⟩:=I.aw p _ h;exact⟨ag,n,r,e,z⟩
theorem Inv.Kn{pins:List (Addr×Obj)}{σ:St}{H:Hp}{s:W2}{p:Addr}{xs ys:List V}{ag its':List Value}{n n':Nat}{f:Obj->Obj}(I:Inv X pins σ H s)(h:H p=some (.lst xs))
  (ho:s.heap.get? p=some { cls:=.type "list",data:=.seq ag.toArray n }) (hf:f { cls:=.type "list",data:=.seq ag.toArray n } = { cls:=.type "list",data:=.seq its'.toArray n' }) (r:Vals ys its') (hz:ys.length<=Wb) (t:Nat) :
  Inv X pins σ (upd H p (.lst ys)) { s with heap:=s.heap.update p f,toks:=t }:=by
 have e:(s.heap.update p f).get? p=some { cls:=.type "list",data:=.seq its'.toArray n' }:=by
  rw[Wt f ho (by rw[hf] <;> rfl),hf]
 refine I.write (x:=p) (e:=p) (by rw[h]; trivial) (.inl rfl) (λb u hb q=>(Wu _ _ (Ne.symm hb)).trans q) ⟨_,e⟩ ?_;exact⟨hz,its',n',r,e⟩
def BG:V->V->V->Hp->(Hp->Prop)->Prop:=λo i v H Q=>∃ p xs k j,o = .ref p/\i = .int k/\H p=some (.lst xs)/\dQ xs.length k=some j/\Q (upd H p (.lst (xs.set j v)))
theorem BH:AU X BG:=by
 intro pins s σ H o i v ov iv u Q I ro ri rv h;obtain⟨p,xs,k,j,rfl,rfl,hp,hj,q⟩:=h
 cases ro;obtain⟨t,rfl⟩:=ri;obtain⟨ag,n,r,ho,hz⟩:=I.lst hp;obtain⟨h1,h2,h3,h4⟩:=BA hj;have hl:=r.length;have hn:=nO;have I':Inv X pins σ (upd H p (.lst (xs.set j v))) { s with heap:=s.heap.update p (Obj.mapSeq (·.setIfInBounds j u)) } :=
  I.Kn hp ho (Km ag n j u) (r.set rv j) (by rw[WS]; exact hz) s.toks
 by_cases h0:0<=k
 ·have hk:k.toNat=j:=by
   rw[seqIndex_of h0 h4] at h1;exact Wx h1
  exact PySem.W.ki_setAt ho h0 (by omega) (by rw[Wn,<- hl]; exact h4) (by rw[hk]; exact⟨_,I',q⟩)
 ·have hk:(k + (ag.toArray.size:Int)).toNat=j:=by
   rw[seqIndex_neg (by omega) h3] at h1;rw[Wn,<- hl];exact Wx h1
  exact PySem.W.ki_setBack ho (by omega) (by rw[Wn,<- hl]; exact h3) (by omega) (by rw[hk]; exact⟨_,I',q⟩)
theorem Ko(lo hi:Option Int)(n:Nat):(JE lo hi none n).1=((HT.aX n 0 lo:Nat):Int)/\(JE lo hi none n).2.1=((HT.aX n n hi:Nat):Int)/\(JE lo hi none n).2.2=1:=by
 refine⟨?_,?_,rfl⟩
 ·cases lo with
  | none=>simp[JE,HT.aX]
  | some i =>
   simp only[JE,HT.aX,Option.getD_none,show(1:Int) > 0 by decide,if_true];by_cases h:i < 0
   ·simp only[h,if_true] <;> omega
   ·simp only[h,if_false] <;> omega
 ·cases hi with
  | none=>simp[JE,HT.aX]
  | some i =>
   simp only[JE,HT.aX,Option.getD_none,show(1:Int) > 0 by decide,if_true];by_cases h:i < 0
   ·simp only[h,if_true] <;> omega
   ·simp only[h,if_false] <;> omega
theorem Kp(ag:List Value)(lo hi:Option Int):slicePick ag.toArray lo hi none=((ag.drop (HT.aX ag.length 0 lo)).take (HT.aX ag.length ag.length hi - HT.aX ag.length 0 lo)).toArray:=by
 obtain⟨h1,h2,h3⟩:=Ko lo hi ag.toArray.size;unfold slicePick;rw[h1,h2,h3];simp only[sliceRange_one,pick_run,Wn] <;> rfl
def BI(K:W1):V->Option Int->Option Int->Hp->VK->Prop:=λx lo hi H Q=>∃ a xs,x = .ref a/\bS K H a xs/\∀ p,H p=none->Q (.ref p) (upd H p (.lst (kU xs lo hi)))
theorem Kq:jE X (BI X.K):=by
 intro pins s σ H x v vl vu lo hi sl Q I rx hs pl pu h;obtain⟨a,xs,rfl,hx,q⟩:=h
 cases rx;obtain⟨ag,r,ht,hz⟩:=I.list hx;have hlen:=r.length;refine⟨"list",_,slot_list_getitem.lookup,ht.isList.typeIs,?_⟩;refine wpAny_getItem_list_slice ht.isList hs pl pu .none (by simp) ?_ (by rw[Wn] <;> omega);rw[Kp,<- hlen];refine⟨.ref s.heap.objs.size,_,I.laid (t':=s.toks) (o:=.lst (kU xs lo hi)) (λb ob q=>W5 _ q) (Wg _) ?_,rfl,q _ (I.aw.fresh (Wg _))⟩;exact⟨WK (By xs lo hi) hz,_,0,(r.drop (HT.aX xs.length 0 lo)).take (HT.aX xs.length xs.length hi - HT.aX xs.length 0 lo),Wj _ rfl⟩
def kc:V->Bool
 | .aN=>true
 | .bl _=>true
 | .int _=>true
 | .str _=>true
 | _=>false
def kW:V->V->Bool
 | .aN,.aN=>true
 | .bl a,.bl b=>a == b
 | .bl a,.int b=>(if a then 1 else 0) == b
 | .int a,.bl b=>a == (if b then 1 else 0)
 | .int a,.int b=>a == b
 | .str a,.str b=>a == b
 | _,_=>false
theorem Kr(ry:RelV y u)(rx:RelV x v)(fy:kc y=true)(fx:kc x=true):SeqAt.EqAt A s u v (kW y x):=by
 cases y with
 | aN =>
  cases ry
  cases x with
  | aN=>cases rx; exact SeqAt.EqAt.same _
  | bl b=>cases rx; exact SeqAt.EqAt.none_bool b
  | int b=>obtain⟨t,rfl⟩:=rx; exact SeqAt.EqAt.none_int b t
  | str b=>obtain⟨t,rfl⟩:=rx; exact SeqAt.EqAt.none_str b t
  | _=>exact absurd (show false=true from fx) Q7
 | bl a =>
  cases ry
  cases x with
  | aN=>cases rx; exact SeqAt.EqAt.bool_none a
  | bl b=>cases rx; exact SeqAt.EqAt.bool_bool a b
  | int b=>obtain⟨t,rfl⟩:=rx; exact SeqAt.EqAt.bool_int a b t
  | str b=>obtain⟨t,rfl⟩:=rx; exact SeqAt.EqAt.bool_str a b t
  | _=>exact absurd (show false=true from fx) Q7
 | int a =>
  obtain⟨t',rfl⟩:=ry
  cases x with
  | aN=>cases rx; exact SeqAt.EqAt.int_none a t'
  | bl b=>cases rx; exact SeqAt.EqAt.int_bool a t' b
  | int b=>obtain⟨t,rfl⟩:=rx; exact SeqAt.EqAt.int_int a t' b t
  | str b=>obtain⟨t,rfl⟩:=rx; exact SeqAt.EqAt.int_str a t' b t
  | _=>exact absurd (show false=true from fx) Q7
 | str a =>
  obtain⟨t',rfl⟩:=ry
  cases x with
  | aN=>cases rx; exact SeqAt.EqAt.str_none a t'
  | bl b=>cases rx; exact SeqAt.EqAt.str_bool a t' b
  | int b=>obtain⟨t,rfl⟩:=rx; exact SeqAt.EqAt.str_int a t' b t
  | str b=>obtain⟨t,rfl⟩:=rx; exact SeqAt.EqAt.str_str a t' b t
  | _=>exact absurd (show false=true from fx) Q7
 | _=>exact absurd (show false=true from fy) Q7
def ke(x:V)(u:Value):Bool:=match u with
 | .none=>kW .aN x
 | .bool b=>kW (.bl b) x
 | .int i _=>kW (.int i) x
 | .str z _=>kW (.str z) x
 | _=>false
theorem BJ(r:RelV y u)(f:kc y=true):ke x u=kW y x:=by
 cases y with
 | aN=>cases r; rfl
 | bl b=>cases r; rfl
 | int i=>obtain⟨t,rfl⟩:=r; rfl
 | str z=>obtain⟨t,rfl⟩:=r; rfl
 | _=>exact absurd (show false=true from f) Q7
theorem u7:∀ {xs:List V} {us:List Value},Vals xs us->xs.all kc=true->us.any (ke x)=xs.any λy=>kW y x
 | _,_,.nil,_=>rfl
 | y :: xs,u :: us,.cons r t,f=>by
  rw[U2,Wr] at f;rw[QY,QY,BJ r f.1,u7 t f.2]
theorem u9(rx:RelV x v)(fx:kc x=true):∀ {xs:List V} {us:List Value},Vals xs us->xs.all kc=true->∀ u ∈ us,SeqAt.EqAt A s u v (ke x u)
 | _,_,.nil,_=>λu hu=>by cases hu
 | y :: xs,u :: us,.cons r t,f=>λu' hu=>by
  rw[U2,Wr] at f;rcases Wl.mp hu with rfl | hu
  ·rw[BJ r f.1]; exact Kr r rx f.1 fx
  ·exact u9 rx fx t f.2 u' hu
def se(x:V)(xs:List V):Bool:=xs.any λy=>kW y x
def BK(K:W1)(neg:Bool):R2:=λx y H Q=>∃ p xs,y = .ref p/\(bS K H p xs\/c_ K H p xs)/\kc x=true/\xs.all kc=true/\Q (.bl (if neg then !se x xs else se x xs)) H
theorem Ks:bT X (WY .NotIn) (BK X.K true):=by
 intro pins s σ H x y v u Q I rx ry h;obtain⟨p,xs,rfl,hq,fx,fs,q⟩:=h
 cases ry;rcases hq with hq | hq
 ·obtain⟨ag,r,pl,hz⟩:=I.list hq;refine SeqAt.notIn_listAt (ke x) pl.isList (λw hw=>u9 rx fx r fs w (by simpa using hw)) ⟨.bl _,H,I,rfl,?_⟩;rw[show ag.toArray.any (ke x)=ag.any (ke x) by simp,u7 r fs];exact q
 ·obtain⟨ag,r,pl,hz⟩:=I.tuple hq;refine SeqAt.notIn_tupleAt (ke x) pl (λw hw=>u9 rx fx r fs w (by simpa using hw)) ⟨.bl _,H,I,rfl,?_⟩;rw[show ag.toArray.any (ke x)=ag.any (ke x) by simp,u7 r fs];exact q
theorem Kt:eE X (.builtin "len") (λxs H Q=>∃ p ys,xs=[.ref p]/\(bS X.K H p ys\/c_ X.K H p ys)/\Q (.int ys.length) H):=by
 intro pins s σ H xs us Q I r h;obtain⟨p,ys,rfl,hq,q⟩:=h;obtain⟨u,rfl,rx⟩:=gB r
 cases rx;have hn:=nO;rcases hq with hq | hq
 ·obtain⟨ag,r',pl,hz⟩:=I.list hq;have hlen:=r'.length;exact Calls.call_len_list pl.isList (by simp only[Wn] <;> omega) ⟨.int ys.length,H,I.tok _,⟨s.toks + 1,by rw[Wn,hlen]⟩,q⟩
 ·obtain⟨ag,r',pl,hz⟩:=I.tuple hq;have hlen:=r'.length;exact len_tuple pl (by simp only[Wn] <;> omega) ⟨.int ys.length,H,I.tok _,⟨s.toks + 1,by rw[Wn,hlen]⟩,q⟩
theorem Ku:eE X (.builtin "len") (λxs H Q=>∃ z,xs=[.str z]/\z.length<=Wb/\Q (.int z.length) H):=by
 intro pins s σ H xs us Q I r h;obtain⟨z,rfl,hz,q⟩:=h;obtain⟨u,rfl,t,rfl⟩:=gB r;have hn:=nO;exact len_str (by omega) ⟨.int z.length,H,I.tok _,⟨_,rfl⟩,q⟩
theorem eE.or(h:eE X f r)(h':eE X f r'):eE X f (λxs H Q=>r xs H Q\/r' xs H Q):=by
 intro pins s σ H xs us Q I rs q;rcases q with q | q
 ·exact h pins s σ H xs us Q I rs q
 ·exact h' pins s σ H xs us Q I rs q
theorem Kv:eE X (.type "tuple") (λxs H Q=>∃ p ys,xs=[.ref p]/\((bS X.K H p ys/\∀ l,H l=none->Q (.ref l) (upd H l (.tup ys)))\/(c_ X.K H p ys/\Q (.ref p) H))):=by
 intro pins s σ H xs us Q I r h;obtain⟨p,ys,rfl,h⟩:=h;obtain⟨u,rfl,rx⟩:=gB r
 cases rx;rcases h with ⟨hq,q⟩ | ⟨hq,q⟩
 ·obtain⟨ag,r',pl,hz⟩:=I.list hq;have hlen:=r'.length;refine call_tuple_list pl.isList (λh' kp=>?_) (by simp only[Wn] <;> omega);have I1:Inv X pins σ H { s with heap:=h' }:=I.kept (t':=s.toks) kp;have I2:Inv X pins σ (upd H h'.objs.size (.tup ys)) { s with heap:=h'.push { cls:=.type "tuple",data:=.seq ag.toArray } } :=
   I1.laid (t':=s.toks) (λb o e=>W5 _ e) (Wg _) (show bG X.prog X.w _ _ _ (.tup ys) from⟨hz,ag,r',ir.new _ _⟩)
  exact⟨.ref h'.objs.size,_,I2,rfl,q _ (I1.aw.fresh (Wg _))⟩
 ·obtain⟨ag,r',pl,hz⟩:=I.tuple hq;exact call_tuple_same pl ⟨.ref p,H,I,rfl,q⟩
def pH(K:W1)(T:String)(x:V)(H:Hp):Prop:=match x with
 | .str _=>T = "str"
 | .int _=>T = "int"
 | .ref p=>(T = "list"/\∃ xs,bS K H p xs)\/(T = "tuple"/\∃ o,K.lookup p=some o/\o.cls = .type "tuple"/\o.dict=none) \/
   (T = "dict"/\((∃ kvs,H p=some (.dK kvs))\/∃ kvs,H p=some (.dT kvs)))\/(T = "set"/\∃ S n,H p=some (.set S n))
 | _=>False
theorem Kw(I:Inv X pins σ H s)(r:RelV x v)(ty:pH X.K T x H) :
  s.TypeIs v T/\∀ a,v = .ref a->∃ ob,s.heap.get? a=some ob/\ob.dict=none:=by
 cases x with
 | str z =>
  obtain⟨t,rfl⟩:=r
  cases (show T = "str" from ty);exact⟨typeIs_str s z t,λ_ e=>nomatch e⟩
 | int i =>
  obtain⟨t,rfl⟩:=r
  cases (show T = "int" from ty);exact⟨typeIs_int s i t,λ_ e=>nomatch e⟩
 | ref p =>
  cases r;rcases ty with ⟨rfl,xs,hq⟩ | ⟨rfl,o,hk,hc,hd⟩ | ⟨rfl,hk⟩ | ⟨rfl,S,n,hk⟩
  ·obtain⟨ag,_,pl,_⟩:=I.list hq;refine⟨pl.isList.typeIs,λa e=>?_⟩
   cases e;obtain⟨o,n,e,c,hd,_⟩:=pl;exact⟨o,e,hd⟩
  ·refine⟨⟨o,I.cW p o hk,hc⟩,λa e=>?_⟩
   cases e;exact⟨o,I.cW _ o hk,hd⟩
  ·have z:∃ o,s.heap.get? p=some o/\o.ExactDict:=by
    rcases hk with ⟨kvs,hk⟩ | ⟨kvs,hk⟩
    ·obtain⟨_,_,_,_,o,_,_,e,ex,_⟩:=I.aw p _ hk;exact⟨o,e,ex⟩
    ·obtain⟨_,_,_,_,o,_,_,e,ex,_⟩:=I.aw p _ hk;exact⟨o,e,ex⟩
   obtain⟨o,e,ex⟩:=z;refine⟨⟨o,e,ex.1⟩,λa e2=>?_⟩
   cases e2;exact⟨o,e,ex.2.1⟩
  ·obtain⟨o,_,_,_,e,ex,_⟩:=I.aw p _ hk;refine⟨⟨o,e,ex.1⟩,λa e2=>?_⟩
   cases e2;exact⟨o,e,ex.2.1⟩
 | _=>exact False.elim ty
def BL(K:W1)(T:String)(r:V->List V->Hp->VK->Prop)(to:TE)(t:TA):TE:=λσ H Q=>to σ H λx H1=>pH K T x H1/\t σ H1 λxs H2=>r x xs H2 Q
variable {o e:Expr} {es:List Expr} {to:TE} {t:TA} {name:Str} {apos ba:Pos} {T id:String} {r:V->List V->Hp->VK->Prop}
theorem nU (pa:PlainAttrs T) (slot:Slot T name id) (Kx:typeOf (.builtin id)=pure (.type "method_descriptor")) (hm:nR X id r) (ho:PE X o to) (ha:PA X (e :: es) t)
  (gY:Q6 o name X.env (eval o X.env)=eval o X.env:=by rfl)
  (gZ:((WU ba (W7 (e :: es) X.env)).all (λx=>!x.1) && (JL ba (Jc [] X.env)).all (λx=>x.1.isSome)
   && decide ((e :: es).length + ([]:List Keyword).length + (if ([]:List Keyword).isEmpty then 0 else 1) < 30))=true:=by rfl)
  (dZ:(apos.endLine == ba.line)=true:=by rfl) (hs:W7 (e :: es) X.env=(false,eval e X.env) :: W7 es X.env:=by rfl) (Ky:(WU ba (W7 es X.env)).any (·.1)=false:=by rfl) :
  PE X (.Call (.Attribute o name apos) (e :: es) [] ba) (BL X.K T r to t):=by
 intro pins s σ H Q I h;refine wpAny_Call_method_late gY gZ dZ rfl (aV (ho pins s σ H _ I h) λv s1 ⟨x,H1,I1,r1,ty,q1⟩=>?_);obtain⟨h1,h2⟩:=Kw I1 r1 ty;refine⟨T,id,pa,slot,Kx,h1,h2,?_⟩;have hA:=ha ba pins s1 σ H1 _ I1 q1;rw[hs] at hA ⊢;refine Calls.callWith_builtin (by show(false || (WU ba (W7 es X.env)).any (·.1))=false; rw[Ky] <;> rfl) (Calls.evalArgs_plain ?_);exact aV hA λus s2 ⟨vs,H2,I2,r2,q2⟩=>hm pins s2 σ H2 x vs v us Q I2 r1 r2 q2
end
def Kz(X:Cx)(id:String)(r:V->List V->Hp->VK->Prop):Prop :=
 ∀ (pins:List (Addr×Obj)) (s:W2) (σ:St) (H:Hp) (x:V) (xs:List V) (v:Value) (us:List Value) (Q:VK),Inv X pins σ H s->RelV x v->Vals xs us->r x xs H Q ->
  W8 (model X.prog X.w) X.A (call (.builtin id) (v :: us)) (EP X pins σ Q) X.xe s
theorem Vals.one:∀ {x:V} {us:List Value},Vals [x] us->∃ u,us=[u]/\RelV x u
 | _,_,.cons r .nil=>⟨_,rfl,r⟩
theorem Vals.two:∀ {x y:V} {us:List Value},Vals [x,y] us->∃ u v,us=[u,v]/\RelV x u/\RelV y v
 | _,_,_,.cons r (.cons q .nil)=>⟨_,_,rfl,r,q⟩
theorem Vals.rep(h:Vals xs us):∀ k:Nat,Vals (Wa k xs).flatten (Wa k us).flatten
 | 0=>.nil
 | k + 1=>by
  rw[WL,WL,Qd,Qd];exact Vals.append h (Vals.rep h k)
theorem u_(ag:List Value):∀ (k:Nat) (acc:List Value),
  List.foldl (λx1 x2=>x1 ++ x2) acc.toArray (Wa k ag.toArray)=(acc ++ (Wa k ag).flatten).toArray
 | 0,acc=>by simp
 | k + 1,acc=>by
  have e:acc.toArray ++ ag.toArray=(acc ++ ag).toArray:=by simp
  have e2:(acc ++ ag) ++ (Wa k ag).flatten=acc ++ (Wa (k + 1) ag).flatten:=by
   rw[WL,Qd,List.append_assoc]
  rw[<- e2,<- u_ ag k (acc ++ ag),<- e,WL,QO]
section
variable {X:Cx} {pins:List (Addr×Obj)} {σ:St} {H:Hp} {s:W2} {l b:Addr} {xs ys zs:List V}
theorem Inv.KA{ag its':List Value}{n:Nat}{f:Array Value->Array Value}{t':Nat}(I:Inv X pins σ H s)(hH:H l=some (.lst xs))
  (e:s.heap.get? l=some { cls:=.type "list",data:=.seq ag.toArray n }) (hf:f ag.toArray=its'.toArray) (hv:Vals ys its') (hz:ys.length<=Wb) :
  Inv X pins σ (upd H l (.lst ys)) { s with heap:=s.heap.update l (Obj.mapSeq f),toks:=t' }:=by
 have q:=PySem.IsL.update e f;rw[hf] at q;refine I.write (x:=l) (e:=l) (by rw[hH]; exact trivial) (.inl rfl) (λb' u hb hu=>(Wu s.heap (Obj.mapSeq f) (Ne.symm hb)).trans hu) ⟨_,q⟩ ?_;exact⟨hz,its',_,hv,q⟩
theorem Inv.KC(I:Inv X pins σ H s)(hv:Vals ys ag)(hz:ys.length<=Wb) :
  Inv X pins σ (upd H s.heap.objs.size (.lst ys)) { s with heap:=s.heap.push { cls:=.type "list",data:=.seq ag.toArray },toks:=t' } :=
 I.laid (λ_ _ q=>W5 _ q) (Wg _) ⟨hz,ag,0,hv,Wj _ rfl⟩
theorem Inv.fresh(I:Inv X pins σ H s):H s.heap.objs.size=none:=I.aw.fresh (Wg _)
theorem Inv.KD (I:Inv X pins σ H s) (hH:H l=some (.lst xs)):xs.length<=Wb/\∃ (ag:List Value) (n:Nat),Vals xs ag/\xs.length=ag.length/\s.heap.get? l=some { cls:=.type "list",data:=.seq ag.toArray n }:=by
 obtain⟨z,ag,n,r,e⟩:=I.aw l _ hH;exact⟨z,ag,n,r,r.length,e⟩
end
section
variable {X:Cx}
def BM:V->List V->Hp->VK->Prop:=λx vs H Q=>∃ l xs y,x = .ref l/\vs=[y]/\H l=some (.lst xs)/\xs.length < Wb/\Q .aN (upd H l (.lst (xs ++ [y])))
theorem BN:Kz X "list.append" BM:=by
 intro pins s σ H x vs v us Q I rx rv h;obtain⟨l,xs,y,rfl,rfl,hH,hz,q⟩:=h
 cases rx;obtain⟨u,rfl,ru⟩:=rv.one;obtain⟨z,ag,n,r,hl,e⟩:=I.KD hH;refine Ja F.slot_list_append ⟨_,e,rfl⟩ F.entry_list_append (F.args_list_append_2 _ _) (PySem.list_append l ag.toArray n u (by rw[Wn]; omega)) ⟨e,?_⟩;refine⟨.aN,_,I.KA (its':=ag ++ [u]) hH e (by simp) (r.append (.cons ru .nil)) ?_,rfl,q⟩;rw[WZ,List.length_singleton];omega
theorem sf(xs:List α)(k:Nat):(Wa k xs).flatten.length=k * xs.length:=by
 induction k with
 | zero=>simp
 | succ k ih=>rw[WL,Qd,WZ,ih,Nat.succ_mul,Nat.add_comm]
end
section
variable {prog:Wm} {w:Wq} {A:Wp} {E:Value->W2->Prop} {s:W2}
set_option maxRecDepth 100000 in
end
section
variable {X:Cx}
end
section
variable {κ:Type} [DecidableEq κ]
def de(kvs:List (κ×V))(k:κ):Option V:=(kvs.find? λkv=>decide (kv.1=k)).map (·.2)
def putK(kvs:List (κ×V))(k:κ)(v:V):List (κ×V) :=
 if (kvs.any λkv=>decide (kv.1=k))=true then kvs.map (λkv=>if kv.1=k then(kv.1,v) else kv) else kvs ++ [(k,v)]
theorem iD{p:κ×V}{r:List (κ×V)}{k:κ}(e:p.1=k):de (p :: r) k=some p.2:=by simp[de,Qz,e]
theorem iE{p:κ×V}{r:List (κ×V)}{k:κ}(e:¬ p.1=k):de (p :: r) k=de r k:=by simp[de,Qz,e]
theorem sg(k:κ):∀ kvs:List (κ×V),(kvs.any λkv=>decide (kv.1=k))=(de kvs k).isSome
 | []=>rfl
 | p :: r=>by
  rw[QY];by_cases e:p.1=k
  ·simp only[iD e,decide_eq_true e,Bool.true_or,Option.isSome_some]
  ·rw[iE e,decide_eq_false e,Bool.false_or]; exact sg k r
theorem BO(k j:κ)(y:V):∀ kvs:List (κ×V),de (kvs.map λkv=>if kv.1=k then(kv.1,y) else kv) j=(de kvs j).map λx=>if j=k then y else x
 | []=>rfl
 | p :: r=>by
  have ih:=BO k j y r;rw[Wo];by_cases h:p.1=k
  ·rw[if_pos h];by_cases e:p.1=j
   ·rw[iD (p:=(p.1,y)) e,iD e,WA,if_pos (e.symm.trans h)]
   ·rw[iE (p:=(p.1,y)) e,iE e,ih]
  ·rw[if_neg h];by_cases e:p.1=j
   ·rw[iD (p:=p) e,iD e,WA,if_neg (λz=>h (e.trans z))]
   ·rw[iE (p:=p) e,iE e,ih]
theorem BP(k j:κ)(y:V):∀ kvs:List (κ×V),de kvs k=none->de (kvs ++ [(k,y)]) j=if j=k then some y else de kvs j
 | [],_=>by
  by_cases e:k=j
  ·rw[if_pos e.symm]; exact iD (p:=(k,y)) e
  ·rw[if_neg (λz=>e z.symm)]; exact iE (p:=(k,y)) e
 | p :: r,hn=>by
  rw[JB];have hk:¬ p.1=k:=λz=>by rw[iD z] at hn; cases hn
  rw[iE hk] at hn;have ih:=BP k j y r hn;by_cases e:p.1=j
  ·rw[iD e,iD e,if_neg (λz=>hk (e.trans z))]
  ·rw[iE e,iE e,ih]
theorem KG(kvs:List (κ×V))(k j:κ)(y:V):de (putK kvs k y) j=if j=k then some y else de kvs j:=by
 unfold putK;by_cases a:(kvs.any λkv=>decide (kv.1=k))=true
 ·rw[if_pos a,BO];rw[sg] at a;by_cases e:j=k
  ·obtain⟨x,hx⟩:=QM.mp a;rw[if_pos e,e,hx,WA,if_pos rfl]
  ·rw[if_neg e]
   cases de kvs j with
   | none=>rfl
   | some x=>rw[WA,if_neg e]
 ·rw[if_neg a];refine BP k j y kvs ?_;rw[sg] at a
  cases q:de kvs k with
  | none=>rfl
  | some x=>rw[q] at a; exact(a rfl).elim
theorem pI(kvs:List (κ×V))(k:κ)(v:V):(putK kvs k v).length<=kvs.length + 1:=by
 unfold putK;split
 ·rw[Wy]; omega
 ·rw[WZ,WD,Jp]; omega
theorem fH.va(r:fH o u):o.isSome=u.isSome:=by
 cases o with
 | none=>cases u with
  | none=>rfl
  | some _=>exact(show False from r).elim
 | some _=>cases u with
  | none=>exact(show False from r).elim
  | some _=>rfl
theorem fH.getD(r:fH o u)(rd:RelV d d'):RelV (o.getD d) (u.getD d'):=by
 cases o with
 | none=>cases u with
  | none=>exact rd
  | some _=>exact(show False from r).elim
 | some _=>cases u with
  | none=>exact(show False from r).elim
  | some _=>exact r
theorem KV.val{kvs:List (κ×V)}{vs:List (κ×Value)}(r:KV kvs vs)(k:κ):fH (de kvs k) (valueAt vs k):=by
 unfold KV at r;induction r with
 | nil=>exact True.intro
 | @cons p q ps qs h t ih =>
  obtain⟨h1,h2⟩:=h;by_cases e:p.1=k
  ·have e':q.1=k:=h1.symm.trans e;have b:valueAt (q :: qs) k=some q.2:=by simp[valueAt,Qz,e']
   rw[iD e,b]; exact h2
  ·have e':¬ q.1=k:=λz=>e (h1.trans z)
   have b:valueAt (q :: qs) k=valueAt qs k:=by simp[valueAt,Qz,e']
   rw[iE e,b]; exact ih
theorem KV.any(r:KV kvs vs)(k:κ):(kvs.any λkv=>decide (kv.1=k))=vs.any λkv=>decide (kv.1=k):=by
 unfold KV at r;induction r with
 | nil=>rfl
 | cons h t ih=>rw[QY,QY,ih,h.1]
theorem KV.vb(r:KV kvs vs)(k:κ)(ry:RelV y u) :
  KV (kvs.map λkv=>if kv.1=k then(kv.1,y) else kv) (vs.map λkv=>if kv.1=k then(kv.1,u) else kv):=by
 unfold KV at r ⊢;induction r with
 | nil=>exact .nil
 | @cons p q ps qs h t ih =>
  rw[Wo,Wo];refine .cons ?_ ih;obtain⟨h1,h2⟩:=h;by_cases e:p.1=k
  ·rw[if_pos e,if_pos (h1.symm.trans e)]; exact⟨h1,ry⟩
  ·rw[if_neg e,if_neg (λz=>e (h1.trans z))]; exact⟨h1,h2⟩
theorem KV.put(r:KV kvs vs)(k:κ)(ry:RelV y u):KV (putK kvs k y) (stored vs k u):=by
 unfold putK stored;rw[r.any k];by_cases e:(vs.any λkv=>decide (kv.1=k))=true
 ·rw[if_pos e,if_pos e]; exact r.vb k ry
 ·rw[if_neg e,if_neg e]; exact Paired.snoc r ⟨rfl,ry⟩
theorem KV.length(r:KV kvs vs):kvs.length=vs.length:=Paired.length r
end
theorem mq(r:RelV (kV k) u):(dO P w).is k u=true:=by
 cases k with
 | inl i=>obtain⟨t,e⟩:=(show ∃ t,u=Value.int i t from r); subst e; exact Hw P w i t
 | inr x=>obtain⟨t,e⟩:=(show ∃ t,u=Value.str x t from r); subst e; exact Hx P w x t
theorem BQ:∀ {ks:List Key} {us:List Value},Vals (ks.map kV) us->ItemsAre (dO P w) ks us
 | [],_,r=>by rw[List.map_nil] at r; cases r; exact .nil
 | k :: ks,_,r=>by
  rw[Wo] at r
  cases r with
  | cons h t=>exact .cons (mq h) (BQ t)
abbrev KT(H:Hp):List (List Key×V)->List (List Key×Addr×Value)->Prop:=Paired λp q=>p.1=q.1/\H q.2.1=some (.tup (p.1.map kV))/\RelV p.2 q.2.2
theorem KT.val{H:Hp}{kvs:List (List Key×V)}{xs:List (List Key×Addr×Value)}(r:KT H kvs xs)(k:List Key):fH (de kvs k) ((atKey xs k).map (·.2)):=by
 induction r with
 | nil=>exact True.intro
 | @cons p q ps qs h t ih =>
  obtain⟨h1,_,h2⟩:=h;by_cases e:p.1=k
  ·have e':q.1=k:=h1.symm.trans e;have b:atKey (q :: qs) k=some q.2:=by simp[atKey,Qz,e']
   rw[iD e,b]; exact h2
  ·have e':¬ q.1=k:=λz=>e (h1.trans z)
   have b:atKey (q :: qs) k=atKey qs k:=by simp[atKey,Qz,e']
   rw[iE e,b]; exact ih
theorem KT.vb(r:KT H kvs xs)(k:List Key)(ry:RelV y u) :
  KT H (kvs.map λkv=>if kv.1=k then(kv.1,y) else kv) (xs.map (putAt k u)):=by
 induction r with
 | nil=>exact .nil
 | @cons p q ps qs h t ih =>
  rw[Wo,Wo];refine .cons ?_ ih;obtain⟨h1,h2,h3⟩:=h;unfold putAt;by_cases e:p.1=k
  ·rw[if_pos e,if_pos (h1.symm.trans e)]; exact⟨h1,h2,ry⟩
  ·rw[if_neg e,if_neg (λz=>e (h1.trans z))]; exact⟨h1,h2,h3⟩
theorem KT.put(r:KT H kvs xs)(k:List Key)(hb:H b=some (.tup (k.map kV)))(ry:RelV y u) :
  KT H (putK kvs k y) (storedH xs k b u):=by
 have e:(kvs.any λkv=>decide (kv.1=k))=(atKey xs k).isSome:=by
  rw[sg,(r.val k).va,Option.isSome_map]
 unfold putK storedH;rw[e];by_cases q:(atKey xs k).isSome=true
 ·rw[if_pos q,if_pos q]; exact r.vb k ry
 ·rw[if_neg q,if_neg q]; exact Paired.snoc r ⟨rfl,hb,ry⟩
theorem KT.keeps(r:KT H kvs xs)(ht:∀ b ys,H b=some (.tup ys)->H' b=some (.tup ys)):KT H' kvs xs :=
 Paired.rK r λ_ _ z=>⟨z.1,ht _ _ z.2.1,z.2.2⟩
section
variable {P:Wm} {w:Wq} {H:Hp} {h:Heap} {a:Addr}
theorem BR(ok:cM P w H h)(e:Rd H a u):bG P w H h a u:=e.ok ok
theorem nV(ok:cM P w H h)(e:Rd H a (.dK kvs)):kvs.length<=Wb/\(a == J3)=false/\∃ vs,KV kvs vs/\h.DictOf (dO P w) a vs :=
 show bG P w H h a (.dK kvs) from BR ok e
theorem pJ(ok:cM P w H h)(e:H a=some (.dK kvs)):kvs.length<=Wb/\(a == J3)=false/\∃ vs,KV kvs vs/\h.DictOf (dO P w) a vs:=nV ok (.inl e)
theorem pK(ok:cM P w H h)(e:H a=some (.tup (ks.map kV))):(tupleKind (dO P w)).is h ks a:=by
 obtain⟨_,ag,r,p⟩:=(show bG P w H h a (.tup (ks.map kV)) from ok a _ e)
 obtain⟨o,h1,h2,n,h3⟩:=p.tup;exact⟨o,ag.toArray,n,h1,h2,h3,by simpa using BQ r⟩
theorem pL(ok:cM P w H h)(e:Rd H a (.dT kvs)):kvs.length<=Wb/\(a == J3)=false /\
  ∃ xs,KT H kvs xs/\h.DictOfH (tupleKind (dO P w)) a xs:=by
 obtain⟨z,y,xs,r,o,es,ep,h1,h2,h3,h4,h5⟩:=(show bG P w H h a (.dT kvs) from BR ok e)
 refine⟨z,y,xs,r,o,es,ep,h1,h2,h3,h4,λx hx=>?_,h5⟩;have all:∀ {l:List (List Key×V)} {m:List (List Key×Addr×Value)},KT H l m->∀ x ∈ m,(tupleKind (dO P w)).is h x.1 x.2.1:=by
  intro l m q;induction q with
  | nil=>intro x hx; exact nomatch hx
  | @cons p q ps qs hq t ih =>
   intro x hx;rcases Wl.mp hx with e | hx
   ·subst e;exact pK ok (by rw[<- hq.1]; exact hq.2.1)
   ·exact ih x hx
 exact all r x hx
theorem KH(ok:cM P w H h)(e:H a=some (.dT kvs)):kvs.length<=Wb/\(a == J3)=false /\
  ∃ xs,KT H kvs xs/\h.DictOfH (tupleKind (dO P w)) a xs:=pL ok (.inl e)
end
def kX(H:Hp)(a:Addr)(y:V)(r:Option V):Prop :=
 (∃ kvs k,Rd H a (.dK kvs)/\y=kV k/\r=de kvs k)\/∃ kvs k b,Rd H a (.dT kvs)/\y = .ref b/\H b=some (.tup (k.map kV))/\r=de kvs k
def nW(H:Hp)(a:Addr)(y v:V)(H':Hp):Prop :=
 (∃ kvs k,H a=some (.dK kvs)/\y=kV k/\kvs.length < Wb/\H'=upd H a (.dK (putK kvs k v))) \/
 ∃ kvs k b,H a=some (.dT kvs)/\y = .ref b/\H b=some (.tup (k.map kV))/\kvs.length < Wb/\H'=upd H a (.dT (putK kvs k v))
theorem kX.k{H:Hp}{a:Addr}{kvs:List (Key×V)}{k:Key}(e:H a=some (.dK kvs)):kX H a (kV k) (de kvs k):=.inl ⟨kvs,k,.inl e,rfl,rfl⟩
theorem nW.k{H:Hp}{a:Addr}{kvs:List (Key×V)}{k:Key}{v:V}(e:H a=some (.dK kvs))(hl:kvs.length < Wb):nW H a (kV k) v (upd H a (.dK (putK kvs k v))):=.inl ⟨kvs,k,e,rfl,hl,rfl⟩
section
variable {X:Cx} {pins:List (Addr×Obj)} {σ:St} {H:Hp} {s:W2} {a:Addr} {y v:V} {u r:Value} {o:Option V} {A:Wp} {E:Value->W2->Prop}
theorem Inv.big(I:Inv X pins σ H s):J3 < s.heap.objs.size:=by
 have h:Ws < s.heap.objs.size:=(I.mod.glob.keeps I.bk).lt;exact Nat.lt_trans (by decide) h
theorem KI(hu:A.units + 1 < Qp)(I:Inv X pins σ H s)(g:kX H a y (some v))(ry:RelV y u)(h:∀ w' s',Inv X pins σ H s'->RelV v w'->Q w' s') :
  W8 (model X.prog X.w) A (getItem (.ref a) u) Q E s:=by
 rcases g with ⟨kvs,k,e,ey,l⟩ | ⟨kvs,k,b,e,ey,eb,l⟩
 ·subst ey;obtain⟨z,hd,vs,rel,dd⟩:=nV I.aw e;obtain⟨w',hw,aH⟩:=fH.some_of (v:=v) (o:=valueAt vs k) (by rw[l]; exact rel.val k);exact wpAny_getItem_of (mq ry) dd.mapOf hw (h w' _ (I.tok _) aH)
 ·subst ey
  cases (show u=Value.ref b from ry);obtain⟨z,hd,xs,rel,dd⟩:=pL I.aw e;obtain⟨w',hw,aH⟩:=fH.some_of (v:=v) (o:=(atKey xs k).map (·.2)) (by rw[l]; exact rel.val k);obtain⟨p,hp,vc⟩:=WM.mp hw;refine wpAny_getItem_heap (JM hu) (pK I.aw eb) dd hp ?_;rw[vc];exact h w' _ (I.tok _) aH
theorem KJ(hu:A.units + 1 < Qp)(I:Inv X pins σ H s)(g:kX H a y o)(ry:RelV y u)(h:∀ s',Inv X pins σ H s'->Q (.bool (!o.isSome)) s') :
  W8 (model X.prog X.w) A (WY .NotIn u (.ref a)) Q E s:=by
 rcases g with ⟨kvs,k,e,ey,l⟩ | ⟨kvs,k,b,e,ey,eb,l⟩
 ·subst ey;obtain⟨z,hd,vs,rel,dd⟩:=nV I.aw e;refine wpAny_notIn_of (mq ry) hd dd.mapOf ?_;rw[<- (rel.val k).va,<- l];exact h _ (I.tok _)
 ·subst ey
  cases (show u=Value.ref b from ry);obtain⟨z,hd,xs,rel,dd⟩:=pL I.aw e;refine wpAny_notIn_heap (JM hu) (pK I.aw eb) hd dd ?_;have q:=(rel.val k).va;rw[Option.isSome_map] at q;rw[<- q,<- l];exact h _ (I.tok _)
theorem sh(I:Inv X pins σ H s)(mu:pj (H a))(hs:Je a s.heap h')(he:∃ q,h'.get? a=some q)(new:bG X.prog X.w (upd H a ob) h' a ob) :
  Inv X pins σ (upd H a ob) { s with heap:=h',toks:=t' } :=
 I.write (x:=a) (e:=a) mu (.inl rfl) (λb q hb z=>(hs.2 b hb).trans z) he new
theorem vd(z:kvs.length<=Wb)(hd:(a == J3)=false)(rel:KV kvs vs)(dd:h'.DictOf (dO P w) a vs) :
  bG P w H' h' a (.dK kvs):=⟨z,hd,vs,rel,dd⟩
theorem KL(hu:A.units + 1 < Qp)(I:Inv X pins σ H s)(g:nW H a y v H')(ry:RelV y u)(rv:RelV v r)(h:∀ s',Inv X pins σ H' s'->Q () s') :
  W8 (model X.prog X.w) A (setItem (.ref a) u r) Q E s:=by
 rcases g with ⟨kvs,k,e,ey,l,eH⟩ | ⟨kvs,k,b,e,ey,eb,l,eH⟩
 ·subst ey eH;obtain⟨z,hd,vs,rel,dd⟩:=pJ I.aw e;have hz:vs.length<=Wb:=by rw[<- rel.length]; exact z
  have hl:(putK kvs k v).length<=Wb:=by have:=pI kvs k v; omega
  refine wpAny_setItem_pairs (hsz:=hz) (mq ry) dd λh' jF hs=>h _ ?_
  have he:∃ q,h'.get? a=some q:=let ⟨q,_,_,hq,_⟩:=jF; ⟨q,hq⟩
  exact sh I (by rw[e]; exact True.intro) hs he (vd hl hd (rel.put k rv) jF)
 ·subst ey eH
  cases (show u=Value.ref b from ry);obtain⟨z,hd,xs,rel,dd⟩:=KH I.aw e;have hz:xs.length<=Wb:=by rw[<- Paired.length rel]; exact z
  have hl:(putK kvs k v).length<=Wb:=by have:=pI kvs k v; omega
  refine wpAny_setItem_heap (hsz:=hz) (JM hu) (pK I.aw eb) dd λh' jF hs=>h _ ?_
  obtain⟨q,es,ep,hq,h2,h3,h4,_,h5⟩:=jF;refine sh I (by rw[e]; exact True.intro) hs ⟨q,hq⟩ ⟨hl,hd,_,(rel.put k eb rv).keeps λc ys ec=>?_,q,es,ep,hq,h2,h3,h4,h5⟩;rw[aG (Hz ec e (λz=>nomatch z))];exact ec
end
section
variable {X:Cx} {pins:List (Addr×Obj)} {σ:St} {H:Hp} {s:W2} {a:Addr} {kvs:List (Key×V)} {k:Key} {u:Value} {A:Wp} {E:Value->W2->Prop}
theorem KN (I:Inv X pins σ H s) (e:Rd H a (.dK kvs)) (h:∀ t s',Inv X pins σ H s'->Q (.int kvs.length t) s'):W8 (model X.prog X.w) A (call (.builtin "len") [.ref a]) Q E s:=by
 obtain⟨z,hd,vs,rel,dd⟩:=nV I.aw e;refine call_len_dict hd dd (by rw[<- rel.length]; rw[Qr] at z; omega) ?_;rw[<- rel.length];exact h _ _ (I.tok _)
end
def KO(td ty tv:TE):TS:=λD σ H=>tv σ H λv H1=>td σ H1 λx H2=>ty σ H2 λy H3=>∃ a H4,x = .ref a/\nW H3 a y v H4/\D.nx σ H4
section
variable {X:Cx} {o i e value:Expr} {pos pos' IS:Pos} {td ty tv:TE}
theorem BS(hu:X.A.units + 1 < Qp)(ho:PE X o td)(hi:PE X i ty)(hv:PE X value tv)(hs:QQ value (some (.Subscript o i pos')) pos.line X.env=pure false) :
  PS X (.Assign [.Subscript o i pos'] value pos) (KO td ty tv):=by
 intro pins s σ H D I h;refine wpAny_Assign_Subscript (aV (hv pins s σ H _ I h) λr s1 ⟨v,H1,I1,rv,q1⟩=>aV (ho pins s1 σ H1 _ I1 q1) λu s2 ⟨x,H2,I2,rx,q2⟩=>aV (hi pins s2 σ H2 _ I2 q2) λiv s3 ⟨y,H3,I3,ry,a,H4,ex,g,q3⟩=>?_) hs;subst ex;obtain rfl:u=Value.ref a:=rx;exact KL hu I3 g ry rv λs4 I4=>⟨σ,H4,I4,q3⟩
end
theorem ve (h:Heap) (hb:J3 < h.objs.size):bG P w H (h.push { cls:=.type "dict",data:=.dict #[] }) h.objs.size (.dK []) :=
 ⟨Qs _,beq_eq_false_iff_ne.mpr (Ne.symm (Wi hb)),[],.nil,Heap.DictOf.new h⟩
def KP:TE:=λ_ H Q=>∀ p,H p=none->Q (.ref p) (upd H p (.dK []))
section
variable {X:Cx} {pos:Pos}
theorem KQ:PE X (.Dict [] [] pos) KP:=λpins s σ H Q I h =>
 wpAny_Dict_empty ⟨.ref s.heap.objs.size,_,I.laid (a:=s.heap.objs.size) (o:=.dK []) (t':=s.toks) (λ_ _ q=>W5 _ q) (Wg _) (ve s.heap I.big),rfl,h _ (I.aw.fresh (Wg _))⟩
end
def vf:List (TE×TE)->St->Hp->(List (V×V)->Hp->Prop)->Prop
 | [],_,H,Q=>Q [] H
 | (tk,tv) :: r,σ,H,Q=>tk σ H λx H1=>tv σ H1 λy H2=>vf r σ H2 λps H3=>Q ((x,y) :: ps) H3
abbrev VV:List (V×V)->List (Value×Value)->Prop:=Paired λp q=>RelV p.1 q.1/\RelV p.2 q.2
def si(X:Cx)(pos:Pos)(keys:List (Option Expr))(values:List Expr)(mr:List (TE×TE)):Prop :=
 ∀ (pins:List (Addr×Obj)) (s:W2) (σ:St) (H:Hp) (Q:List (V×V)->Hp->Prop),Inv X pins σ H s->vf mr σ H Q ->
  W8 (model X.prog X.w) X.A (evalPairs (pairTrees keys values X.env pos)) (λvs s'=>∃ ps H',Inv X pins σ H' s'/\VV ps vs/\Q ps H') X.xe s
theorem KR:si X pos [] [] []:=λpins s σ H Q I h=>pairTrees_nil_walk ⟨[],H,I,.nil,h⟩
theorem KS(hk:PE X k tk)(hv:PE X v tv)(hr:si X pos ks vs mr) :
  si X pos (some k :: ks) (v :: vs) ((tk,tv) :: mr):=λpins s σ H Q I h =>
 pairTrees_cons_walk (aV (hk pins s σ H _ I h) λu s1 ⟨x,H1,I1,rx,q1⟩=>aV (hv pins s1 σ H1 _ I1 q1) λw2 s2 ⟨y,H2,I2,ry,q2⟩ =>
  aV (hr pins s2 σ H2 _ I2 q2) λws s3 ⟨ps,H3,I3,rel,q3⟩=>⟨(x,y) :: ps,H3,I3,.cons ⟨rx,ry⟩ rel,q3⟩)
def mw(kvs more:List (Key×V)):List (Key×V):=more.foldl (λacc kv=>putK acc kv.1 kv.2) kvs
theorem KV.merge:∀ {more:List (Key×V)} {rs:List (Key×Value)} {kvs:List (Key×V)} {vs:List (Key×Value)},KV more rs->KV kvs vs->KV (mw kvs more) (merged vs rs):=by
 intro more rs kvs vs r;unfold KV at r;induction r generalizing kvs vs with
 | nil=>intro q; exact q
 | @cons p q ps qs h t ih =>
  intro r0;have e:KV (putK kvs p.1 p.2) (stored vs q.1 q.2):=by
   have:=r0.put p.1 h.2;rw[<- h.1]; exact this
  exact ih e
theorem BU:∀ (more kvs:List (Key×V)),(mw kvs more).length<=kvs.length + more.length
 | [],kvs=>by show kvs.length<=kvs.length + 0; omega
 | p :: r,kvs=>by
  have h1:=BU r (putK kvs p.1 p.2);have h2:=pI kvs p.1 p.2;show(mw (putK kvs p.1 p.2) r).length<=_;rw[WD]; omega
theorem BV:∀ {kvs:List (Key×V)} {ws:List (Value×Value)},VV (kvs.map λkv=>(kV kv.1,kv.2)) ws->∃ rs,Carries (dO P w) ws rs/\KV kvs rs
 | [],_,r=>by rw[List.map_nil] at r; cases r; exact⟨[],True.intro,.nil⟩
 | p :: kvs,_,r=>by
  rw[Wo] at r
  cases r with
  | @cons a b as bs h t =>
   obtain⟨rs,c,q⟩:=BV (P:=P) (w:=w) t;obtain⟨b1,b2⟩:=b;exact⟨(p.1,b2) :: rs,⟨mq h.1,rfl,c⟩,.cons ⟨rfl,h.2⟩ q⟩
def KU(mr:List (TE×TE)):TE:=λσ H Q=>∀ p,H p=none->vf mr σ (upd H p (.dK [])) λps H2=>H2 p=some (.dK [])/\∃ kvs:List (Key×V),ps=kvs.map (λkv=>(kV kv.1,kv.2))/\kvs.length<=15/\Q (.ref p) (upd H2 p (.dK (mw [] kvs)))
theorem KW(h:si X pos keys values mr)(g8:keys.all (·.isSome)=true)(hl:keys.length=values.length)(h0:keys≠[])
  (KY:keys.length<=15):PE X (.Dict keys values pos) (KU mr):=by
 intro pins s σ H Q I q;have hn:=I.aw.fresh (Wg s.heap.objs.size);have I1:=I.laid (a:=s.heap.objs.size) (o:=.dK []) (h':=s.heap.push { cls:=.type "dict",data:=.dict #[] }) (t':=s.toks) (λ_ _ q=>W5 _ q) (Wg _) (ve s.heap I.big);refine wpAny_Dict_walk (knd:=dO X.prog X.w) g8 hl h0 KY (aV (h pins _ σ _ _ I1 (q _ hn)) λws s2 ⟨ps,H2,I2,rel,e,kvs,ep,lk,q2⟩=>?_);subst ep;obtain⟨rs,c,rk⟩:=BV (P:=X.prog) (w:=X.w) rel;obtain⟨z,hd,vs0,r0,dd⟩:=pJ I2.aw e
 cases r0;refine⟨rs,c,dd,λh' jF hs=>⟨.ref s.heap.objs.size,_,?_,rfl,q2⟩⟩;have hz:(mw [] kvs).length<=Wb:=by
  have h1:=BU kvs [];rw[Jp] at h1;rw[Qr]; omega
 have he:∃ q,h'.get? s.heap.objs.size=some q:=let ⟨q,_,_,hq,_⟩:=jF; ⟨q,hq⟩
 exact sh I2 (by rw[e]; exact True.intro) hs he (vd hz hd (rk.merge .nil) jF)
structure M2(X:Cx)(o:Expr)(m:Str)(apos:Pos)(e f:Expr)(ba:Pos):Prop where
 base:Q6 o m X.env (eval o X.env)=eval o X.env
 KZ:((WU ba (W7 [e,f] X.env)).all (λx=>!x.1) && (JL ba (Jc [] X.env)).all (λx=>x.1.isSome)
  && decide (([e,f]:List Expr).length + ([]:List Keyword).length + (if ([]:List Keyword).isEmpty then 0 else 1) < 30))=true
 line:(apos.endLine == ba.line)=true
 trees:WU ba (W7 [e,f] X.env)=[(false,eval e X.env),(false,eval f X.env)]
def BW(H:Hp)(a:Addr):Prop:=(∃ kvs,Rd H a (.dK kvs))\/∃ kvs,Rd H a (.dT kvs)
theorem K0(I:Inv X pins σ H s)(d:BW H a) :
  s.TypeIs (.ref a) "dict"/\(∀ b,Value.ref a = .ref b->∃ ob,s.heap.get? b=some ob/\ob.dict=none)/\(a == J3)=false:=by
 rcases d with ⟨kvs,e⟩ | ⟨kvs,e⟩
 ·obtain⟨_,hd,vs,_,dd⟩:=nV I.aw e;refine⟨dd.typeIs,λb q=>?_,hd⟩
  cases q;obtain⟨ob,_,_,h1,h2,_⟩:=dd;exact⟨ob,h1,h2.2.1⟩
 ·obtain⟨_,hd,xs,_,dd⟩:=pL I.aw e;refine⟨dd.typeIs,λb q=>?_,hd⟩
  cases q;obtain⟨ob,_,_,h1,h2,_⟩:=dd;exact⟨ob,h1,h2.2.1⟩
section
variable {X:Cx} {pins:List (Addr×Obj)} {σ:St} {H:Hp} {s:W2} {a:Addr} {y d:V} {u r:Value} {o:Option V} {A:Wp} {E:Value->W2->Prop}
theorem K1(hu:A.units + 1 < Qp)(I:Inv X pins σ H s)(g:kX H a y o)(ry:RelV y u)(rd:RelV d r)(h:∀ w' s',Inv X pins σ H s'->RelV (o.getD d) w'->Q w' s') :
  W8 (model X.prog X.w) A (call (.builtin "dict.get") [.ref a,u,r]) Q E s:=by
 rcases g with ⟨kvs,k,e,ey,l⟩ | ⟨kvs,k,b,e,ey,eb,l⟩
 ·subst ey;obtain⟨z,hd,vs,rel,dd⟩:=nV I.aw e;refine call_meetsIn PySem.F.slot_dict_get dd.typeIs PySem.F.entry_dict_get (PySem.F.args_dict_get_3 _ _ _) (meets_dict_get_default (dO X.prog X.w) a (mq ry) hd r) ⟨_,dd.mapOf,h _ _ (I.tok _) ?_⟩;rw[l];exact(rel.val k).getD rd
 ·subst ey
  cases (show u=Value.ref b from ry);obtain⟨z,hd,xs,rel,dd⟩:=pL I.aw e;refine call_meetsIn PySem.F.slot_dict_get dd.typeIs PySem.F.entry_dict_get (PySem.F.args_dict_get_3 _ _ _) (meetsH_dict_get_default (tupleKind (dO X.prog X.w)) a b hd r) ⟨JM hu,k,xs,pK I.aw eb,dd,h _ _ (I.tok _) ?_⟩;rw[l];exact(rel.val k).getD rd
end
def K2(td ty tx:TE):TE:=λσ H Q=>td σ H λx H1=>∃ a,x = .ref a/\BW H1 a/\ty σ H1 λy H2=>tx σ H2 λz H3=>∃ o,kX H3 a y o/\Q (o.getD z) H3
section
variable {X:Cx} {o e f:Expr} {apos ba:Pos} {td ty tx:TE}
theorem K3 (hu:X.A.units + 1 < Qp) (ho:PE X o td) (he:PE X e ty) (hf:PE X f tx) (m:M2 X o "get" apos e f ba):PE X (.Call (.Attribute o "get" apos) [e,f] [] ba) (K2 td ty tx):=by
 intro pins s σ H Q I h;refine wpAny_Call_method m.base m.KZ m.line PySem.F.plainAttrs_dict PySem.F.slot_dict_get PySem.F.type_dict_get (aV (ho pins s σ H _ I h) λu s1 ⟨x,H1,I1,rx,a,ex,d,q1⟩=>?_);subst ex;obtain rfl:u=Value.ref a:=rx;obtain⟨t1,t2,_⟩:=K0 I1 d;refine⟨t1,t2,?_⟩;rw[m.trees];refine Calls.callWith_builtin rfl (Calls.evalArgs_plain (Calls.spliced_cons (aV (he pins s1 σ H1 _ I1 q1) λiv s2 ⟨y,H2,I2,ry,q2⟩ =>
  Calls.spliced_cons (aV (hf pins s2 σ H2 _ I2 q2) λfv s3 ⟨z,H3,I3,rz,ov,g,q3⟩=>Calls.spliced_nil ?_))))
 exact K1 hu I3 g ry rz λw' s4 I4 aH=>⟨_,H3,I4,aH,q3⟩
end
section
variable {X:Cx} {pins:List (Addr×Obj)} {σ:St} {H:Hp} {s:W2} {a:Addr} {kvs:List (Key×V)} {A:Wp} {E:Value->W2->Prop}
end
section
variable {X:Cx} {pins:List (Addr×Obj)} {σ:St} {H:Hp} {s:W2} {a:Addr} {y:V} {u:Value} {A:Wp} {E:Value->W2->Prop}
end
end L2
namespace Att
open PySem PySem.W PySem.Calls PyProof.Rows
theorem K4:∀ (ns:List Int) (vs:List Value),WellAll P h vs (ns.map WData.int)->IntsAre vs ns:=by
 intro ns;induction ns with
 | nil =>
  intro vs w;rw[List.map_nil] at w
  cases w;exact .nil
 | cons n ns ih =>
  intro vs w;rw[Wo] at w
  cases w with
  | cons a b =>
   cases a;exact .cons _ _ (ih _ b)
theorem K5{l:OpenLaw}{n:Nat}(hn:l.most=some n){P:Params}{h:Heap}{args:List WData}{vals:List Value}
  (sj:l.row.toRowW.claim.pre args=true) (pM:WellAll P h vals args) :
  ∃ a vs ns,vals=[Value.ref a]/\args=[WData.list (ns.map WData.int)]/\h.get? a=some { cls:=.type "list",data:=.seq vs.toArray }/\IntsAre vs ns/\ns.length<=n:=by
 have K6:WShape.hasAll [] args [.list .int]=true:=(pre_splitW sj).1;have hc:l.pre.holds [] { args:=args } = true:=(pre_splitW sj).2;obtain⟨d,r,rfl,h1,h2⟩:=hasAllW_cons K6;obtain rfl:=hasAllW_nil h2;obtain⟨xs,rfl,h3⟩:=hasW_list h1;obtain⟨ns,rfl⟩:=items_int h3;have hlen:ns.length<=n:=by
  unfold OpenLaw.pre at hc;have h4:(WTm.not (.lt (.lit (.int (n:Int))) (.len (.arg 0)))).holds [] { args:=[.list (ns.map .int)] } = true:=by
   have h4:=(holds_andW hc).1;rw[hn] at h4;exact h4
  have h5:=condW_of h4 (w_not (w_lt w_lit (w_len_list (w_arg rfl))));rw[Wy] at h5;refine Nat.le_of_not_lt λq=>?_
  have q':(n:Int) < ((ns.length:Nat):Int):=by omega
  first
   | (rw[decide_eq_true q'] at h5; exact absurd h5 (by decide))
   | (simp at h5; omega)
 cases pM with
 | cons w1 w2 =>
  cases w2
  cases w1 with
  | list ho g8=>exact⟨_,_,ns,rfl,rfl,ho,K4 ns _ g8,hlen⟩
theorem K7(l:OpenLaw)(args:List WData):l.row.toRowW.claim.post args (.bool true) args=true :=
 postW_of (r:=l.row.toRowW) (X:=(true == true))
  (show WShape.has [] (.bool true) .bool=true by first | rfl | decide | simp[WShape.has,WShape.arms,WShape.armsAll])
  (show(WTm.eq .res (.lit (.bool true))).value [] { args:=args,res:=some (.bool true),after:=args } = some (.bool (true == true)) from w_eq_bool (w_res rfl) w_lit) rfl
theorem K8{l:OpenLaw}{n:Nat}{q:Wm}{loose:List Str}{XP:(Str->Option Value)->Heap->Prop}{YP:Wq->Heap->Prop}{d:DefRec}
  (hn:l.most=some n) (pN:d.params.defaults=[])
  (call:∀ (w:Wq) (s₀ s₁:W2) (mg mb:Str->Option Value) (fa:Addr) (o:Obj) (pm cd doc:Value) (a:Addr) (vs:List Value) (ns:List Int),
   Ground q loose [] XP w s₀ mg mb s₁.heap->YP w s₁.heap ->
   s₁.heap.get? fa=some o->o.data = .func (docDef d.name d.params d.body d.scope pm cd doc)->s₁.heap.CodeRec cd d.name->mg d.name=some (.ref fa) ->
   s₁.heap.get? a=some { cls:=.type "list",data:=.seq vs.toArray }->IntsAre vs ns->ns.length<=n->s₁.gens = #[] ->
   Qa (model l.prog w) callerA (.call (.ref fa) ⟨[.ref a],[]⟩) (λr s'=>r = .ok (.ret (.bool true))/\OldK s₁.heap s'.heap/\s'.os=s₁.os/\AllBare s'.gens) s₁) :
  WalkO q loose XP YP l.row.toRowW d [] (λf vs=>PySem.call f vs):=by
 intro w s₀ s₁ mg mb G Y fa o pm cd doc dV kV ho hd dP hD pO hg args vals as sj hlay hrd pM BX;obtain rfl:dV = .none:=Dflts.none hD pN;obtain rfl:kV = .none:=Dflts.noKw hD;obtain⟨a,vs,ns,rfl,rfl,vg,hints,hlen⟩:=K5 hn sj pM;refine enter_call (QV (call w s₀ s₁ mg mb fa o pm cd doc a vs ns G Y ho (fd_plain hd) dP pO vg hints hlen hg) λr s' hq=>?_);obtain⟨rfl,h2,h3,h4⟩:=hq;exact⟨.inl ⟨.bool true,.bool true,[],rfl,λ_=>rfl,.bool true,K7 l _,λ_=>⟨List.Pairwise.nil,λ_ hm=>(nomatch hm)⟩⟩,h2,h3,h4⟩
section
variable {prog:Wm} {w:Wq} {A:Wp} {E:Value->W2->Prop} {s:W2} {K:Frag}
end
end Att
namespace L2
open PySem PySem.Spec PyProof.Rows
theorem BY:∀ {vs:List Value} {ns:List Int},IntsAre vs ns->Vals (ns.map V.int) vs
 | _,_,.nil=>.nil
 | _,_,.cons n t h=>.cons ⟨t,rfl⟩ (BY h)
def vh(H:Hp):Prop:=∀ b,H b=none\/∃ o xs,H b=some (.frz o (.lst xs))
theorem K9{P:Wm}{w:Wq}{K:W1}{mg mb:Str->Option Value}{CX:iB}{k:Nat}{fa a:Addr}{fd:WP}{x:Str}{sp:Sp}{s₁:W2}{vs:List Value}{ns:List Int}
  (KX:K.In s₁.heap) (BZ:s₁.heap.Ns Ws mg) (hb:s₁.heap.Ns builtinsNs mb) (K_:∀ x:Str,x≠"__name__"->mb x=Qj x) (La:s₁.heap.NoLimit) (hg:s₁.gens = #[])
  (ha:s₁.heap.get? a=some { cls:=.type "list",data:=.seq vs.toArray }) (hi:IntsAre vs ns) (hl:ns.length<=Wb) (hr:cG k callerA)
  (F:∀ base:Heap,K.In base->base.Ns Ws mg->eV P w K mg base CX k fa fd [x] sp) (Lb:∀ (s:W2) (u:Value),BindsTo s fd ⟨[u],[]⟩ [(x,u)])
  (iY:∀ H:Hp,vh H->bS K H a (ns.map V.int)->sp [.ref a] H (λv _=>v = .bl true) λ_ _ _=>False)
  (vi:∀ H e s',CX [] H s₁ (λ_ _ _=>False) e s'->False) :
  Qa (model P w) callerA (.call (.ref fa) ⟨[.ref a],[]⟩) (λr s'=>r = .ok (.ret (.bool true))/\OldK s₁.heap s'.heap/\s'.os=s₁.os/\AllBare s'.gens) s₁:=by
 have rv:=BY hi;have Lc:=hi.length;-- from an abstract heap in which nothing but the script may be tracked
 have core:∀ H:Hp,vh H->bS K H a (ns.map V.int)->cM P w H s₁.heap->(∀ b,H b≠none->b=a)->(H a≠none->K.lookup a=none) ->
   Qa (model P w) callerA (.call (.ref fa) ⟨[.ref a],[]⟩) (λr s'=>r = .ok (.ret (.bool true))/\OldK s₁.heap s'.heap/\s'.os=s₁.os/\AllBare s'.gens) s₁:=by
  intro H hO hS aw hA hK;have B0:∀ {b:Addr} {o:Obj},s₁.heap.get? b=some o->H b=none->(j9 s₁.heap H).get? b=some o:=λe n=>HD e n
  have pD:∀ {b:Addr} {o:Obj} {es:Array DictEntry} {ep:Nat},s₁.heap.get? b=some o->o.data = .dict es ep->H b=none:=λ{b o es ep} e d=>by
   cases q:H b with
   | none=>rfl
   | some u =>
    have e':b=a:=hA b (by rw[q]; simp);subst e';rw[ha] at e; cases e
    have d':Data.seq vs.toArray _=Data.dict es ep:=d
    cases d'
  have sk:∀ {b:Addr} {m:Str->Option Value},s₁.heap.Ns b m->(j9 s₁.heap H).Ns b m:=λ{b m} ⟨o,es,ep,e,d,r⟩=>⟨o,es,ep,B0 e (pD e d),d,r⟩
  have B1:K.In (j9 s₁.heap H):=λb o e=>B0 (KX b o e) (by
   cases q:H b with
   | none=>rfl
   | some u =>
    have e':b=a:=hA b (by rw[q]; simp);subst e';rw[hK (by rw[q]; simp)] at e; cases e)
  have hM:Mod K mg (j9 s₁.heap H):=⟨B1,sk BZ,⟨mb,sk hb,K_⟩,let ⟨mc,h1,h2⟩:=La; ⟨mc,sk h1,h2⟩⟩
  have e0:ka P w K mg (j9 s₁.heap H) callerA [] s₁ H:=⟨rfl,hM,λb o e=>HE e,Nat.le_of_eq (HC _ _),trivial,λb hb=>absurd (show b ∈ ([]:List Addr) from hb) (by simp),aw,.of_eq hg⟩
  refine QV ((F _ B1 (sk BZ)).run callerA [] s₁ H ⟨[.ref a],[]⟩ [.ref a] [.ref a] _ _ hr e0 (Lb s₁ (.ref a)) (.cons rfl .nil) (iY H hO hS)) λr s' h=>?_
  cases r with
  | error e=>exact(vi H e s' h).elim
  | ok fl =>
   cases fl with
   | next=>exact False.elim h
   | brk=>exact False.elim h
   | cont=>exact False.elim h
   | ret u =>
    obtain⟨v,H',os,bare,un,hok',r',q⟩:=h;have q':v = .bl true:=q;subst q';obtain rfl:u=Value.bool true:=r';refine⟨rfl,OldK.of_keep λb o e=>?_,os,bare⟩
    cases q:H b with
    | none=>exact un.keep b o e q (by intro z; exact absurd (show b ∈ ([]:List Addr) from z) (by simp)) (by simp)
    | some u =>
     rcases hO b with z | ⟨ob,xs,z⟩
     ·rw[q] at z; cases z
     ·have z2:=un.gQ b ob _ z;obtain⟨e1,_⟩:=aw b _ z;obtain⟨e2,_⟩:=hok' b _ z2;rw[e] at e1; cases e1
      exact e2
 cases hk:K.lookup a with
 | some o =>
  -- the script is one of the module's own objects
  have e:=KX a o hk;rw[ha] at e
  cases e;refine core (λ_=>none) (λ_=>.inl rfl) (.inr ⟨_,vs.toArray,_,hk,rfl,rfl,rfl,by rw[Wn,Lc]; exact hl,by simpa using rv⟩) (λb u z=>by have z':(none:Option HO)=some u:=z; cases z') (λb z=>absurd rfl z) λz=>absurd rfl z
 | none =>
  refine core (λb=>if b=a then some (.frz { cls:=.type "list",data:=.seq vs.toArray } (.lst (ns.map V.int))) else none) (λb=>?_) (.inl (.inr ⟨{ cls:=.type "list",data:=.seq vs.toArray },if_pos rfl⟩)) (λb u z=>?_) (λb z=>?_) λ_=>hk
  ·by_cases hb:b=a
   ·exact .inr ⟨_,_,if_pos hb⟩
   ·exact .inl (if_neg hb)
  ·by_cases hb:b=a
   ·have z':=(if_pos hb).symm.trans z
    cases z';subst hb;exact⟨ha,by rw[Wy]; exact hl,vs,_,rv,ha⟩
   ·have z':=(if_neg hb).symm.trans z
    cases z'
  ·by_cases hb:b=a
   ·exact hb
   ·exact absurd (if_neg hb) z
abbrev Vq{K:W1}{h:Heap}(_:K.In h):W1:=K
theorem Ld{l:PySem.W.OpenLaw}{n k:Nat}{q:Wm}{loose:List Str}{XP:(Str->Option Value)->Heap->Prop}{YP:Wq->Heap->Prop}{d:DefRec}{K:Params->W1}{CX:Wq->iB}{sp:Wq->Sp}{x:Str}
  (hn:l.most=some n) (Lf:n<=Wb) (pN:d.params.defaults=[]) (hr:cG k callerA)
  (hY:∀ (w:Wq) (h:Heap),YP w h->(K w.params).In h)
  (F:∀ (w:Wq) (mg:Str->Option Value) (fa:Addr) (h:Heap),(K w.params).In h->h.Ns Ws mg->mg d.name=some (.ref fa) ->
   ∃ fd:WP,(∀ (s:W2) (u:Value),BindsTo s fd ⟨[u],[]⟩ [(x,u)]) /\
    ∀ base:Heap,(K w.params).In base->base.Ns Ws mg->eV l.prog w (K w.params) mg base (CX w) k fa fd [x] (sp w))
  (iY:∀ (w:Wq) (H:Hp) (a:Addr) (ns:List Int),ns.length<=n->vh H->bS (K w.params) H a (ns.map V.int)->sp w [.ref a] H (λv _=>v = .bl true) λ_ _ _=>False)
  (vi:∀ (w:Wq) (H:Hp) (s:W2) (e:Value) (s':W2),CX w [] H s (λ_ _ _=>False) e s'->False) :
  PySem.W.WalkO q loose XP YP l.row.toRowW d [] (λf vs=>PySem.call f vs):=by
 refine Att.K8 hn pN λw s₀ s₁ mg mb fa o pm cd doc a vs ns G Y ho hd dP pO vg hints hlen hg=>?_
 have KX:=hY w _ Y;obtain⟨fd,hb,hF⟩:=F w mg fa _ KX G.T.g pO;exact K9 KX G.T.g G.T.b G.T.builtins G.T.nolimit hg vg hints (WK hlen Lf) hr hF hb (λH hO hS=>iY w H a ns hlen hO hS) λH e s'=>vi w H s₁ e s'
def kf(s:Stmt):Arguments:=match s with
 | .FunctionDef _ a _ _ _ _ _ _ _ _=>a
 | _=>{ posonlyargs:=[],args:=[],vararg:=none,kwonlyargs:=[],kw_defaults:=[],kwarg:=none,defaults:=[] }
def fJ(s:Stmt):List Stmt:=match s with
 | .FunctionDef _ _ b _ _ _ _ _ _ _=>b
 | _=>[]
def bo(s:Stmt):Scope:=match s with
 | .FunctionDef _ _ _ _ _ _ sc _ _ _=>sc
 | _=>{ kind:=.function,names:=[],isGenerator:=false,isCoroutine:=false }
abbrev d_:iB:=λ_ _ _ _ _ _=>False
abbrev E0:XK:=λ_ _ _=>False
theorem Lg:uZ d_ X E0:=λ_ _ _ _ _ _ _ h=>h.elim
structure b7(K:W1)(x qual:Str)(st:Stmt)(f:Addr)(fd:WP):Prop where
 ex:∃ (oc:Value) (od:Option Addr) (kV doc pm:Value) (an:Option Addr) (aL ct:Value) (jC:Array (Option Value)),
  fd=QC x qual (kf st) (fJ st) (bo st) .none kV doc pm an aL ct/\K.lookup f=some ⟨oc,od,.func fd,jC⟩/\PySem.W.codeIn K aL qual=true
 kp:QH K (.ref f)=true
section
variable {P:Wm} {w:Wq} {K:W1} {mg:Str->Option Value} {base:Heap}
theorem b7.ok{x qual:Str}{st:Stmt}{f:Addr}{fd:WP}{N ps:List Str}{k:Nat}{sp:Sp}(F:b7 K x qual st f fd)(S:cA N ps (bo st))(len:∀ vs H Q E,sp vs H Q E->vs.length=ps.length)
  (eW:∀ (aL:Value) (A:Wp) (outer:List Env) (s:W2) (H:Hp) (vs:List V) (Q:VK) (E:XK),cG k (A.deeper (Jf qual (bo st) s.heap.objs.size f aL))->sp vs H Q E ->
   ∃ t,dC (fI d_ P w K mg base N qual (bo st) f aL A outer s H E).iy (fJ st) t/\t { nx:=λ_ H'=>Q .aN H',rt:=Q } (start N vs) H):eV P w K mg base d_ (k + 1) f fd ps sp:=by
 obtain⟨oc,od,kV,doc,pm,an,aL,ct,jC,rfl,lk,dP⟩:=F.ex;refine Bs lk dP S len λA outer s H vs Q E hr iY=>?_
 obtain⟨t,h,q⟩:=eW aL A outer s H vs Q E hr iY;exact⟨t,h.iy,q⟩
theorem b7.binds{x qual:Str}{st:Stmt}{f:Addr}{fd:WP}{ps:List Str}(F:b7 K x qual st f fd)
  (h:∀ (kV doc pm:Value) (an:Option Addr) (aL ct:Value) (us:List Value),us.length=ps.length->bindArgs (QC x qual (kf st) (fJ st) (bo st) .none kV doc pm an aL ct) ⟨us,[]⟩=pure (ps.zip us)):Binds K fd ps []:=by
 obtain⟨oc,od,kV,doc,pm,an,aL,ct,jC,rfl,lk,dP⟩:=F.ex;exact .all (h kV doc pm an aL ct)
theorem vj{x qual:Str}{st:Stmt}{f:Addr}{oc:Value}{od an:Option Addr}{jC:Array (Option Value)}{kV doc pm aL ct:Value}(l:K.lookup f=some ⟨oc,od,.func (QC x qual (kf st) (fJ st) (bo st) .none kV doc pm an aL ct),jC⟩)
  (c:PySem.W.codeIn K aL qual=true) (k:QH K (.ref f)=true):b7 K x qual st f (QC x qual (kf st) (fJ st) (bo st) .none kV doc pm an aL ct):=⟨⟨oc,od,kV,doc,pm,an,aL,ct,jC,rfl,l,c⟩,k⟩
end
theorem Lh(h:n<=1000):n < Wb:=Nat.lt_of_le_of_lt h (by decide)
section
variable {X:Cx}
theorem pv (i:Nat) (hN:X.N[i]? = some x:=by rfl) (hv:rM X.env.scope x:=by first | exact Or.inl rfl | exact Or.inr (Or.inl rfl) | exact Or.inr (Or.inr rfl)) (hd:(x == ("__debug__" : Str))=false:=by decide)
  (dP:(x == ("__classdict__" : Str))=false:=by decide):PE X (.Name x pos) (b_ i):=HJ hN hv hd dP
theorem Li:eE X (.builtin "len") (λxs H Q=>∃ a kvs,xs=[V.ref a]/\H a=some (.dK kvs)/\Q (.int kvs.length) H):=by
 intro pins s σ H xs us Q I r h;obtain⟨a,kvs,rfl,ha,q⟩:=h;obtain⟨u,rfl,ru⟩:=gB r
 cases ru;exact KN I (.inl ha) λt s' I'=>⟨.int kvs.length,H,I',⟨t,rfl⟩,q⟩
end
section
variable {κ:Type} [DecidableEq κ]
end
def fK(cells:List (Str×Addr)):List (Str×NameKind)->List (Str×Addr)->List (Str×Addr)
 | [],acc=>acc
 | (n,k) :: r,acc=>fK cells r (if k == .free then(match cells.lookup n with | some a=>(n,a) :: acc | none=>acc) else acc)
theorem vk(f:Str×NameKind->List (Str×Addr)->Sem (ForInStep (List (Str×Addr))))
  (hf:∀ name kind cs,f (name,kind) cs=if kind == .free then(do let a <- cellOf env name; pure (.yield ((name,a) :: cs))) else pure (.yield cs)) :
  ∀ (names:List (Str×NameKind)) (acc:List (Str×Addr)),(∀ x ∈ names,x.2=NameKind.free->∃ c,env.cells.lookup x.1=some c)->(forIn names acc f:Sem (List (Str×Addr)))=pure (fK env.cells names acc)
 | [],acc,_=>by rw[List.forIn_nil]; rfl
 | (n,k) :: r,acc,h=>by
  rw[U6,hf];unfold fK;by_cases hk:(k == NameKind.free)=true
  ·obtain⟨c,hc⟩:=h (n,k) Wf (by simpa using hk);have gA:env.cells.lookup n=some c:=hc;have e:cellOf env n=pure c:=by unfold cellOf; rw[gA]
   rw[if_pos hk,if_pos hk,e,gA];exact vk f hf r _ λx hx=>h x (W9 _ hx)
  ·rw[if_neg hk,if_neg hk];exact vk f hf r _ λx hx=>h x (W9 _ hx)
theorem B2(h:∀ x ∈ scope.names,x.2=NameKind.free->∃ c,env.cells.lookup x.1=some c):closureFor scope env=pure (fK env.cells scope.names []):=by
 unfold closureFor;dsimp only;rw[vk (env:=env) _ (λname kind cs=>by cases hkc:kind == NameKind.free <;> simp[hkc]) scope.names [] h];rfl
theorem B3:∀ (names:List (Str×NameKind)) (acc:List (Str×Addr)),(n,c) ∈ fK cells names acc->(n,c) ∈ acc\/((n,NameKind.free) ∈ names/\cells.lookup n=some c)
 | [],acc,h=>.inl h
 | (y,k) :: r,acc,h=>by
  unfold fK at h;rcases B3 r _ h with q | ⟨q,e⟩
  ·by_cases hk:(k == NameKind.free)=true
   ·rw[if_pos hk] at q;have vm:k=NameKind.free:=by simpa using hk
    cases e:cells.lookup y with
    | none=>rw[e] at q; exact .inl q
    | some a =>
     rw[e] at q;rcases Wl.mp q with z | z
     ·cases z;exact .inr ⟨by rw[vm]; exact Wf,e⟩
     ·exact .inl z
   ·rw[if_neg hk] at q; exact .inl q
  ·exact .inr ⟨W9 _ q,e⟩
theorem B4:∀ (names:List (Str×NameKind)) (acc:List (Str×Addr)),(acc.lookup n).isSome=true\/((n,NameKind.free) ∈ names/\(cells.lookup n).isSome=true)->((fK cells names acc).lookup n).isSome=true
 | [],acc,h=>h.elim id λz=>absurd z.1 (by simp)
 | (y,k) :: r,acc,h=>by
  unfold fK;apply B4 r;by_cases hk:(k == NameKind.free)=true
  ·rw[if_pos hk]
   cases e:cells.lookup y with
   | none =>
    rcases h with h | ⟨h1,h2⟩
    ·exact .inl h
    ·rcases Wl.mp h1 with z | z
     ·cases z;rw[e] at h2; cases h2
     ·exact .inr ⟨z,h2⟩
   | some a =>
    by_cases hn:(n == y)=true
    ·refine .inl ?_;show(List.lookup n ((y,a) :: acc)).isSome=true;rw[WT,hn];rfl
    ·rcases h with h | ⟨h1,h2⟩
     ·refine .inl ?_;show(List.lookup n ((y,a) :: acc)).isSome=true;have jA:(n == y)=false:=by simpa using hn
      rw[WT,jA];exact h
     ·rcases Wl.mp h1 with z | z
      ·cases z;exact absurd (by simp) hn
      ·exact .inr ⟨z,h2⟩
  ·rw[if_neg hk];rcases h with h | ⟨h1,h2⟩
   ·exact .inl h
   ·rcases Wl.mp h1 with z | z
    ·cases z;exact absurd rfl hk
    ·exact .inr ⟨z,h2⟩
theorem vn:∀ (names:List (Str×NameKind)) (h:Heap) (acc:List (Str×Addr)),(n,c) ∈ Qy h.objs.size names acc ->
  (n,c) ∈ acc\/((n,NameKind.cell) ∈ names/\h.objs.size<=c/\(JN h names).IsCell c none)
 | [],_,_,h=>.inl h
 | (y,k) :: r,h,acc,hm=>by
  unfold Qy at hm;unfold JN;by_cases hk:(k == NameKind.cell)=true
  ·rw[if_pos hk] at hm;rw[if_pos hk];have vm:k=NameKind.cell:=by simpa using hk
   have sz:(h.push { cls:=.type "cell",data:=.cell none }).objs.size=h.objs.size + 1:=Jd ..;rw[<- sz] at hm;rcases vn r _ _ hm with q | ⟨q1,q2,q3⟩
   ·rcases Wl.mp q with z | z
    ·cases z;refine .inr ⟨by rw[vm]; exact Wf,Wg _,?_⟩;exact Heap.IsCell.keeps ⟨_,Wj _ rfl,rfl⟩ (pushCells_keeps r _)
    ·exact .inl z
   ·exact .inr ⟨W9 _ q1,by rw[sz] at q2; omega,q3⟩
  ·rw[if_neg hk] at hm;rw[if_neg hk];rcases vn r _ _ hm with q | ⟨q1,q2,q3⟩
   ·exact .inl q
   ·exact .inr ⟨W9 _ q1,q2,q3⟩
theorem vo:∀ (names:List (Str×NameKind)) (k:Nat) (acc:List (Str×Addr)),(∀ n n' c,(n,c) ∈ acc->(n',c) ∈ acc->n=n')->(∀ n c,(n,c) ∈ acc->c < k) ->
  ∀ n n' c,(n,c) ∈ Qy k names acc->(n',c) ∈ Qy k names acc->n=n'
 | [],_,_,h,_=>h
 | (y,kd) :: r,k,acc,h,hb=>by
  unfold Qy;by_cases hk:(kd == NameKind.cell)=true
  ·rw[if_pos hk];refine vo r (k + 1) _ (λn n' c h1 h2=>?_) λn c hm=>?_
   ·rcases Wl.mp h1 with e | h1 <;> rcases Wl.mp h2 with e' | h2
    ·cases e; cases e'; rfl
    ·cases e; exact absurd (hb _ _ h2) (Qf _)
    ·cases e'; exact absurd (hb _ _ h1) (Qf _)
    ·exact h n n' c h1 h2
   ·rcases Wl.mp hm with e | hm
    ·cases e; exact U3 _
    ·exact QP (hb _ _ hm)
  ·rw[if_neg hk];exact vo r k acc h hb
theorem mx{env:Env}{x:Str}:∀ {names:List (Str×NameKind)} {k:NameKind},
  (names.map λ(y:Str×NameKind)=>if (y.2 == NameKind.free && env.scope.kind == .function && env.kindOf y.1 == some .cell) then(y.1,NameKind.cell) else(y.1,y.2)).lookup x=some k ->
  names.lookup x=some k\/(k=NameKind.cell/\names.lookup x=some .free)
 | [],_,h=>by simp at h
 | (n,kd) :: r,k,h=>by
  rw[Wo] at h;have ih:=@mx env x r k
  cases hx:x == n with
  | true =>
   by_cases hc:(kd == NameKind.free && env.scope.kind == .function && env.kindOf n == some .cell)=true
   ·rw[if_pos hc,WT,hx] at h
    cases h;simp only[Wr] at hc;have:kd=NameKind.free:=by simpa using hc.1.1
    exact .inr ⟨rfl,by rw[WT,hx,this]⟩
   ·rw[if_neg hc,WT,hx] at h
    cases h;exact .inl (by rw[WT,hx])
  | false =>
   have h':(r.map λ(y:Str×NameKind)=>if (y.2 == NameKind.free && env.scope.kind == .function && env.kindOf y.1 == some .cell) then(y.1,NameKind.cell) else(y.1,y.2)).lookup x=some k:=by
    by_cases hc:(kd == NameKind.free && env.scope.kind == .function && env.kindOf n == some .cell)=true
    ·rw[if_pos hc,WT,hx] at h; exact h
    ·rw[if_neg hc,WT,hx] at h; exact h
   rw[WT,hx];exact ih h'
def eh(X:Cx)(scope:Scope)(s₀:W2)(H₀:Hp)(ex:List Addr):Cx :=
 { X with
  env:={ scope:=relabel scope X.env,locals:=s₀.heap.objs.size,globals:=X.env.globals,cells:=Qy (s₀.heap.objs.size + 1) scope.names (fK X.env.cells scope.names []),qual:=X.env.qual,func:=none,code:=X.env.code,frame:=X.env.frame,builtins:=X.env.builtins }
  s₀:=s₀
  H₀:=H₀
  outer:=X.stack
  ex:=ex
  fn:=λx=>scope.names.lookup x == some .cell
  pn:=[]
  xe:=λ_ _=>False }
structure kY(X:Cx)(scope:Scope)(cs:List Nat):Prop where
 kind:scope.kind = .function
 names:∀ x ∈ scope.names,x.2 = .local->scope.names.lookup x.1=some .local
 free:∀ x ∈ scope.names,x.2 = .free->X.env.kindOf x.1=some .cell\/X.env.kindOf x.1=some .free
 nd:(scope.names.map (·.1)).Nodup
 own:∀ (i:Nat) x,X.N[i]? = some x->scope.names.lookup x=some .local\/scope.names.lookup x=some .cell->i ∈ cs
def bJ(cs:List Nat)(σ:St):St:=cs.foldl (λσ i=>σ.set i none) σ
theorem sq(cs:List Nat):∀ σ:St,(bJ cs σ).length=σ.length:=by
 induction cs with
 | nil=>intro σ; rfl
 | cons i r ih =>
  intro σ;show(bJ r (σ.set i none)).length=_;rw[ih]; simp
theorem kZ:∀ (cs:List Nat) (σ:St) (i:Nat) (v:V),(bJ cs σ)[i]? = some (some v)->σ[i]? = some (some v)/\i ∉ cs:=by
 intro cs;induction cs with
 | nil=>intro σ i v h; exact⟨h,by simp⟩
 | cons j r ih =>
  intro σ i v h;have h':(bJ r (σ.set j none))[i]? = some (some v):=h;obtain⟨h1,h2⟩:=ih _ i v h';by_cases e:j=i
  ·subst e;rw[WO] at h1;simp at h1
  ·rw[W3 e] at h1;exact⟨h1,by simp only[Wl,not_or]; exact⟨Ne.symm e,h2⟩⟩
theorem vp:∀ {l:List (Str×α)},(l.map (·.1)).Nodup->(x,k) ∈ l->(x,k') ∈ l->k=k'
 | (y,j) :: r,nd,h1,h2=>by
  rw[Wo,List.nodup_cons] at nd;rcases Wl.mp h1 with e | g1 <;> rcases Wl.mp h2 with e' | g2
  ·cases e; cases e'; rfl
  ·cases e; exact absurd (Qo (f:=(·.1)) g2) nd.1
  ·cases e'; exact absurd (Qo (f:=(·.1)) g1) nd.1
  ·exact vp nd.2 g1 g2
section
variable {X:Cx} {pins:List (Addr×Obj)} {σ:St} {H:Hp} {s:W2} {scope:Scope} {cs:List Nat} {fp:List Addr}
theorem Lj(I:Inv X pins σ H s)(S:kY X scope cs)(hf:∀ b ∈ fp,ft X pins H b)(bH:∀ b ∈ fp,b < s.heap.objs.size) :
  Inv (eh X scope s H fp) [] (bJ cs σ) H { s with heap:=JN (s.heap.push { cls:=.type "dict",data:=.dict #[] }) scope.names }:=by
 have sz:(s.heap.push { cls:=.type "dict",data:=.dict #[] }).objs.size=s.heap.objs.size + 1:=Jd ..;have kp:∀ b o,s.heap.get? b=some o->(JN (s.heap.push { cls:=.type "dict",data:=.dict #[] }) scope.names).get? b=some o:=λb o e=>pushCells_keeps _ _ b o (W5 _ e)
 have sr:∀ n c,(n,c) ∈ fK X.env.cells scope.names []->(n,NameKind.free) ∈ scope.names/\X.env.cells.lookup n=some c:=λn c h=>(B3 _ _ h).elim (λz=>absurd z (by simp)) id
 have Lk:∀ n c,(n,c) ∈ fK X.env.cells scope.names []->c < s.heap.objs.size:=λn c h=>by
  obtain⟨v,q⟩:=I.cell n c (sr n c h).2;exact q.lt
 have jG:∀ n c,(n,c) ∈ Qy (s.heap.objs.size + 1) scope.names (fK X.env.cells scope.names []) ->
   ((n,NameKind.free) ∈ scope.names/\X.env.cells.lookup n=some c)\/((n,NameKind.cell) ∈ scope.names/\s.heap.objs.size + 1<=c/\(JN (s.heap.push { cls:=.type "dict",data:=.dict #[] }) scope.names).IsCell c none):=λn c h=>by
  rw[<- sz] at h;rcases vn _ _ _ h with q | q
  ·exact .inl (sr n c q)
  ·rw[sz] at q; exact .inr q
 have Ll:=vo scope.names (s.heap.objs.size + 1) (fK X.env.cells scope.names []) (λn n' c h1 h2=>I.ok.inj n n' c (sr n c h1).2 (sr n' c h2).2) (λn c h=>QP (Lk n c h));have pP:∀ x ∈ scope.names,x.2 = .free->∃ c,X.env.cells.lookup x.1=some c:=λx hx hk=>I.ok.has x.1 (S.free x hx hk)
 have Lm:∀ b ∈ fp,b ∉ eM X.stack:=λb hb z=>by
  obtain⟨_,f1,f2,_⟩:=hf b hb;rcases Wl.mp (I.rN b z) with e | e
  ·exact f1 e
  ·exact f2 e
 have Ln:∀ x,(eh X scope s H fp).env.kindOf x=some .cell\/(eh X scope s H fp).env.kindOf x=some .free->scope.names.lookup x=some .cell\/scope.names.lookup x=some .free:=λx h=>by
  rcases h with h | h
  ·have h':(relabel scope X.env).names.lookup x=some .cell:=h;rcases mx (env:=X.env) (names:=scope.names) h' with q | ⟨_,q⟩
   ·exact .inl q
   ·exact .inr q
  ·have h':(relabel scope X.env).names.lookup x=some .free:=h;rcases mx (env:=X.env) (names:=scope.names) h' with q | ⟨q,_⟩
   ·exact .inr q
   ·cases q
 have B5:∀ x,scope.names.lookup x=some .cell\/scope.names.lookup x=some .free->∃ c,(Qy (s.heap.objs.size + 1) scope.names (fK X.env.cells scope.names [])).lookup x=some c:=λx h=>by
  refine QM.mp (Ju scope.names _ _ ?_);rcases h with h | h
  ·exact .inl h
  ·refine .inr (B4 _ _ (.inr ⟨Wz h,?_⟩));obtain⟨c,hc⟩:=pP _ (Wz h) rfl;exact Option.isSome_iff_exists.mpr ⟨c,hc⟩
 have Lo:(JN (s.heap.push { cls:=.type "dict",data:=.dict #[] }) scope.names).Ns s.heap.objs.size λ_=>none:=(Heap.Ns.new s.heap (.type "dict")).keeps (pushCells_keeps _ _)
 refine⟨⟨I.ok.mod,S.kind,I.ok.glob,I.ok.blt,Wg _,λy z c h1 h2=>Ll y z c (Wz h1) (Wz h2),λx hx=>B5 x (Ln x hx),λx c iW h=>?_,I.ok.hd,I.ok.frames,.inl rfl,
  λb hb=>⟨Wi (bH b hb),λx c h e=>?_⟩,I.bs,WK I.ok.gR I.sz,λb o e hb=>?_,Lm,I.stack,I.rO⟩,
  rfl,I.bare,Un.kept kp,⟨λ_=>none,Lo,λi x v h1 h2 h3=>?_⟩,λx c h=>?_,I.aw.fresh (Wg _),λx c h=>?_,λp hp=>absurd (show p ∈ ([]:List (Addr×Obj)) from hp) (by simp),I.aw.kept kp,(sq cs σ).trans I.len⟩
 ·rcases jG x c (Wz h) with q | q
  ·have Lp:scope.names.lookup x=some .cell:=by
    have:(scope.names.lookup x == some .cell)=true:=iW;exact eq_of_beq this
   have:=vp S.nd q.1 (Wz Lp)
   cases this
  ·exact Nat.le_of_succ_le q.2.1
 ·subst e;rcases jG x c (Wz h) with q | q
  ·exact(hf c hb).2.2.2.2.1 x c q.2 rfl
  ·exact absurd (Wv (bH c hb) (Nat.le_of_succ_le q.2.1)) (Qf _)
 ·obtain⟨_,_,_,f3,_⟩:=hf b hb;rcases f3 with z | z
  ·exact I.ok.kN b o e z
  ·exact absurd (Wv (We (I.ok.bs b o e).1) z) (Qf _)
 ·obtain⟨h2',hni⟩:=kZ cs σ i v h2;have B6:¬ (scope.names.lookup x=some .local\/scope.names.lookup x=some .cell):=λz=>hni (S.own i x h1 z)
  have mh:scope.names.lookup x=some .free:=by
   rcases h3 with h3 | h3 | h3
   ·rcases mx (env:=X.env) (names:=scope.names) h3 with q | ⟨q,_⟩
    ·exact absurd (.inl q) B6
    ·cases q
   ·rcases mx (env:=X.env) (names:=scope.names) h3 with q | ⟨_,q⟩
    ·exact absurd (.inr q) B6
    ·exact q
   ·rcases mx (env:=X.env) (names:=scope.names) h3 with q | ⟨q,_⟩
    ·exact q
    ·cases q
  have hk:=S.free _ (Wz mh) rfl;obtain⟨m,hn,hl⟩:=I.loc;have Lq:rM X.env.scope x:=by
   rcases hk with hk | hk
   ·exact .inr (.inl hk)
   ·exact .inr (.inr hk)
  obtain⟨u,r,l⟩:=hl i x v h1 h2' Lq;refine⟨u,r,?_⟩;rcases l with ⟨k,_⟩ | ⟨_,c,hc,hcell⟩
  ·have k':X.env.kindOf x=some .local:=k;rcases hk with hk | hk
   ·rw[show X.env.kindOf x=some .cell from hk] at k'; cases k'
   ·rw[show X.env.kindOf x=some .free from hk] at k'; cases k'
  ·obtain⟨c',gA⟩:=B5 x (.inr mh);have e:c'=c:=by
    rcases jG x c' (Wz gA) with q | q
    ·have q2:=q.2;rw[hc] at q2; exact(Wx q2).symm
    ·have:=vp S.nd q.1 (Wz mh)
     cases this
   subst e;refine .inr ⟨?_,c',gA,hcell.keeps kp⟩;rcases h3 with h3 | h3 | h3
   ·rcases mx (env:=X.env) (names:=scope.names) h3 with q | ⟨q,_⟩
    ·rw[mh] at q; cases q
    ·cases q
   ·exact .inl h3
   ·exact .inr h3
 ·rcases jG x c (Wz h) with q | q
  ·obtain⟨v,z⟩:=I.cell x c q.2;exact⟨v,z.keeps kp⟩
  ·exact⟨none,q.2.2⟩
 ·rcases jG x c (Wz h) with q | q
  ·exact I.dY x c q.2
  ·exact I.aw.fresh (Nat.le_of_succ_le q.2.1)
end
abbrev kg:Value->W2->Prop:=λ_ _=>False
def B7(ifs:List Expr)(env:Env):Sem Bool:=forIn ifs true λc r=>if r=true then do let ok <- isTrue c env (eval c env); pure (ForInStep.yield ok) else pure (ForInStep.yield r)
theorem Lr(I:Nat->W2->Prop)
  (turn:∀ n s,I n s->W8 (model prog w) A (Qb it) (λr s₁=>match r with
   | none=>R (.ok .next) s₁
   | some v=>W8 (model prog w) A (letOwnedTupleGo target it v) (λ_ B8=>W8 (model prog w) A (assign target env v) (λ_ s₂ =>
     W8 (model prog w) A (B7 ifs env) (λok s₃ =>
      if ok=true then W8 (model prog w) A (eval elt env) (λx s₄ =>
       W8 (model prog w) A (call (.builtin "list.append") [acc,x]) (λ_ s₅=>∃ m,m < n/\I m s₅) kg s₄) kg s₃
      else ∃ m,m < n/\I m s₃) kg s₂) kg B8) kg s₁) kg s)
  (n:Nat) (h:I n s) :
  Qa (model prog w) A (.compLoop (.ListComp elt [⟨target,iter,ifs,0⟩] scope pos) 0 it acc env) R s:=by
 refine codeAny_loop rfl I (λn s hI=>?_) n h;show W8 _ A ((compTurn (.ListComp elt [⟨target,iter,ifs,0⟩] scope pos) 0 it acc env).onRaise (λx=>do JO x env; theTreesLotGoes x)) _ _ s;refine wpAny_noted ?_;rw[compTurn_list];refine W0 (wpAny_standAt (W0 (WC (turn n s hI) (λr s₁ h₁=>?_) λ_ _ h'=>h'.elim)))
 cases r with
 | none=>exact W4 h₁
 | some v =>
  refine W0 (WC h₁ (λ_ B8 Ls=>?_) λ_ _ h'=>h'.elim);refine W0 (WC Ls (λ_ s₂ h₂=>W0 (WC h₂ (λok s₃ h₃=>?_) λ_ _ h'=>h'.elim)) λ_ _ h'=>h'.elim)
  cases ok with
  | false=>exact W4 ⟨rfl,h₃⟩
  | true =>
   exact W0 (W0 (WC h₃ (λx s₄ h₄=>W0 (WC h₄ (λ_ s₅ h₅=>W4 (W4 ⟨rfl,h₅⟩)) λ_ _ h'=>h'.elim)) λ_ _ h'=>h'.elim))
theorem Lu
  (h:Q { scope,locals:=s.heap.objs.size,globals,cells:=Qy (s.heap.objs.size + 1) scope.names cl,qual,func:=none,code:=env.code,frame:=env.frame,builtins:=env.builtins }
   { s with heap:=JN (s.heap.push { cls:=.type "dict",data:=.dict #[] }) scope.names }):W8 M A (newFunctionEnv scope globals cl [] qual none .none (some env)) Q E s:=by
 simp only[newFunctionEnv,Option.isSome_some,if_true];refine W0 (wpAny_alloc ?_);refine W0 (wpAny_layCells _ (λname kind cells=>by cases hkc:kind == NameKind.cell <;> simp[hkc]) _ _ _ _ ?_);rw[show({ s with heap:=s.heap.push { cls:=.type "dict",data:=.dict #[] } }:W2).heap.objs.size=s.heap.objs.size + 1 from Jd ..];exact W0 (W4 (W4 h))
def nX(X:Cx)(ifs:List Expr)(t:TT):Prop :=
 ∀ (pins:List (Addr×Obj)) (s:W2) (σ:St) (H:Hp) (Q:Bool->Hp->Prop),Inv X pins σ H s->t σ H Q->W8 (model X.prog X.w) X.A (B7 ifs X.env) (TP X pins σ Q) X.xe s
def Lv:TT:=λ_ H Q=>Q true H
theorem Lw:nX X [] Lv:=λpins s σ H Q I h=>wpAny_tests_nil ⟨H,I,h⟩
theorem Lx(h:PT X c t):nX X [c] t:=λpins s σ H Q I q=>wpAny_tests_one (h pins s σ H Q I q)
def Le(σ σ':St):Prop:=σ'.length=σ.length/\∀ (i:Nat) (v:V),σ[i]? = some (some v)->σ'[i]? = some (some v)
def B9(cs:List Nat)(g:TG)(tt:TT)(te:TE)(σ:St)(Q:VK)(J:It)(H1:Hp):Prop :=
 ∀ l,H1 l=none->∃ W:Nat->Nat->Hp->Prop,(∃ m,W 0 m (upd H1 l (.lst [])))/\∀ i m H2,W i m H2 ->
  (J.stop i H2/\Q (.ref l) H2) \/
  (J.go i H2/\∀ x H3,J.pA i H2 x H3->g x (bJ cs σ) H3 λσ4 H4=>Le (bJ cs σ) σ4/\tt σ4 H4 λb H5 =>
   if b=true then te σ4 H5 λv H6=>∃ ys m',H6 l=some (.lst ys)/\ys.length < Wb/\m' < m/\W (i + 1) m' (upd H6 l (.lst (ys ++ [v]))) else ∃ m',m' < m/\W (i + 1) m' H5)
def su(cs:List Nat)(wi:TI)(g:TG)(tt:TT)(te:TE):TE:=λσ H Q=>wi σ H λJ H1=>B9 cs g tt te σ Q J H1
section
variable {X:Cx} {pins:List (Addr×Obj)} {σ:St} {H:Hp} {s:W2} {scope:Scope} {cs:List Nat} {elt tg iter:Expr} {ifs:List Expr} {pos:Pos} {g:TG} {tt:TT} {te:TE}
theorem B_{it:Addr}{fp:List Addr}{tn:Nat->Heap->Prop}{J:It}{Q:VK}{E:Value->W2->Prop}{RR:Value->Addr->Result->W2->Prop}(hc:X.calm=true)(I:Inv X pins σ H s)(S:kY X scope cs)
  (T:Turn X.prog X.w X.K tg J fp it tn) (st:tn 0 s.heap) (hf:∀ b ∈ fp,ft X pins H b)
  (hg:∀ s₀ H₀ ex,PG (eh X scope s₀ H₀ ex) tg g) (ht:∀ s₀ H₀ ex,nX (eh X scope s₀ H₀ ex) ifs tt) (he:∀ s₀ H₀ ex,PE (eh X scope s₀ H₀ ex) elt te) (q:B9 cs g tt te σ Q J H)
  (Ly:∀ l C s' H',Inv X pins σ H' s'->ft X pins H' C->(∃ m,s'.heap.Ns C m)->Q (.ref l) H'->RR (.ref l) C (.ok .next) s') :
  W8 (model X.prog X.w) X.A (newList []) (λacc s₃=>W8 (model X.prog X.w) X.A (newFunctionEnv scope X.env.globals (fK X.env.cells scope.names []) [] X.env.qual none .none (some X.env)) (λCa s₄ =>
   Qa (model X.prog X.w) X.A (.compStart (.ListComp elt [⟨tg,iter,ifs,0⟩] scope pos) 0 (.ref it) acc { Ca with scope:=relabel scope X.env }) (RR acc Ca.locals) s₄) E s₃) E s:=by
 refine WX ?_;have eO:H s.heap.objs.size=none:=I.aw.fresh (Wg _);obtain⟨W,⟨m0,w0⟩,turn⟩:=q s.heap.objs.size eO;generalize hl:s.heap.objs.size=l at *;have I3:Inv X pins σ (upd H l (.lst [])) { s with heap:=s.heap.push { cls:=.type "list",dict:=none,data:=.seq ([]:List Value).toArray } } :=
  I.laid (t':=s.toks) (λb u e=>W5 _ e) (Nat.le_of_eq hl) ⟨Qs _,[],0,.nil,by rw[<- hl]; exact Wj _ rfl⟩
 have vq:∀ b o,s.heap.get? b=some o->(s.heap.push { cls:=.type "list",dict:=none,data:=.seq ([]:List Value).toArray }).get? b=some o:=λb o e=>W5 _ e
 have iZ:∀ b ∈ fp,b≠l:=λb hb e=>by
  obtain⟨o,ho,_⟩:=T.obj 0 _ st b hb;exact absurd (We ho) (by rw[e,hl]; exact Qf _)
 have vw:∀ b ∈ fp,ft X pins (upd H l (.lst [])) b:=λb hb=>⟨by rw[aG (iZ b hb)]; exact(hf b hb).1,(hf b hb).2⟩
 have kR:tn 0 (s.heap.push { cls:=.type "list",dict:=none,data:=.seq ([]:List Value).toArray }):=T.keep 0 _ _ st λb _ o e=>vq b o e
 generalize vx:({ s with heap:=s.heap.push { cls:=.type "list",dict:=none,data:=.seq ([]:List Value).toArray } }:W2)=s3 at I3;have Cb:tn 0 s3.heap:=by rw[<- vx]; exact kR
 have Lz:∀ b ∈ fp,b < s3.heap.objs.size:=λb hb=>by
  obtain⟨o,ho,_⟩:=T.obj 0 _ Cb b hb;exact We ho
 refine Lu ?_;have I4:=Lj I3 S vw Lz;generalize hX:eh X scope s3 (upd H l (.lst [])) fp=X' at I4;generalize hs4:({ s3 with heap:=JN (s3.heap.push { cls:=.type "dict",data:=.dict #[] }) scope.names }:W2)=s4 at I4 ⊢;have nY:=hg s3 (upd H l (.lst [])) fp;have Cc:=ht s3 (upd H l (.lst [])) fp;have Cd:=he s3 (upd H l (.lst [])) fp;rw[hX] at nY Cc Cd;have Ce:tn 0 s4.heap:=T.keep 0 _ _ Cb λb _ o e=>by rw[<- hs4]; exact pushCells_keeps _ _ b o (W5 _ e)
 have hP:X'.prog=X.prog:=by rw[<- hX]; rfl
 have hw:X'.w=X.w:=by rw[<- hX]; rfl
 have hA:X'.A=X.A:=by rw[<- hX]; rfl
 have hK:X'.K=X.K:=by rw[<- hX]; rfl
 have gA:X'.calm=true:=by rw[<- hX]; exact hc
 have nZ:X'.xe=kg:=by rw[<- hX]; rfl
 have Cf:X'.env.locals=s3.heap.objs.size:=by rw[<- hX]; rfl
 have LA:({ scope:=relabel scope X.env,locals:=s3.heap.objs.size,globals:=X.env.globals,cells:=Qy (s3.heap.objs.size + 1) scope.names (fK X.env.cells scope.names []),qual:=X.env.qual,func:=none,code:=X.env.code,frame:=X.env.frame,builtins:=X.env.builtins }:Env)=X'.env:=by rw[<- hX]; rfl
 have vy:∀ {H':Hp},(∀ b ∈ fp,H' b=none)->∀ b ∈ fp,ft X' [] H' b:=λ{H'} hn b hb=>by
  have ex:X'.ex=fp:=by rw[<- hX]; rfl
  have pn:X'.pn=[]:=by rw[<- hX]; rfl
  refine⟨hn b hb,(I4.ok.me b (by rw[ex]; exact hb)).1,I4.ok.kO b (by rw[ex]; exact hb),.inl (by rw[ex]; exact hb),(I4.ok.me b (by rw[ex]; exact hb)).2,λp hp=>?_⟩;rw[pn] at hp;simp at hp
 show Qa (model X.prog X.w) X.A (.compStart (.ListComp elt [⟨tg,iter,ifs,0⟩] scope pos) 0 (.ref it) (.ref l) ({ scope:=relabel scope X.env,locals:=s3.heap.objs.size,globals:=X.env.globals,cells:=Qy (s3.heap.objs.size + 1) scope.names (fK X.env.cells scope.names []),qual:=X.env.qual,func:=none,code:=X.env.code,frame:=X.env.frame,builtins:=X.env.builtins }:Env)) (RR (.ref l) s3.heap.objs.size) s4;rw[LA];have loop:Qa (model X.prog X.w) X.A (.compLoop (.ListComp elt [⟨tg,iter,ifs,0⟩] scope pos) 0 (.ref it) (.ref l) X'.env) (RR (.ref l) s3.heap.objs.size) s4:=by
  refine Lr (λn s'=>∃ i H',Inv X' [] (bJ cs σ) H' s'/\tn i s'.heap/\(∀ b ∈ fp,H' b=none)/\W i n H') ?_ m0 ⟨0,_,I4,Ce,λb hb=>(vw b hb).1,w0⟩;rintro n s5 ⟨i,H5,I5,st5,fr5,w5⟩;rcases turn i n H5 w5 with ⟨stop,qn⟩ | ⟨go,step⟩
  ·have:=T.done X' hP hw hK gA i [] s5 (bJ cs σ) H5 kg I5 (vy fr5) st5 stop;rw[hA] at this;refine aV this λr s6 ⟨hr,I6⟩=>?_
   subst hr;have b6:=I6.base;have e1:X'.fs=eM X.stack:=by rw[<- hX]; rfl
   have e2:X'.ex=fp:=by rw[<- hX]; rfl
   have e3:X'.H₀=upd H l (.lst []):=by rw[<- hX]; rfl
   have e4:X'.s₀=s3:=by rw[<- hX]; rfl
   rw[e1,e2,e3,e4] at b6;have o6:s6.os=s3.os:=by rw[<- e4]; exact I6.os
   have LB:cM X.prog X.w H5 s6.heap:=by rw[<- hP,<- hw]; exact I6.aw
   have J6:Inv X pins σ H5 s6:=I3.AL o6 b6 LB I6.bare λb hb=>by
    obtain⟨_,f1,_,f3,f4,f5⟩:=vw b hb;exact⟨f3,f1,f4,f5⟩
   obtain⟨m6,n6,_⟩:=I6.loc;rw[Cf] at n6;refine Ly l s3.heap.objs.size s6 H5 J6 (I3.jB (Wg _) ?_) ⟨m6,n6⟩ qn;rw[<- Cf];exact I6.free
  ·have:=T.item X' hP hw hK gA i [] s5 (bJ cs σ) H5 kg I5 (vy fr5) st5 go;rw[hA] at this;refine aV this λr s6 ⟨u,hr,h6⟩=>?_
   subst hr;refine aV h6 λ_ s7 ⟨x,H7,I7,r7,y7,st7,fr7⟩=>?_
   have LC:=I7.pinned (vy fr7) (T.obj _ _ st7);have a8:=nY _ s7 (bJ cs σ) H7 x u _ LC r7 (step x H7 y7);rw[hP,hw,hA,nZ] at a8;refine aV a8 λ_ s8 ⟨σ8,H8,I8,le8,q8⟩=>?_
   have a9:=Cc _ s8 σ8 H8 _ I8 q8;rw[hP,hw,hA,nZ] at a9;refine aV a9 λok s9 ⟨H9,I9,q9⟩=>?_
   have back:∀ {H':Hp} {s':W2},Inv X' ([] ++ pB fp s7.heap) σ8 H' s'->Inv X' [] (bJ cs σ) H' s'/\tn (i + 1) s'.heap/\∀ b ∈ fp,H' b=none:=λ{H' s'} J=>by
    refine⟨J.rZ.weak (le8.1.symm) le8.2,T.keep _ _ _ st7 λb hb o e=>(J.pin (b,o) (WW _ (WW _ (rY hb e)))).1,λb hb=>?_⟩;obtain⟨o,e,d⟩:=T.obj _ _ st7 b hb;exact(J.pin (b,o) (WW _ (WW _ (rY hb e)))).2.1
   cases ok with
   | false =>
    rw[if_neg Q7] at q9 ⊢;obtain⟨m',hm,w9⟩:=q9;obtain⟨b1,b2,b3⟩:=back I9;exact⟨m',hm,i + 1,H9,b1,b2,b3,w9⟩
   | true =>
    rw[if_pos rfl] at q9 ⊢;have Cg:=Cd _ s9 σ8 H9 _ I9 q9;rw[hP,hw,hA,nZ] at Cg;refine aV Cg λx10 k7 ⟨v,H10,I10,r10,ys,m',hy,hz,hm,w10⟩=>?_
    have Ci:=BN (X:=X') _ k7 σ8 H10 (.ref l) [v] (.ref l) [x10] (λ_ H'=>W (i + 1) m' H') I10 rfl (.cons r10 .nil) ⟨l,ys,v,rfl,rfl,hy,hz,w10⟩;rw[hP,hw,hA,nZ] at Ci;refine aV Ci λ_ bX ⟨_,H11,I11,_,w11⟩=>?_
    obtain⟨b1,b2,b3⟩:=back I11;exact⟨m',hm,i + 1,H11,b1,b2,b3,w11⟩
 exact codeAny_compStart_list loop (T.self X.A 0 s4 _ _ Ce loop)
theorem Cj(hc:X.calm=true)(S:kY X scope cs)(hi:PI X tg iter wi)(hg:∀ s₀ H₀ ex,PG (eh X scope s₀ H₀ ex) tg g)(ht:∀ s₀ H₀ ex,nX (eh X scope s₀ H₀ ex) ifs tt)(he:∀ s₀ H₀ ex,PE (eh X scope s₀ H₀ ex) elt te)
  (hs:∀ x,Qw iter X.env x=pure x:=by intro _; rfl):PE X (.ListComp elt [⟨tg,iter,ifs,0⟩] scope pos) (su cs wi g tt te):=by
 intro pins s σ H Q I h;have pP:∀ x ∈ scope.names,x.2 = .free->∃ c,X.env.cells.lookup x.1=some c:=λx hx hk=>I.ok.has x.1 (S.free x hx hk)
 rw[eval_ListComp];refine wpAny_comprehension_free (use:=none) rfl hs (B2 pP) S.kind S.names (aV (hi pins s σ H _ I h) λxv s1 h1=>aV h1 λrU s2 h2=>?_);obtain⟨it,fp,tn,J,H2,e,I2,T,st2,f2,q2⟩:=h2;subst e;refine B_ (RR:=λacc C=>compPost (model X.prog X.w) X.A X.xe none (EP X pins σ Q) acc C) hc I2 S T st2 f2 hg ht he q2 ?_;intro l C s' H' I' fC ⟨m,n⟩ q;exact⟨m,n,λh' vz=>⟨.ref l,H',I'.turned (t':=s'.toks) (λb o hb e=>(vz.2 b hb).trans e) fC.1 fC.2.1 fC.2.2.2.1 fC.2.2.2.2.1 fC.2.2.2.2.2,rfl,q⟩⟩
theorem LD(hc:X.calm=true)(S:kY X scope cs)(hN:X.N.Nodup)(dD:X.N[i]? = some y)(hy:X.env.scope.names.lookup y=some .local)
  (hi:PI X tg iter wi) (hg:∀ s₀ H₀ ex,PG (eh X scope s₀ H₀ ex) tg g) (ht:∀ s₀ H₀ ex,nX (eh X scope s₀ H₀ ex) ifs tt) (he:∀ s₀ H₀ ex,PE (eh X scope s₀ H₀ ex) elt te)
  (pQ:QQ (.ListComp elt [⟨tg,iter,ifs,0⟩] scope pos) (some (.Name y py)) sv.line X.env=pure true:=by rfl)
  (hs:∀ x,Qw iter X.env x=pure x:=by intro _; rfl):PS X (.Assign [.Name y py] (.ListComp elt [⟨tg,iter,ifs,0⟩] scope pos) sv) (px (su cs wi g tt te) (rT i)):=by
 intro pins s σ H D I h;have pP:∀ x ∈ scope.names,x.2 = .free->∃ c,X.env.cells.lookup x.1=some c:=λx hx hk=>I.ok.has x.1 (S.free x hx hk)
 rw[exec_Assign_Name_used _ _ _ _ pQ];refine W0 (wpAny_standAt (W0 ?_));show W8 _ X.A (do let _ <- comprehension (.ListComp elt [⟨tg,iter,ifs,0⟩] scope pos) scope X.env _ (newList []) false (eval iter X.env) (some (assign (.Name y py) X.env))) _ _ s;refine W0 (WC (wpAny_comprehension_free (use:=some (assign (.Name y py) X.env)) (Q:=λ_ s'=>SP X pins D .next s') rfl hs (B2 pP) S.kind S.names
  (aV (hi pins s σ H _ I h) λxv s1 h1=>aV h1 λrU s2 h2=>?_)) (λ_ s' hq=>W4 (W4 hq)) λ_ _ e=>e)
 obtain⟨it,fp,tn,J,H2,e,I2,T,st2,f2,q2⟩:=h2;subst e;refine B_ (RR:=λacc C=>compPost (model X.prog X.w) X.A X.xe (some (assign (.Name y py) X.env)) (λ_ s'=>SP X pins D .next s') acc C) hc I2 S T st2 f2 hg ht he q2 ?_;intro l C s' H' I' fC ⟨m,n⟩ q;show W8 _ X.A (assign (.Name y py) X.env (.ref l)) _ _ _;refine wpAny_assign_Name (rQ I' hN dD (.inl hy) (v:=.ref l) rfl (λmn I'' ⟨a,hsb,ha⟩=>?_) (.inr hy));have dR:C≠a:=by
  rcases ha with rfl | ha
  ·exact fC.2.1
  ·exactλe=>fC.2.2.2.2.1 y a ha e.symm
 refine⟨m,n.sameBut hsb dR,λh' vz=>⟨_,H',I''.turned (t':=mn.toks) (λb o hb e=>(vz.2 b hb).trans e) fC.1 fC.2.1 fC.2.2.2.1 fC.2.2.2.2.1 fC.2.2.2.2.2,q⟩⟩
end
end L2
set_option maxHeartbeats 4000000
namespace DV
open PySem PySem.Spec PyProof.Rows L2
abbrev Tx:=List Nat
def toS(x:Tx):Str:=⟨x.toArray⟩
theorem pR(x:Tx):(toS x).cps.toList=x:=by simp[toS]
theorem i4(x:Tx):(toS x).length=x.length:=by simp[toS,Str.length]
theorem pS(h:toS x=toS y):x=y:=by
 have:=congrArg (λz:Str=>z.cps.toList) h;simpa[toS] using this
theorem vA(z:Str):z=toS z.cps.toList:=by simp[toS]
abbrev aU:=Sum Int Tx
def cT:aU->Key
 | .inl i=>.inl i
 | .inr x=>.inr (toS x)
inductive D where
 | aN | bl (b:Bool) | int (i:Int) | str (x:Tx) | tup (xs:List D) | lst (xs:List D) | ay (kvs:List (aU×D)) | exc (n:Nat) (fl:D) | xd (fs:List (Tx×D))
def excAt(C:Addr)(v:V)(a:Addr):Heap->Prop:=λh=>∃ o,h.get? a=some o/\o.cls = .ref C/\(∀ x,v = .ref x->o.dict=some x)/\∃ vs,o.data = .fields vs
def i6(fs:List (Str×V))(x:Addr):Heap->Prop:=λh=>∃ mA,h.Ns1 x mA/\∀ f,fH (fs.lookup f) (mA f)
inductive S where
 | pure (d:D)
 | own (d:D)
def S.d:S->D
 | .pure d=>d
 | .own d=>d
abbrev Dl:=List (Option S)
abbrev St:=L2.St
inductive Rep (H:Hp) (O:Addr->Prop):V->D->Prop
 | aN:Rep H O .aN .aN
 | bl (b:Bool):Rep H O (.bl b) (.bl b)
 | int (i:Int):Rep H O (.int i) (.int i)
 | str (x:Tx):Rep H O (.str (toS x)) (.str x)
 | tup {a:Addr} {vs:List V} {ds:List D}:¬ O a->H a=some (.tup vs)->vs.length=ds.length->(∀ (i:Nat) v d,vs[i]? = some v->ds[i]? = some d->Rep H O v d)->Rep H O (.ref a) (.tup ds)
 | lst {a:Addr} {vs:List V} {ds:List D}:¬ O a->Rd H a (.lst vs)->vs.length=ds.length->(∀ (i:Nat) v d,vs[i]? = some v->ds[i]? = some d->Rep H O v d)->Rep H O (.ref a) (.lst ds)
 | ay {a:Addr} {ws:List (Key×V)} {ds:List (aU×D)}:¬ O a->H a=some (.dK ws)->ws.map (·.1)=ds.map (λp=>cT p.1)->(∀ (i:Nat) p q,ws[i]? = some p->ds[i]? = some q->Rep H O p.2 q.2)->Rep H O (.ref a) (.ay ds)
 | exc {a:Addr} {n:Nat} {v:V} {fl:D}:¬ O a->H a=some (.ext (excAt n v a))->Rep H O v fl->Rep H O (.ref a) (.exc n fl)
 | xd {x:Addr} {fs:List (Str×V)} {ds:List (Tx×D)}:¬ O x->H x=some (.ext (i6 fs x))->fs.map (·.1)=ds.map (λp=>toS p.1)->(∀ (i:Nat) p q,fs[i]? = some p->ds[i]? = some q->Rep H O p.2 q.2)->Rep H O (.ref x) (.xd ds)
abbrev aA(H:Hp)(O:Addr->Prop)(vs:List V)(ds:List D):Prop:=vs.length=ds.length/\∀ (i:Nat) v d,vs[i]? = some v->ds[i]? = some d->Rep H O v d
def gj(H:Hp)(O:Addr->Prop)(a:Addr):D->Prop
 | .lst ds=>∃ vs,H a=some (.lst vs)/\aA H O vs ds
 | .ay ds=>∃ ws:List (Key×V),H a=some (.dK ws)/\ws.map (·.1)=ds.map (λp=>cT p.1)/\∀ (i:Nat) p q,ws[i]? = some p->ds[i]? = some q->Rep H O p.2 q.2
 | _=>False
section
variable {H H':Hp} {O O':Addr->Prop} {v:V} {d:D} {vs:List V} {ds:List D} {a:Addr}
theorem Rd.keep(h:Rd H a u)(k:∀ o,H a=some o->H' a=some o):Rd H' a u:=by
 rcases h with h | ⟨o,h⟩
 ·exact .inl (k _ h)
 ·exact .inr ⟨o,k _ h⟩
theorem Rd.some(h:Rd H a u):∃ o,H a=some o:=by
 rcases h with h | ⟨o,h⟩
 ·exact⟨_,h⟩
 ·exact⟨_,h⟩
theorem Rep.keep(h:Rep H O v d)(k:∀ a o,H a=some o->¬ O a->H' a=some o):Rep H' O v d:=by
 induction h with
 | aN=>exact .aN
 | bl b=>exact .bl b
 | int i=>exact .int i
 | str x=>exact .str x
 | tup h1 h2 h3 _ ih=>exact .tup h1 (k _ _ h2 h1) h3 ih
 | lst h1 h2 h3 _ ih=>exact .lst h1 (Rd.keep h2 λo e=>k _ o e h1) h3 ih
 | ay h1 h2 h3 _ ih=>exact .ay h1 (k _ _ h2 h1) h3 ih
 | exc h1 h2 _ ih=>exact .exc h1 (k _ _ h2 h1) ih
 | xd h1 h2 h3 _ ih=>exact .xd h1 (k _ _ h2 h1) h3 ih
theorem Rep.aJ(h:Rep H O v d)(k:∀ a,O' a->O a\/H a=none):Rep H O' v d:=by
 have no:∀ {a:Addr} {u:HO},¬ O a->Rd H a u->¬ O' a:=λ{a u} h1 h2 z=>by
  rcases k a z with q | q
  ·exact h1 q
  ·obtain⟨o,e⟩:=Rd.some h2;rw[q] at e; cases e
 induction h with
 | aN=>exact .aN
 | bl b=>exact .bl b
 | int i=>exact .int i
 | str x=>exact .str x
 | tup h1 h2 h3 _ ih=>exact .tup (no h1 (.inl h2)) h2 h3 ih
 | lst h1 h2 h3 _ ih=>exact .lst (no h1 h2) h2 h3 ih
 | ay h1 h2 h3 _ ih=>exact .ay (no h1 (.inl h2)) h2 h3 ih
 | exc h1 h2 _ ih=>exact .exc (no h1 (.inl h2)) h2 ih
 | xd h1 h2 h3 _ ih=>exact .xd (no h1 (.inl h2)) h2 h3 ih
theorem aA.keep(h:aA H O vs ds)(k:∀ a o,H a=some o->¬ O a->H' a=some o):aA H' O vs ds:=⟨h.1,λi v d e1 e2=>(h.2 i v d e1 e2).keep k⟩
theorem aA.aJ(h:aA H O vs ds)(k:∀ a,O' a->O a\/H a=none):aA H O' vs ds:=⟨h.1,λi v d e1 e2=>(h.2 i v d e1 e2).aJ k⟩
theorem aA.nil:aA H O [] []:=⟨rfl,λi v d e _=>by simp at e⟩
theorem aA.cons(h:Rep H O v d)(r:aA H O vs ds):aA H O (v :: vs) (d :: ds):=by
 refine⟨by simp[r.1],λi v' d' e1 e2=>?_⟩
 cases i with
 | zero=>simp at e1 e2; subst e1; subst e2; exact h
 | succ i=>exact r.2 i v' d' (by simpa using e1) (by simpa using e2)
theorem aA.head(r:aA H O (v :: vs) (d :: ds)):Rep H O v d:=r.2 0 v d rfl rfl
theorem aA.tail(r:aA H O (v :: vs) (d :: ds)):aA H O vs ds:=⟨by simpa using r.1,λi v' d' e1 e2=>r.2 (i + 1) v' d' (by simpa using e1) (by simpa using e2)⟩
theorem aA.append(h:aA H O vs ds)(h':aA H O fL dS):aA H O (vs ++ fL) (ds ++ dS):=by
 induction vs generalizing ds with
 | nil =>
  cases ds with
  | nil=>exact h'
  | cons d r=>have:=h.1; simp at this
 | cons v r ih =>
  cases ds with
  | nil=>have:=h.1; simp at this
  | cons d q=>exact .cons h.head (ih h.tail)
theorem aA.get{i:Nat}(h:aA H O vs ds)(e:ds[i]? = some d):∃ v,vs[i]? = some v/\Rep H O v d:=by
 have hi:i < ds.length:=(W6.mp e).1;have hv:i < vs.length:=by rw[h.1]; exact hi
 exact⟨vs[i],by simp[hv],h.2 i _ d (by simp[hv]) e⟩
theorem aA.take(n:Nat)(h:aA H O vs ds):aA H O (vs.take n) (ds.take n):=by
 refine⟨by simp[h.1],λi v d e1 e2=>?_⟩;by_cases hi:i < n
 ·rw[Jg hi] at e1 e2;exact h.2 i v d e1 e2
 ·rw[List.getElem?_take_eq_none (by omega)] at e1; cases e1
theorem aA.drop(n:Nat)(h:aA H O vs ds):aA H O (vs.drop n) (ds.drop n):=by
 refine⟨by simp[h.1],λi v d e1 e2=>?_⟩;rw[List.getElem?_drop] at e1 e2;exact h.2 (n + i) v d e1 e2
theorem aA.set(h:aA H O vs ds)(r:Rep H O v d)(j:Nat):aA H O (vs.set j v) (ds.set j d):=by
 refine⟨by simp[h.1],λi v' d' e1 e2=>?_⟩;by_cases hi:j=i
 ·subst hi;rw[WO] at e1 e2;simp at e1 e2;obtain⟨_,rfl⟩:=e1;obtain⟨_,rfl⟩:=e2;exact r
 ·rw[W3 hi] at e1 e2;exact h.2 i v' d' e1 e2
theorem gj.keep(h:gj H O a d)(hk:∀ b o,H b=some o->¬ O b->H' b=some o)(ha:∀ o,H a=some o->H' a=some o):gj H' O a d:=by
 cases d <;> first
  | exact h.elim
  | (obtain⟨vs,e,r⟩:=h; exact⟨vs,ha _ e,aA.keep r hk⟩)
  | (obtain⟨ws,e,r,q⟩:=h; exact⟨ws,ha _ e,r,λi p p' e1 e2=>(q i p p' e1 e2).keep hk⟩)
theorem gj.aJ(h:gj H O a d)(k:∀ a,O' a->O a\/H a=none):gj H O' a d:=by
 cases d <;> first
  | exact h.elim
  | (obtain⟨vs,e,r⟩:=h; exact⟨vs,e,aA.aJ r k⟩)
  | (obtain⟨ws,e,r,q⟩:=h; exact⟨ws,e,r,λi p p' e1 e2=>(q i p p' e1 e2).aJ k⟩)
theorem gj.some(h:gj H O a d):∃ o,H a=some o:=by
 cases d <;> first
  | exact h.elim
  | (obtain⟨vs,e,r⟩:=h; exact⟨_,e⟩)
theorem gj.rep(h:gj H O a d)(ho:¬ O a):Rep H O (.ref a) d:=by
 cases d with
 | lst ds=>obtain⟨vs,e,r⟩:=h; exact .lst ho (.inl e) r.1 r.2
 | ay ds=>obtain⟨ws,e,r,q⟩:=h; exact .ay ho e r q
 | _=>exact h.elim
end
structure Xc where
 cls:Tx
 kh:D
structure Fc where
 H₀:Hp
 B:Addr->Prop
 pin:List (Nat×Addr)
 xc:Xc->Dl->Prop:=λ_ _=>False
def Fc.plus(c:Fc)(p:Addr):Fc:={ c with B:=λa=>c.B a\/a=p }
def Fc.I(c:Fc)(a:Addr):Prop:=∃ i,(i,a) ∈ c.pin
def Own(σ:St)(δ:Dl)(a:Addr):Prop:=∃ (i:Nat) (d:D),δ[i]? = some (some (.own d))/\σ[i]? = some (some (.ref a))
def Av(c:Fc)(σ:St)(δ:Dl)(a:Addr):Prop:=c.B a\/Own σ δ a
structure Ok(c:Fc)(σ:St)(δ:Dl)(H:Hp):Prop where
 keep:∀ a o,c.H₀ a=some o->¬ c.I a->H a=some o
 bd:∀ a,c.B a->∃ o,H a=some o
 cN:∀ a,c.I a->∃ o,H a=some o
 len:δ.length=σ.length
 slot:∀ (i:Nat) d,δ[i]? = some (some (.pure d))->∃ v,σ[i]? = some (some v)/\Rep H (Av c σ δ) v d
 own:∀ (i:Nat) d,δ[i]? = some (some (.own d))->∃ a,σ[i]? = some (some (.ref a))/\gj H (Av c σ δ) a d/\(c.I a\/c.H₀ a=none)/\¬ c.B a
 inj:∀ (i j:Nat) a d d',δ[i]? = some (some (.own d))->δ[j]? = some (some (.own d'))->σ[i]? = some (some (.ref a))->σ[j]? = some (some (.ref a))->i=j
 pinned:∀ p ∈ c.pin,σ[p.1]? = some (some (.ref p.2))
structure aD(c:Fc)(σ:St)(δ:Dl)(H:Hp)(σ':St)(δ':Dl)(H':Hp):Prop where
 ok:Ok c σ' δ' H'
 keep:∀ a o,H a=some o->¬ Own σ δ a->H' a=some o
 own:∀ a,Own σ' δ' a->Own σ δ a\/H a=none
 there:∀ a o,H a=some o->∃ o',H' a=some o'
section
variable {c:Fc} {σ σ' σ'':St} {δ δ' δ'':Dl} {H H' Ck:Hp} {v:V} {d:D} {a p:Addr}
theorem Ok.LF(k:Ok c σ δ H)(h:c.B a):∃ o,H a=some o:=k.bd a h
theorem Ok.ki(k:Ok c σ δ H)(h:Own σ δ a):∃ o,H a=some o:=by
 obtain⟨i,d,e1,e2⟩:=h;obtain⟨b,e3,q,_⟩:=k.own i d e1;rw[e2] at e3; cases e3
 exact q.some
theorem Ok.Cm(k:Ok c σ δ H)(h:Av c σ δ a):∃ o,H a=some o:=h.elim k.LF k.ki
theorem Ok.gC(k:Ok c σ δ H)(h:H a=none):¬ Av c σ δ a:=λz=>by
 obtain⟨o,e⟩:=k.Cm z;rw[h] at e; cases e
theorem aD.refl(k:Ok c σ δ H):aD c σ δ H σ δ H:=⟨k,λ_ _ e _=>e,λ_ h=>.inl h,λ_ o e=>⟨o,e⟩⟩
theorem aD.trans(x:aD c σ δ H σ' δ' H')(y:aD c σ' δ' H' σ'' δ'' Ck):aD c σ δ H σ'' δ'' Ck:=by
 refine⟨y.ok,λa o e n=>?_,λa h=>?_,λa o e=>?_⟩
 ·refine y.keep a o (x.keep a o e n) λz=>?_
  rcases x.own a z with q | q
  ·exact n q
  ·rw[q] at e; cases e
 ·rcases y.own a h with q | q
  ·exact x.own a q
  ·right
   cases e:H a with
   | none=>rfl
   | some o =>
    obtain⟨o',e'⟩:=x.there a o e;rw[q] at e'; cases e'
 ·obtain⟨o',e'⟩:=x.there a o e;exact y.there a o' e'
theorem aD.av(x:aD c σ δ H σ' δ' H'):∀ a,Av c σ' δ' a->Av c σ δ a\/H a=none:=λa h=>by
 rcases h with h | h
 ·exact .inl (.inl h)
 ·rcases x.own a h with q | q
  ·exact .inl (.inr q)
  ·exact .inr q
theorem Rep.cU(h:Rep H (Av c σ δ) v d)(x:aD c σ δ H σ' δ' H'):Rep H' (Av c σ' δ') v d:=by
 have h1:Rep H (λa=>Av c σ δ a\/Av c σ' δ' a) v d:=Rep.aJ h λa z=>z.elim .inl (x.av a)
 exact(h1.keep λa o e n=>x.keep a o e λz=>n (.inl (.inr z))).aJ λa z=>.inl (.inr z)
theorem aA.cU(h:aA H (Av c σ δ) vs ds)(x:aD c σ δ H σ' δ' H'):aA H' (Av c σ' δ') vs ds:=⟨h.1,λi v d e1 e2=>Rep.cU (h.2 i v d e1 e2) x⟩
def aP(c:Fc)(σ:St)(δ:Dl)(Hs H:Hp)(v:V):S->Prop
 | .pure d=>Rep H (Av c σ δ) v d
 | .own d=>∃ a,v = .ref a/\gj H (Av (c.plus a) σ δ) a d/\¬ c.B a/\c.H₀ a=none/\Ok (c.plus a) σ δ H/\Hs a=none
theorem sy(k:Ok (c.plus a) σ δ H):¬ Own σ δ a:=λ⟨i,d,e1,e2⟩=>by
 obtain⟨b,e3,_,_,n⟩:=k.own i d e1;rw[e2] at e3; cases e3
 exact n (.inr rfl)
theorem aP.rep(h:aP c σ δ Hs H v r):Rep H (Av c σ δ) v r.d:=by
 cases r with
 | pure d=>exact h
 | own d =>
  obtain⟨a,rfl,o,n,f,k,_⟩:=h;refine(o.aJ λb z=>.inl ?_).rep λz=>z.elim n (sy k)
  exact z.elim (λz=>.inl (.inl z)) .inr
theorem aP.back(h:aP c σ δ Hs H v r)(x:aD c σ₀ δ₀ H' σ' δ' Hs):aP c σ δ H' H v r:=by
 cases r with
 | pure d=>exact h
 | own d =>
  obtain⟨a,e,o,n,f,k,hs⟩:=h;refine⟨a,e,o,n,f,k,?_⟩
  cases q:H' a with
  | none=>rfl
  | some o =>
   obtain⟨o',e'⟩:=x.there a o q;rw[hs] at e'; cases e'
theorem aP.LG(h:aP c σ δ Hs H v r):aP c σ δ c.H₀ H v r:=by
 cases r with
 | pure d=>exact h
 | own d =>
  obtain⟨a,e,o,n,f,k,hs⟩:=h;exact⟨a,e,o,n,f,k,f⟩
theorem Ok.alloc(k:Ok c σ δ H)(hp:H p=none)(o:HO):Ok c σ δ (upd H p o):=by
 have up:∀ a w,H a=some w->upd H p o a=some w:=λa w e=>by
  rw[aG (fP e hp)]; exact e
 refine⟨λa w e n=>up a w (k.keep a w e n),λa z=>(k.bd a z).elim λw e=>⟨w,up a w e⟩,λa z=>(k.cN a z).elim λw e=>⟨w,up a w e⟩,k.len,λi d e=>?_,λi d e=>?_,k.inj,k.pinned⟩
 ·obtain⟨v,e1,r⟩:=k.slot i d e;exact⟨v,e1,r.keep λa w q _=>up a w q⟩
 ·obtain⟨a,e1,r,q⟩:=k.own i d e;exact⟨a,e1,r.keep (λb w q _=>up b w q) λw q=>up a w q,q⟩
theorem aD.alloc(k:Ok c σ δ H)(hp:H p=none)(o:HO):aD c σ δ H σ δ (upd H p o):=by
 have up:∀ a w,H a=some w->upd H p o a=some w:=λa w e=>by
  rw[aG (fP e hp)]; exact e
 exact⟨k.alloc hp o,λa w e _=>up a w e,λa h=>.inl h,λa w e=>⟨w,up a w e⟩⟩
theorem Ok.kj(k:Ok c σ δ H)(hp:H p=none):c.H₀ p=none:=by
 cases e:c.H₀ p with
 | none=>rfl
 | some o =>
  by_cases q:c.I p
  ·obtain⟨w,e'⟩:=k.cN p q;rw[hp] at e'; cases e'
  ·have:=k.keep p o e q;rw[hp] at this; cases this
theorem Ok.plus(k:Ok c σ δ H)(hp:H p=none)(o:HO):Ok (c.plus p) σ δ (upd H p o):=by
 have k':=k.alloc hp o;have sub:∀ b,Av (c.plus p) σ δ b->Av c σ δ b\/b=p:=λb z=>by
  rcases z with (z | z) | z
  ·exact .inl (.inl z)
  ·exact .inr z
  ·exact .inl (.inr z)
 have sA:∀ b,Av (c.plus p) σ δ b->Av c σ δ b\/H b=none:=λb z=>(sub b z).elim .inl λe=>.inr (by rw[e]; exact hp)
 have up:∀ a w,H a=some w->upd H p o a=some w:=λa w e=>by
  rw[aG (fP e hp)]; exact e
 refine⟨k'.keep,λa z=>?_,k'.cN,k.len,λi d e=>?_,λi d e=>?_,k.inj,k.pinned⟩
 ·rcases z with z | z
  ·exact k'.bd a z
  ·exact⟨o,by rw[z]; exact cg⟩
 ·obtain⟨v,e1,r⟩:=k.slot i d e;exact⟨v,e1,(r.aJ sA).keep λa w q _=>up a w q⟩
 ·obtain⟨a,e1,r,q,nb⟩:=k.own i d e;refine⟨a,e1,(r.aJ sA).keep (λb w q _=>up b w q) (λw q=>up a w q),q,λz=>?_⟩;rcases z with z | z
  ·exact nb z
  ·obtain⟨w,ew⟩:=r.some;rw[z,hp] at ew; cases ew
theorem aP.my(k:Ok c σ δ H)(r:aA H (Av c σ δ) vs ds)(hp:H p=none):aP c σ δ H (upd H p (.lst vs)) (.ref p) (.own (.lst ds)):=by
 have up:∀ a w,H a=some w->upd H p (.lst vs) a=some w:=λa w e=>by
  rw[aG (fP e hp)]; exact e
 refine⟨p,rfl,⟨vs,cg,?_⟩,λz=>k.gC hp (.inl z),k.kj hp,k.plus hp _,hp⟩;have r1:aA H (Av (c.plus p) σ δ) vs ds:=aA.aJ r λb z=>by
  rcases z with (z | z) | z
  ·exact .inl (.inl z)
  ·exact .inr (by rw[z]; exact hp)
  ·exact .inl (.inr z)
 exact aA.keep r1 λb w e _=>up b w e
theorem aP.mz(k:Ok c σ δ H)(r:aA H (Av c σ δ) vs ds)(hp:H p=none):aP c σ δ H (upd H p (.tup vs)) (.ref p) (.pure (.tup ds)):=by
 have up:∀ a w,H a=some w->upd H p (.tup vs) a=some w:=λa w e=>by
  rw[aG (fP e hp)]; exact e
 have r1:=aA.keep r (H':=upd H p (.tup vs)) λb w e _=>up b w e
 exact .tup (k.gC hp) cg r1.1 r1.2
end
inductive Rs (α:Type) where
 | ok (a:α) (δ:Dl)
 | exc (x:Xc) (δ:Dl)
 | stuck
def Rs.bind{α β:Type}(r:Rs α)(f:α->Dl->Rs β):Rs β:=match r with
 | .ok a δ=>f a δ
 | .exc x δ=>.exc x δ
 | .stuck=>.stuck
abbrev DE:=Dl->Rs S
def XC(c:Fc)(x:Xc)(δ:Dl):Prop:=c.xc x δ
def post{α:Type}(c:Fc)(r:Rs α)(k:α->Dl->Prop):Prop:=match r with
 | .ok a δ=>k a δ
 | .exc x δ=>XC c x δ
 | .stuck=>False
theorem bc:post c (r.bind f) k ↔ post c r λa δ=>post c (f a δ) k:=by
 cases r <;> exact Iff.rfl
theorem aQ(h:post c r k)(m:∀ a δ,k a δ->k' a δ):post c r k':=by
 cases r with
 | ok a δ=>exact m a δ h
 | exc x δ=>exact h
 | stuck=>exact h
def tD(c:Fc)(f:DE):TE:=λσ H Q=>∃ δ,Ok c σ δ H/\post c (f δ) λr δ'=>∀ v H',aD c σ δ H σ δ' H'->aP c σ δ' H H' v r->Q v H'
abbrev SE(X:Cx)(c:Fc)(e:Expr)(f:DE):Prop:=PE X e (tD c f)
def cZ(c:Fc)(σ:St)(δ:Dl)(H:Hp)(v:V)(d:D):Prop:=Rep H (Av c σ δ) v d\/∃ a,v = .ref a/\gj H (Av c σ δ) a d
abbrev BE:=Dl->Rs D
def tB(c:Fc)(f:BE):TE:=λσ H Q=>∃ δ,Ok c σ δ H/\post c (f δ) λd δ'=>∀ v H',aD c σ δ H σ δ' H'->cZ c σ δ' H' v d->Q v H'
abbrev SB(X:Cx)(c:Fc)(e:Expr)(f:BE):Prop:=PE X e (tB c f)
theorem PE.weak(h:PE X e t)(w:∀ σ H Q,t' σ H Q->t σ H Q):PE X e t':=λpins s σ H Q I q=>h pins s σ H Q I (w σ H Q q)
def ao(f:DE):BE:=λδ=>(f δ).bind λr δ'=>.ok r.d δ'
theorem aP.b(h:aP c σ δ Hs H v r):cZ c σ δ H v r.d:=.inl h.rep
theorem aT{X:Cx}{c:Fc}{e:Expr}{f:DE}(h:SE X c e f):SB X c e (ao f):=PE.weak h λσ H Q ⟨δ,k,p⟩=>⟨δ,k,by
 unfold ao at p;rw[bc] at p;exact aQ p λr δ' q v H' a s=>q v H' a s.b⟩
def ah(i:Nat):BE:=λδ=>match δ[i]? with
 | some (some r)=>.ok r.d δ
 | _=>.stuck
def aa(i:Nat):DE:=λδ=>match δ[i]? with
 | some (some (.pure d))=>.ok (.pure d) δ
 | some (some (.own d))=>.ok (.pure d) (δ.set i (some (.pure d)))
 | _=>.stuck
def eD(d:D):DE:=λδ=>.ok (.pure d) δ
section
variable {X:Cx} {c:Fc}
theorem bD{i:Nat}{e:Expr}(h:PE X e (b_ i)):SB X c e (ah i):=PE.weak h λσ H Q ⟨δ,k,p⟩=>by
 unfold ah at p
 cases e:δ[i]? with
 | none=>rw[e] at p; exact p.elim
 | some o =>
  cases o with
  | none=>rw[e] at p; exact p.elim
  | some r =>
   rw[e] at p
   cases r with
   | pure d =>
    obtain⟨v,e1,r⟩:=k.slot i d e;exact⟨v,e1,p v H (.refl k) (.inl r)⟩
   | own d =>
    obtain⟨a,e1,r,_⟩:=k.own i d e;exact⟨.ref a,e1,p _ H (.refl k) (.inr ⟨a,rfl,r⟩)⟩
theorem Own.sub(h:Own σ (δ.set i (some (.pure d))) a):Own σ δ a:=by
 obtain⟨j,d',e1,e2⟩:=h;by_cases hj:i=j
 ·subst hj;rw[WO] at e1;simp at e1
 ·rw[W3 hj] at e1;exact⟨j,d',e1,e2⟩
theorem Ok.give(k:Ok c σ δ H)(e:δ[i]? = some (some (.own d))) :
  ∃ a,σ[i]? = some (some (.ref a))/\aD c σ δ H σ (δ.set i (some (.pure d))) H/\Rep H (Av c σ (δ.set i (some (.pure d)))) (.ref a) d:=by
 obtain⟨a,e1,r,q,nb⟩:=k.own i d e;have hi:i < δ.length:=(W6.mp e).1;have sub:∀ b,Av c σ (δ.set i (some (.pure d))) b->Av c σ δ b:=λb z=>z.elim .inl λz=>.inr z.sub
 have na:¬ Av c σ (δ.set i (some (.pure d))) a:=by
  rintro (z | ⟨j,d',f1,f2⟩)
  ·exact nb z
  ·by_cases hj:i=j
   ·subst hj;rw[WO] at f1;simp at f1
   ·rw[W3 hj] at f1;exact hj (k.inj i j a d d' e f1 e1 f2)
 have rep:Rep H (Av c σ (δ.set i (some (.pure d)))) (.ref a) d:=(r.aJ λb z=>.inl (sub b z)).rep na;refine⟨a,e1,⟨⟨k.keep,k.bd,k.cN,by rw[WS]; exact k.len,λj d' f=>?_,λj d' f=>?_,λj l b d1 d2 f1 f2=>?_,k.pinned⟩,λ_ _ w _=>w,λb z=>.inl z.sub,λ_ o w=>⟨o,w⟩⟩,rep⟩
 ·by_cases hj:i=j
  ·subst hj;rw[Wc hi] at f
   cases f;exact⟨.ref a,e1,rep⟩
  ·rw[W3 hj] at f;obtain⟨v,g1,g2⟩:=k.slot j d' f;exact⟨v,g1,g2.aJ λb z=>.inl (sub b z)⟩
 ·by_cases hj:i=j
  ·subst hj;rw[Wc hi] at f
   cases f
  ·rw[W3 hj] at f;obtain⟨b,g1,g2,g3⟩:=k.own j d' f;exact⟨b,g1,g2.aJ λb z=>.inl (sub b z),g3⟩
 ·have h1:δ[j]? = some (some (.own d1)):=by
   by_cases hj:i=j
   ·subst hj; rw[Wc hi] at f1; cases f1
   ·rw[W3 hj] at f1; exact f1
  have h2:δ[l]? = some (some (.own d2)):=by
   by_cases hj:i=l
   ·subst hj; rw[Wc hi] at f2; cases f2
   ·rw[W3 hj] at f2; exact f2
  exact k.inj j l b d1 d2 h1 h2
theorem aK{i:Nat}{e:Expr}(h:PE X e (b_ i)):SE X c e (aa i):=PE.weak h λσ H Q ⟨δ,k,p⟩=>by
 unfold aa at p
 cases e:δ[i]? with
 | none=>rw[e] at p; exact p.elim
 | some o =>
  cases o with
  | none=>rw[e] at p; exact p.elim
  | some r =>
   rw[e] at p
   cases r with
   | pure d =>
    obtain⟨v,e1,r⟩:=k.slot i d e;exact⟨v,e1,p v H (.refl k) r⟩
   | own d =>
    obtain⟨a,e1,x,r⟩:=k.give e;exact⟨.ref a,e1,p _ H x r⟩
theorem aR{i j pos}:SE X c (.Constant (.int i) j pos) (eD (.int i)):=PE.weak AM λσ H Q ⟨δ,k,p⟩=>p _ H (.refl k) (.int i)
theorem jH{b j pos}:SE X c (.Constant (.bool b) j pos) (eD (.bl b)):=PE.weak uK λσ H Q ⟨δ,k,p⟩=>p _ H (.refl k) (.bl b)
theorem Cn{j pos}:SE X c (.Constant .none j pos) (eD .aN):=PE.weak HK λσ H Q ⟨δ,k,p⟩=>p _ H (.refl k) .aN
theorem mB{x j pos}(y:Tx)(h:x=toS y:=by decide +kernel):SE X c (.Constant (.str x) j pos) (eD (.str y)):=by
 subst h;exact PE.weak AN λσ H Q ⟨δ,k,p⟩=>p _ H (.refl k) (.str y)
end
open PySem PySem.Spec PyProof.Rows L2 PySem.SeqAt
mutual
def aC:D->D->Bool
 | .aN,.aN=>true
 | .bl a,.bl b=>a == b
 | .int a,.int b=>a == b
 | .bl a,.int b=>(if a then 1 else 0) == b
 | .int a,.bl b=>a == (if b then 1 else 0)
 | .str a,.str b=>a == b
 | .tup xs,.tup ys=>gD xs ys
 | .lst xs,.lst ys=>gD xs ys
 | _,_=>false
def gD:List D->List D->Bool
 | [],[]=>true
 | x :: xs,y :: ys=>aC x y && gD xs ys
 | _,_=>false
end
mutual
def flat:Nat->D->Bool
 | _,.aN=>true
 | _,.bl _=>true
 | _,.int _=>true
 | _,.str _=>true
 | 0,.tup _=>false
 | n + 1,.tup xs=>iF n xs
 | 0,.lst _=>false
 | n + 1,.lst xs=>iF n xs
 | _,.ay _=>false
 | _,.exc _ _=>false
 | _,.xd _=>false
def iF:Nat->List D->Bool
 | _,[]=>true
 | n,x :: xs=>flat n x && iF n xs
end
example:aC (.tup [.int 1,.str [2]]) (.tup [.int 1,.str [2]])=true:=by decide +kernel
theorem mC:∀ {xs:List D} {x:D},iF n xs=true->x ∈ xs->flat n x=true
 | [],_,_,h=>by simp at h
 | y :: ys,x,h,hm=>by
  simp only[iF,Wr] at h;rcases Wl.mp hm with e | hm
  ·rw[e]; exact h.1
  ·exact mC h.2 hm
theorem sC:∀ {xs ys:List D} {f:Nat->Bool},xs.length=ys.length->(∀ (j:Nat) x y,xs[j]? = some x->ys[j]? = some y->f j=aC x y)->(WJ xs.length).all f=gD xs ys
 | [],[],f,_,_=>rfl
 | [],y :: ys,f,h,_=>by simp at h
 | x :: xs,[],f,h,_=>by simp at h
 | x :: xs,y :: ys,f,h,hf=>by
  simp only[gD];rw[WD,Jw,U2,hf 0 x y rfl rfl,List.all_map];rw[<- sC (f:=λj=>f (j + 1)) (by simpa using h) (λj a b e1 e2=>hf (j + 1) a b (by simpa using e1) (by simpa using e2))];rfl
theorem sD:∀ {xs ys:List D},xs.length≠ys.length->gD xs ys=false
 | [],[],h=>absurd rfl h
 | [],y :: ys,_=>rfl
 | x :: xs,[],_=>rfl
 | x :: xs,y :: ys,h=>by
  simp only[gD];rw[sD (xs:=xs) (ys:=ys) (by intro e; exact h (by simp[e]))];simp
mutual
theorem pU:∀ {n:Nat} {d:D},flat n d=true->aC d d=true
 | _,.aN,_=>rfl
 | _,.bl b,_=>by simp[aC]
 | _,.int i,_=>by simp[aC]
 | _,.str x,_=>by simp[aC]
 | 0,.tup xs,h=>by simp[flat] at h
 | n + 1,.tup xs,h=>by simp only[aC]; exact vB (n:=n) (by simpa[flat] using h)
 | 0,.lst xs,h=>by simp[flat] at h
 | n + 1,.lst xs,h=>by simp only[aC]; exact vB (n:=n) (by simpa[flat] using h)
 | _,.ay xs,h=>by simp[flat] at h
 | _,.exc n _,h=>by simp[flat] at h
 | _,.xd n,h=>by simp[flat] at h
theorem vB:∀ {n:Nat} {ds:List D},iF n ds=true->gD ds ds=true
 | _,[],_=>rfl
 | n,x :: xs,h=>by
  simp only[iF,Wr] at h;simp only[gD];rw[pU h.1,vB h.2];rfl
end
abbrev du:Addr->Prop:=λ_=>False
theorem Rep.un(h:Rep H O v d):Rep H du v d:=Rep.aJ h λ_ z=>z.elim
theorem cZ.un(h:cZ c σ δ H v d):Rep H du v d:=by
 rcases h with h | ⟨a,rfl,o⟩
 ·exact Rep.un h
 ·exact(o.aJ (O':=du) λ_ z=>z.elim).rep λz=>z
section
variable {X:Cx} {pins:List (Addr×Obj)} {σ:St} {H:Hp} {s:W2}
theorem Inv.gE(I:Inv X pins σ H s)(h:Rd H a (.lst vs)):∃ ag:List Value,Vals vs ag/\s.heap.IsList a ag.toArray:=by
 obtain⟨ag,r,p,_⟩:=I.list (.inl h);exact⟨ag,r,p.isList⟩
theorem Inv.gF(I:Inv X pins σ H s)(h:H a=some (.tup vs)):∃ ag:List Value,Vals vs ag/\s.heap.IsTuple a ag.toArray:=by
 obtain⟨ag,r,p,_⟩:=I.tuple (.of h);exact⟨ag,r,p⟩
theorem sE(x y:Tx):((toS x:Str) == toS y)=(x == y):=by
 rw[Bool.eq_iff_iff];simp only[beq_iff_eq];exact⟨pS,λe=>by rw[e]⟩
theorem LH(A:Wp):A.in1.units=A.units + 1:=rfl
theorem Rd.inj(h:Rd H a u)(k:Rd H a w)(hu:∀ o z,u≠.frz o z)(hw:∀ o z,w≠.frz o z):u=w:=by
 rcases h with h | ⟨o,h⟩ <;> rcases k with k | ⟨o',k⟩
 ·rw[h] at k; exact Wx k
 ·rw[h] at k; exact absurd (Wx k) (hu _ _)
 ·rw[h] at k; exact absurd (Wx k).symm (hw _ _)
 ·rw[h] at k;have:=Wx k;injection this
theorem aA.inj{vs:List V}:∀ {ds es:List D},vs.length=ds.length->vs.length=es.length->(∀ (i:Nat) v d e,vs[i]? = some v->ds[i]? = some d->es[i]? = some e->d=e)->ds=es:=by
 intro ds es h1 h2 h;apply JY;intro i;by_cases hi:i < vs.length
 ·have a1:i < ds.length:=by omega
  have a2:i < es.length:=by omega
  rw[Wk a1,Wk a2];rw[h i vs[i] ds[i] es[i] (by simp[hi]) (by simp[a1]) (by simp[a2])]
 ·rw[WQ (by omega),WQ (by omega)]
theorem Rep.inj{O:Addr->Prop}{v:V}{d:D}(h:Rep H O v d):∀ {n:Nat} {e:D},flat n d=true->flat n e=true->Rep H O v e->d=e:=by
 induction h with
 | aN=>intro n e _ _ k; cases k; rfl
 | bl b=>intro n e _ _ k; cases k; rfl
 | int i=>intro n e _ _ k; cases k; rfl
 | str x =>
  intro n e _ _ k;generalize hz:V.str (toS x)=z at k
  cases k with
  | str y=>injection hz with hz; rw[pS hz]
  | _=>cases hz
 | @tup a vs ds h1 h2 h3 h4 ih =>
  intro n e fd fe k
  cases n with
  | zero=>simp[flat] at fd
  | succ n =>
   simp only[flat] at fd
   cases k with
   | @tup _ ws es k1 k2 k3 k4 =>
    simp only[flat] at fe;have e1:=Rd.inj (.inl h2) (.inl k2) (λ_ _ z=>by cases z) (λ_ _ z=>by cases z);injection e1 with e1
    subst e1;rw[aA.inj h3 k3 λi v d e q1 q2 q3=>ih i v d q1 q2 (mC fd (WF q2)) (mC fe (WF q3)) (k4 i v e q1 q3)]
   | lst k1 k2=>exact absurd (Rd.inj (.inl h2) k2 (λ_ _ z=>by cases z) (λ_ _ z=>by cases z)) (λz=>by cases z)
   | ay k1 k2=>exact absurd (Rd.inj (.inl h2) (.inl k2) (λ_ _ z=>by cases z) (λ_ _ z=>by cases z)) (λz=>by cases z)
   | exc k1 k2=>simp[flat] at fe
   | xd k1 k2=>simp[flat] at fe
 | @lst a vs ds h1 h2 h3 h4 ih =>
  intro n e fd fe k
  cases n with
  | zero=>simp[flat] at fd
  | succ n =>
   simp only[flat] at fd
   cases k with
   | @lst _ ws es k1 k2 k3 k4 =>
    simp only[flat] at fe;have e1:=Rd.inj h2 k2 (λ_ _ z=>by cases z) (λ_ _ z=>by cases z);injection e1 with e1
    subst e1;rw[aA.inj h3 k3 λi v d e q1 q2 q3=>ih i v d q1 q2 (mC fd (WF q2)) (mC fe (WF q3)) (k4 i v e q1 q3)]
   | tup k1 k2=>exact absurd (Rd.inj h2 (.inl k2) (λ_ _ z=>by cases z) (λ_ _ z=>by cases z)) (λz=>by cases z)
   | ay k1 k2=>exact absurd (Rd.inj h2 (.inl k2) (λ_ _ z=>by cases z) (λ_ _ z=>by cases z)) (λz=>by cases z)
   | exc k1 k2=>simp[flat] at fe
   | xd k1 k2=>simp[flat] at fe
 | ay h1 h2 h3 h4 ih =>
  intro n e fd _ _
  cases n <;> simp[flat] at fd
 | exc h1 h2 =>
  intro n e fd _ _
  cases n <;> simp[flat] at fd
 | xd h1 h2 =>
  intro n e fd _ _
  cases n <;> simp[flat] at fd
def vC(H:Hp)(s:W2)(n:Nat):Prop:=∀ (A:Wp) (x y:V) (u w:Value) (d e:D),A.units + n + 1 < Qp->flat n d=true->flat n e=true->Rep H du x d->Rep H du y e->RelV x u->RelV y w->EqAt A s u w (aC d e)
def mD(H:Hp)(s:W2)(A:Wp)(n:Nat):Prop:=match n with
 | 0=>True
 | m + 1=>A.units + m + 2 < Qp/\vC H s m
def sF(ds es:List D)(j:Nat):Bool:=match ds[j]?,es[j]? with
 | some p,some q=>aC p q
 | _,_=>false
theorem sG(j:Nat)(p q:D)(e1:ds[j]? = some p)(e2:es[j]? = some q):sF ds es j=aC p q:=by unfold sF; rw[e1,e2]
theorem sH{n:Nat}{A:Wp}{vs ws:List V}{ds es:List D}{ag gG:List Value}(hu:A.units + n + 2 < Qp)(ih:vC H s n)(r1:Vals vs ag)(r2:Vals ws gG)(l1:vs.length=ds.length)(l2:ws.length=es.length)
  (g1:∀ (i:Nat) v d,vs[i]? = some v->ds[i]? = some d->Rep H du v d) (g2:∀ (i:Nat) v d,ws[i]? = some v->es[i]? = some d->Rep H du v d) (f1:iF n ds=true) (f2:iF n es=true) :
  ∀ j (h1:j < ag.toArray.size) (h2:j < gG.toArray.size),EqAt A.in1 s ag.toArray[j] gG.toArray[j] (sF ds es j):=by
 intro j h1 h2;have e1:=r1.length;have e2:=r2.length;simp at h1 h2;have hd:j < ds.length:=by omega
 have he:j < es.length:=by omega
 have hv:j < vs.length:=by omega
 have hw:j < ws.length:=by omega
 obtain⟨u',vD,ru'⟩:=r1.get (i:=j) (x:=vs[j]) (by simp[hv]);obtain⟨w',hw',rw''⟩:=r2.get (i:=j) (x:=ws[j]) (by simp[hw]);have eu:ag.toArray[j]=u':=by simpa[h1] using vD
 have ew:gG.toArray[j]=w':=by simpa[h2] using hw'
 rw[eu,ew,sG j ds[j] es[j] (by simp[hd]) (by simp[he])];exact ih A.in1 vs[j] ws[j] u' w' ds[j] es[j] (by rw[LH]; omega) (mC f1 (QF hd)) (mC f2 (QF he)) (g1 j _ _ (by simp[hv]) (by simp[hd])) (g2 j _ _ (by simp[hw]) (by simp[he])) ru' rw''
theorem Co(h1:n=ds.length)(h2:m=es.length):((WJ (min n m)).all (sF ds es) && n == m)=gD ds es:=by
 subst h1 h2;by_cases hl:ds.length=es.length
 ·rw[<- hl,Nat.min_self,sC hl sG];simp
 ·rw[sD hl];simp[hl]
theorem LI(I:Inv X pins σ H s)(n:Nat)(A:Wp)(bK:A.units < Qp)(t1:s.heap.IsTuple a ag.toArray)(t2:s.heap.IsTuple b gG.toArray)(r1:Vals vs ag)(r2:Vals ws gG)(l1:vs.length=ds.length)(l2:ws.length=es.length)
  (g1:∀ (i:Nat) v d,vs[i]? = some v->ds[i]? = some d->Rep H du v d) (g2:∀ (i:Nat) v d,ws[i]? = some v->es[i]? = some d->Rep H du v d) (f1:flat n (.tup ds)=true) (f2:flat n (.tup es)=true) (ih:mD H s A n) :
  RcAt A s (.ref a) (.ref b) (gD ds es):=by
 cases n with
 | zero=>simp[flat] at f1
 | succ n =>
  simp only[flat] at f1 f2;obtain⟨hu,ih⟩:=ih;have q:=RcAt.tuples (A:=A) (s:=s) t1 t2 bK (sH hu ih r1 r2 l1 l2 g1 g2 f1 f2);rw[Co (by have:=r1.length; simp; omega) (by have:=r2.length; simp; omega)] at q;exact q
theorem LJ(I:Inv X pins σ H s)(n:Nat)(A:Wp)(bK:A.units < Qp)(t1:s.heap.IsTuple a ag.toArray)(t2:s.heap.IsTuple b gG.toArray)(r1:Vals vs ag)(r2:Vals ws gG)(l1:vs.length=ds.length)(l2:ws.length=es.length)
  (g1:∀ (i:Nat) v d,vs[i]? = some v->ds[i]? = some d->Rep H du v d) (g2:∀ (i:Nat) v d,ws[i]? = some v->es[i]? = some d->Rep H du v d) (f1:flat n (.tup ds)=true) (f2:flat n (.tup es)=true) (ih:mD H s A n) :
  RcNeAt A s (.ref a) (.ref b) (!gD ds es):=by
 cases n with
 | zero=>simp[flat] at f1
 | succ n =>
  simp only[flat] at f1 f2;obtain⟨hu,ih⟩:=ih;have q:=RcNeAt.tuples (A:=A) (s:=s) t1 t2 bK (sH hu ih r1 r2 l1 l2 g1 g2 f1 f2);rw[Co (by have:=r1.length; simp; omega) (by have:=r2.length; simp; omega)] at q;exact q
theorem LK(I:Inv X pins σ H s)(n:Nat)(A:Wp)(bK:A.units < Qp)(t1:s.heap.IsList a ag.toArray)(t2:s.heap.IsList b gG.toArray)(r1:Vals vs ag)(r2:Vals ws gG)(l1:vs.length=ds.length)(l2:ws.length=es.length)
  (g1:∀ (i:Nat) v d,vs[i]? = some v->ds[i]? = some d->Rep H du v d) (g2:∀ (i:Nat) v d,ws[i]? = some v->es[i]? = some d->Rep H du v d) (f1:flat n (.lst ds)=true) (f2:flat n (.lst es)=true) (ih:mD H s A n) :
  RcAt A s (.ref a) (.ref b) (gD ds es):=by
 cases n with
 | zero=>simp[flat] at f1
 | succ n =>
  simp only[flat] at f1 f2;obtain⟨hu,ih⟩:=ih;have z1:ag.toArray.size=ds.length:=by have:=r1.length; simp; omega
  have z2:gG.toArray.size=es.length:=by have:=r2.length; simp; omega
  by_cases hl:ds.length=es.length
  ·have q:=RcAt.lists (A:=A) (s:=s) t1 t2 (by rw[z1,z2]; exact hl) bK (sH hu ih r1 r2 l1 l2 g1 g2 f1 f2);rw[z1,sC hl sG] at q;exact q
  ·rw[sD hl];exact RcAt.lists_lengths (A:=A) (s:=s) t1 t2 (by rw[z1,z2]; simpa using hl) bK
theorem LM(I:Inv X pins σ H s)(n:Nat)(A:Wp)(bK:A.units < Qp)(t1:s.heap.IsList a ag.toArray)(t2:s.heap.IsList b gG.toArray)(r1:Vals vs ag)(r2:Vals ws gG)(l1:vs.length=ds.length)(l2:ws.length=es.length)
  (g1:∀ (i:Nat) v d,vs[i]? = some v->ds[i]? = some d->Rep H du v d) (g2:∀ (i:Nat) v d,ws[i]? = some v->es[i]? = some d->Rep H du v d) (f1:flat n (.lst ds)=true) (f2:flat n (.lst es)=true) (ih:mD H s A n) :
  RcNeAt A s (.ref a) (.ref b) (!gD ds es):=by
 cases n with
 | zero=>simp[flat] at f1
 | succ n =>
  simp only[flat] at f1 f2;obtain⟨hu,ih⟩:=ih;have z1:ag.toArray.size=ds.length:=by have:=r1.length; simp; omega
  have z2:gG.toArray.size=es.length:=by have:=r2.length; simp; omega
  by_cases hl:ds.length=es.length
  ·have q:=RcNeAt.lists (A:=A) (s:=s) t1 t2 (by rw[z1,z2]; exact hl) bK (sH hu ih r1 r2 l1 l2 g1 g2 f1 f2);rw[z1,sC hl sG] at q;exact q
  ·rw[sD hl];exact RcNeAt.lists_lengths (A:=A) (s:=s) t1 t2 (by rw[z1,z2]; simpa using hl) bK
theorem vE(I:Inv X pins σ H s)(n:Nat)(A:Wp)(x y:V)(u w:Value)(d e:D)(bK:A.units < Qp)(fd:flat n d=true)(fe:flat n e=true)(ih:mD H s A n)(rx:Rep H du x d)(ry:Rep H du y e)(ru:RelV x u)(aH:RelV y w):RcAt A s u w (aC d e):=by
 cases rx with
 | aN =>
  cases ru
  cases ry with
  | aN =>
   cases aH;simp only[aC]; exact RcAt.none_none
  | bl q =>
   cases aH;simp only[aC]; exact RcAt.none_bool _
  | int q =>
   obtain⟨t2,rfl⟩:=aH;simp only[aC]; exact RcAt.none_int _ _
  | str q =>
   obtain⟨t2,rfl⟩:=aH;simp only[aC]; exact RcAt.none_str _ _
  | tup k1 k2 k3 k4 =>
   cases aH; obtain⟨its2,r2,t2⟩:=Inv.gF I k2
   simp only[aC]; exact RcAt.none_tuple t2 bK
  | lst k1 k2 k3 k4 =>
   cases aH; obtain⟨its2,r2,t2⟩:=Inv.gE I k2
   simp only[aC]; exact RcAt.none_list t2 bK
  | ay k1 k2 k3 k4=>(cases n <;> simp[flat] at fe)
  | exc k1 k2=>(cases n <;> simp[flat] at fe)
  | xd k1 k2=>(cases n <;> simp[flat] at fe)
 | bl p =>
  cases ru
  cases ry with
  | aN =>
   cases aH;simp only[aC]; exact RcAt.bool_none _
  | bl q =>
   cases aH;simp only[aC]; exact RcAt.bool_bool _ _
  | int q =>
   obtain⟨t2,rfl⟩:=aH;simp only[aC]; exact RcAt.bool_int _ _ _
  | str q =>
   obtain⟨t2,rfl⟩:=aH;simp only[aC]; exact RcAt.bool_str _ _ _
  | tup k1 k2 k3 k4 =>
   cases aH; obtain⟨its2,r2,t2⟩:=Inv.gF I k2
   simp only[aC]; exact RcAt.bool_tuple _ t2 bK
  | lst k1 k2 k3 k4 =>
   cases aH; obtain⟨its2,r2,t2⟩:=Inv.gE I k2
   simp only[aC]; exact RcAt.bool_list _ t2 bK
  | ay k1 k2 k3 k4=>(cases n <;> simp[flat] at fe)
  | exc k1 k2=>(cases n <;> simp[flat] at fe)
  | xd k1 k2=>(cases n <;> simp[flat] at fe)
 | int p =>
  obtain⟨t1,rfl⟩:=ru
  cases ry with
  | aN =>
   cases aH;simp only[aC]; exact RcAt.int_none _ _
  | bl q =>
   cases aH;simp only[aC]; exact RcAt.int_bool _ _ _
  | int q =>
   obtain⟨t2,rfl⟩:=aH;simp only[aC]; exact RcAt.int_int _ _ _ _
  | str q =>
   obtain⟨t2,rfl⟩:=aH;simp only[aC]; exact RcAt.int_str _ _ _ _
  | tup k1 k2 k3 k4 =>
   cases aH; obtain⟨its2,r2,t2⟩:=Inv.gF I k2
   simp only[aC]; exact RcAt.int_tuple _ _ t2 bK
  | lst k1 k2 k3 k4 =>
   cases aH; obtain⟨its2,r2,t2⟩:=Inv.gE I k2
   simp only[aC]; exact RcAt.int_list _ _ t2 bK
  | ay k1 k2 k3 k4=>(cases n <;> simp[flat] at fe)
  | exc k1 k2=>(cases n <;> simp[flat] at fe)
  | xd k1 k2=>(cases n <;> simp[flat] at fe)
 | str p =>
  obtain⟨t1,rfl⟩:=ru
  cases ry with
  | aN =>
   cases aH;simp only[aC]; exact RcAt.str_none _ _
  | bl q =>
   cases aH;simp only[aC]; exact RcAt.str_bool _ _ _
  | int q =>
   obtain⟨t2,rfl⟩:=aH;simp only[aC]; exact RcAt.str_int _ _ _ _
  | str q =>
   obtain⟨t2,rfl⟩:=aH;simp only[aC]; rw[<- sE]; exact RcAt.str_str _ _ _ _
  | tup k1 k2 k3 k4 =>
   cases aH; obtain⟨its2,r2,t2⟩:=Inv.gF I k2
   simp only[aC]; exact RcAt.str_tuple _ _ t2 bK
  | lst k1 k2 k3 k4 =>
   cases aH; obtain⟨its2,r2,t2⟩:=Inv.gE I k2
   simp only[aC]; exact RcAt.str_list _ _ t2 bK
  | ay k1 k2 k3 k4=>(cases n <;> simp[flat] at fe)
  | exc k1 k2=>(cases n <;> simp[flat] at fe)
  | xd k1 k2=>(cases n <;> simp[flat] at fe)
 | tup h1 h2 h3 h4 =>
  cases ru; obtain⟨its1,r1,t1⟩:=Inv.gF I h2
  cases ry with
  | aN =>
   cases aH;simp only[aC]; exact RcAt.tuple_none t1 bK
  | bl q =>
   cases aH;simp only[aC]; exact RcAt.tuple_bool _ t1 bK
  | int q =>
   obtain⟨t2,rfl⟩:=aH;simp only[aC]; exact RcAt.tuple_int _ _ t1 bK
  | str q =>
   obtain⟨t2,rfl⟩:=aH;simp only[aC]; exact RcAt.tuple_str _ _ t1 bK
  | tup k1 k2 k3 k4 =>
   cases aH; obtain⟨its2,r2,t2⟩:=Inv.gF I k2
   simp only[aC]; exact LI I n A bK t1 t2 r1 r2 h3 k3 h4 k4 fd fe ih
  | lst k1 k2 k3 k4 =>
   cases aH; obtain⟨its2,r2,t2⟩:=Inv.gE I k2
   simp only[aC]; exact RcAt.tuple_list t1 t2 bK
  | ay k1 k2 k3 k4=>(cases n <;> simp[flat] at fe)
  | exc k1 k2=>(cases n <;> simp[flat] at fe)
  | xd k1 k2=>(cases n <;> simp[flat] at fe)
 | lst h1 h2 h3 h4 =>
  cases ru; obtain⟨its1,r1,t1⟩:=Inv.gE I h2
  cases ry with
  | aN =>
   cases aH;simp only[aC]; exact RcAt.list_none t1 bK
  | bl q =>
   cases aH;simp only[aC]; exact RcAt.list_bool _ t1 bK
  | int q =>
   obtain⟨t2,rfl⟩:=aH;simp only[aC]; exact RcAt.list_int _ _ t1 bK
  | str q =>
   obtain⟨t2,rfl⟩:=aH;simp only[aC]; exact RcAt.list_str _ _ t1 bK
  | tup k1 k2 k3 k4 =>
   cases aH; obtain⟨its2,r2,t2⟩:=Inv.gF I k2
   simp only[aC]; exact RcAt.list_tuple t1 t2 bK
  | lst k1 k2 k3 k4 =>
   cases aH; obtain⟨its2,r2,t2⟩:=Inv.gE I k2
   simp only[aC]; exact LK I n A bK t1 t2 r1 r2 h3 k3 h4 k4 fd fe ih
  | ay k1 k2 k3 k4=>(cases n <;> simp[flat] at fe)
  | exc k1 k2=>(cases n <;> simp[flat] at fe)
  | xd k1 k2=>(cases n <;> simp[flat] at fe)
 | ay h1 h2 h3 h4=>(cases n <;> simp[flat] at fd)
 | exc h1 h2=>(cases n <;> simp[flat] at fd)
 | xd h1 h2=>(cases n <;> simp[flat] at fd)
theorem LN(I:Inv X pins σ H s)(n:Nat)(A:Wp)(x y:V)(u w:Value)(d e:D)(bK:A.units < Qp)(fd:flat n d=true)(fe:flat n e=true)(ih:mD H s A n)(rx:Rep H du x d)(ry:Rep H du y e)(ru:RelV x u)(aH:RelV y w):RcNeAt A s u w (!aC d e):=by
 cases rx with
 | aN =>
  cases ru
  cases ry with
  | aN =>
   cases aH;simp only[aC]; exact RcNeAt.none_none
  | bl q =>
   cases aH;simp only[aC]; exact RcNeAt.none_bool _
  | int q =>
   obtain⟨t2,rfl⟩:=aH;simp only[aC]; exact RcNeAt.none_int _ _
  | str q =>
   obtain⟨t2,rfl⟩:=aH;simp only[aC]; exact RcNeAt.none_str _ _
  | tup k1 k2 k3 k4 =>
   cases aH; obtain⟨its2,r2,t2⟩:=Inv.gF I k2
   simp only[aC]; exact RcNeAt.none_tuple t2 bK
  | lst k1 k2 k3 k4 =>
   cases aH; obtain⟨its2,r2,t2⟩:=Inv.gE I k2
   simp only[aC]; exact RcNeAt.none_list t2 bK
  | ay k1 k2 k3 k4=>(cases n <;> simp[flat] at fe)
  | exc k1 k2=>(cases n <;> simp[flat] at fe)
  | xd k1 k2=>(cases n <;> simp[flat] at fe)
 | bl p =>
  cases ru
  cases ry with
  | aN =>
   cases aH;simp only[aC]; exact RcNeAt.bool_none _
  | bl q =>
   cases aH;simp only[aC]; exact RcNeAt.bool_bool _ _
  | int q =>
   obtain⟨t2,rfl⟩:=aH;simp only[aC]; exact RcNeAt.bool_int _ _ _
  | str q =>
   obtain⟨t2,rfl⟩:=aH;simp only[aC]; exact RcNeAt.bool_str _ _ _
  | tup k1 k2 k3 k4 =>
   cases aH; obtain⟨its2,r2,t2⟩:=Inv.gF I k2
   simp only[aC]; exact RcNeAt.bool_tuple _ t2 bK
  | lst k1 k2 k3 k4 =>
   cases aH; obtain⟨its2,r2,t2⟩:=Inv.gE I k2
   simp only[aC]; exact RcNeAt.bool_list _ t2 bK
  | ay k1 k2 k3 k4=>(cases n <;> simp[flat] at fe)
  | exc k1 k2=>(cases n <;> simp[flat] at fe)
  | xd k1 k2=>(cases n <;> simp[flat] at fe)
 | int p =>
  obtain⟨t1,rfl⟩:=ru
  cases ry with
  | aN =>
   cases aH;simp only[aC]; exact RcNeAt.int_none _ _
  | bl q =>
   cases aH;simp only[aC]; exact RcNeAt.int_bool _ _ _
  | int q =>
   obtain⟨t2,rfl⟩:=aH;simp only[aC]; exact RcNeAt.int_int _ _ _ _
  | str q =>
   obtain⟨t2,rfl⟩:=aH;simp only[aC]; exact RcNeAt.int_str _ _ _ _
  | tup k1 k2 k3 k4 =>
   cases aH; obtain⟨its2,r2,t2⟩:=Inv.gF I k2
   simp only[aC]; exact RcNeAt.int_tuple _ _ t2 bK
  | lst k1 k2 k3 k4 =>
   cases aH; obtain⟨its2,r2,t2⟩:=Inv.gE I k2
   simp only[aC]; exact RcNeAt.int_list _ _ t2 bK
  | ay k1 k2 k3 k4=>(cases n <;> simp[flat] at fe)
  | exc k1 k2=>(cases n <;> simp[flat] at fe)
  | xd k1 k2=>(cases n <;> simp[flat] at fe)
 | str p =>
  obtain⟨t1,rfl⟩:=ru
  cases ry with
  | aN =>
   cases aH;simp only[aC]; exact RcNeAt.str_none _ _
  | bl q =>
   cases aH;simp only[aC]; exact RcNeAt.str_bool _ _ _
  | int q =>
   obtain⟨t2,rfl⟩:=aH;simp only[aC]; exact RcNeAt.str_int _ _ _ _
  | str q =>
   obtain⟨t2,rfl⟩:=aH;simp only[aC]; rw[<- sE]; exact RcNeAt.str_str _ _ _ _
  | tup k1 k2 k3 k4 =>
   cases aH; obtain⟨its2,r2,t2⟩:=Inv.gF I k2
   simp only[aC]; exact RcNeAt.str_tuple _ _ t2 bK
  | lst k1 k2 k3 k4 =>
   cases aH; obtain⟨its2,r2,t2⟩:=Inv.gE I k2
   simp only[aC]; exact RcNeAt.str_list _ _ t2 bK
  | ay k1 k2 k3 k4=>(cases n <;> simp[flat] at fe)
  | exc k1 k2=>(cases n <;> simp[flat] at fe)
  | xd k1 k2=>(cases n <;> simp[flat] at fe)
 | tup h1 h2 h3 h4 =>
  cases ru; obtain⟨its1,r1,t1⟩:=Inv.gF I h2
  cases ry with
  | aN =>
   cases aH;simp only[aC]; exact RcNeAt.tuple_none t1 bK
  | bl q =>
   cases aH;simp only[aC]; exact RcNeAt.tuple_bool _ t1 bK
  | int q =>
   obtain⟨t2,rfl⟩:=aH;simp only[aC]; exact RcNeAt.tuple_int _ _ t1 bK
  | str q =>
   obtain⟨t2,rfl⟩:=aH;simp only[aC]; exact RcNeAt.tuple_str _ _ t1 bK
  | tup k1 k2 k3 k4 =>
   cases aH; obtain⟨its2,r2,t2⟩:=Inv.gF I k2
   simp only[aC]; exact LJ I n A bK t1 t2 r1 r2 h3 k3 h4 k4 fd fe ih
  | lst k1 k2 k3 k4 =>
   cases aH; obtain⟨its2,r2,t2⟩:=Inv.gE I k2
   simp only[aC]; exact RcNeAt.tuple_list t1 t2 bK
  | ay k1 k2 k3 k4=>(cases n <;> simp[flat] at fe)
  | exc k1 k2=>(cases n <;> simp[flat] at fe)
  | xd k1 k2=>(cases n <;> simp[flat] at fe)
 | lst h1 h2 h3 h4 =>
  cases ru; obtain⟨its1,r1,t1⟩:=Inv.gE I h2
  cases ry with
  | aN =>
   cases aH;simp only[aC]; exact RcNeAt.list_none t1 bK
  | bl q =>
   cases aH;simp only[aC]; exact RcNeAt.list_bool _ t1 bK
  | int q =>
   obtain⟨t2,rfl⟩:=aH;simp only[aC]; exact RcNeAt.list_int _ _ t1 bK
  | str q =>
   obtain⟨t2,rfl⟩:=aH;simp only[aC]; exact RcNeAt.list_str _ _ t1 bK
  | tup k1 k2 k3 k4 =>
   cases aH; obtain⟨its2,r2,t2⟩:=Inv.gF I k2
   simp only[aC]; exact RcNeAt.list_tuple t1 t2 bK
  | lst k1 k2 k3 k4 =>
   cases aH; obtain⟨its2,r2,t2⟩:=Inv.gE I k2
   simp only[aC]; exact LM I n A bK t1 t2 r1 r2 h3 k3 h4 k4 fd fe ih
  | ay k1 k2 k3 k4=>(cases n <;> simp[flat] at fe)
  | exc k1 k2=>(cases n <;> simp[flat] at fe)
  | xd k1 k2=>(cases n <;> simp[flat] at fe)
 | ay h1 h2 h3 h4=>(cases n <;> simp[flat] at fd)
 | exc h1 h2=>(cases n <;> simp[flat] at fd)
 | xd h1 h2=>(cases n <;> simp[flat] at fd)
theorem Cp(h:RcAt A s u w k)(hs:u=w->k=true)(hf:∀ b t,u≠Value.float b t):EqAt A s u w k:=λprog w' E Q hq=>by
 unfold eqBool;refine WG ?_;refine JJ (λmE=>?_) (λ_=>?_)
 ·have e:=eq_of_beq mE;rw[hs e] at hq;exact W0 (Jq (W4 hq))
 ·cases u with
  | float b t=>exact absurd rfl (hf b t)
  | _=>exact W0 (h prog w' E _ (QZ hq))
theorem Cq(r:Rep H du x d)(ru:RelV x u)(b:UInt64)(t:Tok):u≠Value.float b t:=by
 intro e;subst e
 cases r <;> first | (cases ru; done) | (obtain⟨t',e⟩:=ru; cases e)
theorem LO(I:Inv X pins σ H s)(n:Nat):vC H s n:=by
 induction n with
 | zero =>
  intro A x y u w d e hu fd fe rx ry ru aH;refine Cp (vE I 0 A x y u w d e (by omega) fd fe trivial rx ry ru aH) (λh=>?_) (Cq rx ru);subst h;have:=ru.inj aH;subst this;rw[Rep.inj rx fd fe ry];exact pU fe
 | succ n ih =>
  intro A x y u w d e hu fd fe rx ry ru aH;refine Cp (vE I (n + 1) A x y u w d e (by omega) fd fe ⟨by omega,ih⟩ rx ry ru aH) (λh=>?_) (Cq rx ru);subst h;have:=ru.inj aH;subst this;rw[Rep.inj rx fd fe ry];exact pU fe
theorem Cr(I:Inv X pins σ H s):∀ n:Nat,A.units + n + 1 < Qp->mD H s A n
 | 0,_=>trivial
 | n + 1,h=>⟨by omega,LO I n⟩
def Cs:R2:=λx y H Q=>∃ d e,Rep H du x d/\Rep H du y e/\flat 50 d=true/\flat 50 e=true/\Q (.bl (aC d e)) H
def Ct:R2:=λx y H Q=>∃ d e,Rep H du x d/\Rep H du y e/\flat 50 d=true/\flat 50 e=true/\Q (.bl (!aC d e)) H
theorem i7(hu:X.A.units + 64 < Qp):bT X (WY .Eq) Cs:=by
 intro pins s σ H x y v u Q I rx ry h;obtain⟨d,e,r1,r2,f1,f2,q⟩:=h;exact vE I 50 X.A x y v u d e (by omega) f1 f2 (Cr I 50 (by omega)) r1 r2 rx ry X.prog X.w X.xe _ ⟨.bl _,H,I,rfl,q⟩
theorem Cu(hu:X.A.units + 64 < Qp):bT X (WY .NotEq) Ct:=by
 intro pins s σ H x y v u Q I rx ry h;obtain⟨d,e,r1,r2,f1,f2,q⟩:=h;exact LN I 50 X.A x y v u d e (by omega) f1 f2 (Cr I 50 (by omega)) r1 r2 rx ry X.prog X.w X.xe _ ⟨.bl _,H,I,rfl,q⟩
end
def dg{α:Type}(xs:List α)(lo hi:Option Int):List α:=(xs.drop (HT.aX xs.length 0 lo)).take (HT.aX xs.length xs.length hi - HT.aX xs.length 0 lo)
theorem Cv(xs:List V)(lo hi:Option Int):dg xs lo hi=kU xs lo hi:=rfl
theorem LP(xs:List α)(lo hi:Option Int):(dg xs lo hi).length<=xs.length:=by
 unfold dg;rw[JA,List.length_drop];omega
theorem aA.cut(lo hi:Option Int)(h:aA H O vs ds):aA H O (dg vs lo hi) (dg ds lo hi):=by
 unfold dg;rw[h.1];exact aA.take _ (aA.drop _ h)
theorem LQ{α:Type}{xs:List α}{lo hi:Option Int}(h:HT.aX xs.length 0 lo=0/\HT.aX xs.length xs.length hi=xs.length):dg xs lo hi=xs:=by
 unfold dg;rw[h.1,h.2];simp
section
variable {prog:Wm} {w:Wq} {A:Wp} {E:Value->W2->Prop} {s:W2}
theorem LR{t sl:Addr}{items:Array Value}{vl vu:Value}{lo hi:Option Int}{Q:Value->W2->Prop}(ht:IsTup s.heap t items)(hs:s.heap.IsSliceOf sl vl vu .none)(pl:IsPart vl lo)(pu:IsPart vu hi)
  (hw:HT.aX items.size 0 lo=0/\HT.aX items.size items.size hi=items.size) (h:Q (.ref t) s):W8 (model prog w) A (getItem (.ref t) (.ref sl)) Q E s:=by
 obtain⟨os,hos,hcs,hds⟩:=id hs;have u5:s.TypeIs (.ref sl) "slice":=⟨os,hos,hcs⟩
 unfold getItem;try with_reducible refine WG ?_
 first | refine W0 (W4 ?_) | skip
 refine W0 (wpAny_sequenceKey ht.typeIs (by decide) ?_);refine W0 (Q5 (name:=Str.ofString "__getitem__") ht.typeIs QL
  (Q9 QL ht.typeIs entry_tuple_getitem ?_ (args_tuple_getitem _ _)))
 show W8 _ _ (Builtin.Tuple.tupleItemsOf (.ref t) >>= _) _ _ s;refine W0 (tupleItemsOf_ ht ?_);refine W0 (QN u5 ?_);rw[if_pos (by decide)];refine W0 (HT.Bx hs pl pu ?_);show W8 _ _ (if (((HT.aX items.size 0 lo:Nat):Int) == 0 && (1:Int) == 1 && (HT.aX items.size items.size hi - HT.aX items.size 0 lo) == items.size)=true then _ else _) _ _ s;rw[hw.1,hw.2];rw[if_pos (by simp)];refine W0 (m:=Builtin.Tuple.tupleIsExact (.ref t)) ?_;unfold Builtin.Tuple.tupleIsExact;refine W0 (QN ht.typeIs (W4 ?_));rw[if_pos (by decide)];exact W0 (Jq (W0 (W4 (W4 ⟨_,rfl,W4 h⟩))))
end
section
variable {X:Cx}
def Cw(K:W1):V->Option Int->Option Int->Hp->VK->Prop:=λx lo hi H Q=>∃ a xs,x = .ref a/\c_ K H a xs /\
 ((HT.aX xs.length 0 lo=0/\HT.aX xs.length xs.length hi=xs.length)->Q (.ref a) H)/\(¬ (HT.aX xs.length 0 lo=0/\HT.aX xs.length xs.length hi=xs.length)->∀ p,H p=none->Q (.ref p) (upd H p (.tup (kU xs lo hi))))
theorem LS:jE X (Cw X.K):=by
 intro pins s σ H x v vl vu lo hi sl Q I rx hs pl pu h;obtain⟨a,xs,rfl,hx,q1,q2⟩:=h;by_cases hw:HT.aX xs.length 0 lo=0/\HT.aX xs.length xs.length hi=xs.length
 ·cases rx;obtain⟨ag,r,ht,hz⟩:=I.tuple hx;have hlen:ag.toArray.size=xs.length:=by rw[Wn]; exact r.length.symm
  refine⟨"tuple",_,PyProof.Rows.slot_tuple_getitem.lookup,ht.typeIs,?_⟩;exact LR ht hs pl pu (by rw[hlen]; exact hw) ⟨.ref a,H,I,rfl,q1 hw⟩
 ·exact Kh pins s σ H (.ref a) v vl vu lo hi sl Q I rx hs pl pu ⟨a,xs,rfl,hx,hw,q2 hw⟩
theorem LU(a b:Nat):sliceRange (a:Int) (b:Int) 1=(WJ (b - a)).map (λk=>a + k):=by
 have h0:((1:Int) > 0)=True:=by simp
 unfold sliceRange;simp only[h0,if_true];by_cases bH:(a:Int) < (b:Int)
 ·rw[if_pos bH];have e3:(((b:Int) - (a:Int) + 1 - 1) / 1).toNat=b - a:=by
   rw[Int.ediv_one]; omega
  rw[e3];refine Q3 λk _=>?_
  omega
 ·rw[if_neg bH];have:b - a=0:=by omega
  rw[this];rfl
theorem Cy(lo hi:Option Int)(n:Nat):QA lo hi 1 n=(WJ (HT.aX n n hi - HT.aX n 0 lo)).map (λk=>HT.aX n 0 lo + k):=by
 have c:∀ (i:Int) (d:Nat),max 0 (min (if i < 0 then i + (n:Int) else i) (n:Int))=((HT.aX n d (some i):Nat):Int):=by
  intro i d;show max 0 (min (if i < 0 then i + (n:Int) else i) (n:Int))=(((if i < 0 then(i + (n:Int)).toNat else min i.toNat n):Nat):Int);by_cases hi:i < 0
  ·simp only[if_pos hi]; omega
  ·simp only[if_neg hi]; omega
 have h0:((1:Int) > 0)=True:=by simp
 rw[<- LU];unfold QA;simp only[h0,if_true]
 cases lo with
 | none =>
  cases hi with
  | none=>rfl
  | some j=>show sliceRange 0 (max 0 (min (if j < 0 then j + (n:Int) else j) (n:Int))) 1=_; rw[c j n]; rfl
 | some i =>
  cases hi with
  | none=>show sliceRange (max 0 (min (if i < 0 then i + (n:Int) else i) (n:Int))) (n:Int) 1=_; rw[c i 0]; rfl
  | some j=>show sliceRange (max 0 (min (if i < 0 then i + (n:Int) else i) (n:Int))) (max 0 (min (if j < 0 then j + (n:Int) else j) (n:Int))) 1=_; rw[c i 0,c j n]
theorem LV(x:Tx)(lo hi:Option Int):(⟨((QA lo hi 1 (toS x).length).filterMap ((toS x).cps[·]?)).toArray⟩:Str)=toS (dg x lo hi):=by
 unfold toS;congr 1
 rw[Cy];have:=pick_run (x.toArray) (HT.aX x.length 0 lo) (HT.aX x.length x.length hi - HT.aX x.length 0 lo);have hl:({ cps:=x.toArray }:Str).length=x.length:=by simp[Str.length]
 rw[hl];rw[this];rfl
def Cz:V->Option Int->Option Int->Hp->VK->Prop:=λx lo hi H Q=>∃ z:Tx,x = .str (toS z)/\z.length<=Wb/\Q (.str (toS (dg z lo hi))) H
theorem CA(p:IsPart v o):∃ q:Option (Int×Tok),v=partValue q/\q.map (·.1)=o:=by
 cases p with
 | none=>exact⟨none,rfl,rfl⟩
 | int i t=>exact⟨some (i,t),rfl,rfl⟩
theorem LW:jE X Cz:=by
 intro pins s σ H x v vl vu lo hi sl Q I rx hs pl pu h;obtain⟨z,rfl,hz,q⟩:=h;obtain⟨t,rfl⟩:=rx;obtain⟨l,rfl,el⟩:=CA pl;obtain⟨u,rfl,eu⟩:=CA pu;obtain⟨o,ho,hc,hd⟩:=hs;refine⟨"str",_,F.slot_str_getitem.lookup,typeIs_str s _ t,?_⟩;refine wpAny_getItem_str_slice (l:=l) (u:=u) (st:=none) ⟨o,ho,hc,hd⟩ rfl ?_;unfold sliceMade;have e:(slicePicked (toS z) l u none)=QA lo hi 1 (toS z).length:=by
  unfold slicePicked;rw[el,eu];rfl
 rw[e];by_cases hw:(((none:Option (Int×Tok)).map (·.1)).getD 1 == 1 && (QA lo hi 1 (toS z).length).length == (toS z).length)=true
 ·rw[if_pos hw];refine⟨.str (toS (dg z lo hi)),H,I,⟨t,?_⟩,q⟩;congr 1
  rw[Wr] at hw;have vF:=eq_of_beq hw.2;rw[Cy,Wy,JZ,i4] at vF;have h1:=HT.u4 z.length 0 (Qs _) lo;have h2:=HT.u4 z.length z.length (Wg _) hi;unfold dg;congr 1
  by_cases h0:z.length=0
  ·have:z=[]:=QR h0;subst this;simp
  ·have a1:HT.aX z.length 0 lo=0:=by omega
   rw[a1] at vF ⊢;rw[vF];simp
 ·rw[if_neg hw];show Made.post (.str _) _ _;rw[LV];exact⟨by rw[i4]; exact WK (LP z lo hi) hz,.str (toS (dg z lo hi)),H,I.tok _,⟨_,rfl⟩,q⟩
theorem LX:bT X (Qn .Add) (λx y H Q=>∃ a b ys,x = .ref a/\y = .ref b/\c_ X.K H a []/\c_ X.K H b ys/\Q (.ref b) H):=by
 intro pins s σ H x y v u Q I rx ry h;obtain⟨a,b,ys,rfl,rfl,ha,hb,q⟩:=h
 cases rx
 cases ry;obtain⟨ag,r1,p1,_⟩:=I.tuple ha;obtain⟨its2,r2,p2,_⟩:=I.tuple hb
 cases r1;obtain⟨⟨cls,dd,data,sl⟩,ho,hc,n,hd⟩:=id p1;obtain⟨⟨cls2,dd2,data2,sl2⟩,kb,iC,n2,hd2⟩:=id p2;simp only at hc hd iC hd2;subst hc hd iC hd2;exact concat_meets ⟨_,ho,rfl⟩ ⟨_,kb,rfl⟩ noFill_tuple_add seq_tuple_add PySem.F.slot_tuple_add PySem.F.entry_tuple_add (PySem.F.args_tuple_add_2 _ _)
   (tuple_addW0 a b #[] its2.toArray n n2 dd dd2 sl sl2 rfl) ⟨ho,kb,.ref b,H,I,rfl,q⟩
def CB(K:W1):R2:=λx y H Q=>∃ l b xs zs,x = .ref l/\y = .ref b/\bS K H l xs/\bS K H b zs/\xs.length + zs.length<=Wb/\∀ p,H p=none->Q (.ref p) (upd H p (.lst (xs ++ zs)))
theorem LY:bT X (Qn .Add) (CB X.K):=by
 intro pins s σ H x y v u Q I rx ry h;obtain⟨l,b,xs,zs,rfl,rfl,hH,hB,hz,q⟩:=h
 cases rx
 cases ry;obtain⟨ag,r,⟨⟨cls,dd,data,sl⟩,n,e,hc,hdd,hd⟩,z⟩:=I.list hH;obtain⟨its2,r2,⟨⟨cls2,dd2,data2,sl2⟩,n2,e2,iC,hdd2,hd2⟩,z2⟩:=I.list hB;simp only at hc hd hdd iC hd2 hdd2;subst hc hd hdd iC hd2 hdd2;have hl:=r.length;have kl:=r2.length;refine concat_meets ⟨_,e,rfl⟩ ⟨_,e2,rfl⟩ noFill_list_add seq_list_add PySem.F.slot_list_add PySem.F.entry_list_add (PySem.F.args_list_add_2 _ _)
   (list_addW l b ag.toArray its2.toArray n n2 none none sl sl2 (by rw[Wn,Wn]; omega)) ⟨e,e2,?_⟩
 have ea:ag.toArray ++ its2.toArray=(ag ++ its2).toArray:=by simp
 rw[ea];exact⟨.ref _,_,I.KC (t':=s.toks) (r.append r2) (by rw[WZ]; omega),rfl,q _ I.fresh⟩
theorem sI:∀ {ys:List Str} {us:List Value},Vals (ys.map V.str) us->StrsAre us ys
 | [],us,r=>by cases r; exact .nil
 | y :: ys,us,r=>by
  cases r with
  | cons r1 r2 =>
   obtain⟨t,rfl⟩:=r1;exact .cons y t (sI r2)
theorem pV:∀ {ys:List Str} {us:List Value},StrsAre us ys->Vals (ys.map V.str) us
 | _,_,.nil=>.nil
 | _,_,.cons y t h=>.cons ⟨t,rfl⟩ (pV h)
def sJ(K:W1):V->List V->Hp->VK->Prop:=λx vs H Q=>∃ (z:Str) (a:Addr) (ys:List Str),x = .str z/\vs=[.ref a]/\(bS K H a (ys.map V.str)\/c_ K H a (ys.map V.str)) /\
 (ys.map (·.length)).sum + ys.length * z.length<=16777216/\Q (.str (Txt.join z ys)) H
theorem LZ:nR X "str.join" (sJ X.K):=by
 intro pins s σ H x vs v us Q I rx rv h;obtain⟨z,a,ys,rfl,rfl,hq,hz,q⟩:=h;obtain⟨t,rfl⟩:=rx;obtain⟨u,rfl,ru⟩:=rv.one
 cases ru;rcases hq with hq | hq
 ·obtain⟨ag,r,p,_⟩:=I.list hq;exact join_list p.isList (by simpa using sI r) hz λt' k=>⟨.str _,H,I.tok _,⟨t',rfl⟩,q⟩
 ·obtain⟨ag,r,p,_⟩:=I.tuple hq;exact join_tuple p (by simpa using sI r) hz λt' k=>⟨.str _,H,I.tok _,⟨t',rfl⟩,q⟩
theorem CC:∀ {bs:List Bool} {us:List Value},Vals (bs.map V.bl) us->∀ (i:Nat) v,us[i]? = some v->∃ b,bs[i]? = some b/\v = .bool b
 | [],us,r,i,v,e=>by cases r; simp at e
 | b :: bs,us,r,i,v,e=>by
  cases r with
  | cons r1 r2 =>
   cases i with
   | zero =>
    simp at e;subst e;exact⟨b,rfl,r1⟩
   | succ i=>exact CC r2 i v (by simpa using e)
theorem CD:∀ bs:List Bool,((WJ bs.length).all λi=>(bs[i]?).getD true)=bs.all id
 | []=>rfl
 | b :: bs=>by
  rw[WD,Jw,U2,List.all_map];have:=CD bs;simp only[Jl,Option.getD_some,U2,id];rw[<- this];rfl
theorem L5 (hc:X.calm=true):eE X (.builtin "all") (λxs H Q=>∃ (a:Addr) (bs:List Bool),xs=[.ref a]/\bS X.K H a (bs.map V.bl)/\Q (.bl (bs.all (λb=>b))) H):=by
 intro pins s σ H xs us Q I r h;obtain⟨a,bs,rfl,hq,q⟩:=h;obtain⟨u,rfl,ru⟩:=gB r
 cases ru;obtain⟨ag,r',p,_⟩:=I.list hq;have hl:=p.isList;have bH:a < s.heap.objs.size:=by obtain⟨_,e,_⟩:=hl; exact We e
 have hlen:=r'.length;rw[Wy] at hlen;refine call_all_walk (wpAny_pyIter_list hl ?_);refine⟨s.heap.objs.size,[s.heap.objs.size,a],[s.heap.objs.size],ag.toArray.size,_,_,λi=>(bs[i]?).getD true,rfl,Walks.list (A:=X.A.in1) (I.ok.hd hc) _ a (Wi bH) ag.toArray,
  ⟨⟨_,Wj _ rfl,rfl,rfl⟩,hl.push _⟩,λi v s' Q' E' hP hQ=>?_,λh' tk hk=>?_⟩
 ·obtain⟨b,e,rfl⟩:=CC r' i v (by simpa using hP);simp only[e,Option.getD_some] at hQ;exact QZ hQ
 ·have e:((WJ ag.toArray.size).all λi=>(bs[i]?).getD true)=bs.all id:=by
   rw[Wn,<- hlen]; exact CD bs
  rw[e];exact⟨.bl _,H,I.kept λb o e=>hk b o (λhm=>by rw[List.mem_singleton.mp hm] at e; exact Qf _ (We e)) (W5 _ e),rfl,q⟩
def km(x:Tx):List Tx->List Tx
 | []=>[x]
 | y :: r=>if y < x then y :: km x r else x :: y :: r
def eX:List Tx->List Tx
 | []=>[]
 | x :: r=>km x (eX r)
theorem vG(x:Tx):∀ l:List Tx,(km x l).Perm (x :: l)
 | []=>.refl _
 | y :: r=>by
  unfold km;split
  ·exact((vG x r).cons y).trans (.swap x y r)
  ·exact .refl _
theorem sL:∀ l:List Tx,(eX l).Perm l
 | []=>.refl _
 | x :: r=>(vG x _).trans ((sL r).cons x)
abbrev g9(a b:Tx):Prop:=¬ b < a
theorem CF(h1:g9 a b)(h2:g9 b c):g9 a c:=List.not_lt.mpr (List.le_trans (List.not_lt.mp h1) (List.not_lt.mp h2))
theorem L6(h1:g9 a b)(h2:g9 b a):a=b:=List.le_antisymm (List.not_lt.mp h1) (List.not_lt.mp h2)
theorem CG(x:Tx):∀ l:List Tx,l.Pairwise g9->(km x l).Pairwise g9
 | [],_=>by simp[km]
 | y :: r,h=>by
  unfold km;obtain⟨h1,h2⟩:=List.pairwise_cons.mp h;split
  ·rename_i bH;refine JP.mpr ⟨λz hz=>?_,CG x r h2⟩;rcases Wl.mp ((vG x r).mem_iff.mp hz) with e | hz
   ·subst e;intro q;exact absurd (List.lt_trans bH q) (List.lt_irrefl _)
   ·exact h1 z hz
  ·rename_i hge;refine JP.mpr ⟨λz hz=>?_,h⟩;rcases Wl.mp hz with e | hz
   ·subst e; exact hge
   ·exact CF hge (h1 z hz)
theorem CH:∀ l:List Tx,(eX l).Pairwise g9
 | []=>.nil
 | x :: r=>CG x _ (CH r)
theorem CI(hp:l'.Perm l)(hs:l'.Pairwise g9):l'=eX l :=
 List.Perm.eq_of_pairwise (λ_ _ _ _ h1 h2=>L6 h1 h2) hs (CH l) (hp.trans (sL l).symm)
theorem vH:∀ (x:Str) (r:List Str),risingS x r=true->((x :: r).map λz:Str=>z.cps.toList).Pairwise g9
 | x,[],_=>by simp
 | x,y :: r,h=>by
  have h':(!ltCps y.cps.toList x.cps.toList && risingS y r)=true:=h;rw[Wr] at h';have ih:=vH y r h'.2;have vI:g9 x.cps.toList y.cps.toList:=by
   have:=h'.1;rw[ltCps_eq] at this;simpa using this
  rw[Wo];refine JP.mpr ⟨λz hz=>?_,ih⟩;rw[Wo] at hz ih;rcases Wl.mp hz with e | hz
  ·subst e; exact vI
  ·exact CF vI ((List.pairwise_cons.mp ih).1 z hz)
theorem L7:eE X (.builtin "sorted") (λxs H Q=>∃ (a:Addr) (ts:List Tx),xs=[.ref a]/\bS X.K H a (ts.map λz=>V.str (toS z))/\ts.length < 64/\∀ p,H p=none->Q (.ref p) (upd H p (.lst ((eX ts).map λz=>V.str (toS z))))):=by
 intro pins s σ H xs us Q I r h;obtain⟨a,ts,rfl,hq,hz,q⟩:=h;obtain⟨u,rfl,ru⟩:=gB r
 cases ru;obtain⟨ag,r',p,_⟩:=I.list hq;have r2:Vals ((ts.map toS).map V.str) ag:=by rw[WB]; exact r'
 have hlen:=r'.length;rw[Wy] at hlen;refine sorted_strs p.isList (sI r2) (by omega) λout ss hS hp hs=>?_
 have e:ss=(eX ts).map toS:=by
  have vJ:(ss.map λz:Str=>z.cps.toList).Pairwise g9:=by
   cases ss with
   | nil=>simp
   | cons x r=>exact vH x r hs
  have vK:(ss.map λz:Str=>z.cps.toList).Perm ts:=by
   have:=hp.map λz:Str=>z.cps.toList
   rw[WB] at this;have e2:ts.map ((λz:Str=>z.cps.toList) ∘ toS)=ts:=by
    rw[show((λz:Str=>z.cps.toList) ∘ toS)=id from funext λz=>pR z,List.map_id]
   rw[e2] at this;exact this
  rw[<- CI vK vJ,WB];have:(toS ∘ λz:Str=>z.cps.toList)=id:=funext λz=>(vA z).symm
  rw[this,List.map_id]
 obtain⟨ep,he⟩:=sortedAll_at s.heap ag out;have hv:Vals ((eX ts).map λz=>V.str (toS z)) out.toList:=by
  have:=pV hS;rw[e,WB] at this;exact this
 have kl:((eX ts).map λz=>V.str (toS z)).length<=Wb:=by
  rw[Wy,(sL ts).length_eq];exact WK (QU hz) (by rw[Qr]; decide)
 refine⟨.ref (s.heap.objs.size + 1),_,I.laid (a:=s.heap.objs.size + 1) (o:=.lst ((eX ts).map λz=>V.str (toS z))) (t':=s.toks) (λb u e=>sortedAll_old e) (U1 _) ?_,rfl,q _ (I.aw.fresh (U1 _))⟩;exact⟨kl,out.toList,ep,hv,by simpa[seqObj] using he⟩
end
def p2(p:D->D->Option S)(x y:D)(δ:Dl):Rs S:=match p x y with
 | some s=>.ok s δ
 | none=>.stuck
def aY(p:D->D->Option S)(fa:DE)(fb:BE):DE:=λδ=>(fa δ).bind λx δ1=>(fb δ1).bind λy δ2=>p2 p x.d y δ2
def bI(p:D->D->Option S)(i:Nat)(fb:BE):DE:=λδ=>(fb δ).bind λy δ1=>(ah i δ1).bind λx δ2=>p2 p x y δ2
def cX(r:R2)(p:D->D->Option S):Prop:=∀ (c:Fc) (σ:St) (δ:Dl) (H:Hp) (x y:V) (d e:D) (s:S) (Q:VK),Ok c σ δ H->cZ c σ δ H x d->cZ c σ δ H y e->p d e=some s ->
 (∀ v H',aD c σ δ H σ δ H'->aP c σ δ H H' v s->Q v H')->r x y H Q
section
variable {X:Cx} {c:Fc} {a b:Expr} {fa:DE} {fb:BE} {r:R2} {p:D->D->Option S} {pos:Pos}
theorem vL(hp:cX r p)(k:Ok c σ δ H)(rx:cZ c σ δ H x d)(ry:cZ c σ δ H y e)
  (h:post c (p2 p d e δ) λs δ'=>∀ v H',aD c σ δ H σ δ' H'->aP c σ δ' H H' v s->Q v H'):r x y H Q:=by
 unfold p2 at h
 cases e1:p d e with
 | none=>rw[e1] at h; exact h.elim
 | some s=>rw[e1] at h; exact hp c σ δ H x y d e s Q k rx ry e1 h
theorem sM(hp:cX r p)(h:tD c (aY p fa fb) σ H Q):iX r (tD c fa) (tB c fb) σ H Q:=by
 obtain⟨δ,k,q⟩:=h;refine⟨δ,k,?_⟩;unfold aY at q;rw[bc] at q;refine aQ q λx δ1 q1 v H1 a1 r1=>⟨δ1,a1.ok,?_⟩
 rw[bc] at q1;refine aQ q1 λy δ2 q2 u H2 a2 r2=>?_
 exact vL hp a2.ok (.inl (Rep.cU r1.rep a2)) r2 (aQ q2 λs δ3 q3 v' H3 a3 r3=>q3 v' H3 (a1.trans (a2.trans a3)) (aP.back r3 (a1.trans a2)))
theorem L8(hp:cX r p)(h:tD c (bI p i fb) σ H Q)(hv:∀ δ,Ok c σ δ H->post c (fb δ) (λ_ _=>True)->∃ v,σ[i]? = some (some v)):iX r (b_ i) (tB c fb) σ H Q:=by
 obtain⟨δ,k,q⟩:=h;unfold bI at q;rw[bc] at q;obtain⟨v,ev⟩:=hv δ k (aQ q λ_ _ _=>trivial);refine⟨v,ev,δ,k,aQ q λy δ1 q1 u H1 a1 r1=>?_⟩;rw[bc] at q1;unfold ah at q1
 cases e:δ1[i]? with
 | none=>rw[e] at q1; exact q1.elim
 | some o =>
  cases o with
  | none=>rw[e] at q1; exact q1.elim
  | some w =>
   rw[e] at q1;have vM:post c (p2 p w.d y δ1) λs δ'=>∀ v H',aD c σ δ H σ δ' H'->aP c σ δ' H H' v s->Q v H':=q1
   have rb:cZ c σ δ1 H1 v w.d:=by
    cases w with
    | pure d =>
     obtain⟨v',e1,r⟩:=a1.ok.slot i d e;rw[ev] at e1; cases e1
     exact .inl r
    | own d =>
     obtain⟨a,e1,r,_⟩:=a1.ok.own i d e;rw[ev] at e1; cases e1
     exact .inr ⟨a,rfl,r⟩
   exact vL hp a1.ok rb r1 (aQ vM λs δ3 q3 v' H3 a3 r3=>q3 v' H3 (a1.trans a3) (aP.back r3 a1))
theorem mF{i:Nat}{σ:St}{δ:Dl}{H:Hp}(k:Ok c σ δ H){w:S}(e:δ[i]? = some (some w)):∃ v,σ[i]? = some (some v):=by
 cases w with
 | pure d=>obtain⟨v,e1,_⟩:=k.slot i d e; exact⟨v,e1⟩
 | own d=>obtain⟨a,e1,_⟩:=k.own i d e; exact⟨_,e1⟩
end
def aj(p:D->D->Option S)(i:Nat)(fb:BE):DE:=λδ=>match δ[i]? with
 | some (some _)=>bI p i fb δ
 | _=>.stuck
section
variable {X:Cx} {c:Fc} {a b:Expr} {fa:DE} {fb:BE} {r:R2} {p:D->D->Option S} {pos:Pos}
theorem sN(hp:cX r p){i:Nat}{σ:St}{H:Hp}{Q:VK}(h:tD c (aj p i fb) σ H Q):iX r (b_ i) (tB c fb) σ H Q:=by
 obtain⟨δ,k,q⟩:=h;unfold aj at q
 cases e:δ[i]? with
 | none=>rw[e] at q; exact q.elim
 | some o =>
  cases o with
  | none=>rw[e] at q; exact q.elim
  | some w =>
   rw[e] at q;obtain⟨v,ev⟩:=mF k e;exact L8 hp (i:=i) ⟨δ,k,q⟩ λ_ _ _=>⟨v,ev⟩
theorem dE{op:Operator}(ho:bT X (Qn op) r)(hp:cX r p)(ha:SE X c a fa)(hb:SB X c b fb):SE X c (.BinOp a op b pos) (aY p fa fb):=PE.weak (uS ho ha hb) λ_ _ _ h=>sM hp h
theorem g_{op:Operator}{i:Nat}(ho:bT X (Qn op) r)(hp:cX r p)(ha:PE X a (b_ i))(hb:SB X c b fb):SE X c (.BinOp a op b pos) (aj p i fb):=PE.weak (uS ho ha hb) λ_ _ _ h=>sN hp h
theorem CJ{op:CmpOp}(ho:bT X (WY op) r)(hp:cX r p)(ha:SE X c a fa)(hb:SB X c b fb)(hm:QD op b=false):SE X c (.Compare a [op] [b] pos) (aY p fa fb):=PE.weak (Bf ho ha hb hm) λ_ _ _ h=>sM hp h
theorem vN{op:CmpOp}{i:Nat}(ho:bT X (WY op) r)(hp:cX r p)(ha:PE X a (b_ i))(hb:SB X c b fb)(hm:QD op b=false):SE X c (.Compare a [op] [b] pos) (aj p i fb):=PE.weak (Bf ho ha hb hm) λ_ _ _ h=>sN hp h
theorem CK(hr:gX X r)(hp:cX r p)(ha:SE X c a fa)(hb:SB X c b fb)(hs:nQ b):SE X c (.Subscript a b pos) (aY p fa fb):=PE.weak (pF hr ha hb hs) λ_ _ _ h=>sM hp h
theorem cC{i:Nat}(hr:gX X r)(hp:cX r p)(ha:PE X a (b_ i))(hb:SB X c b fb)(hs:nQ b):SE X c (.Subscript a b pos) (aj p i fb):=PE.weak (pF hr ha hb hs) λ_ _ _ h=>sN hp h
end
abbrev DT:=Dl->Rs Bool
def tT(c:Fc)(f:DT):TT:=λσ H Q=>∃ δ,Ok c σ δ H/\post c (f δ) λb δ'=>∀ H',aD c σ δ H σ δ' H'->Q b H'
abbrev ST(X:Cx)(c:Fc)(e:Expr)(f:DT):Prop:=PT X e (tT c f)
theorem PT.weak(h:PT X e t)(w:∀ σ H Q,t' σ H Q->t σ H Q):PT X e t':=λpins s σ H Q I q=>h pins s σ H Q I (w σ H Q q)
def aO(f:DE):DT:=λδ=>(f δ).bind λr δ'=>match r with
 | .pure (.bl b)=>.ok b δ'
 | _=>.stuck
section
variable {X:Cx} {c:Fc} {a b:Expr} {fa f:DE} {fb:BE} {r:R2} {p:D->D->Option S} {pos:Pos}
theorem vO(h:tT c (aO f) σ H Q):tD c f σ H λx H'=>∃ k,x = .bl k/\Q k H':=by
 obtain⟨δ,k,q⟩:=h;refine⟨δ,k,?_⟩;unfold aO at q;rw[bc] at q;refine aQ q λr δ1 q1 v H1 a1 r1=>?_
 cases r with
 | own d=>exact q1.elim
 | pure d =>
  cases d <;> first | exact q1.elim | skip
  rename_i b
  cases r1;exact⟨b,rfl,q1 H1 a1⟩
theorem kn{op:CmpOp}(ho:bT X (WY op) r)(hp:cX r p)(ha:SE X c a fa)(hb:SB X c b fb)(hm:QD op b=false):ST X c (.Compare a [op] [b] pos) (aO (aY p fa fb)) :=
 PT.weak (Bg ho ha hb hm) λσ H Q h=>sM hp (vO h)
theorem n4{op:CmpOp}{i:Nat}(ho:bT X (WY op) r)(hp:cX r p)(ha:PE X a (b_ i))(hb:SB X c b fb)(hm:QD op b=false):ST X c (.Compare a [op] [b] pos) (aO (aj p i fb)) :=
 PT.weak (Bg ho ha hb hm) λσ H Q h=>sN hp (vO h)
theorem k8{e:Expr}(h:SE X c e f)(he:∀ whole,isTrue e X.env whole=(do let v <- whole; standAt e.pos; holding [v] (truthy v)):=by intro _; rfl):ST X c e (aO f) :=
 PT.weak (HL h he) λσ H Q h=>vO h
def n5(t u:DT):DT:=λδ=>(t δ).bind λb δ1=>if b then u δ1 else .ok false δ1
def jI(t u:DT):DT:=λδ=>(t δ).bind λb δ1=>if b then .ok true δ1 else u δ1
def dF(t:DT):DT:=λδ=>(t δ).bind λb δ1=>.ok (!b) δ1
abbrev SW(X:Cx)(c:Fc)(e:Expr)(f:DT):Prop:=PW X e (tT c f)
theorem PW.weak(h:PW X e t)(w:∀ σ H Q,t' σ H Q->t σ H Q):PW X e t':=λwh pins s σ H Q I q=>h wh pins s σ H Q I (w σ H Q q)
variable {t u:DT} {rest:List Expr}
theorem CL(ha:ST X c a t):SW X c (.BoolOp .And [a] pos) t:=HQ ha
theorem sO(ha:ST X c a t):SW X c (.BoolOp .Or [a] pos) t:=HR ha
theorem CM(ha:ST X c a t)(hb:SW X c (.BoolOp .And (b :: rest) pos) u):SW X c (.BoolOp .And (a :: b :: rest) pos) (n5 t u):=PW.weak (HS ha hb) λσ H Q ⟨δ,k,q⟩=>by
 unfold n5 at q;rw[bc] at q;refine⟨δ,k,aQ q λx δ1 q1 H1 a1=>?_⟩
 cases x with
 | true=>exact⟨δ1,a1.ok,aQ q1 λy δ2 q2 H2 a2=>q2 H2 (a1.trans a2)⟩
 | false=>exact q1 H1 a1
theorem sP(ha:ST X c a t)(hb:SW X c (.BoolOp .Or (b :: rest) pos) u):SW X c (.BoolOp .Or (a :: b :: rest) pos) (jI t u):=PW.weak (pw_or ha hb) λσ H Q ⟨δ,k,q⟩=>by
 unfold jI at q;rw[bc] at q;refine⟨δ,k,aQ q λx δ1 q1 H1 a1=>?_⟩
 cases x with
 | false=>exact⟨δ1,a1.ok,aQ q1 λy δ2 q2 H2 a2=>q2 H2 (a1.trans a2)⟩
 | true=>exact q1 H1 a1
theorem n8(h:SW X c a t):ST X c a t:=PW.pt h
theorem k9(ha:ST X c a t):ST X c (.UnaryOp .Not a pos) (dF t):=PT.weak (HU ha) λσ H Q ⟨δ,k,q⟩=>by
 unfold dF at q;rw[bc] at q;exact⟨δ,k,q⟩
def hJ(f g:DE):DE:=λδ=>(f δ).bind λr δ1=>match r with
 | .pure (.bl true)=>g δ1
 | .pure (.bl false)=>.ok (.pure (.bl false)) δ1
 | _=>.stuck
def pW(f:DE):DE:=λδ=>(f δ).bind λr δ1=>match r with
 | .pure (.bl b)=>.ok (.pure (.bl (!b))) δ1
 | _=>.stuck
def L9(t:DT)(f g:DE):DE:=λδ=>(t δ).bind λb δ1=>if b then f δ1 else g δ1
variable {g:DE}
theorem sQ{op}(h:SE X c a f):SE X c (.BoolOp op [a] pos) f:=HX h
theorem pX(ha:SE X c a f)(hb:SE X c (.BoolOp .And (b :: rest) pos) g):SE X c (.BoolOp .And (a :: b :: rest) pos) (hJ f g):=PE.weak (HY ha hb) λσ H Q ⟨δ,k,q⟩=>by
 unfold hJ at q;rw[bc] at q;refine⟨δ,k,aQ q λr δ1 q1 v H1 a1 r1=>?_⟩
 cases r with
 | own d=>exact q1.elim
 | pure d =>
  cases d <;> first | exact q1.elim | skip
  rename_i b
  cases r1;refine⟨b,rfl,?_⟩
  cases b with
  | true=>exact⟨δ1,a1.ok,aQ q1 λy δ2 q2 v H2 a2 r2=>q2 v H2 (a1.trans a2) (aP.back r2 a1)⟩
  | false=>exact q1 _ H1 a1 (.bl false)
theorem vP(ha:SE X c a f):SE X c (.UnaryOp .Not a pos) (pW f):=PE.weak (HZ ha) λσ H Q ⟨δ,k,q⟩=>by
 unfold pW at q;rw[bc] at q;refine⟨δ,k,aQ q λr δ1 q1 v H1 a1 r1=>?_⟩
 cases r with
 | own d=>exact q1.elim
 | pure d =>
  cases d <;> first | exact q1.elim | skip
  rename_i b
  cases r1;exact⟨b,rfl,q1 _ H1 a1 (.bl _)⟩
end
section
variable {c:Fc} {σ:St} {δ:Dl} {H:Hp} {x:V}
theorem cZ.int(h:cZ c σ δ H x (.int i)):x = .int i:=by
 rcases h with h | ⟨_,_,h⟩
 ·cases h; rfl
 ·exact h.elim
theorem cZ.bl(h:cZ c σ δ H x (.bl b)):x = .bl b:=by
 rcases h with h | ⟨_,_,h⟩
 ·cases h; rfl
 ·exact h.elim
theorem cZ.str(h:cZ c σ δ H x (.str z)):x = .str (toS z):=by
 rcases h with h | ⟨_,_,h⟩
 ·cases h; rfl
 ·exact h.elim
theorem cZ.tup(h:cZ c σ δ H x (.tup ds)):∃ a vs,x = .ref a/\H a=some (.tup vs)/\aA H (Av c σ δ) vs ds:=by
 rcases h with h | ⟨_,_,h⟩
 ·cases h with
  | tup h1 h2 h3 h4=>exact⟨_,_,rfl,h2,h3,h4⟩
 ·exact h.elim
theorem cZ.lst(h:cZ c σ δ H x (.lst ds)):∃ a vs,x = .ref a/\Rd H a (.lst vs)/\aA H (Av c σ δ) vs ds:=by
 rcases h with h | ⟨a,e,h⟩
 ·cases h with
  | lst h1 h2 h3 h4=>exact⟨_,_,rfl,h2,h3,h4⟩
 ·obtain⟨vs,h1,h2⟩:=h;exact⟨a,vs,e,.inl h1,h2⟩
theorem cZ.ay(h:cZ c σ δ H x (.ay ds)):∃ a ws,x = .ref a/\H a=some (.dK ws)/\ws.map (·.1)=ds.map (λp=>cT p.1)/\∀ (i:Nat) p q,ws[i]? = some p->ds[i]? = some q->Rep H (Av c σ δ) p.2 q.2:=by
 rcases h with h | ⟨a,e,h⟩
 ·cases h with
  | ay h1 h2 h3 h4=>exact⟨_,_,rfl,h2,h3,h4⟩
 ·obtain⟨ws,h1,h2,h3⟩:=h;exact⟨a,ws,e,h1,h2,h3⟩
end
theorem CN(h:z.length<=Wb):(toS z).length<=Wb:=by rw[i4]; exact h
theorem L_(x y:Tx):toS x ++ toS y=toS (x ++ y):=by
 show Str.append (toS x) (toS y)=_;simp[toS,Str.append]
def bz:D->D->Option S
 | .int i,.int j=>some (.pure (.int (i + j)))
 | .str x,.str y=>if x.length + y.length<=Wb then some (.pure (.str (x ++ y))) else none
 | .tup xs,.tup ys=>if xs.length + ys.length<=Wb then some (.pure (.tup (xs ++ ys))) else none
 | .lst xs,.lst ys=>if xs.length + ys.length<=Wb then some (.own (.lst (xs ++ ys))) else none
 | _,_=>none
def CO(K:W1):R2:=λx y H Q=>iz (λi j=>V.int (i + j)) x y H Q\/(∃ i j,x = .str i/\y = .str j/\i.length + j.length<=Wb/\Q (.str (i ++ j)) H) \/
 (∃ a b ys,x = .ref a/\y = .ref b/\c_ K H a []/\c_ K H b ys/\Q (.ref b) H)\/Bz K x y H Q\/CB K x y H Q
theorem fR:bT X (Qn .Add) (CO X.K):=Ba.or (IJ.or (LX.or (Ki.or LY)))
theorem fS{K:W1}:cX (CO K) bz:=by
 intro c σ δ H x y d e s Q k rx ry hp q
 cases d <;> cases e <;> first
  | (simp[bz] at hp; done)
  | skip
 ·rename_i i j;simp only[bz,Wd] at hp;subst hp;exact .inl ⟨i,j,rx.int,ry.int,q _ H (.refl k) (.int _)⟩
 ·rename_i u w;simp only[bz] at hp;split at hp
  ·rename_i hz;simp only[Wd] at hp;subst hp;refine .inr (.inl ⟨toS u,toS w,rx.str,ry.str,by rw[i4,i4]; exact hz,?_⟩);rw[L_];exact q _ H (.refl k) (.str _)
  ·cases hp
 ·rename_i us ws;simp only[bz] at hp;split at hp
  ·rename_i hz;simp only[Wd] at hp;subst hp;obtain⟨a,vs,ea,ha,ra⟩:=rx.tup;obtain⟨b,zs,eb,hb,rb⟩:=ry.tup
   cases vs with
   | nil =>
    have:us=[]:=by have:=ra.1; simpa using this.symm
    subst this;refine .inr (.inr (.inl ⟨a,b,zs,ea,eb,.of ha,.of hb,?_⟩));rw[eb] at ry;rcases ry with ry | ⟨_,_,ry⟩
    ·exact q _ H (.refl k) ry
    ·exact ry.elim
   | cons v0 vr =>
    refine .inr (.inr (.inr (.inl ⟨a,b,_,zs,ea,eb,.of ha,.of hb,by simp,by rw[ra.1,rb.1]; exact hz,λe0=>?_,λ_ p hp=>?_⟩)))
    ·subst e0;have:ws=[]:=by have:=rb.1; simpa using this.symm
     subst this;rw[ea] at rx;rcases rx with rx | ⟨_,_,rx⟩
     ·rw[Q0] at q;exact q _ H (.refl k) rx
     ·exact rx.elim
    ·exact q _ _ (.alloc k hp _) (aP.mz k (ra.append rb) hp)
  ·cases hp
 ·rename_i us ws;simp only[bz] at hp;split at hp
  ·rename_i hz;simp only[Wd] at hp;subst hp;obtain⟨a,vs,ea,ha,ra⟩:=rx.lst;obtain⟨b,zs,eb,hb,rb⟩:=ry.lst;exact .inr (.inr (.inr (.inr ⟨a,b,vs,zs,ea,eb,.inl ha,.inl hb,by rw[ra.1,rb.1]; exact hz,λp hp=>q _ _ (.alloc k hp _) (aP.my k (ra.append rb) hp)⟩)))
  ·cases hp
def fw(C:Int->Int->Bool)(g:Int->Int->D):D->D->Option S
 | .int i,.int j=>if C i j then some (.pure (g i j)) else none
 | _,_=>none
theorem sR(hC:∀ i j,C' i j=true->C i j)(hg:∀ i j H O,Rep H O (g i j) (g' i j)):cX (rI C g) (fw C' g'):=by
 intro c σ δ H x y d e s Q k rx ry hp q
 cases d <;> cases e <;> first
  | (simp[fw] at hp; done)
  | skip
 rename_i i j;simp only[fw] at hp;split at hp
 ·rename_i hc;simp only[Wd] at hp;subst hp;exact⟨i,j,rx.int,ry.int,hC i j hc,q _ H (.refl k) (hg i j H _)⟩
 ·cases hp
theorem Ma(hg:∀ i j H O,Rep H O (g i j) (g' i j)):cX (iz g) (fw (λ_ _=>true) g'):=by
 intro c σ δ H x y d e s Q k rx ry hp q
 cases d <;> cases e <;> first
  | (simp[fw] at hp; done)
  | skip
 rename_i i j;simp only[fw,if_true,Wd] at hp;subst hp;exact⟨i,j,rx.int,ry.int,q _ H (.refl k) (hg i j H _)⟩
def n9:=fw (λ_ _=>true) λi j=>.int (i - j)
theorem CP:cX (iz λi j=>V.int (i - j)) n9:=Ma λ_ _ _ _=>.int _
def jJ(i j:Int):Bool:=(decide (-(2 ^ 64) < i) && decide (i < 2 ^ 64)) || (decide (-(2 ^ 64) < j) && decide (j < 2 ^ 64))
def pY:=fw jJ λi j=>.int (i * j)
theorem Mb:cX (rI pC λi j=>V.int (i * j)) pY:=sR (λi j h=>by
 unfold jJ at h;simp only[Bool.or_eq_true,Wr,decide_eq_true_eq] at h;exact h) λ_ _ _ _=>.int _
def pZ(_ j:Int):Bool:=decide (0 < j) && decide (j < 1073741824)
def p_:=fw pZ λi j=>.int (i / j)
theorem CQ:cX (rI A9 λi j=>V.int (i / j)) p_:=sR (λi j h=>by
 unfold pZ at h;simp only[Wr,decide_eq_true_eq] at h;exact h) λ_ _ _ _=>.int _
def fU:=fw (λ_ j=>decide (0 < j)) λi j=>.int (i % j)
theorem mG:cX (rI (λ_ j=>0 < j) λi j=>V.int (i % j)) fU:=sR (λi j h=>by simpa using h) λ_ _ _ _=>.int _
def vQ(i j:Int):Bool:=decide (0<=j) && decide (j<=1000000) && decide (i.natAbs < 2 ^ 64)
def vR:=fw vQ λi j=>.int (i ^ j.toNat)
theorem Mc:cX (rI A_ λi j=>V.int (i ^ j.toNat)) vR:=sR (λi j h=>by
 unfold vQ at h;simp only[Wr,decide_eq_true_eq] at h;exact⟨h.1.1,h.1.2,h.2⟩) λ_ _ _ _=>.int _
def bP(d e:D):Option S:=if flat 50 d && flat 50 e then some (.pure (.bl (aC d e))) else none
def jK(d e:D):Option S:=if flat 50 d && flat 50 e then some (.pure (.bl (!aC d e))) else none
theorem i9:cX Cs bP:=by
 intro c σ δ H x y d e s Q k rx ry hp q;unfold bP at hp;split at hp
 ·rename_i hf;rw[Wr] at hf;simp only[Wd] at hp;subst hp;exact⟨d,e,rx.un,ry.un,hf.1,hf.2,q _ H (.refl k) (.bl _)⟩
 ·cases hp
theorem CS:cX Ct jK:=by
 intro c σ δ H x y d e s Q k rx ry hp q;unfold jK at hp;split at hp
 ·rename_i hf;rw[Wr] at hf;simp only[Wd] at hp;subst hp;exact⟨d,e,rx.un,ry.un,hf.1,hf.2,q _ H (.refl k) (.bl _)⟩
 ·cases hp
def iG(f:Int->Int->Bool)(g:Tx->Tx->Bool):D->D->Option S
 | .int i,.int j=>some (.pure (.bl (f i j)))
 | .str x,.str y=>some (.pure (.bl (g x y)))
 | _,_=>none
def qa(f:Int->Int->Bool)(g:List Nat->List Nat->Bool):R2:=λx y H Q=>iz (λi j=>V.bl (f i j)) x y H Q\/∃ i j,x = .str i/\y = .str j/\Q (.bl (g i.cps.toList j.cps.toList)) H
theorem qb:cX (qa f g) (iG f g):=by
 intro c σ δ H x y d e s Q k rx ry hp q
 cases d <;> cases e <;> first
  | (simp[iG] at hp; done)
  | skip
 ·rename_i i j;simp only[iG,Wd] at hp;subst hp;exact .inl ⟨i,j,rx.int,ry.int,q _ H (.refl k) (.bl _)⟩
 ·rename_i i j;simp only[iG,Wd] at hp;subst hp;refine .inr ⟨toS i,toS j,rx.str,ry.str,?_⟩;rw[pR,pR];exact q _ H (.refl k) (.bl _)
theorem CT{X:Cx}{op:CmpOp}{g:List Nat->List Nat->Bool}(rule:∀ (i j:Str) (t u:Tok) (Q:Value->W2->Prop) (s:W2),Q (.bool (g i.cps.toList j.cps.toList)) s->W8 (model X.prog X.w) X.A (WY op (.str i t) (.str j u)) Q X.xe s) :
  bT X (WY op) (λx y H Q=>∃ i j,x = .str i/\y = .str j/\Q (.bl (g i.cps.toList j.cps.toList)) H):=by
 intro pins s σ H x y v u Q I rx ry h;obtain⟨i,j,rfl,rfl,q⟩:=h;obtain⟨t,rfl⟩:=rx;obtain⟨t',rfl⟩:=ry;exact rule i j t t' _ s ⟨.bl _,H,I,rfl,q⟩
def sS:=iG (λi j=>decide (i < j)) λx y=>decide (x < y)
theorem Md:bT X (WY .Lt) (qa (λi j=>decide (i < j)) λx y=>decide (x < y)):=ID.or IG
theorem Me:cX (qa (λi j=>decide (i < j)) λx y=>decide (x < y)) sS:=qb
def aB:D->D->Option S
 | .lst ds,.int i=>(cS ds i).map .pure
 | .tup ds,.int i=>(cS ds i).map .pure
 | .str x,.int i=>if x.length<=Wb then(cS x i).map λn=>.pure (.str [n]) else none
 | _,_=>none
theorem CU(r:aA H O vs ds)(h:cS ds i=some d):∃ v,cS vs i=some v/\Rep H O v d:=by
 unfold cS at h ⊢;rw[r.1]
 cases e:dQ ds.length i with
 | none=>rw[e] at h; cases h
 | some j =>
  rw[e] at h;exact r.get h
theorem cD{K:W1}:cX (pG K) aB:=by
 intro c σ δ H x y d e s Q k rx ry hp q
 cases d <;> cases e <;> first
  | (simp[aB] at hp; done)
  | skip
 ·rename_i z i;simp only[aB] at hp;split at hp
  ·rename_i hz
   cases e1:cS z i with
   | none=>rw[e1] at hp; cases hp
   | some n =>
    rw[e1] at hp;simp only[WA,Wd] at hp;subst hp;refine .inr (.inr ⟨toS z,i,n,rx.str,ry.int,CN hz,by rw[pR]; exact e1,?_⟩);exact q (.str (toS [n])) H (.refl k) (.str [n])
  ·cases hp
 ·rename_i ds i;simp only[aB] at hp
  cases e1:cS ds i with
  | none=>rw[e1] at hp; cases hp
  | some n =>
   rw[e1] at hp;simp only[WA,Wd] at hp;subst hp;obtain⟨a,vs,ea,ha,ra⟩:=rx.tup;obtain⟨v,e2,r2⟩:=CU ra e1;exact .inr (.inl ⟨a,vs,i,v,ea,ry.int,.of ha,e2,q v H (.refl k) r2⟩)
 ·rename_i ds i;simp only[aB] at hp
  cases e1:cS ds i with
  | none=>rw[e1] at hp; cases hp
  | some n =>
   rw[e1] at hp;simp only[WA,Wd] at hp;subst hp;obtain⟨a,vs,ea,ha,ra⟩:=rx.lst;obtain⟨v,e2,r2⟩:=CU ra e1;exact .inl ⟨a,vs,i,v,ea,ry.int,.inl ha,e2,q v H (.refl k) r2⟩
def k_:=iG (λi j=>decide (j < i)) λx y=>decide (y < x)
def CV:=iG (λi j=>decide (j<=i)) λx y=>!decide (x < y)
theorem vS:bT X (WY .Gt) (qa (λi j=>decide (j < i)) λx y=>decide (y < x)):=IE.or (CT (g:=λx y=>decide (y < x)) λ_ _ _ _ _ _ h=>PySem.P.gt_str h)
theorem Mf:bT X (WY .GtE) (qa (λi j=>decide (j<=i)) λx y=>!decide (x < y)):=IF.or (CT (g:=λx y=>!decide (x < y)) λ_ _ _ _ _ _ h=>PySem.P.ge_str h)
abbrev DA:=Dl->Rs (List D)
def Mg(c:Fc)(f:DA):TA:=λσ H Q=>∃ δ,Ok c σ δ H/\post c (f δ) λds δ'=>∀ vs H',aD c σ δ H σ δ' H'->aA H' (Av c σ δ') vs ds->Q vs H'
structure SA(X:Cx)(c:Fc)(es:List Expr)(f:DA):Prop where
 pa:PA X es (Mg c f)
 len:∀ δ ds δ',f δ = .ok ds δ'->ds.length=es.length
theorem PA.weak(h:PA X es t)(w:∀ σ H Q,t' σ H Q->t σ H Q):PA X es t':=λpos pins s σ H Q I q=>h pos pins s σ H Q I (w σ H Q q)
def bU:DA:=λδ=>.ok [] δ
def aI(f:DE)(g:DA):DA:=λδ=>(f δ).bind λx δ1=>(g δ1).bind λxs δ2=>.ok (x.d :: xs) δ2
section
variable {X:Cx} {c:Fc} {e:Expr} {es:List Expr} {f:DE} {g:DA} {pos:Pos}
theorem eQ:SA X c [] bU:=⟨PA.weak eU λσ H Q ⟨δ,k,q⟩=>q [] H (.refl k) .nil,λδ ds δ' h=>by cases h; rfl⟩
theorem CW(ha:SE X c e f)(hr:SA X c es g)(hs:W7 (e :: es) X.env=(false,eval e X.env) :: W7 es X.env:=by rfl):SA X c (e :: es) (aI f g):=by
 refine⟨PA.weak (dt ha hr.pa hs) λσ H Q ⟨δ,k,q⟩=>?_,λδ ds δ' h=>?_⟩
 ·unfold aI at q;rw[bc] at q;refine⟨δ,k,aQ q λx δ1 q1 v H1 a1 r1=>⟨δ1,a1.ok,?_⟩⟩;rw[bc] at q1;exact aQ q1 λxs δ2 q2 vs H2 a2 r2=>q2 (v :: vs) H2 (a1.trans a2) (.cons (Rep.cU r1.rep a2) r2)
 ·unfold aI at h
  cases h1:f δ with
  | ok x δ1 =>
   rw[h1] at h
   cases h2:g δ1 with
   | ok xs δ2 =>
    simp only[Rs.bind,h2] at h
    cases h;simp[hr.len _ _ _ h2]
   | exc x δx=>simp only[Rs.bind,h2] at h; cases h
   | stuck=>simp only[Rs.bind,h2] at h; cases h
  | exc x δx=>rw[h1] at h; cases h
  | stuck=>rw[h1] at h; cases h
def dh(f:DA):DE:=λδ=>(f δ).bind λds δ'=>.ok (.pure (.tup ds)) δ'
def eF(f:DA):DE:=λδ=>(f δ).bind λds δ'=>.ok (.own (.lst ds)) δ'
theorem CY(h:n<=1000):n<=Wb:=QU (Lh h)
theorem CZ(h:post c r k):post c r λa δ=>r = .ok a δ/\k a δ:=by
 cases r with
 | ok a δ=>exact⟨rfl,h⟩
 | exc x δx=>exact h
 | stuck=>exact h
theorem ko{x1}(h:SA X c es g)(hz:es.length<=1000:=by decide):SE X c (.Tuple es x1 pos) (dh g):=PE.weak (IX h.pa) λσ H Q ⟨δ,k,q⟩=>by
 unfold dh at q;rw[bc] at q;refine⟨δ,k,aQ (CZ q) λds δ1 ⟨e1,q1⟩ vs H1 a1 r1=>?_⟩;have hl:=h.len _ _ _ e1;exact⟨by rw[r1.1,hl]; exact CY hz,λp hp=>q1 _ _ (a1.trans (.alloc a1.ok hp _)) (aP.back (aP.mz a1.ok r1 hp) a1)⟩
theorem i_(h:SA X c es g)(hz:es.length<=1000:=by decide):SE X c (.List es pos) (eF g):=PE.weak (IY h.pa) λσ H Q ⟨δ,k,q⟩=>by
 unfold eF at q;rw[bc] at q;refine⟨δ,k,aQ (CZ q) λds δ1 ⟨e1,q1⟩ vs H1 a1 r1=>?_⟩;have hl:=h.len _ _ _ e1;exact⟨by rw[r1.1,hl]; exact CY hz,λp hp=>q1 _ _ (a1.trans (.alloc a1.ok hp _)) (aP.back (aP.my a1.ok r1 hp) a1)⟩
end
def p1(p:D->Option S)(x:D)(δ:Dl):Rs S:=match p x with
 | some s=>.ok s δ
 | none=>.stuck
def a_(p:D->Option S)(fb:BE):DE:=λδ=>(fb δ).bind λx δ1=>p1 p x δ1
def jL(r:V->Hp->VK->Prop)(p:D->Option S):Prop:=∀ (c:Fc) (σ:St) (δ:Dl) (H:Hp) (x:V) (d:D) (s:S) (Q:VK),Ok c σ δ H->cZ c σ δ H x d->p d=some s ->
 (∀ v H',aD c σ δ H σ δ H'->aP c σ δ H H' v s->Q v H')->r x H Q
section
variable {X:Cx} {c:Fc} {e:Expr} {fb:BE} {r:V->Hp->VK->Prop} {p:D->Option S} {x:Str} {id T:String} {pp pos:Pos}
theorem C0(hp:jL r p)(k:Ok c σ δ H)(rx:cZ c σ δ H v d)
  (h:post c (p1 p d δ) λs δ'=>∀ v H',aD c σ δ H σ δ' H'->aP c σ δ' H H' v s->Q v H'):r v H Q:=by
 unfold p1 at h
 cases e1:p d with
 | none=>rw[e1] at h; exact h.elim
 | some s=>rw[e1] at h; exact hp c σ δ H v d s Q k rx e1 h
theorem qc(hp:jL r p)(h:tD c (a_ p fb) σ H Q):IA r (tB c fb) σ H Q:=by
 obtain⟨δ,k,q⟩:=h;unfold a_ at q;rw[bc] at q;exact⟨δ,k,aQ q λy δ1 q1 v H1 a1 r1=>C0 hp a1.ok r1 (aQ q1 λs δ2 q2 w H2 a2 r2=>q2 w H2 (a1.trans a2) (aP.back r2 a1))⟩
theorem vT(hc:eE X (.builtin id) rl)(hl:∀ v H Q,r v H Q->rl [v] H Q)(hp:jL r p)(hg:Gl X x)(hm:X.mg x=none)(hv:Qj x=some (.builtin id))(he:SB X c e fb)
  (hn:x≠"__name__":=by decide) (da:(x == ("__debug__" : Str))=false:=by decide) (hs:W7 [e] X.env=(false,eval e X.env) :: W7 [] X.env:=by rfl) (bE:(WU pos (W7 [] X.env)).any (·.1)=false:=by rfl) :
  SE X c (.Call (.Name x pp) [e] [] pos) (a_ p fb):=PE.weak (nP hc hg hm hv (dt he eU hs) hn da hs bE) λσ H Q h=>by
 obtain⟨δ,k,q⟩:=qc hp h;exact⟨δ,k,aQ q λy δ1 q1 v H1 a1 r1=>hl _ _ _ (q1 v H1 a1 r1)⟩
theorem vU(hc:eE X (.type T) rl)(hl:∀ v H Q,r v H Q->rl [v] H Q)(hp:jL r p)(hg:Gl X x)(hm:X.mg x=none)(hv:Qj x=some (.type T))(he:SB X c e fb)
  (hn:x≠"__name__":=by decide) (da:(x == ("__debug__" : Str))=false:=by decide) (hs:W7 [e] X.env=(false,eval e X.env) :: W7 [] X.env:=by rfl) (bE:(WU pos (W7 [] X.env)).any (·.1)=false:=by rfl) :
  SE X c (.Call (.Name x pp) [e] [] pos) (a_ p fb):=PE.weak (Bu hc hg hm hv (dt he eU hs) hn da hs bE) λσ H Q h=>by
 obtain⟨δ,k,q⟩:=qc hp h;exact⟨δ,k,aQ q λy δ1 q1 v H1 a1 r1=>hl _ _ _ (q1 v H1 a1 r1)⟩
def cy:D->Option S
 | .lst ds=>some (.pure (.int ds.length))
 | .tup ds=>some (.pure (.int ds.length))
 | .str z=>if z.length<=Wb then some (.pure (.int z.length)) else none
 | .ay ds=>some (.pure (.int ds.length))
 | _=>none
def Mh(K:W1):V->Hp->VK->Prop:=λv H Q=>((∃ p ys,v = .ref p/\(bS K H p ys\/c_ K H p ys)/\Q (.int ys.length) H)\/∃ z,v = .str z/\z.length<=Wb/\Q (.int z.length) H)\/∃ a kvs,v=V.ref a/\H a=some (.dK kvs)/\Q (.int kvs.length) H
theorem Mi{K:W1}:jL (Mh K) cy:=by
 intro c σ δ H x d s Q k rx hp q
 cases d with
 | lst ds =>
  simp only[cy,Wd] at hp;subst hp;obtain⟨a,vs,ea,ha,ra⟩:=rx.lst;exact .inl (.inl ⟨a,vs,ea,.inl (.inl ha),by rw[ra.1]; exact q _ H (.refl k) (.int _)⟩)
 | tup ds =>
  simp only[cy,Wd] at hp;subst hp;obtain⟨a,vs,ea,ha,ra⟩:=rx.tup;exact .inl (.inl ⟨a,vs,ea,.inr (.of ha),by rw[ra.1]; exact q _ H (.refl k) (.int _)⟩)
 | str z =>
  simp only[cy] at hp;split at hp
  ·rename_i hz;simp only[Wd] at hp;subst hp;exact .inl (.inr ⟨toS z,rx.str,CN hz,by rw[i4]; exact q _ H (.refl k) (.int _)⟩)
  ·cases hp
 | ay ds =>
  simp only[cy,Wd] at hp;subst hp;obtain⟨a,ws,ea,ha,h1,h2⟩:=rx.ay;have hl:ws.length=ds.length:=by have:=congrArg Jv h1; simpa using this
  exact .inr ⟨a,ws,ea,ha,by rw[hl]; exact q _ H (.refl k) (.int _)⟩
 | _=>simp[cy] at hp
theorem mH (hg:Gl X "len") (hm:X.mg "len" = none) (he:SB X c e fb) (hs:W7 [e] X.env=(false,eval e X.env) :: W7 [] X.env:=by rfl):SE X c (.Call (.Name "len" pp) [e] [] pos) (a_ cy fb) :=
 vT ((Kt.or Ku).or Li) (λv H Q h=>by
  rcases h with (⟨p,ys,e,h⟩ | ⟨z,e,h⟩) | ⟨a,kvs,e,h⟩
  ·exact .inl (.inl ⟨p,ys,by rw[e],h⟩)
  ·exact .inl (.inr ⟨z,by rw[e],h⟩)
  ·exact .inr ⟨a,kvs,by rw[e],h⟩) (Mi (K:=X.K)) hg hm PySem.boot_len he (by decide) (by decide) hs
def hU:D->Option S
 | .lst ds=>some (.pure (.tup ds))
 | .tup ds=>some (.pure (.tup ds))
 | _=>none
def Mj(K:W1):V->Hp->VK->Prop:=λv H Q=>∃ p ys,v = .ref p/\((bS K H p ys/\∀ l,H l=none->Q (.ref l) (upd H l (.tup ys)))\/(c_ K H p ys/\Q (.ref p) H))
theorem Mk{K:W1}:jL (Mj K) hU:=by
 intro c σ δ H x d s Q k rx hp q
 cases d with
 | lst ds =>
  simp only[hU,Wd] at hp;subst hp;obtain⟨a,vs,ea,ha,ra⟩:=rx.lst;exact⟨a,vs,ea,.inl ⟨.inl ha,λl hl=>q _ _ (.alloc k hl _) (aP.mz k ra hl)⟩⟩
 | tup ds =>
  simp only[hU,Wd] at hp;subst hp;obtain⟨a,vs,ea,ha,ra⟩:=rx.tup;refine⟨a,vs,ea,.inr ⟨.of ha,?_⟩⟩;rw[ea] at rx;rcases rx with rx | ⟨_,_,rx⟩
  ·exact q _ H (.refl k) rx
  ·exact rx.elim
 | _=>simp[hU] at hp
theorem vV (hg:Gl X "tuple") (hm:X.mg "tuple" = none) (he:SB X c e fb) (hs:W7 [e] X.env=(false,eval e X.env) :: W7 [] X.env:=by rfl):SE X c (.Call (.Name "tuple" pp) [e] [] pos) (a_ hU fb) :=
 vU Kv (λv H Q ⟨p,ys,e,h⟩=>⟨p,ys,by rw[e],h⟩) (Mk (K:=X.K)) hg hm PyProof.Rows.boot_tuple he (by decide) (by decide) hs
def gm:D->Option S
 | .int i=>some (.pure (.int i))
 | .bl b=>some (.pure (.int (if b then 1 else 0)))
 | _=>none
theorem C1 (hg:Gl X "int") (hm:X.mg "int" = none) (he:SB X c e fb) (hs:W7 [e] X.env=(false,eval e X.env) :: W7 [] X.env:=by rfl):SE X c (.Call (.Name "int" pp) [e] [] pos) (a_ gm fb) :=
 vU (r:=λv H Q=>(∃ i,v = .int i/\Q (.int i) H)\/∃ k,v = .bl k/\Q (.int (if k then 1 else 0)) H) IL (λv H Q h=>by
  rcases h with ⟨i,e,q⟩ | ⟨k,e,q⟩
  ·exact .inl ⟨i,by rw[e],q⟩
  ·exact .inr ⟨k,by rw[e],q⟩) (λc σ δ H x d s Q k rx hp q=>by
  cases d with
  | int i =>
   simp only[gm,Wd] at hp;subst hp;exact .inl ⟨i,rx.int,q _ H (.refl k) (.int _)⟩
  | bl b =>
   simp only[gm,Wd] at hp;subst hp;exact .inr ⟨b,rx.bl,q _ H (.refl k) (.int _)⟩
  | _=>simp[gm] at hp) hg hm PyProof.Rows.boot_int he (by decide) (by decide) hs
def gq:List D->Option (List Bool)
 | []=>some []
 | .bl b :: r=>(gq r).map (b :: ·)
 | _ :: _=>none
def fz:List D->Option (List Tx)
 | []=>some []
 | .str x :: r=>(fz r).map (x :: ·)
 | _ :: _=>none
theorem sU:∀ {ds:List D} {vs:List V} {bs:List Bool},gq ds=some bs->aA H O vs ds->vs=bs.map V.bl
 | [],vs,bs,h,r=>by
  simp only[gq,Wd] at h;subst h;have:=r.1;simpa using this
 | d :: ds,[],bs,h,r=>by have:=r.1; simp at this
 | d :: ds,v :: vs,bs,h,r=>by
  cases d with
  | bl b =>
   simp only[gq] at h
   cases e:gq ds with
   | none=>rw[e] at h; cases h
   | some bs' =>
    rw[e] at h;simp only[WA,Wd] at h;subst h;have:=r.head
    cases this;rw[sU e r.tail];rfl
  | _=>simp[gq] at h
theorem n_:∀ {ds:List D} {vs:List V} {bs:List Tx},fz ds=some bs->aA H O vs ds->vs=bs.map λz=>V.str (toS z)
 | [],vs,bs,h,r=>by
  simp only[fz,Wd] at h;subst h;have:=r.1;simpa using this
 | d :: ds,[],bs,h,r=>by have:=r.1; simp at this
 | d :: ds,v :: vs,bs,h,r=>by
  cases d with
  | str b =>
   simp only[fz] at h
   cases e:fz ds with
   | none=>rw[e] at h; cases h
   | some bs' =>
    rw[e] at h;simp only[WA,Wd] at h;subst h;have:=r.head
    cases this;rw[n_ e r.tail];rfl
  | _=>simp[fz] at h
theorem vW:∀ ts:List Tx,aA H O (ts.map λz=>V.str (toS z)) (ts.map D.str)
 | []=>.nil
 | t :: ts=>.cons (.str t) (vW ts)
def og:D->Option S
 | .lst ds=>(gq ds).map λbs=>.pure (.bl (bs.all (λb=>b)))
 | _=>none
def oh:D->Option S
 | .lst ds=>match fz ds with
  | some ts=>if ts.length < 64 then some (.own (.lst ((eX ts).map D.str))) else none
  | none=>none
 | _=>none
theorem Ml:Qj "all" = some (.builtin "all"):=by decide +kernel
theorem Mm (hc:X.calm=true) (hg:Gl X "all") (hm:X.mg "all" = none) (he:SB X c e fb) (hs:W7 [e] X.env=(false,eval e X.env) :: W7 [] X.env:=by rfl):SE X c (.Call (.Name "all" pp) [e] [] pos) (a_ og fb) :=
 vT (r:=λv H Q=>∃ (a:Addr) (bs:List Bool),v = .ref a/\bS X.K H a (bs.map V.bl)/\Q (.bl (bs.all (λb=>b))) H) (L5 hc) (λv H Q ⟨a,bs,e,h⟩=>⟨a,bs,by rw[e],h⟩) (λc σ δ H x d s Q k rx hp q=>by
  cases d with
  | lst ds =>
   simp only[og] at hp
   cases e:gq ds with
   | none=>rw[e] at hp; cases hp
   | some bs =>
    rw[e] at hp;simp only[WA,Wd] at hp;subst hp;obtain⟨a,vs,ea,ha,ra⟩:=rx.lst;have:=sU e ra;subst this;exact⟨a,bs,ea,.inl ha,q _ H (.refl k) (.bl _)⟩
  | _=>simp[og] at hp) hg hm Ml he (by decide) (by decide) hs
theorem Mn (hg:Gl X "sorted") (hm:X.mg "sorted" = none) (he:SB X c e fb) (hs:W7 [e] X.env=(false,eval e X.env) :: W7 [] X.env:=by rfl):SE X c (.Call (.Name "sorted" pp) [e] [] pos) (a_ oh fb) :=
 vT (r:=λv H Q=>∃ (a:Addr) (ts:List Tx),v = .ref a/\bS X.K H a (ts.map λz=>V.str (toS z))/\ts.length < 64/\∀ p,H p=none->Q (.ref p) (upd H p (.lst ((eX ts).map λz=>V.str (toS z))))) L7 (λv H Q ⟨a,bs,e,h⟩=>⟨a,bs,by rw[e],h⟩) (λc σ δ H x d s Q k rx hp q=>by
  cases d with
  | lst ds =>
   simp only[oh] at hp
   cases e:fz ds with
   | none=>rw[e] at hp; cases hp
   | some ts =>
    rw[e] at hp;simp only at hp;split at hp
    ·rename_i hz;simp only[Wd] at hp;subst hp;obtain⟨a,vs,ea,ha,ra⟩:=rx.lst;have:=n_ e ra;subst this;exact⟨a,ts,ea,.inl ha,hz,λp hp=>q _ _ (.alloc k hp _) (aP.my k (vW _) hp)⟩
    ·cases hp
  | _=>simp[oh] at hp) hg hm PyProof.Rows.boot_sorted he (by decide) (by decide) hs
def vX:D->D->Option S
 | .int i,.int j=>some (.pure (.int (if j > i then j else i)))
 | _,_=>none
def sV(f g:DE):DE:=λδ=>(f δ).bind λx δ1=>(g δ1).bind λy δ2=>p2 vX x.d y.d δ2
theorem Mo {a b:Expr} {f g:DE} (hc:X.calm=true) (hg:Gl X "max") (hm:X.mg "max" = none) (ha:SE X c a f) (hb:SE X c b g) (hs:W7 [a,b] X.env=(false,eval a X.env) :: W7 [b] X.env:=by rfl)
  (mI:W7 [b] X.env=(false,eval b X.env) :: W7 [] X.env:=by rfl) (bE:(WU pos (W7 [b] X.env)).any (·.1)=false:=by rfl):SE X c (.Call (.Name "max" pp) [a,b] [] pos) (sV f g) :=
 PE.weak (nP (IK hc) hg hm PyProof.Rows.boot_max (dt ha (dt hb eU mI) hs) (by decide) (by decide) hs bE) λσ H Q ⟨δ,k,q⟩=>by
  unfold sV at q;rw[bc] at q;refine⟨δ,k,aQ q λx δ1 q1 v H1 a1 r1=>⟨δ1,a1.ok,?_⟩⟩;rw[bc] at q1;refine aQ q1 λy δ2 q2 u H2 a2 r2=>?_
  unfold p2 at q2;have hx:cZ c σ δ2 H2 v x.d:=.inl (Rep.cU r1.rep a2);have hy:=r2.b;generalize x.d=dx at q2 hx;generalize y.d=dy at q2 hy
  cases dx <;> cases dy <;> first
   | exact q2.elim
   | skip
  rename_i i j;exact⟨i,j,by rw[hx.int,hy.int],q2 _ H2 (a1.trans a2) (.int _)⟩
def jM(T:String):D->Option Bool
 | .aN=>some (T == "NoneType")
 | .bl _=>some (T == "bool" || T == "int")
 | .int _=>some (T == "int")
 | .str _=>some (T == "str")
 | .tup _=>some (T == "tuple")
 | .lst _=>some (T == "list")
 | .ay _=>some (T == "dict")
 | .exc _ _=>none
 | .xd _=>none
structure hV(K:W1)(T:String):Prop where
 aN:QG K (.type "NoneType") (.type T)=some (T == "NoneType")
 bl:QG K (.type "bool") (.type T)=some (T == "bool" || T == "int")
 int:QG K (.type "int") (.type T)=some (T == "int")
 str:QG K (.type "str") (.type T)=some (T == "str")
 tup:QG K (.type "tuple") (.type T)=some (T == "tuple")
 lst:QG K (.type "list") (.type T)=some (T == "list")
 ay:QG K (.type "dict") (.type T)=some (T == "dict")
def eY(T:String)(fb:BE):DE:=λδ=>(fb δ).bind λd δ'=>match jM T d with
 | some b=>.ok (.pure (.bl b)) δ'
 | none=>.stuck
theorem Mp(ty:hV X.K T)(I:Inv X pins σ H s)(ru:RelV v u)(r:Rep H du v d)(e:jM T d=some b)(q:Q (.bl b) H) :
  W8 (model X.prog X.w) X.A (call (.builtin "isinstance") [u,.type T]) (EP X pins σ Q) X.xe s:=by
 have fin:∀ tk,EP X pins σ Q (.bool b) { s with toks:=tk }:=λtk=>⟨.bl b,H,I.tok tk,rfl,q⟩
 cases r with
 | aN=>exact kS I ru .aN (ty.aN.trans e) fin
 | bl x=>exact kS I ru (.bl x) (ty.bl.trans e) fin
 | int x=>exact kS I ru (.int x) (ty.int.trans e) fin
 | str x=>exact kS I ru (.str _) (ty.str.trans e) fin
 | tup _ h2 _ _=>exact kS I ru (.tup h2) (ty.tup.trans e) fin
 | lst _ h2 _ _ =>
  rcases h2 with h2 | ⟨o,h2⟩
  ·exact kS I ru (.lst h2) (ty.lst.trans e) fin
  ·exact kS I ru (.frz h2) (ty.lst.trans e) fin
 | ay _ h2 _ _=>exact kS I ru (.dK h2) (ty.ay.trans e) fin
 | exc _ _=>cases e
 | xd _ _=>cases e
theorem Mq (ty:hV X.K T):eE X (.builtin "isinstance") (λxs H Q=>∃ v d b,xs=[v,.ty T]/\Rep H du v d/\jM T d=some b/\Q (.bl b) H):=by
 intro pins s σ H xs us Q I r h;obtain⟨v,d,b,rfl,rp,e,q⟩:=h;obtain⟨u,w',rfl,r1,r2⟩:=uU r
 cases r2;exact Mp ty I r1 rp e q
theorem mJ {y:Str} {py:Pos} (ty:hV X.K T) (hg:Gl X "isinstance") (hm:X.mg "isinstance" = none) (qe:Gl X y) (qf:X.mg y=none) (vY:Qj y=some (.type T)) (he:SB X c e fb)
  (vZ:y≠"__name__":=by decide) (qg:(y == ("__debug__" : Str))=false:=by decide)
  (hs:W7 [e,.Name y py] X.env=(false,eval e X.env) :: W7 [.Name y py] X.env:=by rfl) (bE:(WU pos (W7 [.Name y py] X.env)).any (·.1)=false:=by rfl) :
  SE X c (.Call (.Name "isinstance" pp) [e,.Name y py] [] pos) (eY T fb) :=
 PE.weak (nP (Mq ty) hg hm PyProof.Rows.boot_isinstance (dt he (dt (AO (v:=.ty T) qe qf vY rfl vZ qg) eU) hs) (by decide) (by decide) hs bE) λσ H Q ⟨δ,k,q⟩=>by
  unfold eY at q;rw[bc] at q;refine⟨δ,k,aQ q λd δ1 q1 v H1 a1 r1=>?_⟩
  cases e1:jM T d with
  | none=>rw[e1] at q1; exact q1.elim
  | some b =>
   rw[e1] at q1;exact⟨v,d,b,rfl,r1.un,e1,q1 _ H1 a1 (.bl _)⟩
end
abbrev la:=Dl->Rs (Option Int)
def Mr(c:Fc)(f:la):TO:=λσ H Q=>∃ δ,Ok c σ δ H/\post c (f δ) λo δ'=>∀ H',aD c σ δ H σ δ' H'->Q o H'
abbrev SO(X:Cx)(c:Fc)(e:Option Expr)(f:la):Prop:=PO X e (Mr c f)
theorem PO.weak(h:PO X e t)(w:∀ σ H Q,t' σ H Q->t σ H Q):PO X e t':=λpins s σ H Q I q=>h pins s σ H Q I (w σ H Q q)
def Ms:la:=λδ=>.ok none δ
def mK(f:DE):la:=λδ=>(f δ).bind λr δ'=>match r with
 | .pure (.int i)=>.ok (some i) δ'
 | _=>.stuck
section
variable {X:Cx} {c:Fc} {e:Expr} {f:DE} {fb:BE} {fl fh:la} {lo hi:Option Expr} {pos p2:Pos}
theorem C2(h:SE X c e f):SO X c (some e) (mK f):=PO.weak (Kd h) λσ H Q ⟨δ,k,q⟩=>by
 unfold mK at q;rw[bc] at q;refine⟨δ,k,aQ q λr δ1 q1 v H1 a1 r1=>?_⟩
 cases r with
 | own d=>exact q1.elim
 | pure d =>
  cases d <;> first | exact q1.elim | skip
  rename_i i
  cases r1;exact⟨i,rfl,q1 H1 a1⟩
def jN(lo hi:Option Int):D->Option S
 | .str x=>if x.length<=Wb then some (.pure (.str (dg x lo hi))) else none
 | .tup ds=>some (.pure (.tup (dg ds lo hi)))
 | .lst ds=>some (.own (.lst (dg ds lo hi)))
 | _=>none
def C3(K:W1):V->Option Int->Option Int->Hp->VK->Prop:=λx lo hi H Q=>Cz x lo hi H Q\/Cw K x lo hi H Q\/BI K x lo hi H Q
theorem Mt:jE X (C3 X.K):=LW.or (LS.or Kq)
theorem Mu{K:W1}(lo hi:Option Int):jL (λx H Q=>C3 K x lo hi H Q) (jN lo hi):=by
 intro c σ δ H x d s Q k rx hp q
 cases d with
 | str z =>
  simp only[jN] at hp;split at hp
  ·rename_i hz;simp only[Wd] at hp;subst hp;exact .inl ⟨z,rx.str,hz,q _ H (.refl k) (.str _)⟩
  ·cases hp
 | tup ds =>
  simp only[jN,Wd] at hp;subst hp;obtain⟨a,vs,ea,ha,ra⟩:=rx.tup;refine .inr (.inl ⟨a,vs,ea,.of ha,λhw=>?_,λ_ p hp=>?_⟩)
  ·rw[ra.1] at hw;rw[LQ hw] at q;rw[ea] at rx;rcases rx with rx | ⟨_,_,rx⟩
   ·exact q _ H (.refl k) rx
   ·exact rx.elim
  ·rw[<- Cv];exact q _ _ (.alloc k hp _) (aP.mz k (ra.cut lo hi) hp)
 | lst ds =>
  simp only[jN,Wd] at hp;subst hp;obtain⟨a,vs,ea,ha,ra⟩:=rx.lst;refine .inr (.inr ⟨a,vs,ea,.inl ha,λp hp=>?_⟩);rw[<- Cv];exact q _ _ (.alloc k hp _) (aP.my k (ra.cut lo hi) hp)
 | _=>simp[jN] at hp
def Mv(f:DE)(fl fh:la):DE:=λδ=>(f δ).bind λx δ1=>(fl δ1).bind λl δ2=>(fh δ2).bind λh δ3=>p1 (jN l h) x.d δ3
def qj(i:Nat)(fl fh:la):DE:=λδ=>match δ[i]? with
 | some (some _)=>(fl δ).bind λl δ2=>(fh δ2).bind λh δ3=>(ah i δ3).bind λx δ4=>p1 (jN l h) x δ4
 | _=>.stuck
theorem qk{i:Nat}{σ:St}{δ:Dl}{H:Hp}{v:V}{w:S}(k:Ok c σ δ H)(e:δ[i]? = some (some w))(ev:σ[i]? = some (some v)):cZ c σ δ H v w.d:=by
 cases w with
 | pure d =>
  obtain⟨v',e1,r⟩:=k.slot i d e;rw[ev] at e1; cases e1
  exact .inl r
 | own d =>
  obtain⟨a,e1,r,_⟩:=k.own i d e;rw[ev] at e1; cases e1
  exact .inr ⟨a,rfl,r⟩
theorem Mw(h:post c ((ah i δ).bind g) kk):∃ w,δ[i]? = some (some w)/\post c (g w.d δ) kk:=by
 unfold ah at h
 cases e:δ[i]? with
 | none=>rw[e] at h; exact h.elim
 | some o =>
  cases o with
  | none=>rw[e] at h; exact h.elim
  | some w=>rw[e] at h; exact⟨w,rfl,h⟩
theorem Mx{i:Nat}(he:PE X e (b_ i))(hl:SO X c lo fl)(hh:SO X c hi fh):SE X c (.Subscript e (.Slice lo hi none p2) pos) (qj i fl fh):=PE.weak (Kf Mt he hl hh) λσ H Q ⟨δ,k,q⟩=>by
 unfold qj at q
 cases e:δ[i]? with
 | none=>rw[e] at q; exact q.elim
 | some o =>
  cases o with
  | none=>rw[e] at q; exact q.elim
  | some w =>
   rw[e] at q;obtain⟨v,ev⟩:=mF k e;have q':post c ((fl δ).bind λl δ2=>(fh δ2).bind λh δ3=>(ah i δ3).bind λx δ4=>p1 (jN l h) x δ4) λr δ'=>∀ v H',aD c σ δ H σ δ' H'->aP c σ δ' H H' v r->Q v H':=q
   rw[bc] at q';refine⟨v,ev,δ,k,aQ q' λl δ2 q2 H2 a2=>⟨δ2,a2.ok,?_⟩⟩;rw[bc] at q2;refine aQ q2 λh δ3 q3 H3 a3=>?_
   obtain⟨w3,e3,q4⟩:=Mw q3;exact C0 (Mu l h) a3.ok (qk a3.ok e3 ev) (aQ q4 λs δ4 q4 w H4 a4 r4=>q4 w H4 (a2.trans (a3.trans a4)) (aP.back r4 (a2.trans a3)))
def ja(z:Tx):List Tx->Tx
 | []=>[]
 | [x]=>x
 | x :: y :: r=>x ++ z ++ ja z (y :: r)
theorem C4(z:Tx):∀ (r:List Tx) (acc:Tx),((r.map toS).foldl (λ(acc:Array Nat) p=>acc ++ (toS z).cps ++ p.cps) acc.toArray)=(match r with | []=>acc | x :: r'=>acc ++ z ++ ja z (x :: r')).toArray
 | [],acc=>rfl
 | x :: r,acc=>by
  rw[Wo,QO];have e:acc.toArray ++ (toS z).cps ++ (toS x).cps=(acc ++ z ++ x).toArray:=by simp[toS]
  rw[e,C4 z r (acc ++ z ++ x)]
  cases r with
  | nil=>simp[ja]
  | cons y r'=>simp[ja]
theorem My(z:Tx)(ts:List Tx):Txt.join (toS z) (ts.map toS)=toS (ja z ts):=by
 show Builtin.Str.glued _ _=_;unfold Builtin.Str.glued
 cases ts with
 | nil=>rfl
 | cons x r =>
  rw[Wo];show(⟨(List.foldl _ (toS x).cps (r.map toS))⟩:Str)=_;have:=C4 z r x;have e:(toS x).cps=x.toArray:=rfl;rw[e,this]
  cases r with
  | nil=>rfl
  | cons y r'=>rfl
def hZ(ts:List Tx):Nat:=(ts.map (·.length)).sum
def cR(z:Tx):D->Option S
 | .lst ds=>match fz ds with
  | some ts=>if hZ ts + ts.length * z.length<=16777216 then some (.pure (.str (ja z ts))) else none
  | none=>none
 | .tup ds=>match fz ds with
  | some ts=>if hZ ts + ts.length * z.length<=16777216 then some (.pure (.str (ja z ts))) else none
  | none=>none
 | _=>none
theorem Mz{K:W1}(z:Tx):jL (λx H Q=>sJ K (.str (toS z)) [x] H Q) (cR z):=by
 intro c σ δ H x d s Q k rx hp q;have key:∀ (a:Addr) (vs:List V) (ds:List D),x = .ref a->(bS K H a vs\/c_ K H a vs)->aA H (Av c σ δ) vs ds->(match fz ds with | some ts=>if hZ ts + ts.length * z.length<=16777216 then some (S.pure (.str (ja z ts))) else none | none=>none)=some s->sJ K (.str (toS z)) [x] H Q:=by
  intro a vs ds ea ha ra hp
  cases e:fz ds with
  | none=>rw[e] at hp; cases hp
  | some ts =>
   rw[e] at hp;simp only at hp;split at hp
   ·rename_i hz;simp only[Wd] at hp;subst hp;have:=n_ e ra;subst this;refine⟨toS z,a,ts.map toS,rfl,by rw[ea],?_,?_,?_⟩
    ·rw[WB]; exact ha
    ·rw[WB,Wy,i4];have:((λx:Str=>x.length) ∘ toS)=λx:Tx=>x.length:=funext λx=>i4 x
     rw[this];exact hz
    ·rw[My];exact q _ H (.refl k) (.str _)
   ·cases hp
 cases d with
 | lst ds =>
  obtain⟨a,vs,ea,ha,ra⟩:=rx.lst;exact key a vs ds ea (.inl (.inl ha)) ra hp
 | tup ds =>
  obtain⟨a,vs,ea,ha,ra⟩:=rx.tup;exact key a vs ds ea (.inr (.of ha)) ra hp
 | _=>simp[cR] at hp
theorem ql{x:Str}{j}{p0 apos ba:Pos}(z:Tx)(he:SB X c e fb)(hx:x=toS z:=by decide +kernel)
  (gY:Q6 (.Constant (.str x) j p0) "join" X.env (eval (.Constant (.str x) j p0) X.env)=eval (.Constant (.str x) j p0) X.env:=by rfl)
  (gZ:((WU ba (W7 [e] X.env)).all (λx=>!x.1) && (JL ba (Jc [] X.env)).all (λx=>x.1.isSome)
   && decide ([e].length + ([]:List Keyword).length + (if ([]:List Keyword).isEmpty then 0 else 1) < 30))=true:=by rfl)
  (dZ:(apos.endLine == ba.line)=true:=by rfl) (hs:W7 [e] X.env=(false,eval e X.env) :: W7 [] X.env:=by rfl) :
  SE X c (.Call (.Attribute (.Constant (.str x) j p0) "join" apos) [e] [] ba) (a_ (cR z) fb):=by
 subst hx;refine PE.weak (nU PySem.F.plainAttrs_str PySem.F.slot_str_join PySem.F.type_str_join LZ AN (dt he eU hs) gY gZ dZ hs rfl) λσ H Q h=>?_
 obtain⟨δ,k,q⟩:=qc (r:=λx H Q=>sJ X.K (.str (toS z)) [x] H Q) (Mz z) h;refine⟨?_,δ,k,q⟩;show("str" : String) = "str";rfl
end
inductive Fl where
 | next | ret (r:S) | brk | cont
abbrev DS:=Dl->Rs Fl
def fin(c:Fc)(D:Ends)(σ:St)(δ:Dl)(H:Hp):Fl->Prop
 | .next=>D.nx σ H
 | .ret r=>∀ v,aP c σ δ c.H₀ H v r->D.rt v H
 | .brk=>D.bk σ H
 | .cont=>D.ct σ H
def ei(c:Fc)(D:Ends)(σ:St)(δ:Dl)(H:Hp)(r:Rs Fl):Prop:=post c r λfl δ'=>∀ σ' H',aD c σ δ H σ' δ' H'->fin c D σ' δ' H' fl
def kq(c:Fc)(f:DS):TS:=λD σ H=>∃ δ,Ok c σ δ H/\ei c D σ δ H (f δ)
abbrev SS(X:Cx)(c:Fc)(st:Stmt)(f:DS):Prop:=PS X st (kq c f)
abbrev fV(X:Cx)(c:Fc)(st:List Stmt)(f:DS):Prop:=dC X st (kq c f)
theorem PS.weak{X:Cx}{st:Stmt}{t t':TS}(h:PS X st t)(w:∀ D σ H,t' D σ H->t D σ H):PS X st t':=λpins s σ H D I q=>h pins s σ H D I (w D σ H q)
theorem dC.weak{X:Cx}{st:List Stmt}{t t':TS}(h:dC X st t)(w:∀ D σ H,t' D σ H->t D σ H):dC X st t':=λpins s σ H D I q=>h pins s σ H D I (w D σ H q)
def cH:DS:=λδ=>.ok .next δ
def au(f g:DS):DS:=λδ=>(f δ).bind λfl δ1=>match fl with
 | .next=>g δ1
 | .ret r=>.ok (.ret r) δ1
 | .brk=>.ok .brk δ1
 | .cont=>.ok .cont δ1
def lg(f:DE):DS:=λδ=>(f δ).bind λ_ δ1=>.ok .next δ1
def bA(f:DE):DS:=λδ=>(f δ).bind λr δ1=>.ok (.ret r) δ1
def cO(t:DT)(f g:DS):DS:=λδ=>(t δ).bind λb δ1=>if b then f δ1 else g δ1
section
variable {X:Cx} {c:Fc} {st:Stmt} {C5:List Stmt} {e a:Expr} {f g:DS} {fe:DE} {t:DT} {pos pos':Pos}
theorem fM:fV X c [] cH:=dC.weak Ie λD σ H ⟨δ,k,q⟩=>q σ H (.refl k)
theorem aZ(h1:SS X c st f)(h2:fV X c C5 g):fV X c (st :: C5) (au f g):=dC.weak (rS h1 h2) λD σ H ⟨δ,k,q⟩=>by
 unfold au ei at q;rw[bc] at q;refine⟨δ,k,aQ q λfl δ1 q1 σ1 H1 a1=>?_⟩
 cases fl with
 | next=>exact⟨δ1,a1.ok,aQ q1 λVr δ2 q2 σ2 H2 a2=>q2 σ2 H2 (a1.trans a2)⟩
 | ret r=>exact q1 σ1 H1 a1
 | brk=>exact q1 σ1 H1 a1
 | cont=>exact q1 σ1 H1 a1
theorem bp(h1:SS X c st f):fV X c [st] f:=dC.weak (uM h1) λD σ H h=>h
theorem cE(he:SE X c e fe):SS X c (.Return (some e) pos) (bA fe):=PS.weak (AR he) λD σ H ⟨δ,k,q⟩=>by
 unfold bA ei at q;rw[bc] at q;exact⟨δ,k,aQ q λr δ1 q1 v H1 a1 r1=>q1 σ H1 a1 v r1.LG⟩
theorem fW{b1 b2:List Stmt}(ht:ST X c e t)(h1:fV X c b1 f)(h2:fV X c b2 g):SS X c (.If e b1 b2 pos) (cO t f g):=PS.weak (Ii ht h1 h2) λD σ H ⟨δ,k,q⟩=>by
 unfold cO ei at q;rw[bc] at q;refine⟨δ,k,aQ q λb δ1 q1 H1 a1=>?_⟩
 cases b with
 | true=>exact⟨δ1,a1.ok,aQ q1 λfl δ2 q2 σ2 H2 a2=>q2 σ2 H2 (a1.trans a2)⟩
 | false=>exact⟨δ1,a1.ok,aQ q1 λfl δ2 q2 σ2 H2 a2=>q2 σ2 H2 (a1.trans a2)⟩
theorem Own.qo(h:Own (σ.set i (some v)) (δ.set i (some r)) b):Own σ δ b\/(v = .ref b/\∃ d,r = .own d):=by
 obtain⟨j,d,e1,e2⟩:=h;by_cases hj:i=j
 ·subst hj;right
  rw[WO] at e1 e2;simp at e1 e2;obtain⟨_,h1⟩:=e1;obtain⟨_,h2⟩:=e2;exact⟨h2,d,h1⟩
 ·rw[W3 hj] at e1 e2;exact .inl ⟨j,d,e1,e2⟩
theorem Ok.set(x:aD c σ₀ δ₀ H₁ σ δ H)(hr:aP c σ δ H₁ H v r)(hp:∀ p ∈ c.pin,p.1≠i):aD c σ₀ δ₀ H₁ (σ.set i (some v)) (δ.set i (some r)) H:=by
 have k:=x.ok;-- all slots avoid the new address,too
 have all:∃ c':Fc,c'.H₀=c.H₀/\c'.pin=c.pin/\Ok c' σ δ H/\(∀ b,Av c (σ.set i (some v)) (δ.set i (some r)) b->Av c' σ δ b):=by
  cases r with
  | pure d =>
   refine⟨c,rfl,rfl,k,λb z=>?_⟩;rcases z with z | z
   ·exact .inl z
   ·rcases z.qo with z | ⟨_,d',e⟩
    ·exact .inr z
    ·cases e
  | own d =>
   obtain⟨a,ea,o,n,f,k2,_⟩:=hr;refine⟨c.plus a,rfl,rfl,k2,λb z=>?_⟩;rcases z with z | z
   ·exact .inl (.inl z)
   ·rcases z.qo with z | ⟨e,_⟩
    ·exact .inr z
    ·rw[ea] at e; cases e
     exact .inl (.inr rfl)
 obtain⟨c',eH,eP,k2,sub⟩:=all;have eI:∀ a,c'.I a ↔ c.I a:=λa=>by unfold Fc.I; rw[eP]
 have MA:Rep H (Av c (σ.set i (some v)) (δ.set i (some r))) v r.d\/∃ d,r = .own d:=by
  cases r with
  | pure d =>
   left
   refine Rep.aJ hr λb z=>?_
   rcases z with z | z
   ·exact .inl (.inl z)
   ·rcases z.qo with z | ⟨_,d',e⟩
    ·exact .inl (.inr z)
    ·cases e
  | own d=>exact .inr ⟨d,rfl⟩
 refine⟨⟨k.keep,k.bd,k.cN,by rw[WS,WS]; exact k.len,λj d e=>?_,λj d e=>?_,λj l a d d' e1 e2 e3 e4=>?_,λp hm=>?_⟩,x.keep,λb z=>?_,x.there⟩
 ·by_cases hj:i=j
  ·subst hj;rw[WO] at e;simp at e;obtain⟨hi,rfl⟩:=e;have dD:i < σ.length:=by rw[<- k.len]; exact hi
   rcases MA with h | ⟨_,h⟩
   ·exact⟨v,by rw[Wc dD],h⟩
   ·cases h
  ·rw[W3 hj] at e;obtain⟨w,e1,q⟩:=k2.slot j d e;exact⟨w,by rw[W3 hj]; exact e1,q.aJ λb z=>.inl (sub b z)⟩
 ·by_cases hj:i=j
  ·subst hj;rw[WO] at e;simp at e;obtain⟨hi,rfl⟩:=e;have dD:i < σ.length:=by rw[<- k.len]; exact hi
   obtain⟨a,ea,o,n,f,k3,_⟩:=hr;refine⟨a,by rw[Wc dD,ea],o.aJ λb z=>.inl ?_,.inr f,n⟩;rcases z with z | z
   ·exact .inl (.inl z)
   ·rcases z.qo with z | ⟨e,_⟩
    ·exact .inr z
    ·rw[ea] at e; cases e
     exact .inl (.inr rfl)
  ·rw[W3 hj] at e;obtain⟨a,e1,q,q2,q3⟩:=k.own j d e;obtain⟨a',e1',q',_,_⟩:=k2.own j d e;rw[e1] at e1'; cases e1'
   exact⟨a,by rw[W3 hj]; exact e1,q'.aJ λb z=>.inl (sub b z),q2,q3⟩
 ·by_cases hj:i=j
  ·subst hj;by_cases hl:i=l
   ·exact hl
   ·rw[W3 hl] at e2 e4;rw[WO] at e1 e3;simp at e1 e3;obtain⟨_,rfl⟩:=e1;obtain⟨_,rfl⟩:=e3;obtain⟨a',ea,o,n,f,k3,_⟩:=hr
    cases ea;exact absurd ⟨l,d',e2,e4⟩ (sy k3)
  ·rw[W3 hj] at e1 e3;by_cases hl:i=l
   ·subst hl;rw[WO] at e2 e4;simp at e2 e4;obtain⟨_,rfl⟩:=e2;obtain⟨_,rfl⟩:=e4;obtain⟨a',ea,o,n,f,k3,_⟩:=hr
    cases ea;exact absurd ⟨j,d,e1,e3⟩ (sy k3)
   ·rw[W3 hl] at e2 e4;exact k.inj j l a d d' e1 e2 e3 e4
 ·rw[W3 (Ne.symm (hp p hm))];exact k.pinned p hm
 ·rcases z.qo with z | ⟨e,d,ed⟩
  ·exact x.own b z
  ·subst ed;obtain⟨a,ea,_,_,_,_,hs⟩:=hr;rw[ea] at e; cases e
   exact .inr hs
abbrev DG:=S->Dl->Option Dl
def sW(c:Fc)(g:DG):TG:=λv σ H Q=>∃ σ₀ δ₀ H₁ δ r δ',aD c σ₀ δ₀ H₁ σ δ H/\aP c σ δ H₁ H v r/\g r δ=some δ'/\∀ σ',aD c σ₀ δ₀ H₁ σ' δ' H->Q σ' H
abbrev SG(X:Cx)(c:Fc)(tg:Expr)(g:DG):Prop:=PG X tg (sW c g)
def ae(np:List Nat)(i:Nat):DG:=λr δ=>if np.contains i then none else some (δ.set i (some r))
def Np(c:Fc)(np:List Nat):Prop:=∀ p ∈ c.pin,np.contains p.1=true
theorem v5(hp:Np c np)(h:sW c (ae np i) v σ H Q):rT i v σ H Q:=by
 obtain⟨σ₀,δ₀,H₁,δ,r,δ',x,rr,e,q⟩:=h;unfold ae at e;split at e
 ·cases e
 ·rename_i hn
  cases e;exact q _ (Ok.set x rr λp hm e=>hn (by rw[<- e]; exact hp p hm))
theorem PG.weak{tg:Expr}{t t':TG}(h:PG X tg t)(w:∀ v σ H Q,t' v σ H Q->t v σ H Q):PG X tg t':=λpins s σ H v u Q I r q=>h pins s σ H v u Q I r (w v σ H Q q)
theorem gW.weak{tg:List Expr}{t t':kQ}(h:gW X tg t)(w:∀ v σ H Q,t' v σ H Q->t v σ H Q):gW X tg t':=λpins s σ H v u Q I r q=>h pins s σ H v u Q I r (w v σ H Q q)
theorem cY{np:List Nat}{i:Nat}{x:Str}(hp:Np c np)(hN:X.N.Nodup)(hi:X.N[i]? = some x)(hx:Loc X.env.scope x)(hf:X.fn x=true\/X.env.scope.names.lookup x=some .local):SG X c (.Name x pos) (ae np i) :=
 PG.weak (AV hN hi hx hf) λv σ H Q h=>v5 hp h
abbrev iH:=List D->Dl->Option Dl
def MB(c:Fc)(g:iH):kQ:=λvs σ H Q=>∃ δ ds δ',Ok c σ δ H/\aA H (Av c σ δ) vs ds/\g ds δ=some δ'/\∀ σ',aD c σ δ H σ' δ' H->Q σ' H
abbrev sX(X:Cx)(c:Fc)(tg:List Expr)(g:iH):Prop:=gW X tg (MB c g)
def bQ:iH:=λds δ=>match ds with
 | []=>some δ
 | _=>none
def aM(g:DG)(gs:iH):iH:=λds δ=>match ds with
 | []=>none
 | d :: r=>(g (.pure d) δ).bind λδ1=>gs r δ1
theorem lh:sX X c [] bQ:=gW.weak AW λvs σ H Q ⟨δ,ds,δ',k,r,e,q⟩=>by
 cases ds with
 | nil =>
  cases e;have:vs=[]:=by have:=r.1; simpa using this
  exact⟨this,q σ (.refl k)⟩
 | cons d r=>cases e
theorem fX{es:List Expr}{g:DG}{gs:iH}(h1:SG X c e g)(h2:sX X c es gs)(hs:(Qc (e :: es) X.env).map (·.2)=assign e X.env :: (Qc es X.env).map (·.2):=by rfl):sX X c (e :: es) (aM g gs) :=
 gW.weak (AX h1 h2 hs) λvs σ H Q ⟨δ,ds,δ',k,r,e,q⟩=>by
  cases ds with
  | nil=>cases e
  | cons d ds =>
   cases vs with
   | nil=>have:=r.1; simp at this
   | cons v vs =>
    simp only[aM] at e
    cases e1:g (.pure d) δ with
    | none=>rw[e1] at e; cases e
    | some δ1 =>
     rw[e1] at e;refine⟨v,vs,rfl,σ,δ,H,δ,.pure d,δ1,.refl k,r.head,e1,λσ1 a1=>?_⟩;exact⟨δ1,ds,δ',a1.ok,aA.cU r.tail a1,e,λσ2 a2=>q σ2 (a1.trans a2)⟩
def bM(n:Nat)(gs:iH):DG:=λr δ=>match r.d with
 | .tup ds=>if ds.length=n then gs ds δ else none
 | _=>none
theorem lj{es:List Expr}{k:Nat}{gs:iH}{n:Nat}(hc:X.calm=true)(h:sX X c es gs)(hn:(Qc es X.env).length=n:=by rfl)(c9:(Qc es X.env).findIdx? (·.1)=none:=by rfl) :
  SG X c (.Tuple es k pos) (bM n gs):=PG.weak (AY hc h hn c9) λv σ H Q hw=>by
 obtain⟨σ₀,δ₀,H₁,δ,r,δ',x,rr,e,q⟩:=hw;have hb:=rr.b;unfold bM at e;generalize r.d=d at e hb
 cases d <;> first | (cases e; done) | skip
 rename_i ds;simp only at e;split at e
 ·rename_i hl;obtain⟨a,vs,ea,ha,ra⟩:=hb.tup;exact⟨a,vs,ea,.of ha,by rw[ra.1]; exact hl,δ,ds,δ',x.ok,ra,e,λσ' a1=>q σ' (x.trans a1)⟩
 ·cases e
def ar(f:DE)(g:DG):DS:=λδ=>(f δ).bind λr δ1=>match g r δ1 with
 | some δ2=>.ok .next δ2
 | none=>.stuck
theorem v7{g:DG}{D:Ends}{σ:St}{H:Hp}{te:TE}{tg:TG}(he:∀ σ H Q,tD c fe σ H Q->te σ H Q)(hg:∀ v σ H Q,sW c g v σ H Q->tg v σ H Q)(h:kq c (ar fe g) D σ H):px te tg D σ H:=by
 obtain⟨δ,k,q⟩:=h;unfold ar ei at q;rw[bc] at q;refine he _ _ _ ⟨δ,k,aQ q λr δ1 q1 v H1 a1 r1=>hg _ _ _ _ ?_⟩
 cases e:g r δ1 with
 | none=>rw[e] at q1; exact q1.elim
 | some δ2 =>
  rw[e] at q1;exact⟨σ,δ,H,δ1,r,δ2,a1,r1,e,λσ' a2=>q1 σ' H1 a2⟩
theorem C6{tg:Expr}{g:DG}(he:SE X c e fe)(hg:SG X c tg g)(hs:swapsWithSole [tg] e pos.line X.env=pure false:=by rfl)(hw:swappedStores [tg] e X.env=pure none:=by rfl)
  (h1:(Qc [tg] X.env).map (·.2)=[assign tg X.env]:=by rfl):SS X c (.Assign [tg] e pos) (ar fe g):=PS.weak (uO he hg hs hw h1) λD σ H h=>v7 (λ_ _ _ h=>h) (λ_ _ _ _ h=>h) h
theorem cj{np:List Nat}{i:Nat}{x:Str}(hp:Np c np)(hN:X.N.Nodup)(hi:X.N[i]? = some x)(hx:Loc X.env.scope x)(he:SE X c e fe)(hs:QQ e (some (.Name x pos')) pos.line X.env=pure false)(hf:X.fn x=true\/X.env.scope.names.lookup x=some .local) :
  SS X c (.Assign [.Name x pos'] e pos) (ar fe (ae np i)):=PS.weak (A5 hN hi hx he hs hf) λD σ H h=>v7 (λ_ _ _ h=>h) (λ_ _ _ _ h=>v5 hp h) h
theorem MC(he:SE X c e fe)(hs:∀ (x:Value),QQ e none pos.line X.env=pure false:=by intro _; rfl)(hd:True:=trivial)(h:PS X (.Expr e pos) (uN (tD c fe))):SS X c (.Expr e pos) (lg fe):=PS.weak h λD σ H ⟨δ,k,q⟩=>by
 unfold lg ei at q;rw[bc] at q;exact⟨δ,k,aQ q λr δ1 q1 v H1 a1 r1=>q1 σ H1 a1⟩
theorem Ok.C7{σ:St}{δ:Dl}{H:Hp}{i:Nat}{ds dS:List D}{a:Addr}{fL:List V}(k:Ok c σ δ H)(e:δ[i]? = some (some (.own (.lst ds))))(ea:σ[i]? = some (some (.ref a)))(r:aA H (Av c σ δ) fL dS) :
  aD c σ δ H σ (δ.set i (some (.own (.lst dS)))) (upd H a (.lst fL)):=by
 have hi:i < δ.length:=(W6.mp e).1;obtain⟨a',ck,oa,ia,nb⟩:=k.own i _ e;rw[ea] at ck; cases ck
 obtain⟨vs,ha,_⟩:=oa;have qp:Own σ δ a:=⟨i,_,e,ea⟩
 have v8:Av c σ δ a:=.inr qp;have qq:∀ b,Own σ (δ.set i (some (.own (.lst dS)))) b ↔ Own σ δ b:=λb=>by
  constructor
  ·rintro ⟨j,d,e1,e2⟩;by_cases hj:i=j
   ·subst hj;exact⟨i,_,e,e2⟩
   ·rw[W3 hj] at e1;exact⟨j,d,e1,e2⟩
  ·rintro ⟨j,d,e1,e2⟩;by_cases hj:i=j
   ·subst hj;exact⟨i,_,by rw[Wc hi],e2⟩
   ·exact⟨j,d,by rw[W3 hj]; exact e1,e2⟩
 have mL:∀ b,Av c σ (δ.set i (some (.own (.lst dS)))) b->Av c σ δ b:=λb z=>z.elim .inl λz=>.inr ((qq b).mp z)
 have ne:∀ b,¬ Av c σ δ b->b≠a:=λb n z=>n (by rw[z]; exact v8)
 have kp:∀ b o,H b=some o->¬ Av c σ δ b->upd H a (.lst fL) b=some o:=λb o h n=>by rw[aG (ne b n)]; exact h
 have jO:∀ b o,H b=some o->∃ o',upd H a (.lst fL) b=some o':=λb o h=>by
  by_cases hb:b=a
  ·exact⟨_,by rw[hb]; exact cg⟩
  ·exact⟨o,by rw[aG hb]; exact h⟩
 refine⟨⟨λb o h n=>?_,λb z=>?_,λb z=>?_,by rw[WS]; exact k.len,λj d h=>?_,λj d h=>?_,λj l b d d' h1 h2 h3 h4=>?_,k.pinned⟩,λb o h n=>?_,λb z=>.inl ((qq b).mp z),jO⟩
 ·have hb:b≠a:=λz=>by
   subst z;rcases ia with z | z
   ·exact n z
   ·rw[z] at h; cases h
  rw[aG hb];exact k.keep b o h n
 ·obtain⟨o,h⟩:=k.bd b z;exact jO b o h
 ·obtain⟨o,h⟩:=k.cN b z;exact jO b o h
 ·have hj:i≠j:=λz=>by subst z; rw[Wc hi] at h; cases h
  rw[W3 hj] at h;obtain⟨v,h1,h2⟩:=k.slot j d h;exact⟨v,h1,(h2.keep kp).aJ λb z=>.inl (mL b z)⟩
 ·by_cases hj:i=j
  ·subst hj;rw[Wc hi] at h
   cases h;exact⟨a,ea,⟨fL,cg,aA.aJ (aA.keep r kp) λb z=>.inl (mL b z)⟩,ia,nb⟩
  ·rw[W3 hj] at h;obtain⟨b,h1,h2,h3,h4⟩:=k.own j d h;have hb:b≠a:=λz=>by subst z; exact hj (k.inj i j b _ d e h ea h1)
   exact⟨b,h1,(h2.keep kp λo q=>by rw[aG hb]; exact q).aJ λb z=>.inl (mL b z),h3,h4⟩
 ·have f1:∃ d,δ[j]? = some (some (.own d)):=by
   by_cases hj:i=j
   ·subst hj; exact⟨_,e⟩
   ·rw[W3 hj] at h1; exact⟨d,h1⟩
  have f2:∃ d,δ[l]? = some (some (.own d)):=by
   by_cases hj:i=l
   ·subst hj; exact⟨_,e⟩
   ·rw[W3 hj] at h2; exact⟨d',h2⟩
  obtain⟨_,f1⟩:=f1;obtain⟨_,f2⟩:=f2;exact k.inj j l b _ _ f1 f2 h3 h4
 ·have hb:b≠a:=λz=>n (by rw[z]; exact qp)
  rw[aG hb]; exact h
def h_(δ:Dl)(i:Nat):Bool:=match δ[i]? with
 | some (some (.own (.lst _)))=>true
 | _=>false
def putL(δ:Dl)(i:Nat)(f:List D->Option (List D)):Rs Fl:=match δ[i]? with
 | some (some (.own (.lst ds)))=>match f ds with
  | some dS=>.ok .next (δ.set i (some (.own (.lst dS))))
  | none=>.stuck
 | _=>.stuck
theorem C8(h:h_ δ i=true):∃ ds,δ[i]? = some (some (.own (.lst ds))):=by
 unfold h_ at h;split at h
 ·rename_i ds e; exact⟨ds,e⟩
 ·cases h
theorem C9{δ:Dl}{i:Nat}{g:List D->Option (List D)}{kk:Fl->Dl->Prop}(h:post c (putL δ i g) kk):∃ ds dS,δ[i]? = some (some (.own (.lst ds)))/\g ds=some dS/\kk .next (δ.set i (some (.own (.lst dS)))):=by
 unfold putL at h;split at h
 ·rename_i ds e;split at h
  ·rename_i dS e2;exact⟨ds,dS,e,e2,h⟩
  ·exact h.elim
 ·exact h.elim
def dG(i:Nat)(f:DE):DS:=λδ=>if h_ δ i then(f δ).bind λr δ1=>putL δ1 i λds=>if ds.length < Wb then some (ds ++ [r.d]) else none else .stuck
theorem MD{i:Nat}{o:Expr}{p0 apos ba:Pos}(ho:PE X o (b_ i))(he:SE X c e fe)
  (h:PS X (.Expr (.Call (.Attribute o "append" apos) [e] [] ba) pos) (uN (BL X.K "list" BM (b_ i) (Bk (tD c fe) Bj)))):SS X c (.Expr (.Call (.Attribute o "append" apos) [e] [] ba) pos) (dG i fe) :=
 PS.weak h λD σ H ⟨δ,k,q⟩=>by
  unfold dG ei at q;split at q
  ·rename_i hown;obtain⟨ds0,e0⟩:=C8 hown;rw[bc] at q;obtain⟨a,ea,oa,_⟩:=k.own i _ e0;refine⟨.ref a,ea,?_,δ,k,aQ q λr δ1 q1 v H1 a1 r1=>?_⟩
   ·obtain⟨vs,ha,_⟩:=oa;exact .inl ⟨rfl,vs,.of ha⟩
   ·obtain⟨ds,dS,e1,e2,q2⟩:=C9 q1;split at e2
    ·rename_i hz
     cases e2;obtain⟨a',ck,oa1,_⟩:=a1.ok.own i _ e1;rw[ea] at ck; cases ck
     obtain⟨vs,ha,ra⟩:=id oa1;refine⟨a,vs,v,rfl,rfl,ha,by rw[ra.1]; exact hz,?_⟩;exact q2 σ _ (a1.trans (Ok.C7 a1.ok e1 ea (ra.append (.cons r1.rep .nil))))
    ·cases e2
  ·exact q.elim
def oj(i:Nat)(fi:DE)(fe:DE):DS:=λδ=>if h_ δ i then(fe δ).bind λr δ1=>(fi δ1).bind λk δ2=>match k with
 | .pure (.int j)=>putL δ2 i λds=>(dQ ds.length j).map λn=>ds.set n r.d
 | _=>.stuck else .stuck
theorem C_{i:Nat}{o ix:Expr}{fi:DE}{sp:Pos}(ho:PE X o (b_ i))(hi:SE X c ix fi)(he:SE X c e fe)
  (ha:∀ v,assign (.Subscript o ix sp) X.env v=(do
   let ov <- holding [v] (eval o X.env)
   let iv <- holding [v,ov] (eval ix X.env)
   standAt sp
   holding [v,ov,iv] (setItem ov iv v)
   release [v,ov,iv] []):=by intro _; rfl)
  (hs:swapsWithSole [.Subscript o ix sp] e pos.line X.env=pure false:=by rfl) (hw:swappedStores [.Subscript o ix sp] e X.env=pure none:=by rfl)
  (h1:(Qc [.Subscript o ix sp] X.env).map (·.2)=[assign (.Subscript o ix sp) X.env]:=by rfl):SS X c (.Assign [.Subscript o ix sp] e pos) (oj i fi fe) :=
 PS.weak (uO he (A0 ho hi BH ha) hs hw h1) λD σ H ⟨δ,k,q⟩=>by
  unfold oj ei at q;split at q
  ·rename_i hown;obtain⟨ds0,e0⟩:=C8 hown;rw[bc] at q;obtain⟨a,ea,_,_⟩:=k.own i _ e0;refine⟨δ,k,aQ q λr δ1 q1 v H1 a1 r1=>⟨.ref a,ea,δ1,a1.ok,?_⟩⟩;rw[bc] at q1;refine aQ q1 λkx δ2 q2 u H2 a2 r2=>?_
   cases kx with
   | own d=>exact q2.elim
   | pure d =>
    cases d <;> first | exact q2.elim | skip
    rename_i j
    cases r2;obtain⟨ds,dS,e1,e2,q3⟩:=C9 q2
    cases e3:dQ ds.length j with
    | none=>rw[e3] at e2; cases e2
    | some n =>
     rw[e3] at e2
     cases e2;obtain⟨a',ck,oa1,_⟩:=a2.ok.own i _ e1;rw[ea] at ck; cases ck
     obtain⟨vs,ha,ra⟩:=id oa1;refine⟨a,vs,j,n,rfl,rfl,ha,by rw[ra.1]; exact e3,?_⟩;exact q3 σ _ (a1.trans (a2.trans (Ok.C7 a2.ok e1 ea (ra.set (Rep.cU r1.rep a2) n))))
  ·exact q.elim
end
abbrev DI:=Dl->Rs (List D)
def ll(c:Fc)(σ:St)(δ:Dl)(H:Hp)(J:It)(ds:List D):Prop:=∀ H2,(∀ a o,H a=some o->¬ Own σ δ a->H2 a=some o)->J.stop ds.length H2 /\
 ∀ (i:Nat) d,ds[i]? = some d->J.go i H2/\∀ x H3,J.pA i H2 x H3->(H3=H2/\Rep H (Av c σ δ) x d) \/
  ∃ p vs es,H2 p=none/\H3=upd H2 p (.tup vs)/\x = .ref p/\d = .tup es/\aA H (Av c σ δ) vs es
def tI(c:Fc)(f:DI):TI:=λσ H R=>∃ δ,Ok c σ δ H/\post c (f δ) λds δ'=>∀ J H',aD c σ δ H σ δ' H'->ll c σ δ' H' J ds->R J H'
abbrev SI(X:Cx)(c:Fc)(tg iter:Expr)(f:DI):Prop:=PI X tg iter (tI c f)
theorem PI.weak(h:PI X tg iter t)(w:∀ σ H R,t' σ H R->t σ H R):PI X tg iter t':=λpins s σ H R I q=>h pins s σ H R I (w σ H R q)
section
variable {X:Cx} {c:Fc} {tg e:Expr} {fe:DE} {pos pp:Pos}
theorem ME(K:W1)(h:H a=some (.tup vs))(n:¬ Own σ δ a)(r:aA H (Av c σ δ) vs ds):ll c σ δ H (uP K a) ds:=by
 intro H2 kp;have h2:=kp a _ h n;refine⟨⟨vs,.of h2,by rw[r.1]; exact Wg _⟩,λi d e=>?_⟩;obtain⟨v,ev,rv⟩:=r.get e;refine⟨⟨vs,v,.of h2,ev⟩,λx H3 ⟨e3,y⟩=>.inl ⟨e3,?_⟩⟩;have:=y vs (.of h2);rw[ev] at this
 cases this;exact rv
def cm(lo:Int)(n:Nat):List D:=(WJ n).map λk:Nat=>D.int (lo + k)
theorem MF{lo:Int}{n i:Nat}{d:D}(h:(cm lo n)[i]? = some d):i < n/\d = .int (lo + i):=by
 unfold cm at h;rw[Ww] at h;by_cases hi:i < n
 ·rw[List.getElem?_range hi] at h;simp at h;exact⟨hi,h.symm⟩
 ·rw[WQ (by simpa using hi)] at h
  cases h
theorem MG(lo:Int)(n:Nat):ll c σ δ H (rX lo n) (cm lo n):=by
 intro H2 kp;refine⟨by show n<=(cm lo n).length; simp[cm],λi d e=>?_⟩;obtain⟨hi,rfl⟩:=MF e;exact⟨hi,λx H3 ⟨e3,ex⟩=>.inl ⟨e3,by rw[ex]; exact .int _⟩⟩
def om(j:Int):Bool:=decide (-(2 ^ 62)<=j) && decide (j < 2 ^ 62)
def dw(f:DE):DI:=λδ=>(f δ).bind λr δ1=>match r with
 | .pure (.int j)=>if om j then .ok (cm 0 j.toNat) δ1 else .stuck
 | _=>.stuck
theorem jP (hg:Gl X "range") (hm:X.mg "range" = none) (he:SE X c e fe) (hs:W7 [e] X.env=[(false,eval e X.env)]:=by rfl):SI X c tg (.Call (.Name "range" pp) [e] [] pos) (dw fe) :=
 PI.weak (Iu hg hm (dt he eU hs) hs) λσ H R ⟨δ,k,q⟩=>by
  unfold dw at q;rw[bc] at q;refine⟨δ,k,aQ q λr δ1 q1 v H1 a1 r1=>?_⟩
  cases r with
  | own d=>exact q1.elim
  | pure d =>
   cases d <;> first | exact q1.elim | skip
   rename_i j
   cases r1;simp only at q1;split at q1
   ·rename_i hj;unfold om at hj;simp only[Wr,decide_eq_true_eq] at hj;exact⟨j,rfl,hj.1,hj.2,q1 _ H1 a1 (MG 0 j.toNat)⟩
   ·exact q1.elim
def forL(g:DG)(b:DS):List D->DS
 | [],δ=>.ok .next δ
 | d :: r,δ=>match g (.pure d) δ with
  | none=>.stuck
  | some δ1=>(b δ1).bind λfl δ2=>match fl with
   | .next=>forL g b r δ2
   | .cont=>forL g b r δ2
   | .brk=>.ok .next δ2
   | .ret v=>.ok (.ret v) δ2
def bY(it:DI)(g:DG)(b:DS):DS:=λδ=>(it δ).bind λds δ1=>forL g b ds δ1
theorem Dc(io:ll c σ δ H J ds)(a:aD c σ δ H σ2 δ2 H2)(e:ds[i]? = some d)(y:J.pA i H2 x H3):aD c σ2 δ2 H2 σ2 δ2 H3/\Rep H3 (Av c σ2 δ2) x d:=by
 obtain⟨_,t⟩:=io H2 a.keep;rcases (t i d e).2 x H3 y with ⟨e3,r⟩ | ⟨p,vs,es,hp,e3,ex,ed,r⟩
 ·subst e3;exact⟨.refl a.ok,Rep.cU r a⟩
 ·subst e3 ex ed;have:=aP.mz a.ok (aA.cU r a) hp;exact⟨.alloc a.ok hp _,this⟩
theorem eZ{iter:Expr}{body:List Stmt}{it:DI}{g:DG}{b:DS}(hp:PassesOwn (model X.prog X.w) X.A X.env X.xe)(hc:X.calm=true)(hi:SI X c tg iter it)(hg:SG X c tg g)(hb:fV X c body b)
  (hs:∀ x,Qw iter X.env x=pure x:=by intro _; rfl):SS X c (.For tg iter body [] pos) (bY it g b):=PS.weak (A7 hp hc hi hg hb hs) λD σ H ⟨δ,k,q⟩=>by
 unfold bY ei at q;rw[bc] at q;refine⟨δ,k,aQ q λds δ1 q1 J H1 a1 io=>?_⟩;refine⟨λi m σ2 H2=>∃ δ2,m=ds.length - i/\i<=ds.length/\aD c σ δ1 H1 σ2 δ2 H2/\ei c D σ2 δ2 H2 (forL g b (ds.drop i) δ2),⟨ds.length,δ1,by simp,Qs _,.refl a1.ok,?_⟩,?_⟩
 ·rw[List.drop_zero];exact aQ q1 λfl δ2 q2 σ2 H2 a2=>q2 σ2 H2 (a1.trans a2)
 ·rintro i m σ2 H2 ⟨δ2,rfl,oq,a2,p2⟩;by_cases bH:i < ds.length
  ·right
   have e:ds[i]? = some ds[i]:=by simp[bH]
   rw[QJ bH] at p2;refine⟨((io H2 a2.keep).2 i _ e).1,λσ4 H4=>∃ δ4,aD c σ δ1 H1 σ4 δ4 H4/\ei c D σ4 δ4 H4 (forL g b (ds.drop (i + 1)) δ4),λσ4 H4 ⟨δ4,a4,p4⟩=>⟨ds.length - (i + 1),by omega,δ4,rfl,bH,a4,p4⟩,λx H3 y=>?_⟩;obtain⟨a3,r3⟩:=Dc io a2 e y;simp only[forL,ei] at p2
   cases eg:g (.pure ds[i]) δ2 with
   | none=>rw[eg] at p2; exact p2.elim
   | some δ3 =>
    rw[eg] at p2;refine⟨σ2,δ2,H3,δ2,.pure ds[i],δ3,.refl a3.ok,r3,eg,λσ3 a3'=>?_⟩;have p3:post c ((b δ3).bind λfl δ2=>match fl with
     | .next=>forL g b (ds.drop (i + 1)) δ2
     | .cont=>forL g b (ds.drop (i + 1)) δ2
     | .brk=>.ok .next δ2
     | .ret v=>.ok (.ret v) δ2) λfl δ'=>∀ σ' H',aD c σ2 δ2 H2 σ' δ' H'->fin c D σ' δ' H' fl:=p2
    rw[bc] at p3;have qr:aD c σ2 δ2 H2 σ3 δ3 H3:=a3.trans a3';refine⟨δ3,a3'.ok,aQ p3 λfl δ4 p4 σ4 H4 a4=>?_⟩;have lp:=qr.trans a4
    cases fl with
    | next=>exact⟨δ4,a2.trans lp,aQ p4 λfl δ5 p5 σ5 H5 a5=>p5 σ5 H5 (lp.trans a5)⟩
    | cont=>exact⟨δ4,a2.trans lp,aQ p4 λfl δ5 p5 σ5 H5 a5=>p5 σ5 H5 (lp.trans a5)⟩
    | brk=>exact p4 σ4 H4 lp
    | ret r=>exact p4 σ4 H4 lp
  ·left
   have v9:i=ds.length:=by omega
   subst v9;rw[List.drop_length] at p2;exact⟨(io H2 a2.keep).1,p2 σ2 H2 (.refl a2.ok)⟩
end
def bB(cs:List Nat)(δ:Dl):Dl:=cs.foldl (λδ i=>δ.set i none) δ
def cP(cs:List Nat)(δ₁ δ:Dl):Dl:=cs.foldl (λδ i=>match δ₁[i]? with | some o=>δ.set i o | none=>δ) δ
def bu(δ:Dl)(i:Nat):Bool:=match δ[i]? with
 | some (some (.own _))=>true
 | _=>false
theorem De(cs:List Nat):∀ δ:Dl,(bB cs δ).length=δ.length:=by
 induction cs with
 | nil=>intro δ; rfl
 | cons i r ih =>
  intro δ;show(bB r (δ.set i none)).length=_;rw[ih]; simp
theorem iI:∀ (cs:List Nat) (δ:Dl) (i:Nat) (v:S),(bB cs δ)[i]? = some (some v)->δ[i]? = some (some v)/\i ∉ cs:=by
 intro cs;induction cs with
 | nil=>intro δ i v h; exact⟨h,by simp⟩
 | cons j r ih =>
  intro δ i v h;have h':(bB r (δ.set j none))[i]? = some (some v):=h;obtain⟨h1,h2⟩:=ih _ i v h';by_cases e:j=i
  ·subst e;rw[WO] at h1;simp at h1
  ·rw[W3 e] at h1;exact⟨h1,by simp only[Wl,not_or]; exact⟨Ne.symm e,h2⟩⟩
theorem kr:∀ (cs:List Nat) (σ:St) (i:Nat),i ∉ cs->(bJ cs σ)[i]? = σ[i]?:=by
 intro cs;induction cs with
 | nil=>intro σ i _; rfl
 | cons j r ih =>
  intro σ i h;simp only[Wl,not_or] at h;show(bJ r (σ.set j none))[i]? = _;rw[ih _ _ h.2,W3 (Ne.symm h.1)]
theorem MH:∀ (cs:List Nat) (δ:Dl) (i:Nat),i ∉ cs->(bB cs δ)[i]? = δ[i]?:=by
 intro cs;induction cs with
 | nil=>intro σ i _; rfl
 | cons j r ih =>
  intro σ i h;simp only[Wl,not_or] at h;show(bB r (σ.set j none))[i]? = _;rw[ih _ _ h.2,W3 (Ne.symm h.1)]
theorem MI(cs:List Nat)(δ₁:Dl):∀ δ:Dl,(cP cs δ₁ δ).length=δ.length:=by
 induction cs with
 | nil=>intro δ; rfl
 | cons i r ih =>
  intro δ;unfold cP;rw[QO];have:=ih (match δ₁[i]? with | some o=>δ.set i o | none=>δ);unfold cP at this;rw[this]
  cases δ₁[i]? <;> simp
theorem sY:∀ (cs:List Nat) (δ₁ δ:Dl) (i:Nat),i ∉ cs->(cP cs δ₁ δ)[i]? = δ[i]?:=by
 intro cs δ₁;induction cs with
 | nil=>intro δ i _; rfl
 | cons j r ih =>
  intro δ i h;simp only[Wl,not_or] at h;unfold cP;rw[QO];have:=ih (match δ₁[j]? with | some o=>δ.set j o | none=>δ) i h.2;unfold cP at this;rw[this]
  cases δ₁[j]? with
  | none=>rfl
  | some o=>simp only; rw[W3 (Ne.symm h.1)]
theorem v_:∀ (cs:List Nat) (δ₁ δ:Dl) (i:Nat),δ₁.length=δ.length->i ∈ cs->(cP cs δ₁ δ)[i]? = δ₁[i]?:=by
 intro cs δ₁;induction cs with
 | nil=>intro δ i _ h; simp at h
 | cons j r ih =>
  intro δ i hl h;unfold cP;rw[QO];have kl:δ₁.length=(match δ₁[j]? with | some o=>δ.set j o | none=>δ).length:=by cases δ₁[j]? <;> simp[hl]
  by_cases hr:i ∈ r
  ·have:=ih (match δ₁[j]? with | some o=>δ.set j o | none=>δ) i kl hr;unfold cP at this;exact this
  ·have e:i=j:=by
    rcases Wl.mp h with e | e
    ·exact e
    ·exact absurd e hr
   subst e;have:=sY r δ₁ (match δ₁[i]? with | some o=>δ.set i o | none=>δ) i hr;unfold cP at this;rw[this]
   cases e:δ₁[i]? with
   | none =>
    simp only;have:=List.getElem?_eq_none_iff.mp e;exact WQ (by omega)
   | some o =>
    simp only;have:=(W6.mp e).1;rw[Wc (by omega)]
section
variable {c:Fc} {σ:St} {δ δ':Dl} {H H':Hp} {l:Addr} {cs:List Nat}
theorem Ok.less(k:Ok (c.plus l) σ δ H):Ok c σ δ H:=by
 have sub:∀ b,Av c σ δ b->Av (c.plus l) σ δ b:=λb z=>z.elim (λz=>.inl (.inl z)) .inr
 refine⟨k.keep,λa z=>k.bd a (.inl z),k.cN,k.len,λi d e=>?_,λi d e=>?_,k.inj,k.pinned⟩
 ·obtain⟨v,h1,h2⟩:=k.slot i d e;exact⟨v,h1,h2.aJ λb z=>.inl (sub b z)⟩
 ·obtain⟨a,h1,h2,h3,h4⟩:=k.own i d e;exact⟨a,h1,h2.aJ λb z=>.inl (sub b z),h3,λz=>h4 (.inl z)⟩
theorem Ok.MJ(k:Ok c σ δ H)(hb:c.B l)(h0:c.H₀ l=none)(o:HO):Ok c σ δ (upd H l o):=by
 have kp:∀ b w,H b=some w->¬ Av c σ δ b->upd H l o b=some w:=λb w e n=>by
  rw[aG (λz=>n (by rw[z]; exact .inl hb))]; exact e
 have jO:∀ b w,H b=some w->∃ w',upd H l o b=some w':=λb w h=>by
  by_cases hb:b=l
  ·exact⟨_,by rw[hb]; exact cg⟩
  ·exact⟨w,by rw[aG hb]; exact h⟩
 refine⟨λa w e n=>?_,λa z=>?_,λa z=>?_,k.len,λi d e=>?_,λi d e=>?_,k.inj,k.pinned⟩
 ·have:a≠l:=λz=>by rw[z,h0] at e; cases e
  rw[aG this]; exact k.keep a w e n
 ·obtain⟨w,e⟩:=k.bd a z; exact jO a w e
 ·obtain⟨w,e⟩:=k.cN a z; exact jO a w e
 ·obtain⟨v,h1,h2⟩:=k.slot i d e;exact⟨v,h1,h2.keep kp⟩
 ·obtain⟨a,h1,h2,h3,h4⟩:=k.own i d e;have:a≠l:=λz=>h4 (by rw[z]; exact hb)
  exact⟨a,h1,h2.keep kp λw q=>by rw[aG this]; exact q,h3,h4⟩
theorem Own.bJ(h:Own (bJ cs σ) (bB cs δ) l):Own σ δ l:=by
 obtain⟨i,d,e1,e2⟩:=h;exact⟨i,d,(iI cs δ i _ e1).1,(kZ cs σ i _ e2).1⟩
theorem Ok.bJ(k:Ok c σ δ H)(hp:∀ p ∈ c.pin,p.1 ∉ cs):Ok c (L2.bJ cs σ) (bB cs δ) H:=by
 have sub:∀ b,Av c (L2.bJ cs σ) (bB cs δ) b->Av c σ δ b:=λb z=>z.elim .inl λz=>.inr z.bJ
 refine⟨k.keep,k.bd,k.cN,by rw[De,sq]; exact k.len,λi d e=>?_,λi d e=>?_,λi j a d d' e1 e2 e3 e4=>?_,λp hm=>?_⟩
 ·obtain⟨e',hi⟩:=iI cs δ i _ e;obtain⟨v,h1,h2⟩:=k.slot i d e';exact⟨v,by rw[kr cs σ i hi]; exact h1,h2.aJ λb z=>.inl (sub b z)⟩
 ·obtain⟨e',hi⟩:=iI cs δ i _ e;obtain⟨a,h1,h2,h3⟩:=k.own i d e';exact⟨a,by rw[kr cs σ i hi]; exact h1,h2.aJ λb z=>.inl (sub b z),h3⟩
 ·exact k.inj i j a d d' (iI cs δ i _ e1).1 (iI cs δ j _ e2).1 (kZ cs σ i _ e3).1 (kZ cs σ j _ e4).1
 ·rw[kr cs σ _ (hp p hm)]; exact k.pinned p hm
theorem aD.back(k:Ok c₀ σ δ H)(wa:c.pin=c₀.pin)(hB:∀ b,c.B b->c₀.B b\/H b=none)(jD:cs.any (bu δ)=false)(x:aD c (L2.bJ cs σ) (bB cs δ) H (L2.bJ cs σ) δ' H'):aD c σ δ H σ (cP cs δ δ') H':=by
 have len:δ.length=δ'.length:=by
  have:=x.ok.len;rw[sq] at this;rw[this]; exact k.len
 have pk:∀ i d,i ∈ cs->δ[i]?≠some (some (.own d)):=λi d hi e=>by
  have:=List.any_eq_false.mp jD i hi;unfold bu at this;rw[e] at this;simp at this
 have ownOut:∀ i d,(cP cs δ δ')[i]? = some (some (.own d))->i ∉ cs/\δ'[i]? = some (some (.own d)):=λi d e=>by
  by_cases hi:i ∈ cs
  ·rw[v_ cs δ δ' i len hi] at e;exact absurd e (pk i d hi)
  ·rw[sY cs δ δ' i hi] at e;exact⟨hi,e⟩
 have sub:∀ b,Own σ (cP cs δ δ') b->Own (L2.bJ cs σ) δ' b:=λb ⟨i,d,e1,e2⟩=>by
  obtain⟨hi,e⟩:=ownOut i d e1;exact⟨i,d,e,by rw[kr cs σ i hi]; exact e2⟩
 have jQ:∀ b,Av c σ (cP cs δ δ') b->Av c (L2.bJ cs σ) δ' b:=λb z=>z.elim .inl λz=>.inr (sub b z)
 have ownEq:∀ b,Own σ δ b->Own (L2.bJ cs σ) (bB cs δ) b:=λb ⟨i,d,e1,e2⟩=>by
  have hi:i ∉ cs:=λz=>pk i d z e1
  exact⟨i,d,by rw[MH cs δ i hi]; exact e1,by rw[kr cs σ i hi]; exact e2⟩
 refine⟨⟨x.ok.keep,x.ok.bd,x.ok.cN,by rw[MI,<- len]; exact k.len,λi d e=>?_,λi d e=>?_,λi j a d d' e1 e2 e3 e4=>?_,by rw[wa]; exact k.pinned⟩,λa o e n=>?_,λa z=>?_,x.there⟩
 ·by_cases hi:i ∈ cs
  ·rw[v_ cs δ δ' i len hi] at e;obtain⟨v,h1,h2⟩:=k.slot i d e;have h3:Rep H (Av c (L2.bJ cs σ) (bB cs δ)) v d:=h2.aJ λb z=>by
    rcases z with z | z
    ·exact(hB b z).elim (λz=>.inl (.inl z)) .inr
    ·exact .inl (.inr z.bJ)
   exact⟨v,h1,(Rep.cU h3 x).aJ λb z=>.inl (jQ b z)⟩
  ·rw[sY cs δ δ' i hi] at e;obtain⟨v,h1,h2⟩:=x.ok.slot i d e;exact⟨v,(kZ cs σ i v h1).1,h2.aJ λb z=>.inl (jQ b z)⟩
 ·obtain⟨hi,e'⟩:=ownOut i d e;obtain⟨a,h1,h2,h3⟩:=x.ok.own i d e';exact⟨a,(kZ cs σ i _ h1).1,h2.aJ λb z=>.inl (jQ b z),h3⟩
 ·obtain⟨hi,f1⟩:=ownOut i d e1;obtain⟨hj,f2⟩:=ownOut j d' e2;exact x.ok.inj i j a d d' f1 f2 (by rw[kr cs σ i hi]; exact e3) (by rw[kr cs σ j hj]; exact e4)
 ·exact x.keep a o e λz=>n z.bJ
 ·rcases x.own a (sub a z) with q | q
  ·exact .inl q.bJ
  ·exact .inr q
end
def cb(cs:List Nat)(g:DG)(t:DT)(el:DE):List D->Dl->List D->Rs (List D)
 | [],δ,acc=>.ok acc δ
 | d :: r,δ,acc=>match g (.pure d) δ with
  | none=>.stuck
  | some δ1=>(t δ1).bind λb δ2=>if b then(el δ2).bind λx δ3=>if acc.length < Wb then cb cs g t el r (bB cs δ3) (acc ++ [x.d]) else .stuck
   else cb cs g t el r (bB cs δ2) acc
def cf(cs:List Nat)(it:DI)(g:DG)(t:DT)(el:DE):DE:=λδ=>(it δ).bind λds δ1=>if cs.any (bu δ1) then .stuck else
 (cb cs g t el ds (bB cs δ1) []).bind λacc δ2=>.ok (.own (.lst acc)) (cP cs δ1 δ2)
def bq:DT:=λδ=>.ok true δ
abbrev qt(X:Cx)(c:Fc)(ifs:List Expr)(t:DT):Prop:=nX X ifs (tT c t)
theorem ib{X:Cx}{c:Fc}:qt X c [] bq:=λpins s σ H Q I ⟨δ,k,q⟩=>Lw pins s σ H Q I (q H (.refl k))
theorem MK{X:Cx}{c:Fc}{e:Expr}{t:DT}(h:ST X c e t):qt X c [e] t:=Lx h
section
variable {X:Cx} {c:Fc} {cs:List Nat} {tg iter elt:Expr} {ifs:List Expr} {scope:Scope} {pos:Pos} {it:DI} {g:DG} {t:DT} {el:DE}
theorem aD.clear(x:aD c (L2.bJ cs σ) δ H σ4 δ4 H4)(le:Le (L2.bJ cs σ) σ4)(hp:∀ p ∈ c.pin,p.1 ∉ cs)(hs:∀ (i:Nat) v,σ4[i]? = some (some v)->i ∉ cs->σ[i]? = some (some v)):aD c (L2.bJ cs σ) δ H (L2.bJ cs σ) (bB cs δ4) H4:=by
 have eq:∀ i,i ∉ cs->∀ v,σ4[i]? = some (some v)->(L2.bJ cs σ)[i]? = some (some v):=λi hi v e=>by rw[kr cs σ i hi]; exact hs i v e hi
 have own:∀ b,Own (L2.bJ cs σ) (bB cs δ4) b->Own σ4 δ4 b:=λb ⟨i,d,e1,e2⟩=>by
  exact⟨i,d,(iI cs δ4 i _ e1).1,le.2 i _ e2⟩
 have sub:∀ b,Av c (L2.bJ cs σ) (bB cs δ4) b->Av c σ4 δ4 b:=λb z=>z.elim .inl λz=>.inr (own b z)
 have k:=x.ok;refine⟨⟨k.keep,k.bd,k.cN,by rw[De,k.len]; exact le.1,λi d e=>?_,λi d e=>?_,λi j a d d' e1 e2 e3 e4=>?_,λp hm=>?_⟩,x.keep,λa z=>x.own a (own a z),x.there⟩
 ·obtain⟨e',hi⟩:=iI cs δ4 i _ e;obtain⟨v,h1,h2⟩:=k.slot i d e';exact⟨v,eq i hi v h1,h2.aJ λb z=>.inl (sub b z)⟩
 ·obtain⟨e',hi⟩:=iI cs δ4 i _ e;obtain⟨a,h1,h2,h3⟩:=k.own i d e';exact⟨a,eq i hi _ h1,h2.aJ λb z=>.inl (sub b z),h3⟩
 ·exact k.inj i j a d d' (iI cs δ4 i _ e1).1 (iI cs δ4 j _ e2).1 (le.2 i _ e3) (le.2 j _ e4)
 ·exact eq p.1 (hp p hm) _ (k.pinned p hm)
def Out(cs:List Nat)(σ σ':St):Prop:=σ'.length=σ.length/\∀ i,i ∉ cs->σ'[i]? = σ[i]?
theorem Out.trans(a:Out cs σ σ')(b:Out cs σ' σ''):Out cs σ σ'':=⟨b.1.trans a.1,λi h=>(b.2 i h).trans (a.2 i h)⟩
def ot(cs:List Nat)(c:Fc)(g:DG):TG:=λv σ H Q=>∃ σ₀ δ₀ H₁ δ r δ',aD c σ₀ δ₀ H₁ σ δ H/\aP c σ δ H₁ H v r/\g r δ=some δ'/\∀ σ',aD c σ₀ δ₀ H₁ σ' δ' H->Out cs σ σ'->Q σ' H
abbrev ou(X:Cx)(c:Fc)(cs:List Nat)(tg:Expr)(g:DG):Prop:=PG X tg (ot cs c g)
theorem fY{np:List Nat}{i:Nat}{x:Str}(hp:Np c np)(hN:X.N.Nodup)(hi:X.N[i]? = some x)(hx:Loc X.env.scope x)(hf:X.fn x=true\/X.env.scope.names.lookup x=some .local)(hc:i ∈ cs):ou X c cs (.Name x pos) (ae np i) :=
 PG.weak (AV hN hi hx hf) λv σ H Q ⟨σ₀,δ₀,H₁,δ,r,δ',x,rr,e,q⟩=>by
  unfold ae at e;split at e
  ·cases e
  ·rename_i hn
   cases e;refine q _ (Ok.set x rr λp hm e=>hn (by rw[<- e]; exact hp p hm)) ⟨by simp,λj hj=>?_⟩;rw[W3 (λz=>hj (by rw[<- z]; exact hc))]
def ML(cs:List Nat)(c:Fc)(g:iH):kQ:=λvs σ H Q=>∃ δ ds δ',Ok c σ δ H/\aA H (Av c σ δ) vs ds/\g ds δ=some δ'/\∀ σ',aD c σ δ H σ' δ' H->Out cs σ σ'->Q σ' H
abbrev sZ(X:Cx)(c:Fc)(cs:List Nat)(tg:List Expr)(g:iH):Prop:=gW X tg (ML cs c g)
theorem Df:sZ X c cs [] bQ:=gW.weak AW λvs σ H Q ⟨δ,ds,δ',k,r,e,q⟩=>by
 cases ds with
 | nil =>
  cases e;have:vs=[]:=by have:=r.1; simpa using this
  exact⟨this,q σ (.refl k) ⟨rfl,λ_ _=>rfl⟩⟩
 | cons d r=>cases e
theorem s_{e:Expr}{es:List Expr}{g:DG}{gs:iH}(h1:ou X c cs e g)(h2:sZ X c cs es gs)(hs:(Qc (e :: es) X.env).map (·.2)=assign e X.env :: (Qc es X.env).map (·.2):=by rfl):sZ X c cs (e :: es) (aM g gs) :=
 gW.weak (AX h1 h2 hs) λvs σ H Q ⟨δ,ds,δ',k,r,e,q⟩=>by
  cases ds with
  | nil=>cases e
  | cons d ds =>
   cases vs with
   | nil=>have:=r.1; simp at this
   | cons v vs =>
    simp only[aM] at e
    cases e1:g (.pure d) δ with
    | none=>rw[e1] at e; cases e
    | some δ1 =>
     rw[e1] at e;refine⟨v,vs,rfl,σ,δ,H,δ,.pure d,δ1,.refl k,r.head,e1,λσ1 a1 o1=>?_⟩;exact⟨δ1,ds,δ',a1.ok,aA.cU r.tail a1,e,λσ2 a2 o2=>q σ2 (a1.trans a2) (o1.trans o2)⟩
theorem Dg{es:List Expr}{k:Nat}{gs:iH}{n:Nat}(hc:X.calm=true)(h:sZ X c cs es gs)(hn:(Qc es X.env).length=n:=by rfl)(c9:(Qc es X.env).findIdx? (·.1)=none:=by rfl) :
  ou X c cs (.Tuple es k pos) (bM n gs):=PG.weak (AY hc h hn c9) λv σ H Q hw=>by
 obtain⟨σ₀,δ₀,H₁,δ,r,δ',x,rr,e,q⟩:=hw;have hb:=rr.b;unfold bM at e;generalize r.d=d at e hb
 cases d <;> first | (cases e; done) | skip
 rename_i ds;simp only at e;split at e
 ·rename_i hl;obtain⟨a,vs,ea,ha,ra⟩:=hb.tup;exact⟨a,vs,ea,.of ha,by rw[ra.1]; exact hl,δ,ds,δ',x.ok,ra,e,λσ' a1 o1=>q σ' (x.trans a1) o1⟩
 ·cases e
theorem aD.less(x:aD (c.plus l) σ δ H σ' δ' H'):aD c σ δ H σ' δ' H':=⟨x.ok.less,x.keep,x.own,x.there⟩
theorem wb(MM:∀ σ H R,tI c it σ H R->wi σ H R)(hg:∀ l v σ H Q,ot cs (c.plus l) g v σ H Q->gt v σ H Q)(ht:∀ l σ H Q,tT (c.plus l) t σ H Q->tt σ H Q)(he:∀ l σ H Q,tD (c.plus l) el σ H Q->te σ H Q)
  (hp:∀ p ∈ c.pin,p.1 ∉ cs) (h:tD c (cf cs it g t el) σ H Q):su cs wi gt tt te σ H Q:=by
 obtain⟨δ,k,q⟩:=h;unfold cf at q;rw[bc] at q;refine MM _ _ _ ⟨δ,k,aQ q λds δ1 q1 J H1 a1 io=>?_⟩;intro l hl;split at q1
 ·exact q1.elim
 ·rename_i jD;have Dh:cs.any (bu δ1)=false:=by simpa using jD
  rw[bc] at q1;have k1:=a1.ok;have kp:=k1.plus hl (.lst []);have k0:Ok (c.plus l) (L2.bJ cs σ) (bB cs δ1) (upd H1 l (.lst [])):=kp.bJ hp;have up:∀ a w,H1 a=some w->upd H1 l (.lst []) a=some w:=λa w e=>by
   rw[aG (fP e hl)]; exact e
  have h0:c.H₀ l=none:=k1.kj hl;-- the walked things,as the block sees them
  have wc:ll (c.plus l) (L2.bJ cs σ) (bB cs δ1) H1 J ds:=by
   intro H2 we;obtain⟨s1,s2⟩:=io H2 λa o e n=>we a o e λz=>n z.bJ
   have cv:∀ {x:V} {d:D},Rep H1 (Av c σ δ1) x d->Rep H1 (Av (c.plus l) (L2.bJ cs σ) (bB cs δ1)) x d:=λ{x d} r =>
    r.aJ λb z=>by
     rcases z with (z | z) | z
     ·exact .inl (.inl z)
     ·exact .inr (by rw[z]; exact hl)
     ·exact .inl (.inr z.bJ)
   refine⟨s1,λi d e=>⟨(s2 i d e).1,λx H3 y=>?_⟩⟩;rcases (s2 i d e).2 x H3 y with ⟨e3,r⟩ | ⟨p,vs,es,hp,e3,ex,ed,r⟩
   ·exact .inl ⟨e3,cv r⟩
   ·exact .inr ⟨p,vs,es,hp,e3,ex,ed,r.1,λi v d e1 e2=>cv (r.2 i v d e1 e2)⟩
  let Fin:List D->Dl->Prop:=λacc δ'=>∀ H' vs,aD (c.plus l) (L2.bJ cs σ) (bB cs δ1) H1 (L2.bJ cs σ) δ' H'->H' l=some (.lst vs)->aA H' (Av (c.plus l) (L2.bJ cs σ) δ') vs acc->Q (.ref l) H'
  have q2:post c (cb cs g t el ds (bB cs δ1) []) Fin:=aQ q1 λacc δ2 q2 H' vs x hv r=>by
   have b1:aD (c.plus l) σ δ1 H1 σ (cP cs δ1 δ2) H':=aD.back k1 rfl (λb z=>z.elim .inl λz=>.inr (by rw[z]; exact hl)) Dh x;have b2:aD c σ δ1 H1 σ (cP cs δ1 δ2) H':=b1.less;have len:δ1.length=δ2.length:=by
    have:=x.ok.len;rw[sq] at this;rw[this]; exact k1.len
   have MN:H l=none:=by
    cases e:H l with
    | none=>rfl
    | some o =>
     obtain⟨o',e'⟩:=a1.there l o e;rw[hl] at e'; cases e'
   refine q2 _ H' (a1.trans b2) ⟨l,rfl,⟨vs,hv,aA.aJ r λb z=>.inl ?_⟩,λz=>k1.gC hl (.inl z),h0,b1.ok,MN⟩;rcases z with z | ⟨i,d,e1,e2⟩
   ·exact .inl z
   ·have hi:i ∉ cs:=λhi=>by
     rw[v_ cs δ1 δ2 i len hi] at e1;have:=List.any_eq_false.mp Dh i hi;unfold bu at this;rw[e1] at this;simp at this
    rw[sY cs δ1 δ2 i hi] at e1;exact .inr ⟨i,d,e1,by rw[kr cs σ i hi]; exact e2⟩
  refine⟨λi m H2=>∃ δ2 acc vs,m=ds.length - i/\i<=ds.length/\aD (c.plus l) (L2.bJ cs σ) (bB cs δ1) H1 (L2.bJ cs σ) δ2 H2/\H2 l=some (.lst vs)/\aA H2 (Av (c.plus l) (L2.bJ cs σ) δ2) vs acc /\
   post c (cb cs g t el (ds.drop i) δ2 acc) Fin,⟨ds.length,bB cs δ1,[],[],by simp,Qs _,⟨k0,λa w e _=>up a w e,λa z=>.inl z,λa w e=>⟨w,up a w e⟩⟩,cg,.nil,by rw[List.drop_zero]; exact q2⟩,?_⟩
  rintro i m H2 ⟨δ2,acc,vs,rfl,oq,a2,hv,rv,p2⟩;by_cases bH:i < ds.length
  ·right
   have e:ds[i]? = some ds[i]:=by simp[bH]
   rw[QJ bH] at p2;refine⟨((wc H2 a2.keep).2 i _ e).1,λx H3 y=>hg l _ _ _ _ ?_⟩;obtain⟨a3,r3⟩:=Dc wc a2 e y;simp only[cb] at p2
   cases eg:g (.pure ds[i]) δ2 with
   | none=>rw[eg] at p2; exact p2.elim
   | some δ3 =>
    rw[eg] at p2;have p3:post c ((t δ3).bind λb δ2=>if b then(el δ2).bind λx δ3=>if acc.length < Wb then cb cs g t el (ds.drop (i + 1)) (bB cs δ3) (acc ++ [x.d]) else .stuck
     else cb cs g t el (ds.drop (i + 1)) (bB cs δ2) acc) Fin:=p2
    refine⟨L2.bJ cs σ,δ2,H3,δ2,.pure ds[i],δ3,.refl a3.ok,r3,eg,λσ4 a4 o4=>?_⟩;have le:Le (L2.bJ cs σ) σ4:=⟨o4.1,λj v ej=>by
     rw[o4.2 j (kZ cs σ j v ej).2]; exact ej⟩
    have hs:∀ (j:Nat) v,σ4[j]? = some (some v)->j ∉ cs->σ[j]? = some (some v):=λj v ej hj=>by
     rw[o4.2 j hj] at ej;exact(kZ cs σ j v ej).1
    refine⟨le,ht l _ _ _ ⟨δ3,a4.ok,?_⟩⟩;rw[bc] at p3;have Di:∀ p ∈ (c.plus l).pin,p.1 ∉ cs:=hp;have lp:=a2.trans (a3.trans a4);have ln:∀ {σ':St} {δ':Dl} {H':Hp},Ok (c.plus l) σ' δ' H'->¬ Own σ' δ' l:=λ{σ' δ' H'} k=>sy k
    have MO:post (c.plus l) (t δ3) λb δ5=>post c (if b then(el δ5).bind λx δ3=>if acc.length < Wb then cb cs g t el (ds.drop (i + 1)) (bB cs δ3) (acc ++ [x.d]) else .stuck
     else cb cs g t el (ds.drop (i + 1)) (bB cs δ5) acc) Fin:=p3
    refine aQ MO λb δ5 p5 H5 a5=>?_
    have Dj:=lp.trans a5;have MP:H3 l=some (.lst vs):=a3.keep l _ hv (ln a2.ok);have Dk:H5 l=some (.lst vs):=a5.keep l _ MP (ln a4.ok);have Dn:=aA.cU (aA.cU (aA.cU rv a3) a4) a5
    cases b with
    | false =>
     have c5:=Dj.clear le Di hs;refine⟨ds.length - (i + 1),by omega,bB cs δ5,acc,vs,rfl,bH,c5,Dk,aA.aJ Dn λb z=>.inl ?_,p5⟩;exact z.elim .inl λ⟨j,d,e1,e2⟩=>.inr ⟨j,d,(iI cs δ5 j _ e1).1,le.2 j _ e2⟩
    | true =>
     have Dp:post c ((el δ5).bind λx δ3=>if acc.length < Wb then cb cs g t el (ds.drop (i + 1)) (bB cs δ3) (acc ++ [x.d]) else .stuck) Fin:=p5;rw[bc] at Dp;refine he l _ _ _ ⟨δ5,a5.ok,?_⟩;have p6:post (c.plus l) (el δ5) λx δ6=>post c (if acc.length < Wb then cb cs g t el (ds.drop (i + 1)) (bB cs δ6) (acc ++ [x.d]) else .stuck) Fin:=Dp
     refine aQ p6 λx δ6 p7 v H6 a6 r6=>?_
     split at p7
     ·rename_i hz;have MQ:=Dj.trans a6;have MR:H6 l=some (.lst vs):=a6.keep l _ Dk (ln a5.ok);have Dq:=aA.cU Dn a6;have rr:aA H6 (Av (c.plus l) σ4 δ6) (vs ++ [v]) (acc ++ [x.d]):=Dq.append (.cons r6.rep .nil);have c6:=MQ.clear le Di hs;have tf:∀ b o,H6 b=some o->¬ Av (c.plus l) σ4 δ6 b->upd H6 l (.lst (vs ++ [v])) b=some o:=λb o e n=>by
       rw[aG (λz=>n (by rw[z]; exact .inl (.inr rfl)))]; exact e
      have MS:∀ b,Av (c.plus l) (L2.bJ cs σ) (bB cs δ6) b->Av (c.plus l) σ4 δ6 b:=λb z=>z.elim .inl λ⟨j,d,e1,e2⟩=>.inr ⟨j,d,(iI cs δ6 j _ e1).1,le.2 j _ e2⟩
      refine⟨vs,ds.length - (i + 1),MR,by rw[Dq.1]; exact hz,by omega,bB cs δ6,acc ++ [x.d],vs ++ [v],rfl,bH,?_,cg,aA.aJ (aA.keep rr tf) λb z=>.inl (MS b z),p7⟩;-- the list that is built has grown
      refine⟨c6.ok.MJ (.inr rfl) h0 _,λa o ea n=>?_,λa z=>c6.own a z,λa o ea=>?_⟩
      ·have tj:a≠l:=λz=>by rw[z,hl] at ea; cases ea
       rw[aG tj]; exact c6.keep a o ea n
      ·by_cases tj:a=l
       ·exact⟨_,by rw[tj]; exact cg⟩
       ·obtain⟨o',e'⟩:=c6.there a o ea;exact⟨o',by rw[aG tj]; exact e'⟩
     ·exact p7.elim
  ·left
   have v9:i=ds.length:=by omega
   subst v9;rw[List.drop_length] at p2;exact⟨(wc H2 a2.keep).1,p2 H2 vs a2 hv rv⟩
theorem lq(hc:X.calm=true)(S:kY X scope cs)(hi:SI X c tg iter it)(hg:∀ l s₀ H₀ ex,ou (eh X scope s₀ H₀ ex) (c.plus l) cs tg g)(ht:∀ l s₀ H₀ ex,qt (eh X scope s₀ H₀ ex) (c.plus l) ifs t)
  (he:∀ l s₀ H₀ ex,SE (eh X scope s₀ H₀ ex) (c.plus l) elt el) (hp:∀ p ∈ c.pin,p.1 ∉ cs) (hs:∀ x,Qw iter X.env x=pure x:=by intro _; rfl) :
  SE X c (.ListComp elt [⟨tg,iter,ifs,0⟩] scope pos) (cf cs it g t el) :=
 PE.weak (Cj (g:=λv σ H Q=>∃ l,ot cs (c.plus l) g v σ H Q) (tt:=λσ H Q=>∃ l,tT (c.plus l) t σ H Q) (te:=λσ H Q=>∃ l,tD (c.plus l) el σ H Q) hc S hi
  (λs₀ H₀ ex pins s σ H v u Q I r ⟨l,q⟩=>hg l s₀ H₀ ex pins s σ H v u Q I r q) (λs₀ H₀ ex pins s σ H Q I ⟨l,q⟩=>ht l s₀ H₀ ex pins s σ H Q I q) (λs₀ H₀ ex pins s σ H Q I ⟨l,q⟩=>he l s₀ H₀ ex pins s σ H Q I q) hs)
  λσ H Q h=>wb (λ_ _ _ h=>h) (λl _ _ _ _ h=>⟨l,h⟩) (λl _ _ _ h=>⟨l,h⟩) (λl _ _ _ h=>⟨l,h⟩) hp h
theorem qu{np:List Nat}{i:Nat}{y:Str}{py sv:Pos}(aq:Np c np)(hc:X.calm=true)(S:kY X scope cs)(hN:X.N.Nodup)(dD:X.N[i]? = some y)(hy:X.env.scope.names.lookup y=some .local)
  (hi:SI X c tg iter it) (hg:∀ l s₀ H₀ ex,ou (eh X scope s₀ H₀ ex) (c.plus l) cs tg g) (ht:∀ l s₀ H₀ ex,qt (eh X scope s₀ H₀ ex) (c.plus l) ifs t)
  (he:∀ l s₀ H₀ ex,SE (eh X scope s₀ H₀ ex) (c.plus l) elt el) (hp:∀ p ∈ c.pin,p.1 ∉ cs)
  (pQ:QQ (.ListComp elt [⟨tg,iter,ifs,0⟩] scope pos) (some (.Name y py)) sv.line X.env=pure true:=by rfl) (hs:∀ x,Qw iter X.env x=pure x:=by intro _; rfl) :
  SS X c (.Assign [.Name y py] (.ListComp elt [⟨tg,iter,ifs,0⟩] scope pos) sv) (ar (cf cs it g t el) (ae np i)) :=
 PS.weak (LD (g:=λv σ H Q=>∃ l,ot cs (c.plus l) g v σ H Q) (tt:=λσ H Q=>∃ l,tT (c.plus l) t σ H Q) (te:=λσ H Q=>∃ l,tD (c.plus l) el σ H Q) hc S hN dD hy hi
  (λs₀ H₀ ex pins s σ H v u Q I r ⟨l,q⟩=>hg l s₀ H₀ ex pins s σ H v u Q I r q) (λs₀ H₀ ex pins s σ H Q I ⟨l,q⟩=>ht l s₀ H₀ ex pins s σ H Q I q) (λs₀ H₀ ex pins s σ H Q I ⟨l,q⟩=>he l s₀ H₀ ex pins s σ H Q I q) pQ hs)
  λD σ H h=>v7 (λσ H Q h=>wb (λ_ _ _ h=>h) (λl _ _ _ _ h=>⟨l,h⟩) (λl _ _ _ h=>⟨l,h⟩) (λl _ _ _ h=>⟨l,h⟩) hp h) (λ_ _ _ _ h=>v5 aq h) h
end
abbrev DF:=List S->Option (S×List S)
def b8:Nat->List S->List V->List (Nat×Addr)
 | n,.own _ :: ss,.ref a :: vs=>(n,a) :: b8 (n + 1) ss vs
 | n,_ :: ss,_ :: vs=>b8 (n + 1) ss vs
 | _,_,_=>[]
theorem lr:∀ {n:Nat} {ss:List S} {vs:List V} {i:Nat} {a:Addr},(i,a) ∈ b8 n ss vs->∃ j d,i=n + j/\ss[j]? = some (.own d)/\vs[j]? = some (.ref a)
 | n,[],vs,i,a,h=>by simp[b8] at h
 | n,s :: ss,[],i,a,h=>by cases s <;> simp[b8] at h
 | n,s :: ss,v :: vs,i,a,h=>by
  have wg:(i,a) ∈ b8 (n + 1) ss vs->∃ j d,i=n + j/\(s :: ss)[j]? = some (.own d)/\(v :: vs)[j]? = some (.ref a):=λh=>by
   obtain⟨j,d,e,h1,h2⟩:=lr h;exact⟨j + 1,d,by omega,by simpa using h1,by simpa using h2⟩
  cases s with
  | pure d=>exact wg h
  | own d =>
   cases v with
   | ref b =>
    rcases Wl.mp h with e | h
    ·cases e;exact⟨0,d,rfl,rfl,rfl⟩
    ·exact wg h
   | _=>exact wg h
theorem tm:∀ {n:Nat} {ss:List S} {vs:List V} {j:Nat} {d:D} {a:Addr},ss[j]? = some (.own d)->vs[j]? = some (.ref a)->(n + j,a) ∈ b8 n ss vs
 | n,[],vs,j,d,a,h,_=>by simp at h
 | n,s :: ss,[],j,d,a,_,h=>by simp at h
 | n,s :: ss,v :: vs,0,d,a,h1,h2=>by
  simp at h1 h2;subst h1 h2;exact Wf
 | n,s :: ss,v :: vs,j + 1,d,a,h1,h2=>by
  have ih:=tm (n:=n + 1) (ss:=ss) (vs:=vs) (j:=j) (d:=d) (a:=a) (by simpa using h1) (by simpa using h2);have e:n + 1 + j=n + (j + 1):=by omega
  rw[e] at ih
  cases s with
  | pure d=>exact ih
  | own d =>
   cases v with
   | ref b=>exact W9 _ ih
   | _=>exact ih
abbrev b9(vs:List V):St:=vs.map some
abbrev cn(ss:List S):Dl:=ss.map some
theorem e_{ss:List S}{i:Nat}{r:S}:(cn ss)[i]? = some (some r) ↔ ss[i]? = some r:=by
 rw[Ww]
 cases ss[i]? <;> simp
theorem fA{vs:List V}{i:Nat}{v:V}:(b9 vs)[i]? = some (some v) ↔ vs[i]? = some v:=by
 rw[Ww]
 cases vs[i]? <;> simp
def ku(n:Nat)(G:DF):Sp:=λvs H Q _=>∃ ss B,vs.length=n/\Ok ⟨H,B,b8 0 ss vs,λ_ _=>False⟩ (b9 vs) (cn ss) H/\∃ r aE,G ss=some (r,aE) /\
 ∀ v H',aD ⟨H,B,b8 0 ss vs,λ_ _=>False⟩ (b9 vs) (cn ss) H (b9 vs) (cn aE) H'->aP ⟨H,B,b8 0 ss vs,λ_ _=>False⟩ (b9 vs) (cn aE) H H' v r->Q v H'
def bV(P:Wm)(w:Wq)(K:W1)(mg:Str->Option Value)(base:Heap)(k:Nat)(x:Str)(n:Nat)(G:DF):Prop :=
 ∃ (f:Addr) (fd:WP) (ps:List Str),mg x=some (.ref f)/\QH K (.ref f)=true/\Binds K fd ps []/\eV P w K mg base d_ k f fd ps (ku n G)
def bC(n:Nat)(ss:List S):Dl:=cn ss ++ Wa (n - ss.length) none
def bF:Nat->List S->Dl->Option (List S)
 | _,[],_=>some []
 | n,.pure d :: ss,δ=>(bF (n + 1) ss δ).map (.pure d :: ·)
 | n,.own _ :: ss,δ=>match δ[n]? with
  | some (some (.own d'))=>(bF (n + 1) ss δ).map (.own d' :: ·)
  | _=>none
def cp:Fl->Option S
 | .next=>some (.pure .aN)
 | .ret r=>some r
 | _=>none
def fZ(f:DS)(n:Nat)(ss:List S):Option (S×List S):=match f (bC n ss) with
 | .ok fl δ=>(cp fl).bind λr=>(bF 0 ss δ).map λaE=>(r,aE)
 | _=>none
def bW(np:List Nat):Nat->List S->Bool
 | _,[]=>true
 | n,.own _ :: ss=>np.contains n && bW np (n + 1) ss
 | n,.pure _ :: ss=>bW np (n + 1) ss
theorem tq:∀ {n:Nat} {ss:List S} {j:Nat} {d:D},bW np n ss=true->ss[j]? = some (.own d)->np.contains (n + j)=true
 | n,[],j,d,_,h=>by simp at h
 | n,s :: ss,0,d,h,e=>by
  simp at e;subst e;simp only[bW,Wr] at h;exact h.1
 | n,s :: ss,j + 1,d,h,e=>by
  have h':bW np (n + 1) ss=true:=by
   cases s with
   | pure d=>exact h
   | own d=>simp only[bW,Wr] at h; exact h.2
  have:=tq (n:=n + 1) (j:=j) h' (by simpa using e);rw[show n + (j + 1)=n + 1 + j by omega];exact this
theorem qw:∀ {n:Nat} {ss aE:List S} {δ:Dl},bF n ss δ=some aE->aE.length=ss.length/\∀ (i:Nat) s,ss[i]? = some s->(∃ d,s = .pure d/\aE[i]? = some (.pure d))\/∃ d d',s = .own d/\δ[n + i]? = some (some (.own d'))/\aE[i]? = some (.own d')
 | n,[],aE,δ,h=>by
  simp only[bF,Wd] at h;subst h;exact⟨rfl,λi s e=>by simp at e⟩
 | n,.pure d :: ss,aE,δ,h=>by
  simp only[bF] at h
  cases e:bF (n + 1) ss δ with
  | none=>rw[e] at h; cases h
  | some os =>
   rw[e] at h;simp only[WA,Wd] at h;subst h;obtain⟨h1,h2⟩:=qw e;refine⟨by simp[h1],λi s es=>?_⟩
   cases i with
   | zero=>simp at es; subst es; exact .inl ⟨d,rfl,rfl⟩
   | succ i =>
    rcases h2 i s (by simpa using es) with ⟨d,z1,z2⟩ | ⟨d,d',z1,z2,z3⟩
    ·exact .inl ⟨d,z1,by simpa using z2⟩
    ·exact .inr ⟨d,d',z1,by rw[show n + (i + 1)=n + 1 + i by omega]; exact z2,by simpa using z3⟩
 | n,.own d :: ss,aE,δ,h=>by
  simp only[bF] at h;split at h
  ·rename_i d' ed
   cases e:bF (n + 1) ss δ with
   | none=>rw[e] at h; cases h
   | some os =>
    rw[e] at h;simp only[WA,Wd] at h;subst h;obtain⟨h1,h2⟩:=qw e;refine⟨by simp[h1],λi s es=>?_⟩
    cases i with
    | zero=>simp at es; subst es; exact .inr ⟨d,d',rfl,ed,rfl⟩
    | succ i =>
     rcases h2 i s (by simpa using es) with ⟨d,z1,z2⟩ | ⟨d,d',z1,z2,z3⟩
     ·exact .inl ⟨d,z1,by simpa using z2⟩
     ·exact .inr ⟨d,d',z1,by rw[show n + (i + 1)=n + 1 + i by omega]; exact z2,by simpa using z3⟩
  ·cases h
section
variable {c:Fc} {H H':Hp} {vs:List V} {ss aE:List S} {σ':St} {δ':Dl}
theorem lu{α:Type}{l:List (Option α)}{k i:Nat}{v:α}(h:(l ++ Wa k none)[i]? = some (some v)):l[i]? = some (some v):=by
 by_cases hi:i < l.length
 ·rw[J5 hi] at h; exact h
 ·rw[List.getElem?_append_right (by omega),List.getElem?_replicate] at h;split at h <;> cases h
theorem ky{α:Type}{l:List (Option α)}{k i:Nat}{v:α}(h:l[i]? = some (some v)):(l ++ Wa k none)[i]? = some (some v):=by
 have hi:i < l.length:=(W6.mp h).1;rw[J5 hi]; exact h
theorem Own.ext{σ:St}{δ:Dl}{k:Nat}{a:Addr}:Own (σ ++ Wa k none) (δ ++ Wa k none) a ↔ Own σ δ a :=
 ⟨λ⟨i,d,e1,e2⟩=>⟨i,d,lu e1,lu e2⟩,λ⟨i,d,e1,e2⟩=>⟨i,d,ky e1,ky e2⟩⟩
theorem Ok.ext{σ:St}{δ:Dl}(k:Ok c σ δ H)(n:Nat):Ok c (σ ++ Wa n none) (δ ++ Wa n none) H:=by
 have sub:∀ b,Av c (σ ++ Wa n none) (δ ++ Wa n none) b->Av c σ δ b:=λb z=>z.elim .inl λz=>.inr (Own.ext.mp z)
 refine⟨k.keep,k.bd,k.cN,by simp[k.len],λi d e=>?_,λi d e=>?_,λi j a d d' e1 e2 e3 e4=>k.inj i j a d d' (lu e1) (lu e2) (lu e3) (lu e4),λp hm=>ky (k.pinned p hm)⟩
 ·obtain⟨v,h1,h2⟩:=k.slot i d (lu e);exact⟨v,ky h1,h2.aJ λb z=>.inl (sub b z)⟩
 ·obtain⟨a,h1,h2,h3⟩:=k.own i d (lu e);exact⟨a,ky h1,h2.aJ λb z=>.inl (sub b z),h3⟩
theorem lA{B:Addr->Prop}{n:Nat}(hc:c = ⟨H,B,b8 0 ss vs,λ_ _=>False⟩)(k:Ok c (b9 vs) (cn ss) H)(x:aD c (b9 vs ++ Wa n none) (cn ss ++ Wa n none) H σ' δ' H')(ho:bF 0 ss δ'=some aE) :
  aD c (b9 vs) (cn ss) H (b9 vs) (cn aE) H'/\∀ v r,aP c σ' δ' H H' v r->aP c (b9 vs) (cn aE) H H' v r:=by
 obtain⟨hlen,oy⟩:=qw ho;have jb:ss.length=vs.length:=by have:=k.len; simpa using this
 have pin:∀ (i:Nat) (a:Addr) (d:D),ss[i]? = some (.own d)->vs[i]? = some (.ref a)->σ'[i]? = some (some (.ref a)):=λi a d h1 h2=>by
  have:=tm (n:=0) h1 h2;rw[WN] at this;exact x.ok.pinned (i,a) (by rw[hc]; exact this)
 have tw:∀ (i:Nat) (d:D),aE[i]? = some (.own d)->(∃ d₀,ss[i]? = some (.own d₀))/\δ'[i]? = some (some (.own d)):=λi d e=>by
  have hi:i < ss.length:=by rw[<- hlen]; exact(W6.mp e).1
  rcases oy i ss[i] (by simp[hi]) with ⟨d₁,z1,z2⟩ | ⟨d₁,d',z1,z2,z3⟩
  ·rw[e] at z2; cases z2
  ·rw[e] at z3; cases z3
   rw[WN] at z2;exact⟨⟨d₁,by rw[Wk hi,z1]⟩,z2⟩
 have sub:∀ b,Own (b9 vs) (cn aE) b->Own σ' δ' b:=λb ⟨i,d,e1,e2⟩=>by
  obtain⟨⟨d₀,h0⟩,h1⟩:=tw i d (e_.mp e1);exact⟨i,d,h1,pin i b d₀ h0 (fA.mp e2)⟩
 have jQ:∀ b,Av c (b9 vs) (cn aE) b->Av c σ' δ' b:=λb z=>z.elim .inl λz=>.inr (sub b z)
 have Dr:∀ {c':Fc},c'.pin=c.pin->Ok c' σ' δ' H'->(∀ b,c.B b->c'.B b)->(∀ (i:Nat) d v,ss[i]? = some (.pure d)->vs[i]? = some v->Rep H' (Av c' σ' δ') v d)->Ok c' (b9 vs) (cn aE) H':=λ{c'} ep k' hB hsl=>by
  have Ds:∀ b,Av c' (b9 vs) (cn aE) b->Av c' σ' δ' b:=λb z=>z.elim .inl λz=>.inr (sub b z)
  refine⟨k'.keep,k'.bd,k'.cN,by simp[hlen,jb],λi d e=>?_,λi d e=>?_,λi j a d d' e1 e2 e3 e4=>?_,λp hm=>?_⟩
  ·have e':=e_.mp e;have hi:i < ss.length:=by rw[<- hlen]; exact(W6.mp e').1
   have hv:i < vs.length:=by omega
   rcases oy i ss[i] (by simp[hi]) with ⟨d₁,z1,z2⟩ | ⟨d₁,d',z1,z2,z3⟩
   ·rw[e'] at z2; cases z2
    exact⟨vs[i],by simp[hv],(hsl i d vs[i] (by rw[Wk hi,z1]) (by simp[hv])).aJ λb z=>.inl (Ds b z)⟩
   ·rw[e'] at z3; cases z3
  ·have e':=e_.mp e;obtain⟨⟨d₀,h0⟩,h1⟩:=tw i d e';obtain⟨a₀,h2,_⟩:=k.own i d₀ (e_.mpr h0);obtain⟨a,h3,h4,h5⟩:=k'.own i d h1;rw[pin i a₀ d₀ h0 (fA.mp h2)] at h3
   cases h3;exact⟨a₀,h2,h4.aJ λb z=>.inl (Ds b z),h5⟩
  ·obtain⟨⟨d₀,h0⟩,h1⟩:=tw i d (e_.mp e1);obtain⟨⟨d₁,h2⟩,h3⟩:=tw j d' (e_.mp e2);exact k'.inj i j a d d' h1 h3 (pin i a d₀ h0 (fA.mp e3)) (pin j a d₁ h2 (fA.mp e4))
  ·exact k.pinned p (by rw[<- ep]; exact hm)
 have slots:∀ (i:Nat) d v,ss[i]? = some (.pure d)->vs[i]? = some v->Rep H' (Av c σ' δ') v d:=λi d v h1 h2=>by
  obtain⟨w,e1,r⟩:=(k.ext n).slot i d (ky (e_.mpr h1));rw[ky (fA.mpr h2)] at e1
  cases e1;exact Rep.cU r x
 refine⟨⟨Dr rfl x.ok (λ_ z=>z) slots,λa o e m=>x.keep a o e λz=>m (Own.ext.mp z),λa z=>(x.own a (sub a z)).elim (λz=>.inl (Own.ext.mp z)) .inr,x.there⟩,λv r hr=>?_⟩
 cases r with
 | pure d=>exact Rep.aJ hr λb z=>.inl (jQ b z)
 | own d =>
  obtain⟨a,ea,o,nb,h0,kp,hs⟩:=hr;refine⟨a,ea,o.aJ λb z=>.inl (z.elim .inl λz=>.inr (sub b z)),nb,h0,Dr rfl kp (λ_ z=>.inl z) λi d v h1 h2=>?_,hs⟩;obtain⟨w,e1,r⟩:=(k.ext n).slot i d (ky (e_.mpr h1));rw[ky (fA.mpr h2)] at e1
  cases e1;have oz:H a=none:=hs;have r1:Rep H (Av c (b9 vs ++ Wa n none) (cn ss ++ Wa n none)) v d:=r;have r2:Rep H (λb=>Av c (b9 vs ++ Wa n none) (cn ss ++ Wa n none) b\/Av (c.plus a) σ' δ' b) v d:=r1.aJ λb z=>by
   rcases z with z | (z | z) | z
   ·exact .inl z
   ·exact .inl (.inl z)
   ·exact .inr (by rw[z]; exact oz)
   ·rcases x.own b z with q | q
    ·exact .inl (.inr q)
    ·exact .inr q
  exact(r2.keep λb o e m=>x.keep b o e λz=>m (.inl (.inr z))).aJ λb z=>.inl (.inr z)
end
section
variable {P:Wm} {w:Wq} {K:W1} {mg:Str->Option Value} {base:Heap}
theorem Dt{x qual:Str}{st:Stmt}{f:Addr}{fd:WP}{N ps:List Str}{k:Nat}{np:List Nat}{fb:DS}{G:DF}(F:b7 K x qual st f fd)(S:cA N ps (bo st))
  (eW:∀ (c:Fc) (aL:Value) (A:Wp) (outer:List Env) (s:W2) (H:Hp) (E:XK),cG k (A.deeper (Jf qual (bo st) s.heap.objs.size f aL))->Np c np->fV (fI d_ P w K mg base N qual (bo st) f aL A outer s H E).iy c (fJ st) fb)
  (hG:∀ ss y,G ss=some y->bW np 0 ss=true/\fZ fb N.length ss=some y):eV P w K mg base d_ (k + 1) f fd ps (ku ps.length G):=by
 refine F.ok S (λvs H Q E h=>?_) λaL A outer s H vs Q E hr h=>?_
 ·obtain⟨ss,B,hl,_⟩:=h;exact hl
 ·obtain⟨ss,B,hl,ok,r,aE,hg,q⟩:=h;obtain⟨gu,hrun⟩:=hG ss _ hg;have jb:ss.length=vs.length:=by have:=ok.len; simpa using this
  have qx:Np ⟨H,B,b8 0 ss vs,λ_ _=>False⟩ np:=λp hp=>by
   obtain⟨j,d,e,h1,_⟩:=lr (i:=p.1) (a:=p.2) hp;rw[e];exact tq gu h1
  refine⟨kq ⟨H,B,b8 0 ss vs,λ_ _=>False⟩ fb,eW ⟨H,B,b8 0 ss vs,λ_ _=>False⟩ aL A outer s H E hr qx,?_⟩;have c9:start N vs=b9 vs ++ Wa (N.length - ss.length) none:=by rw[jb]; rfl
  refine⟨bC N.length ss,by rw[c9]; exact ok.ext _,?_⟩;unfold fZ at hrun;unfold ei
  cases e:fb (bC N.length ss) with
  | exc x δx=>rw[e] at hrun; cases hrun
  | stuck=>rw[e] at hrun; cases hrun
  | ok fl δ' =>
   rw[e] at hrun;show ∀ σ' H',aD _ (start N vs) (bC N.length ss) H σ' δ' H'->fin _ _ σ' δ' H' fl;intro σ' H' a;rw[c9] at a;simp only at hrun
   cases fl with
   | brk=>cases hrun
   | cont=>cases hrun
   | next =>
    simp only[cp,WE] at hrun
    cases eo:bF 0 ss δ' with
    | none=>rw[eo] at hrun; cases hrun
    | some os =>
     rw[eo] at hrun
     cases hrun;obtain⟨l1,l2⟩:=lA rfl ok a eo;exact q .aN H' l1 .aN
   | ret r' =>
    simp only[cp,WE] at hrun
    cases eo:bF 0 ss δ' with
    | none=>rw[eo] at hrun; cases hrun
    | some os =>
     rw[eo] at hrun
     cases hrun;obtain⟨l1,l2⟩:=lA rfl ok a eo;exactλv rv=>q v H' l1 (l2 v _ rv)
theorem eR{x qual:Str}{st:Stmt}{f:Addr}{fd:WP}{N ps:List Str}{k:Nat}{np:List Nat}{fb:DS}{G:DF}(F:b7 K x qual st f fd)(hm:mg x=some (.ref f))(hb:Binds K fd ps [])(S:cA N ps (bo st))
  (eW:∀ (c:Fc) (aL:Value) (A:Wp) (outer:List Env) (s:W2) (H:Hp) (E:XK),cG k (A.deeper (Jf qual (bo st) s.heap.objs.size f aL))->Np c np->fV (fI d_ P w K mg base N qual (bo st) f aL A outer s H E).iy c (fJ st) fb)
  (hG:∀ ss y,G ss=some y->bW np 0 ss=true/\fZ fb N.length ss=some y):bV P w K mg base (k + 1) x ps.length G:=⟨f,fd,ps,hm,F.kp,hb,Dt F S eW hG⟩
end
inductive Ak where
 | val (f:DE)
 | io (i:Nat)
def bL:List Ak->Dl->Rs (List (Option D))
 | [],δ=>.ok [] δ
 | .val f :: r,δ=>(f δ).bind λx δ1=>(bL r δ1).bind λxs δ2=>.ok (some x.d :: xs) δ2
 | .io _ :: r,δ=>(bL r δ).bind λxs δ2=>.ok (none :: xs) δ2
inductive kz (c:Fc) (σ:St) (δ:Dl) (H:Hp):List V->List Ak->List (Option D)->Prop
 | nil:kz c σ δ H [] [] []
 | val {v:V} {d:D} {f:DE} {vs:List V} {as:List Ak} {ds:List (Option D)}:Rep H (Av c σ δ) v d->kz c σ δ H vs as ds->kz c σ δ H (v :: vs) (.val f :: as) (some d :: ds)
 | io {v:V} {i:Nat} {vs:List V} {as:List Ak} {ds:List (Option D)}:σ[i]? = some (some v)->kz c σ δ H vs as ds->kz c σ δ H (v :: vs) (.io i :: as) (none :: ds)
def tX(c:Fc)(as:List Ak):TA:=λσ H Q=>∃ δ,Ok c σ δ H/\(∀ i,Ak.io i ∈ as->∃ v,σ[i]? = some (some v))/\post c (bL as δ) λds δ'=>∀ vs H',aD c σ δ H σ δ' H'->kz c σ δ' H' vs as ds->Q vs H'
abbrev SX(X:Cx)(c:Fc)(es:List Expr)(as:List Ak):Prop:=PA X es (tX c as)
section
variable {X:Cx} {c:Fc} {e:Expr} {es:List Expr} {fe:DE} {as:List Ak} {pos pp:Pos}
theorem bZ:SX X c [] []:=PA.weak eU λσ H Q ⟨δ,k,_,q⟩=>q [] H (.refl k) .nil
theorem MT(ha:SE X c e fe)(hr:SX X c es as)(hs:W7 (e :: es) X.env=(false,eval e X.env) :: W7 es X.env:=by rfl):SX X c (e :: es) (.val fe :: as):=PA.weak (dt ha hr hs) λσ H Q ⟨δ,k,gu,q⟩=>by
 unfold bL at q;rw[bc] at q;refine⟨δ,k,aQ q λx δ1 q1 v H1 a1 r1=>⟨δ1,a1.ok,λi hi=>gu i (W9 _ hi),?_⟩⟩;rw[bc] at q1;exact aQ q1 λxs δ2 q2 vs H2 a2 r2=>q2 (v :: vs) H2 (a1.trans a2) (.val (Rep.cU r1.rep a2) r2)
theorem MU(ha:PE X e (b_ i))(hr:SX X c es as)(hs:W7 (e :: es) X.env=(false,eval e X.env) :: W7 es X.env:=by rfl):SX X c (e :: es) (.io i :: as):=PA.weak (dt ha hr hs) λσ H Q ⟨δ,k,gu,q⟩=>by
 obtain⟨v,ev⟩:=gu i Wf;unfold bL at q;rw[bc] at q;exact⟨v,ev,δ,k,λi hi=>gu i (W9 _ hi),aQ q λxs δ2 q2 vs H2 a2 r2=>q2 (v :: vs) H2 a2 (.io ev r2)⟩
end
def bw:List Ak->List (Option D)->Dl->Option (List S)
 | [],[],_=>some []
 | .val _ :: as,some d :: ds,δ=>(bw as ds δ).map (.pure d :: ·)
 | .io i :: as,none :: ds,δ=>match δ[i]? with
  | some (some (.own d))=>(bw as ds δ).map (.own d :: ·)
  | _=>none
 | _,_,_=>none
def bf:List Ak->List Nat
 | []=>[]
 | .val _ :: as=>bf as
 | .io i :: as=>i :: bf as
def aS:List Ak->List S->Dl->Dl
 | .io i :: as,r :: rs,δ=>aS as rs (δ.set i (some r))
 | .val _ :: as,_ :: rs,δ=>aS as rs δ
 | _,_,δ=>δ
def bN:List Nat->Bool
 | []=>true
 | i :: r=>!r.contains i && bN r
def ax(G:DF)(as:List Ak):DE:=λδ=>if (bf as).all (bu δ) && bN (bf as) then(bL as δ).bind λds δ1=>match bw as ds δ1 with
  | none=>.stuck
  | some ss=>match G ss with
   | none=>.stuck
   | some (r,aE)=>.ok r (aS as aE δ1)
 else .stuck
theorem tE:∀ {l:List Nat},bN l=true->l.Nodup
 | [],_=>.nil
 | i :: r,h=>by
  simp only[bN,Wr,U0] at h;exact List.nodup_cons.mpr ⟨λhm=>by have:=h.1; simp at this; exact this hm,tE h.2⟩
theorem kA:∀ {as:List Ak} {i:Nat},i ∈ bf as ↔ Ak.io i ∈ as
 | [],i=>by simp[bf]
 | .val f :: as,i=>by simp[bf,kA (as:=as)]
 | .io j :: as,i=>by simp[bf,kA (as:=as)]
theorem wj:∀ {as:List Ak} {i j k:Nat},(bf as).Nodup->as[j]? = some (.io i)->as[k]? = some (.io i)->j=k
 | [],i,j,k,_,h,_=>by simp at h
 | .val f :: as,i,j,k,nd,h1,h2=>by
  cases j with
  | zero=>simp at h1
  | succ j =>
   cases k with
   | zero=>simp at h2
   | succ k=>exact congrArg (· + 1) (wj (as:=as) nd (by simpa using h1) (by simpa using h2))
 | .io n :: as,i,j,k,nd,h1,h2=>by
  have oA:=WR.mp nd
  cases j with
  | zero =>
   simp at h1;subst h1
   cases k with
   | zero=>rfl
   | succ k=>exact absurd (kA.mpr (WF (by simpa using h2))) oA.1
  | succ j =>
   cases k with
   | zero =>
    simp at h2;subst h2;exact absurd (kA.mpr (WF (by simpa using h1))) oA.1
   | succ k=>exact congrArg (· + 1) (wj (as:=as) oA.2 (by simpa using h1) (by simpa using h2))
section
variable {c:Fc} {σ:St} {δ:Dl} {H:Hp} {vs:List V} {as:List Ak} {ds:List (Option D)} {ss:List S}
theorem qy(h:kz c σ δ H vs as ds):∀ {ss:List S},bw as ds δ=some ss->ss.length=vs.length/\as.length=vs.length/\∀ (j:Nat) s v,ss[j]? = some s->vs[j]? = some v ->
  (∃ d f,s = .pure d/\as[j]? = some (.val f)/\Rep H (Av c σ δ) v d)\/∃ d i,s = .own d/\as[j]? = some (.io i)/\σ[i]? = some (some v)/\δ[i]? = some (some (.own d)):=by
 induction h with
 | nil =>
  intro ss h;simp only[bw,Wd] at h;subst h;exact⟨rfl,rfl,λj s v e _=>by simp at e⟩
 | @val v d f vs as ds r _ ih =>
  intro ss h;simp only[bw] at h
  cases e:bw as ds δ with
  | none=>rw[e] at h; cases h
  | some rs =>
   rw[e] at h;simp only[WA,Wd] at h;subst h;obtain⟨h1,h2,h3⟩:=ih e;refine⟨by simp[h1],by simp[h2],λj s v' e1 e2=>?_⟩
   cases j with
   | zero=>simp at e1 e2; subst e1 e2; exact .inl ⟨d,f,rfl,rfl,r⟩
   | succ j=>simpa using h3 j s v' (by simpa using e1) (by simpa using e2)
 | @io v i vs as ds ev _ ih =>
  intro ss h;simp only[bw] at h;split at h
  ·rename_i d ed
   cases e:bw as ds δ with
   | none=>rw[e] at h; cases h
   | some rs =>
    rw[e] at h;simp only[WA,Wd] at h;subst h;obtain⟨h1,h2,h3⟩:=ih e;refine⟨by simp[h1],by simp[h2],λj s v' e1 e2=>?_⟩
    cases j with
    | zero=>simp at e1 e2; subst e1 e2; exact .inr ⟨d,i,rfl,rfl,ev,ed⟩
    | succ j=>simpa using h3 j s v' (by simpa using e1) (by simpa using e2)
  ·cases h
theorem wk:∀ (as:List Ak) (rs:List S) (δ:Dl),(aS as rs δ).length=δ.length
 | [],rs,δ=>by simp[aS]
 | .val f :: as,[],δ=>by simp[aS]
 | .io i :: as,[],δ=>by simp[aS]
 | .val f :: as,r :: rs,δ=>by simp[aS,wk as rs δ]
 | .io i :: as,r :: rs,δ=>by simp[aS,wk as rs]
theorem qz:∀ (as:List Ak) (rs:List S) (δ:Dl) (i:Nat),i ∉ bf as->(aS as rs δ)[i]? = δ[i]?
 | [],rs,δ,i,_=>by simp[aS]
 | .val f :: as,[],δ,i,_=>by simp[aS]
 | .io j :: as,[],δ,i,_=>by simp[aS]
 | .val f :: as,r :: rs,δ,i,h=>by rw[aS]; exact qz as rs δ i h
 | .io j :: as,r :: rs,δ,i,h=>by
  simp only[bf,Wl,not_or] at h;rw[aS,qz as rs _ i h.2,W3 (Ne.symm h.1)]
theorem tF:∀ (as:List Ak) (rs:List S) (δ:Dl) (i j:Nat) (r:S),(bf as).Nodup->as[j]? = some (.io i)->rs[j]? = some r->i < δ.length->(aS as rs δ)[i]? = some (some r)
 | [],rs,δ,i,j,r,_,h,_,_=>by simp at h
 | a :: as,[],δ,i,j,r,_,_,h,_=>by simp at h
 | .val f :: as,r0 :: rs,δ,i,j,r,nd,h1,h2,hi=>by
  cases j with
  | zero=>simp at h1
  | succ j=>rw[aS]; exact tF as rs δ i j r nd (by simpa using h1) (by simpa using h2) hi
 | .io k :: as,r0 :: rs,δ,i,j,r,nd,h1,h2,hi=>by
  have oA:=WR.mp nd
  cases j with
  | zero =>
   simp at h1 h2;subst h1 h2;rw[aS,qz as rs _ k oA.1,Wc hi]
  | succ j=>rw[aS]; exact tF as rs _ i j r oA.2 (by simpa using h1) (by simpa using h2) (by simpa using hi)
theorem wm(k:Ok c σ δ H)(hr:kz c σ δ H vs as ds)(hm:bw as ds δ=some ss)(nd:(bf as).Nodup) :
  Ok ⟨H,λa=>Av c σ δ a/\¬ ∃ (j:Nat) (d:D),ss[j]? = some (S.own d)/\vs[j]? = some (V.ref a),b8 0 ss vs,λ_ _=>False⟩ (b9 vs) (cn ss) H:=by
 obtain⟨h1,h2,h3⟩:=qy hr hm;have at':∀ (j:Nat) s,ss[j]? = some s->∃ v,vs[j]? = some v:=λj s e=>by
  have:j < vs.length:=by rw[<- h1]; exact(W6.mp e).1
  exact⟨vs[j],by simp[this]⟩
 have Du:∀ a,Own (b9 vs) (cn ss) a ↔ ∃ (j:Nat) (d:D),ss[j]? = some (S.own d)/\vs[j]? = some (V.ref a):=λa =>
  ⟨λ⟨j,d,e1,e2⟩=>⟨j,d,e_.mp e1,fA.mp e2⟩,λ⟨j,d,e1,e2⟩=>⟨j,d,e_.mpr e1,fA.mpr e2⟩⟩
 have Dv:∀ a,Own (b9 vs) (cn ss) a->Own σ δ a:=λa z=>by
  obtain⟨j,d,e1,e2⟩:=(Du a).mp z;rcases h3 j _ _ e1 e2 with ⟨d',f,e,_⟩ | ⟨d',i,e,_,es,ed⟩
  ·cases e
  ·exact⟨i,d',ed,es⟩
 have sub:∀ a,Av ⟨H,λa=>Av c σ δ a/\¬ ∃ (j:Nat) (d:D),ss[j]? = some (S.own d)/\vs[j]? = some (V.ref a),b8 0 ss vs,λ_ _=>False⟩ (b9 vs) (cn ss) a->Av c σ δ a:=λa z=>z.elim (λz=>z.1) λz=>.inr (Dv a z)
 refine⟨λa o e _=>e,λa z=>k.Cm z.1,λa ⟨i,hi⟩=>?_,by simp[h1],λj d e=>?_,λj d e=>?_,λi j a d d' e1 e2 e3 e4=>?_,λp hp=>?_⟩
 ·obtain⟨j,d,_,e1,e2⟩:=lr hi;exact k.ki (Dv a ((Du a).mpr ⟨j,d,e1,e2⟩))
 ·have e':=e_.mp e;obtain⟨v,ev⟩:=at' j _ e';rcases h3 j _ v e' ev with ⟨d',f,e,_,r⟩ | ⟨d',i,e,_⟩
  ·cases e;exact⟨v,fA.mpr ev,r.aJ λb z=>.inl (sub b z)⟩
  ·cases e
 ·have e':=e_.mp e;obtain⟨v,ev⟩:=at' j _ e';rcases h3 j _ v e' ev with ⟨d',f,e,_,r⟩ | ⟨d',i,e,_,es,ed⟩
  ·cases e
  ·cases e;obtain⟨a,g1,g2,g3⟩:=k.own i d ed;rw[es] at g1
   cases g1;refine⟨a,fA.mpr ev,g2.aJ λb z=>.inl (sub b z),.inl ⟨0 + j,tm e' ev⟩,λz=>z.2 ⟨j,d,e',ev⟩⟩
 ·have f1:=e_.mp e1;have f2:=e_.mp e2;rcases h3 i _ _ f1 (fA.mp e3) with ⟨_,_,e,_⟩ | ⟨d1,i1,e,a1,s1,x1⟩
  ·cases e
  ·rcases h3 j _ _ f2 (fA.mp e4) with ⟨_,_,e',_⟩ | ⟨d2,i2,e',a2,s2,x2⟩
   ·cases e'
   ·have:=k.inj i1 i2 a d1 d2 x1 x2 s1 s2;subst this;exact wj nd a1 a2
 ·obtain⟨j,d,e,e1,e2⟩:=lr (i:=p.1) (a:=p.2) hp;rw[WN] at e;rw[e];exact fA.mpr e2
theorem tG(k:Ok c σ δ H)(hr:kz c σ δ H vs as ds)(hm:bw as ds δ=some ss)(nd:(bf as).Nodup)(hB:B=λa=>Av c σ δ a/\¬ ∃ (j:Nat) (d:D),ss[j]? = some (S.own d)/\vs[j]? = some (V.ref a))
  (x:aD ⟨H,B,b8 0 ss vs,λ_ _=>False⟩ (b9 vs) (cn ss) H (b9 vs) (cn aE) H') (gu:∀ (j:Nat) d,ss[j]? = some (.own d)->∃ d',aE[j]? = some (.own d')) (Vs:∀ (j:Nat) d,ss[j]? = some (.pure d)->∃ d',aE[j]? = some (.pure d')) :
  aD c σ δ H σ (aS as aE δ) H'/\∀ v r,aP ⟨H,B,b8 0 ss vs,λ_ _=>False⟩ (b9 vs) (cn aE) H H' v r->aP c σ (aS as aE δ) H H' v r:=by
 obtain⟨h1,h2,h3⟩:=qy hr hm;have tH:∀ i,i ∈ bf as->∃ (j:Nat) (d:D) (a:Addr),as[j]? = some (.io i)/\ss[j]? = some (.own d)/\vs[j]? = some (.ref a)/\σ[i]? = some (some (.ref a))/\δ[i]? = some (some (.own d)):=λi hi=>by
  obtain⟨j,hj,ej⟩:=List.mem_iff_getElem.mp (kA.mp hi);have hv:j < vs.length:=by omega
  have hs:j < ss.length:=by omega
  have wo:as[j]? = some (.io i):=by rw[Wk hj,ej]
  rcases h3 j ss[j] vs[j] (by simp[hs]) (by simp[hv]) with ⟨d,f,e,a1,_⟩ | ⟨d,i',e,a1,s1,x1⟩
  ·rw[wo] at a1; cases a1
  ·rw[wo] at a1; cases a1
   obtain⟨a,g1,_⟩:=k.own i d x1;rw[s1] at g1;have g2:vs[j] = .ref a:=by
    have:=Wx g1;exact Wx this
   exact⟨j,d,a,wo,by rw[Wk hs,e],by rw[Wk hv,g2],by rw[s1,g2],x1⟩
 have qA:∀ a,(∃ (j:Nat) (d:D),ss[j]? = some (S.own d)/\vs[j]? = some (V.ref a))->Own σ δ a:=λa ⟨j,d,e1,e2⟩=>by
  rcases h3 j _ _ e1 e2 with ⟨d',f,e,_⟩ | ⟨d',i,e,_,es,ed⟩
  ·cases e
  ·exact⟨i,d',ed,es⟩
 have Vt:∀ a,(⟨H,B,b8 0 ss vs,λ_ _=>False⟩:Fc).I a ↔ ∃ (j:Nat) (d:D),ss[j]? = some (S.own d)/\vs[j]? = some (V.ref a):=λa =>
  ⟨λ⟨i,hi⟩=>by obtain⟨j,d,_,e1,e2⟩:=lr hi; exact⟨j,d,e1,e2⟩,λ⟨j,d,e1,e2⟩=>⟨0 + j,tm e1 e2⟩⟩
 have ownIn:∀ a,Own (b9 vs) (cn ss) a->∃ (j:Nat) (d:D),ss[j]? = some (S.own d)/\vs[j]? = some (V.ref a):=λa ⟨j,d,e1,e2⟩=>⟨j,d,e_.mp e1,fA.mp e2⟩
 -- the owned addresses are the same
 have tJ:∀ (i:Nat) (d:D),(aS as aE δ)[i]? = some (some (.own d))->(i ∉ bf as/\δ[i]? = some (some (.own d)))\/(i ∈ bf as/\∃ (j:Nat) (d0:D) (a:Addr),as[j]? = some (.io i)/\ss[j]? = some (.own d0)/\vs[j]? = some (.ref a)/\σ[i]? = some (some (.ref a))/\aE[j]? = some (.own d)):=λi d e=>by
  by_cases hi:i ∈ bf as
  ·right
   obtain⟨j,d0,a,a1,a2,a3,a4,a5⟩:=tH i hi;obtain⟨d',ed'⟩:=gu j d0 a2;have bH:i < δ.length:=(W6.mp a5).1;have:=tF as aE δ i j (.own d') nd a1 ed' bH;rw[e] at this
   cases this;exact⟨hi,j,d0,a,a1,a2,a3,a4,ed'⟩
  ·rw[qz as aE δ i hi] at e;exact .inl ⟨hi,e⟩
 have qC:∀ b,Own σ (aS as aE δ) b->Own σ δ b:=λb ⟨i,d,e1,e2⟩=>by
  rcases tJ i d e1 with ⟨_,e⟩ | ⟨hi,j,d0,a,_,a2,a3,a4,_⟩
  ·exact⟨i,d,e,e2⟩
  ·rw[e2] at a4;have:b=a:=by injection (Wx (Wx a4))
   subst this;exact qA b ⟨j,d0,a2,a3⟩
 have MV:∀ (i:Nat) (d:D),(aS as aE δ)[i]? = some (some (.pure d))->i ∉ bf as/\δ[i]? = some (some (.pure d)):=λi d e=>by
  by_cases hi:i ∈ bf as
  ·obtain⟨j,d0,a,a1,a2,a3,a4,a5⟩:=tH i hi;obtain⟨d',ed'⟩:=gu j d0 a2;have bH:i < δ.length:=(W6.mp a5).1;have:=tF as aE δ i j (.own d') nd a1 ed' bH;rw[e] at this
   cases this
  ·rw[qz as aE δ i hi] at e;exact⟨hi,e⟩
 have Dw:∀ a o,H a=some o->¬ Av c σ δ a->H' a=some o:=λa o e n=>x.keep a o e λz=>n (.inr (qA a (ownIn a z)))
 have jQ:∀ b,Av c σ (aS as aE δ) b->Av c σ δ b:=λb z=>z.elim .inl λz=>.inr (qC b z)
 -- the callee's set holds ours
 have big:∀ {c':Fc},c'.B=B->∀ b,Av c σ δ b->Av c' (b9 vs) (cn aE) b:=λ{c'} hB' b z=>by
  by_cases hp:∃ (j:Nat) (d:D),ss[j]? = some (S.own d)/\vs[j]? = some (V.ref b)
  ·obtain⟨j,d,e1,e2⟩:=hp;obtain⟨d',ed'⟩:=gu j d e1;exact .inr ⟨j,d',e_.mpr ed',fA.mpr e2⟩
  ·exact .inl (by rw[hB',hB]; exact⟨z,hp⟩)
 have Dx:∀ (c1 c2:Fc),c1.H₀=c.H₀->c1.pin=c.pin->(∀ b,c1.B b->c.B b\/(c2.B b/\H b=none))->c2.pin=b8 0 ss vs->(∀ b,B b->c2.B b)->Ok c2 (b9 vs) (cn aE) H'->(∀ b,c1.B b->∃ o,H' b=some o)->Ok c1 σ (aS as aE δ) H':=λc1 c2 e0 e1 e2 e3 e4 k2 hex=>by
  have Dy:∀ b,Av c1 σ (aS as aE δ) b->Av c σ δ b\/H b=none:=λb z=>by
   rcases z with z | z
   ·rcases e2 b z with z | ⟨_,z⟩
    ·exact .inl (.inl z)
    ·exact .inr z
   ·exact .inl (.inr (qC b z))
  have sA:∀ b,Av c1 σ (aS as aE δ) b->Av c2 (b9 vs) (cn aE) b:=λb z=>by
   have bg:∀ b,Av c σ δ b->Av c2 (b9 vs) (cn aE) b:=λb z=>by
    by_cases hp:∃ (j:Nat) (d:D),ss[j]? = some (S.own d)/\vs[j]? = some (V.ref b)
    ·obtain⟨j,d,e1,e2⟩:=hp;obtain⟨d',ed'⟩:=gu j d e1;exact .inr ⟨j,d',e_.mpr ed',fA.mpr e2⟩
    ·exact .inl (e4 b (by rw[hB]; exact⟨z,hp⟩))
   rcases z with z | z
   ·rcases e2 b z with z | ⟨z,_⟩
    ·exact bg b (.inl z)
    ·exact .inl z
   ·exact bg b (.inr (qC b z))
  have MW:∀ {v:V} {d:D},Rep H (Av c σ δ) v d->Rep H' (Av c1 σ (aS as aE δ)) v d:=λ{v d} r=>by
   have r1:Rep H (λb=>Av c σ δ b\/Av c1 σ (aS as aE δ) b) v d:=r.aJ λb z=>z.elim .inl (Dy b)
   exact(r1.keep λb o e n=>Dw b o e λz=>n (.inl z)).aJ λb z=>.inl (.inr z)
  refine⟨λa o e n=>?_,hex,λa z=>?_,by rw[wk]; exact k.len,λi d e=>?_,λi d e=>?_,λi j a d d' f1 f2 f3 f4=>?_,by rw[e1]; exact k.pinned⟩
  ·rw[e0] at e;have n':¬ c.I a:=λz=>n (by unfold Fc.I at z ⊢; rw[e1]; exact z)
   refine x.keep a o (k.keep a o e n') λz=>?_
   obtain⟨i,d,g1,g2⟩:=qA a (ownIn a z);obtain⟨a',g3,_,g4,_⟩:=k.own i d g1;rw[g2] at g3; cases g3
   rcases g4 with g4 | g4
   ·exact n' g4
   ·rw[g4] at e; cases e
  ·have z':c.I a:=by unfold Fc.I at z ⊢; rw[<- e1]; exact z
   obtain⟨o,e⟩:=k.cN a z';exact x.there a o e
  ·obtain⟨hi,e'⟩:=MV i d e;obtain⟨v,g1,g2⟩:=k.slot i d e';exact⟨v,g1,MW g2⟩
  ·rcases tJ i d e with ⟨hi,e'⟩ | ⟨hi,j,d0,a,b1,b2,b3,b4,b5⟩
   ·obtain⟨a,g1,g2,g3,g4⟩:=k.own i d e';have na:¬ Own (b9 vs) (cn ss) a:=λz=>by
     obtain⟨j,d1,q1,q2⟩:=ownIn a z;rcases h3 j _ _ q1 q2 with ⟨d',f,ee,_⟩ | ⟨d',i',ee,ai,es,ed⟩
     ·cases ee
     ·have:=k.inj i i' a d d' e' ed g1 es;subst this;exact hi (kA.mpr (WF ai))
    have MX:gj H' (Av c1 σ (aS as aE δ)) a d:=by
     have o1:gj H (λb=>Av c σ δ b\/Av c1 σ (aS as aE δ) b) a d:=g2.aJ λb z=>z.elim .inl (Dy b)
     exact(o1.keep (λb o e n=>Dw b o e λz=>n (.inl z)) λo e=>x.keep a o e na).aJ λb z=>.inl (.inr z)
    refine⟨a,g1,MX,by unfold Fc.I at g3 ⊢; rw[e0,e1]; exact g3,λz=>?_⟩;rcases e2 a z with z | ⟨_,z⟩
    ·exact g4 z
    ·obtain⟨o,eo⟩:=g2.some;rw[z] at eo; cases eo
   ·obtain⟨a',g1,g2,g3,g4⟩:=k2.own j d (e_.mpr b5);rw[fA.mpr b3] at g1
    cases g1;obtain⟨i0,d1,q1,q2⟩:=qA a ⟨j,d0,b2,b3⟩;obtain⟨a'',q3,q4,q5,q6⟩:=k.own i0 d1 q1;rw[q2] at q3; cases q3
    refine⟨a,b4,g2.aJ λb z=>.inl (sA b z),by unfold Fc.I at q5 ⊢; rw[e0,e1]; exact q5,λz=>?_⟩;rcases e2 a z with z | ⟨_,z⟩
    ·exact q6 z
    ·obtain⟨o,eo⟩:=q4.some;rw[z] at eo; cases eo
  ·obtain⟨d1,g1⟩:∃ d1,δ[i]? = some (some (.own d1)):=by
    rcases tJ i d f1 with ⟨_,e'⟩ | ⟨hi,_⟩
    ·exact⟨d,e'⟩
    ·obtain⟨_,d1,_,_,_,_,_,a5⟩:=tH i hi;exact⟨d1,a5⟩
   obtain⟨d2,g2⟩:∃ d2,δ[j]? = some (some (.own d2)):=by
    rcases tJ j d' f2 with ⟨_,e'⟩ | ⟨hi,_⟩
    ·exact⟨d',e'⟩
    ·obtain⟨_,d1,_,_,_,_,_,a5⟩:=tH j hi;exact⟨d1,a5⟩
   exact k.inj i j a d1 d2 g1 g2 f3 f4
 have MY:Ok c σ (aS as aE δ) H':=Dx c ⟨H,B,b8 0 ss vs,λ_ _=>False⟩ rfl rfl (λb z=>.inl z) rfl (λb z=>z) x.ok λb z=>by
  obtain⟨o,e⟩:=k.bd b z;exact x.there b o e
 refine⟨⟨MY,λa o e n=>x.keep a o e λz=>n (qA a (ownIn a z)),λa z=>.inl (qC a z),x.there⟩,λv r hr=>?_⟩
 cases r with
 | pure d=>exact Rep.aJ hr λb z=>.inl (big rfl b (jQ b z))
 | own d =>
  obtain⟨a,ea,o,nb,h0,kp,hs⟩:=hr;have oz:H a=none:=hs;have gC:¬ Av c σ δ a:=k.gC oz;refine⟨a,ea,o.aJ λb z=>.inl ?_,λz=>gC (.inl z),k.kj oz,?_,oz⟩
  ·rcases z with (z | z) | z
   ·exact(big rfl b (.inl z)).elim (λz=>.inl (.inl z)) .inr
   ·exact .inl (.inr z)
   ·exact(big rfl b (.inr (qC b z))).elim (λz=>.inl (.inl z)) .inr
  ·refine Dx (c.plus a) (Fc.plus ⟨H,B,b8 0 ss vs,λ_ _=>False⟩ a) rfl rfl (λb z=>?_) rfl (λb z=>.inl z) kp λb z=>?_
   ·rcases z with z | z
    ·exact .inl z
    ·exact .inr ⟨.inr z,by rw[z]; exact oz⟩
   ·rcases z with z | z
    ·obtain⟨o,e⟩:=k.bd b z;exact x.there b o e
    ·rw[z]; exact o.some
end
def di(G:DF):Prop:=∀ ss r aE,G ss=some (r,aE)->aE.length=ss.length/\∀ (j:Nat),(∀ d,ss[j]? = some (.own d)->∃ d',aE[j]? = some (.own d'))/\∀ d,ss[j]? = some (.pure d)->∃ d',aE[j]? = some (.pure d')
theorem MZ(hG:∀ ss y,G ss=some y->fZ fb n ss=some y):di G:=λss r aE h=>by
 have:=hG ss _ h;unfold fZ at this
 cases e:fb (bC n ss) with
 | exc x δx=>rw[e] at this; cases this
 | stuck=>rw[e] at this; cases this
 | ok fl δ =>
  rw[e] at this;simp only at this
  cases e1:cp fl with
  | none=>rw[e1] at this; cases this
  | some r' =>
   rw[e1] at this;simp only[WE] at this
   cases e2:bF 0 ss δ with
   | none=>rw[e2] at this; cases this
   | some os =>
    rw[e2] at this
    cases this;obtain⟨h1,h2⟩:=qw e2;refine⟨h1,λj=>⟨λd ed=>?_,λd ed=>?_⟩⟩
    ·rcases h2 j _ ed with ⟨d',z,_⟩ | ⟨d',d'',_,_,z⟩
     ·cases z
     ·exact⟨d'',z⟩
    ·rcases h2 j _ ed with ⟨d',z,z'⟩ | ⟨d',d'',z,_⟩
     ·exact⟨d',z'⟩
     ·cases z
section
variable {X:Cx} {c:Fc} {e:Expr} {es:List Expr} {as:List Ak} {k n:Nat} {x:Str} {G:DF} {pp pos:Pos}
theorem Dz{ps:List Str}(hK:di G){σ:St}{H:Hp}{Q:VK}(hl:as.length=n)(h:tD c (ax G as) σ H Q):uY (ku n G) [] E0 (tX c as) σ H Q:=by
 obtain⟨δ,kk,q⟩:=h;unfold ax at q;split at q
 ·rename_i hc;rw[Wr] at hc;have nd:=tE hc.2;rw[bc] at q;refine⟨δ,kk,λi hi=>?_,aQ q λds δ1 q1 vs H1 a1 r1=>?_⟩
  ·have:=Qq.mp hc.1 i (kA.mpr hi);unfold bu at this;split at this
   ·rename_i d ed;exact mF kk ed
   ·cases this
  ·cases em:bw as ds δ1 with
   | none=>rw[em] at q1; exact q1.elim
   | some ss =>
    rw[em] at q1;simp only at q1
    cases eg:G ss with
    | none=>rw[eg] at q1; exact q1.elim
    | some y =>
     obtain⟨r,aE⟩:=y;rw[eg] at q1;have jR:=wm a1.ok r1 em nd;obtain⟨m1,m2,_⟩:=qy r1 em;obtain⟨g1,g2⟩:=hK ss r aE eg;refine⟨ss,_,by rw[Q0,<- m2]; exact hl,by rw[Q0]; exact jR,r,aE,eg,λv H2 a2 r2=>?_⟩;rw[Q0] at a2 r2;obtain⟨o1,o2⟩:=tG a1.ok r1 em nd rfl a2 (λj d ed=>(g2 j).1 d ed) λj d ed=>(g2 j).2 d ed
     exact q1 v H2 (a1.trans o1) (aP.back (o2 v r r2) a1)
 ·exact q.elim
theorem cw (F:bV X.prog X.w X.K X.mg X.base k x n G) (hK:di G) (hr:cG k X.A) (hg:Gl X x) (ha:SX X c (e :: es) as) (hl:as.length=n) (da:(x == ("__debug__" : Str))=false:=by decide)
  (he:W7 (e :: es) X.env=(false,eval e X.env) :: W7 es X.env:=by rfl) (bE:(WU pos (W7 es X.env)).any (·.1)=false:=by rfl):SE X c (.Call (.Name x pp) (e :: es) [] pos) (ax G as):=by
 obtain⟨f,fd,ps,hm,hk,hb,ok⟩:=F;exact PE.weak (zev ok hr hg hm hk hb .nil Lg ha da he bE) λσ H Q h=>Dz (ps:=ps) hK hl h
end
def cz(np:List Nat)(n:Nat)(b:DS):DF:=λss=>if bW np 0 ss then fZ b n ss else none
theorem dH(h:cz np n b ss=some y):bW np 0 ss=true/\fZ b n ss=some y:=by
 unfold cz at h;split at h
 ·rename_i hi; exact⟨hi,h⟩
 ·cases h
theorem en:di (cz np n b):=MZ λ_ _ h=>(dH h).2
theorem dU(r:cG k A):A.units + 64 < Qp:=by have:=r.un; omega
theorem gH{c:Fc}{np cs:List Nat}(h:Np c np)(hc:cs.all (λi=>!np.contains i)=true):∀ p ∈ c.pin,p.1 ∉ cs:=λp hp z=>by
 have h1:=h p hp;have h2:=Qq.mp hc p.1 z;rw[h1] at h2
 cases h2
def tK:List Str->Bool
 | []=>true
 | x :: r=>!r.contains x && tK r
theorem DB:∀ {l:List Str},tK l=true->l.Nodup
 | [],_=>.nil
 | x :: r,h=>by
  simp only[tK,Wr,U0] at h;exact List.nodup_cons.mpr ⟨λhm=>by have:=h.1; simp at this; exact this hm,DB h.2⟩
def ic(names:List (Str×NameKind))(x:Str)(k:NameKind):Bool:=match names.lookup x with
 | some j=>j == k
 | none=>false
theorem wq(h:ic names x k=true):names.lookup x=some k:=by
 unfold ic at h;split at h
 ·rename_i j e; rw[e,eq_of_beq h]
 ·cases h
def DC(names:List (Str×NameKind))(N:List Str)(sc:List (Str×NameKind))(cs:List Nat):Bool :=
 sc.all (λx=>!(x.2 == .local) || ic sc x.1 .local) && sc.all (λx=>!(x.2 == .free) || (ic names x.1 .cell || ic names x.1 .free)) && tK (sc.map (·.1)) &&
 (WJ N.length).all λi=>match N[i]? with
  | some x=>!(ic sc x .local || ic sc x .cell) || cs.contains i
  | none=>true
theorem DD(h:names.lookup x=some k):ic names x k=true:=by
 unfold ic; rw[h]; simp
theorem gI{X:Cx}{scope:Scope}{cs:List Nat}(hk:scope.kind = .function)(h:DC X.env.scope.names X.N scope.names cs=true):kY X scope cs:=by
 unfold DC at h;simp only[Wr] at h;obtain⟨⟨⟨h1,h2⟩,h3⟩,h4⟩:=h;refine⟨hk,λx hx hl=>?_,λx hx hf=>?_,DB h3,λi x hi hl=>?_⟩
 ·have:=Qq.mp h1 x hx;rw[hl] at this;exact wq (by simpa using this)
 ·have:=Qq.mp h2 x hx;rw[hf] at this;have:ic X.env.scope.names x.1 .cell=true\/ic X.env.scope.names x.1 .free=true:=by simpa using this
  exact this.elim (λz=>.inl (wq z)) λz=>.inr (wq z)
 ·have oq:i < X.N.length:=(W6.mp hi).1;have:=Qq.mp h4 i (List.mem_range.mpr oq);rw[hi] at this;have iV:(ic scope.names x .local || ic scope.names x .cell)=true:=by
   rcases hl with z | z
   ·rw[DD z]; rfl
   ·rw[DD z]; simp
  simp only[iV,Bool.not_true,Bool.false_or] at this;simpa using this
theorem M0 {K:W1}:hV K "int":=⟨rfl,rfl,rfl,rfl,rfl,rfl,rfl⟩
theorem M1 {K:W1}:hV K "bool":=⟨rfl,rfl,rfl,rfl,rfl,rfl,rfl⟩
theorem M3 {K:W1}:hV K "str":=⟨rfl,rfl,rfl,rfl,rfl,rfl,rfl⟩
theorem M4 {K:W1}:hV K "tuple":=⟨rfl,rfl,rfl,rfl,rfl,rfl,rfl⟩
theorem M5 {K:W1}:hV K "list":=⟨rfl,rfl,rfl,rfl,rfl,rfl,rfl⟩
def oB:Expr->Bool
 | .Starred ..=>false
 | _=>true
theorem qD(h:oB e=true):W7 (e :: es) env=(false,eval e env) :: W7 es env:=by
 cases e <;> first | (cases h; done) | rw[W7] | rfl
 all_goals (intros; contradiction)
section
variable {X:Cx} {c:Fc} {e:Expr} {es:List Expr} {f fe:DE} {g:DA} {as:List Ak}
theorem cq(ha:SE X c e f)(hr:SA X c es g)(hs:oB e=true:=by rfl):SA X c (e :: es) (aI f g):=CW ha hr (qD hs)
theorem bj(ha:SE X c e fe)(hr:SX X c es as)(hs:oB e=true:=by rfl):SX X c (e :: es) (.val fe :: as):=MT ha hr (qD hs)
theorem eS{i:Nat}(ha:PE X e (b_ i))(hr:SX X c es as)(hs:oB e=true:=by rfl):SX X c (e :: es) (.io i :: as):=MU ha hr (qD hs)
end
mutual
def jc:Nat->Expr->Option D
 | _,.Constant (.int i) _ _=>some (.int i)
 | _,.Constant (.bool b) _ _=>some (.bl b)
 | _,.Constant .none _ _=>some .aN
 | _,.Constant (.str x) _ _=>some (.str x.cps.toList)
 | n + 1,.Tuple es _ _=>if es.length<=1000 then(mM n es).map .tup else none
 | _,_=>none
def mM:Nat->List Expr->Option (List D)
 | _,[]=>some []
 | n,e :: es=>match jc n e,mM n es with
  | some d,some ds=>some (d :: ds)
  | _,_=>none
end
theorem M6:∀ {n:Nat} {e:Expr} {d:D},jc n e=some d->oB e=true:=λ{n e d} h=>by
 cases e <;> first | rfl | (cases n <;> simp[jc] at h)
mutual
theorem DH:∀ {n:Nat} {e:Expr} {d:D},jc n e=some d->SE X c e (eD d)
 | _,.Constant (.int i) _ _,d,h=>by
  simp only[jc,Wd] at h; subst h; exact aR
 | _,.Constant (.bool b) _ _,d,h=>by
  simp only[jc,Wd] at h; subst h; exact jH
 | _,.Constant .none _ _,d,h=>by
  simp only[jc,Wd] at h; subst h; exact Cn
 | _,.Constant (.str x) _ _,d,h=>by
  simp only[jc,Wd] at h; subst h; exact mB _ (vA x)
 | 0,.Tuple es k pos,d,h=>by simp[jc] at h
 | n + 1,.Tuple es k pos,d,h=>by
  simp only[jc] at h;split at h
  ·rename_i hl
   cases e:mM n es with
   | none=>rw[e] at h; cases h
   | some ds =>
    rw[e] at h;simp only[WA,Wd] at h;subst h;exact ko (wu e) hl
  ·cases h
theorem wu:∀ {n:Nat} {es:List Expr} {ds:List D},mM n es=some ds->SA X c es (λδ=>.ok ds δ)
 | _,[],ds,h=>by
  simp only[mM,Wd] at h; subst h; exact eQ
 | n,e :: es,ds,h=>by
  simp only[mM] at h;split at h
  ·rename_i d dS h1 h2
   cases h;exact CW (DH h1) (wu h2) (qD (M6 h1))
  ·cases h
end
def gJ(ds:List D):DE:=λδ=>.ok (.own (.lst ds)) δ
theorem M7{X:Cx}{c:Fc}{e:Expr}{d:D}(h:jc 9 e=some d):SE X c e (eD d):=DH h
theorem tL{X:Cx}{c:Fc}{es:List Expr}{ds:List D}{pos:Pos}(h:mM 9 es=some ds)(hl:es.length<=1000):SE X c (.List es pos) (gJ ds):=i_ (wu h) hl
section
variable {X:Cx} {c:Fc} {e:Expr} {fe:DE} {pos:Pos} {tg:Expr}
theorem DJ(he:SE X c e fe)(hs:QQ e none pos.line X.env=pure false:=by rfl):SS X c (.Expr e pos) (lg fe) :=
 MC he (λ_=>hs) trivial (AQ he hs)
theorem qE{i:Nat}{o:Expr}{apos ba:Pos}(ho:PE X o (b_ i))(he:SE X c e fe)
  (gY:Q6 o "append" X.env (eval o X.env)=eval o X.env:=by rfl)
  (gZ:((WU ba (W7 [e] X.env)).all (λx=>!x.1) && (JL ba (Jc [] X.env)).all (λx=>x.1.isSome)
   && decide ([e].length + ([]:List Keyword).length + (if ([]:List Keyword).isEmpty then 0 else 1) < 30))=true:=by rfl)
  (dZ:(apos.endLine == ba.line)=true:=by rfl) (hs:W7 [e] X.env=(false,eval e X.env) :: W7 [] X.env:=by rfl)
  (pQ:QQ (.Call (.Attribute o "append" apos) [e] [] ba) none pos.line X.env=pure false:=by rfl):SS X c (.Expr (.Call (.Attribute o "append" apos) [e] [] ba) pos) (dG i fe) :=
 MD (p0:=apos) ho he (AQ (nU Jm PySem.F.slot_list_append PySem.F.type_list_append BN ho (dt he eU hs) gY gZ dZ hs rfl) pQ)
end
def wx(K:W1):Bool:=K.all λp=>match p.2.cls with
 | .type t=>!(t == "list")
 | _=>true
theorem DK[BEq α][LawfulBEq α]:∀ {K:List (α×β)} {a:α} {o:β},K.lookup a=some o->(a,o) ∈ K
 | [],a,o,e=>by simp at e
 | (b,o') :: r,a,o,e=>by
  rw[WT] at e
  cases hb:a == b with
  | true =>
   rw[hb] at e;have h1:o'=o:=Wx e;have h2:a=b:=eq_of_beq hb;rw[h1,h2];exact Wf
  | false =>
   rw[hb] at e;exact W9 _ (DK e)
theorem M8 {K:W1} {a:Addr} {o:Obj} (h:wx K=true) (e:K.lookup a=some o) (hc:o.cls = .type "list"):False:=by
 have hm:(a,o) ∈ (K:List (Addr×Obj)):=DK e;have h1:=Qq.mp h (a,o) hm;have h2:(match o.cls with | .type t=>!(t == "list") | _=>true)=true:=h1;rw[hc] at h2;have h3:(!(("list" : String) == "list"))=true:=h2;rw[beq_self_eq_true] at h3
 cases h3
theorem M9{K:W1}{G:DF}{H:Hp}{a:Addr}{ns:List Int}{E:XK}(hK:wx K=true)(hS:bS K H a (ns.map V.int))(hG:∃ aE,G [.pure (.lst (ns.map .int))]=some (.pure (.bl true),aE)) :
  ku 1 G [.ref a] H (λv _=>v = .bl true) E:=by
 have hR:Rd H a (.lst (ns.map V.int)):=by
  rcases hS with h | ⟨o,ag,n,e,hc,_⟩
  ·exact h
  ·exact(M8 hK e hc).elim
 obtain⟨aE,hg⟩:=hG;have rep:∀ O:Addr->Prop,¬ O a->Rep H O (.ref a) (.lst (ns.map D.int)):=λO hO=>.lst hO hR (by simp) λi v d e1 e2=>by
  rw[Ww] at e1 e2
  cases e:ns[i]? with
  | none=>rw[e] at e1; cases e1
  | some k=>rw[e] at e1 e2; cases e1; cases e2; exact .int k
 refine⟨[.pure (.lst (ns.map .int))],λ_=>False,rfl,⟨λb o e _=>e,λb z=>z.elim,λb ⟨i,z⟩=>?_,rfl,λi d e=>?_,λi d e=>?_,λi j b d d' e1 e2 e3 e4=>?_,λp z=>?_⟩,_,aE,hg,λv H' x r=>?_⟩
 ·simp[b8] at z
 ·cases i with
  | zero =>
   simp at e;subst e;refine⟨.ref a,rfl,rep _ λz=>?_⟩;rcases z with z | ⟨j,d',z1,z2⟩
   ·exact z
   ·cases j with
    | zero=>simp at z1
    | succ j=>simp at z1
  | succ i=>simp at e
 ·cases i with
  | zero=>simp at e
  | succ i=>simp at e
 ·cases i with
  | zero=>simp at e1
  | succ i=>simp at e1
 ·simp[b8] at z
 ·cases r;rfl
theorem wz{l:PySem.W.OpenLaw}{q:Wm}{loose:List Str}{XP:(Str->Option Value)->Heap->Prop}{YP:Wq->Heap->Prop}{d:DefRec}{K:Params->W1}{k:Nat}{G:DF}(hn:l.most=some 63)(pN:d.params.defaults=[])(hr:cG k callerA)
  (hY:∀ (w:Wq) (h:Heap),YP w h->(K w.params).In h) (hL:∀ p:Params,wx (K p)=true)
  (hG:∀ ns:List Int,ns.length<=63->∃ aE,G [.pure (.lst (ns.map .int))]=some (.pure (.bl true),aE))
  (F:∀ (w:Wq) (mg:Str->Option Value) (fa:Addr) (h:Heap),(K w.params).In h->h.Ns Ws mg->mg d.name=some (.ref fa) ->
   ∃ fd:WP,(∀ (s:W2) (u:Value),BindsTo s fd ⟨[u],[]⟩ [("script",u)])/\∀ base:Heap,(K w.params).In base->base.Ns Ws mg->eV l.prog w (K w.params) mg base d_ k fa fd ["script"] (ku 1 G)) :
  PySem.W.WalkO q loose XP YP l.row.toRowW d [] (λf vs=>PySem.call f vs) :=
 L2.Ld (n:=63) (k:=k) (x:="script") (CX:=λ_=>d_) (sp:=λ_=>ku 1 G) hn (by decide) pN hr hY F (λw H a ns hl _ hS=>M9 (hL w.params) hS (hG ns hl)) λ_ _ _ _ _ z=>z
end DV
set_option maxHeartbeats 400000
namespace L2
open PySem PySem.Spec PyProof.Rows
def wA(x:Str):It:=⟨λi _=>i < x.cps.size,λi H y H'=>H'=H/\∃ c,x.cps[i]? = some c/\y = .str ⟨#[c]⟩,λi _=>i=x.cps.size⟩
theorem M_ {P:Wm} {w:Wq} {K:W1} {tg:Expr} (x:Str) (t:Tok) (it:Addr) (T:String) (hT:T = "str_ascii_iterator"\/T = "str_iterator"):Turn P w K tg (wA x) [it] it (λi h=>h.IsStrIter it T x t i):=by
 have W:∀ A:Wp,A.handled=none->Walks P w A it [it] [it] x.cps.size (SignAt x) (λi h=>h.IsStrIter it T x t i):=λA hh=>by
  rcases hT with rfl | rfl
  ·exact Walks.strAscii hh it x t
  ·exact Walks.strWide hh it x t
 refine⟨by simp,λi h st b hb=>?_,λi h h' st k=>?_,?_,?_,λA i s Q E st h=>?_⟩
 ·have e:b=it:=by simpa using hb
  subst e;obtain⟨o,e,c,d⟩:=st;exact⟨o,e,λv z=>by rw[d] at z; cases z⟩
 ·obtain⟨o,e,r⟩:=st;exact⟨o,k it (by simp) o e,r⟩
 ·intro X hP hw hK hc i pins s σ H E I hf st hg;subst hP hw hK;obtain⟨f0,f1,f2,f3,f4,f5⟩:=hf it (by simp);refine(W X.A (I.ok.hd hc)).item i s _ _ hg st λv h' tk hv eN kk=>?_
  obtain⟨c,u,hx,rfl⟩:=hv;have I1:Inv X pins σ H { s with heap:=h',toks:=tk }:=I.turned (λb o hb e=>kk b o (by simpa using hb) e) f0 f1 f3 f4 f5;obtain⟨o,e,c',d⟩:=id eN;refine⟨_,rfl,rV (s:={ s with heap:=h',toks:=tk }) e c' d (by rcases hT with rfl | rfl <;> decide) ⟨.str ⟨#[c]⟩,H,I1,⟨u,rfl⟩,⟨rfl,c,hx,rfl⟩,eN,λb hb=>(hf b hb).1⟩⟩
 ·intro X hP hw hK hc i pins s σ H E I hf st hg;subst hP hw hK;have nY:i=x.cps.size:=hg;subst nY;obtain⟨f0,f1,f2,f3,f4,f5⟩:=hf it (by simp);exact(W X.A (I.ok.hd hc)).done s _ _ st λh' tk eb=>⟨rfl,I.turned (λb o hb e=>eb b o (by simpa using hb) e) f0 f1 f3 f4 f5⟩
 ·rcases hT with rfl | rfl
  ·exact wpAny_pyIter_striter_ascii st h
  ·exact wpAny_pyIter_striter_wide st h
end L2
namespace DV
open PySem PySem.Spec PyProof.Rows L2
section
variable {X:Cx} {c:Fc} {tg e:Expr} {fe:DE} {pos pp:Pos}
def DL(K:W1)(tl:TE):TI:=λσ H R=>tl σ H λx H1=>(∃ a,x = .ref a/\(∃ xs,bS K H1 a xs)/\R (rW K a) H1)\/(∃ a,x = .ref a/\(∃ xs,c_ K H1 a xs)/\R (uP K a) H1)\/∃ z,x = .str z/\R (wA z) H1
theorem wB{l:Expr}{tl:TE}(hl:PE X l tl):PI X tg l (DL X.K tl):=by
 intro pins s σ H R I h;refine aV (hl pins s σ H _ I h) λv s1 ⟨x,H1,I1,r1,q1⟩=>?_
 rcases q1 with q1 | q1 | ⟨z,e,q⟩
 ·obtain⟨a,e,⟨xs,hq⟩,q⟩:=q1;subst e
  cases r1;obtain⟨ag,rv,p,hz⟩:=I1.list hq;refine wpAny_pyIter_list p.isList ?_;refine⟨s1.heap.objs.size,[s1.heap.objs.size],_,_,H1,rfl,I1.kept (t':=s1.toks) λb o e=>W5 _ e,Im a _,⟨_,Wj _ rfl,rfl,rfl⟩,λb hb=>?_,q⟩;have e:b=s1.heap.objs.size:=by simpa using hb
  subst e;exact I1.jB (Wg _) (I1.aw.fresh (Wg _))
 ·obtain⟨a,e,⟨xs,hq⟩,q⟩:=q1;subst e
  cases r1;obtain⟨ag,rv,p,hz⟩:=I1.tuple hq;refine wpAny_pyIter_tuple (show s1.heap.IsTuple a ag.toArray from p) ?_;refine⟨s1.heap.objs.size,[s1.heap.objs.size],_,_,H1,rfl,I1.kept (t':=s1.toks) λb o e=>W5 _ e,Io a _,⟨_,Wj _ rfl,rfl,rfl⟩,λb hb=>?_,q⟩;have e:b=s1.heap.objs.size:=by simpa using hb
  subst e;exact I1.jB (Wg _) (I1.aw.fresh (Wg _))
 ·subst e;obtain⟨t,rfl⟩:=r1;refine wpAny_pyIter_strU ?_;have hT:strIterType z = "str_ascii_iterator"\/strIterType z = "str_iterator":=by
   unfold strIterType;split
   ·exact .inl rfl
   ·exact .inr rfl
  refine⟨s1.heap.objs.size,[s1.heap.objs.size],_,_,H1,rfl,I1.kept (t':=s1.toks) λb o e=>W5 _ e,M_ z t _ _ hT,⟨_,Wj _ rfl,rfl,rfl⟩,λb hb=>?_,q⟩;have e:b=s1.heap.objs.size:=by simpa using hb
  subst e;exact I1.jB (Wg _) (I1.aw.fresh (Wg _))
theorem Na(z:Tx):ll c σ δ H (wA (toS z)) (z.map λn=>D.str [n]):=by
 intro H2 kp;have hsz:(toS z).cps.size=z.length:=by simp[toS]
 refine⟨by show(z.map _).length=_; rw[hsz]; simp,λi d e=>?_⟩;rw[Ww] at e
 cases ez:z[i]? with
 | none=>rw[ez] at e; cases e
 | some n =>
  rw[ez] at e
  cases e;have hi:i < z.length:=(W6.mp ez).1;refine⟨by show i < _; rw[hsz]; exact hi,λx H3 ⟨e3,cc,hc,hx⟩=>.inl ⟨e3,?_⟩⟩;have:(toS z).cps[i]? = z[i]?:=by simp[toS]
  rw[this,ez] at hc
  cases hc;rw[hx];exact .str [n]
def bR(f:DE):DI:=λδ=>(f δ).bind λr δ1=>match r.d with
 | .lst ds=>.ok ds δ1
 | .tup ds=>.ok ds δ1
 | .str x=>.ok (x.map λn=>.str [n]) δ1
 | _=>.stuck
theorem fc(he:SE X c e fe):SI X c tg e (bR fe):=PI.weak (wB he) λσ H R ⟨δ,k,q⟩=>by
 unfold bR at q;rw[bc] at q;refine⟨δ,k,aQ q λr δ1 q1 v H1 a1 r1=>?_⟩;have rr:=r1.rep;generalize r.d=d at q1 rr
 cases d <;> first | exact q1.elim | skip
 ·cases rr;exact .inr (.inr ⟨_,rfl,q1 _ H1 a1 (Na _)⟩)
 ·cases rr with
  | tup h1 h2 h3 h4=>exact .inr (.inl ⟨_,rfl,⟨_,.of h2⟩,q1 _ H1 a1 (ME _ h2 (λz=>h1 (.inr z)) ⟨h3,h4⟩)⟩)
 ·cases rr with
  | lst h1 h2 h3 h4 =>
   refine .inl ⟨_,rfl,⟨_,.inl h2⟩,q1 _ H1 a1 ?_⟩;intro H2 kp;rename_i a vs;have h5:Rd H2 a (.lst vs):=Rd.keep h2 λo e=>kp a o e λz=>h1 (.inr z)
   have r':aA H1 (Av c σ δ1) vs _:=⟨h3,h4⟩
   refine⟨⟨vs,.inl h5,by rw[r'.1]; exact Wg _⟩,λi d e=>?_⟩;obtain⟨v,ev,rv⟩:=r'.get e;refine⟨⟨vs,v,.inl h5,ev⟩,λx H3 ⟨e3,y⟩=>.inl ⟨e3,?_⟩⟩;have:=y vs (.inl h5);rw[ev] at this
   cases this;exact rv
end
end DV
namespace L2
open PySem PySem.Spec PyProof.Rows
theorem Nb(a:Int)(t:Tok)(l:Addr)(dd:Option Addr)(items:Array Value)(n:Nat)(sl:Array (Option Value)) :
  Meets (Builtin.«int.__rmul__» ⟨[.int a t,.ref l],[]⟩) (λ_ R s=>s.heap.get? l=some { cls:=.type "tuple",dict:=dd,data:=.seq items n,slots:=sl }/\R (.ok (.ret Value.notImplemented)) s) :=
 .of_wp λprog w A R s h=>by obtain⟨hp,g,d,tk,os⟩:=s; obtain⟨hl,h⟩:=h; wp_walk; exact⟨_,rfl,h⟩
theorem Nc:fillsNumberSlot (.type "tuple") "mul" = pure false :=
 PySem.fillsNumberSlot_seq (id:="tuple.__mul__") (r:=some (.builtin "tuple.__rmul__")) F.slot_tuple_mul.lookup (by decide +kernel) F.slot_tuple_rmul.lookup (by decide +kernel)
theorem Nd:seqRepeat? (.type "tuple")=pure (some (.builtin "tuple.__mul__")):=by
 unfold seqRepeat?;rw[PySem.seqSlot_of (T:="tuple") (name:="__mul__") (id:="tuple.__mul__") F.slot_tuple_mul.lookup (by decide +kernel),PySem.seqSlot_of (T:="tuple") (name:="__rmul__") (id:="tuple.__rmul__") F.slot_tuple_rmul.lookup (by decide +kernel)];rfl
theorem Nf(l:Addr)(dd:Option Addr)(items:Array Value)(n:Nat)(sl:Array (Option Value))(x:Int)(u:Tok)(h1:¬ (decide (x < -(2 ^ 63)) || decide (x ≥ 2 ^ 63))=true)(h2:¬ (items.isEmpty || x == 1)=true)(h3:¬ (decide (x<=0) || items.isEmpty)=true)(h4:¬ items.size * x > (2 ^ 63 - 1) / 8)(h5:¬ Builtin.Tuple.tupleTooMany (items.size * x)=true)(h6:((Wa x.toNat items).foldl (· ++ ·) #[]).size<=Wb) :
  Meets (Builtin.«tuple.__mul__» ⟨[.ref l,.int x u],[]⟩) (λ_ R s=>s.heap.get? l=some { cls:=.type "tuple",dict:=dd,data:=.seq items n,slots:=sl } /\
   R (.ok (.ret (.ref s.heap.objs.size))) { s with heap:=s.heap.push { cls:=.type "tuple",data:=.seq ((Wa x.toNat items).foldl (· ++ ·) #[]) } }) :=
 .of_wp λprog w A R s h=>by
  obtain⟨hp,g,d,tk,os⟩:=s; obtain⟨hl,h⟩:=h
  wp_walk
  rw[if_neg h1];wp_walk
  try rw[if_neg h2]
  try wp_walk
  try rw[if_neg h3]
  try wp_walk
  try rw[if_neg h4]
  try wp_walk
  try rw[if_neg h5]
  try wp_walk
  exact⟨_,rfl,h⟩
theorem wC(ag:List α):∀ (k:Nat) (acc:List α),List.foldl (λx1 x2:Array α=>x1 ++ x2) acc.toArray (Wa k ag.toArray)=(acc ++ (Wa k ag).flatten).toArray
 | 0,acc=>by simp
 | k + 1,acc=>by
  rw[WL,QO,show acc.toArray ++ ag.toArray=(acc ++ ag).toArray by simp,wC ag k];simp[WL]
section
variable {X:Cx}
def DM(K:W1):R2:=λx y H Q=>∃ l k xs,x = .ref l/\y = .int k/\c_ K H l xs/\xs≠[]/\2<=k/\k<=1000000/\xs.length * k.toNat<=Wb/\∀ p,H p=none->Q (.ref p) (upd H p (.tup (Wa k.toNat xs).flatten))
theorem Ng:bT X (Qn .Mult) (DM X.K):=by
 intro pins s σ H x y v u Q I rx ry h;obtain⟨l,k,xs,rfl,rfl,hH,dR,h1,h2,hz,q⟩:=h
 cases rx;obtain⟨t,rfl⟩:=ry;obtain⟨ag,r,pl,hl⟩:=I.tuple hH;obtain⟨⟨cls,dd,data,sl⟩,ho,hc,n,hd⟩:=id pl;simp only at hc hd;subst hc hd;have hlen:ag.toArray.size=xs.length:=by rw[Wn]; exact r.length.symm
 have tM:ag.toArray.isEmpty=false:=by
  cases ag with
  | nil=>exact absurd (r.pE.mp rfl) dR
  | cons a b=>rfl
 have dZ:Wb=16777216:=rfl;have hk:(k.toNat:Int)=k:=by omega
 have hmul:((ag.toArray.size:Nat):Int) * k=((xs.length * k.toNat:Nat):Int):=by rw[hlen,Int.natCast_mul,hk]
 have tN:List.foldl (λx1 x2=>x1 ++ x2) #[] (Wa k.toNat ag.toArray)=(Wa k.toNat ag).flatten.toArray:=by
  have:=u_ ag k.toNat [];rw[Q1] at this;exact this
 refine wpAny_binaryOp_repeat_ref (T:="tuple") (U:="int") (by decide) ⟨_,ho,rfl⟩ (λs'=>typeIs_int s' k t) Nc F.fills_int_mul F.slot_int_rmul Nd F.slot_int_index.lookup
  (Ja F.slot_int_rmul (typeIs_int s k t) F.entry_int_rmul (F.args_int_rmul_2 _ _) (Nb k t l dd ag.toArray n sl)
   ⟨ho,rfl,⟨_,ho,rfl⟩,Ja F.slot_tuple_mul ⟨_,ho,rfl⟩ F.entry_tuple_mul (F.args_tuple_mul_2 _ _) (Nf l dd ag.toArray n sl k t ?_ ?_ ?_ ?_ ?_ ?_) ⟨ho,?_⟩⟩)
 ·simp; omega
 ·rw[tM]; simp; omega
 ·rw[tM]; simp; omega
 ·rw[hmul]; omega
 ·rw[hmul];unfold Builtin.Tuple.tupleTooMany;rw[dZ] at hz;generalize xs.length * k.toNat=m at hz;simp only[dZ,decide_eq_true_eq];omega
 ·rw[tN,Wn,sf,<- r.length,U7]; exact hz
 ·rw[tN];have I1:Inv X pins σ (upd H s.heap.objs.size (.tup (Wa k.toNat xs).flatten)) { s with heap:=s.heap.push { cls:=.type "tuple",data:=.seq (Wa k.toNat ag).flatten.toArray } } :=
   I.laid (t':=s.toks) (λb o e=>W5 _ e) (Wg _) (show bG X.prog X.w _ _ _ (.tup (Wa k.toNat xs).flatten) from⟨by rw[sf,U7]; exact hz,(Wa k.toNat ag).flatten,r.rep k.toNat,ir.new _ _⟩)
  exact⟨.ref _,_,I1,rfl,q _ (I.aw.fresh (Wg _))⟩
def DN:R2:=λx y H Q=>∃ z k,x = .str z/\y = .int k/\2<=k/\k<=1000000/\0 < z.length/\z.length * k.toNat<=Wb/\Q (.str ⟨(Wa k.toNat z.cps).foldl (· ++ ·) #[]⟩) H
theorem Nh:bT X (Qn .Mult) DN:=by
 intro pins s σ H x y v u Q I rx ry h;obtain⟨z,k,rfl,rfl,h1,h2,h0,hz,q⟩:=h;obtain⟨t,rfl⟩:=rx;obtain⟨t',rfl⟩:=ry;have dZ:Wb=16777216:=rfl;have c1:¬ k < 1:=by omega
 have c2:(k == 1 || z.length == 0)=false:=by
  simp;omega
 refine PySem.P.mul_str (by simp; omega) (λ_ _=>?_) (λ_ _=>?_) ?_
 ·have hm:(z.length:Int) * k<=16777216:=by
   have:(z.length:Int) * k=((z.length * k.toNat:Nat):Int):=by rw[Int.natCast_mul,show(k.toNat:Int)=k by omega]
   rw[this];rw[dZ] at hz;omega
  have:(z.length:Int)<=(2 ^ 63 - 1) / k:=(Int.le_ediv_iff_mul_le (by omega)).mpr (by omega);omega
 ·unfold Builtin.Str.tooLong;rw[dZ] at hz;generalize z.length * k.toNat=m at hz;simp only[dZ,decide_eq_false_iff_not];omega
 ·rw[if_neg c1,if_neg (by rw[c2]; simp)];have hsz:((Wa k.toNat z.cps).foldl (· ++ ·) #[]).size=k.toNat * z.length:=by
   have h:=wC z.cps.toList k.toNat [];simp only[Q1,Array.toArray_toList] at h;rw[h,Wn,sf];simp[Str.length]
  exact⟨by show((Wa k.toNat z.cps).foldl (· ++ ·) #[]).size<=_; rw[hsz,U7]; exact hz,.str _,H,I.tok _,⟨_,rfl⟩,q⟩
end
end L2
namespace DV
open PySem PySem.Spec PyProof.Rows L2
def cI:D->D->Option S
 | .int i,.int j=>pY (.int i) (.int j)
 | .str x,.int k=>if 2<=k/\k<=1000000/\0 < x.length/\x.length * k.toNat<=Wb then some (.pure (.str (Wa k.toNat x).flatten)) else none
 | .tup xs,.int k=>if 2<=k/\k<=1000000/\0 < xs.length/\xs.length * k.toNat<=Wb then some (.pure (.tup (Wa k.toNat xs).flatten)) else none
 | _,_=>none
def DO(K:W1):R2:=λx y H Q=>rI pC (λi j=>V.int (i * j)) x y H Q\/DN x y H Q\/DM K x y H Q
theorem mO:bT X (Qn .Mult) (DO X.K):=IB.or (Nh.or Ng)
theorem aA.rep(h:aA H O vs ds):∀ k:Nat,aA H O (Wa k vs).flatten (Wa k ds).flatten
 | 0=>.nil
 | k + 1=>by rw[WL,WL,Qd,Qd]; exact h.append (aA.rep h k)
theorem mP{K:W1}:cX (DO K) cI:=by
 intro c σ δ H x y d e s Q k rx ry hp q
 cases d <;> cases e <;> first | (simp[cI] at hp; done) | skip
 ·exact .inl (Mb c σ δ H x y _ _ s Q k rx ry hp q)
 ·rename_i z n;simp only[cI] at hp;split at hp
  ·rename_i h
   cases hp;refine .inr (.inl ⟨toS z,n,rx.str,ry.int,h.1,h.2.1,by rw[i4]; exact h.2.2.1,by rw[i4]; exact h.2.2.2,?_⟩);have e:(⟨(Wa n.toNat (toS z).cps).foldl (· ++ ·) #[]⟩:Str)=toS (Wa n.toNat z).flatten:=by
    unfold toS;congr 1
    have:=wC z n.toNat [];rw[Q1] at this;exact this
   rw[e];exact q _ H (.refl k) (.str _)
  ·cases hp
 ·rename_i ds n;simp only[cI] at hp;split at hp
  ·rename_i h
   cases hp;obtain⟨a,vs,ex,ha,r⟩:=rx.tup;refine .inr (.inr ⟨a,n,vs,ex,ry.int,.of ha,?_,h.1,h.2.1,by rw[r.1]; exact h.2.2.2,λp qF=>?_⟩)
   ·intro z;rw[z] at r;have:=r.1;simp at this;omega
   ·exact q _ _ (.alloc k qF _) (aP.mz k (aA.rep r _) qF)
  ·cases hp
theorem aP.newD(k:Ok c σ δ H)(hp:H p=none):aP c σ δ H (upd H p (.dK [])) (.ref p) (.own (.ay [])):=by
 refine⟨p,rfl,⟨[],cg,rfl,λi p q e=>by simp at e⟩,λz=>k.gC hp (.inl z),k.kj hp,k.plus hp _,hp⟩
def jd:DE:=λδ=>.ok (.own (.ay [])) δ
theorem tO{X:Cx}{c:Fc}{pos:Pos}:SE X c (.Dict [] [] pos) jd:=PE.weak KQ λσ H Q ⟨δ,k,q⟩=>λp hp=>q _ _ (.alloc k hp _) (aP.newD k hp)
section
variable {X:Cx} {c:Fc} {e a x y:Expr} {fb:BE} {f g fa:DE} {pos pp p p2:Pos}
end
end DV
set_option maxHeartbeats 1000000
namespace L2
open PySem PySem.Spec PyProof.Rows
theorem DP:entryFor table "dict.update.loop" = some Builtin.«dict.update.loop»:=entryFor_of_tree (by kernel_rfl)
theorem qG:plainId "dict.update.loop" = true:=by decide +kernel
theorem Ni:JT (.type "tuple") "keys" = pure none:=by rw[Jr,QI]; kernel_rfl
theorem Nj:JT (.type "list") "keys" = pure none:=by rw[Jr,QI]; kernel_rfl
set_option maxRecDepth 8000 in
theorem Nk
  (hx:s.heap.get? a=some o) (hc:o.cls = .type "tuple") (qH:o.data = .seq xs k) (hd:o.dict=none) (hA:A.handled=none)
  (h:∀ h' tk,(∀ b ob,s.heap.get? b=some ob->h'.get? b=some ob)->Q none { s with heap:=h',toks:=tk }) :
  W8 (model prog w) A (getAttr? (.ref a) "keys") Q E s:=by
 obtain⟨c,ay,dat,sl⟩:=o;simp only at hc qH hd;subst hc qH hd;obtain⟨hp,g,d,tk,os⟩:=s;have hT:∀ eC,(⟨hp,g,d,eC,os⟩:W2).TypeIs (.ref a) "tuple":=λ_=>⟨_,hx,rfl⟩
 have f1:=sub_AttributeError;have f3:=F.slot_tuple_getattribute.lookup;have f4:=F.slot_tuple_getattribute.bind (.ref a);have f5:=am_tuple_getattr_none;have wF:=Ni;unfold getAttr? getAttrBy? getAttrBy;repeat (any_goals (first | assumption | exact hT _ | ((with_reducible show W8 _ _ (call (Value.builtin "tuple.__getattribute__") _ _) _ _ _); refine Ja F.slot_tuple_getattribute (hT _) am_entry_tuple_getattribute (F.args_tuple_getattribute_2 _ _) (meets_getattribute_miss_tuple a xs k sl "keys" _ wF (by decide +kernel)) ⟨hx,hA,λh' eC e lB=>?_⟩) | wp_step))
 obtain⟨t',u',he⟩:=lB.there;show W8 _ _ (JQ _ _ _ _ _ _ _) _ _ _;unfold JQ;repeat (any_goals (first | assumption | wp_step))
 exact h _ _ lB.keeps
set_option maxRecDepth 8000 in
theorem Nl
  (hx:s.heap.get? a=some o) (hc:o.cls = .type "list") (qH:o.data = .seq xs k) (hd:o.dict=none) (hA:A.handled=none)
  (h:∀ h' tk,(∀ b ob,s.heap.get? b=some ob->h'.get? b=some ob)->Q none { s with heap:=h',toks:=tk }) :
  W8 (model prog w) A (getAttr? (.ref a) "keys") Q E s:=by
 obtain⟨c,ay,dat,sl⟩:=o;simp only at hc qH hd;subst hc qH hd;obtain⟨hp,g,d,tk,os⟩:=s;have hT:∀ eC,(⟨hp,g,d,eC,os⟩:W2).TypeIs (.ref a) "list":=λ_=>⟨_,hx,rfl⟩
 have f1:=sub_AttributeError;have f3:=F.slot_list_getattribute.lookup;have f4:=F.slot_list_getattribute.bind (.ref a);have f5:=am_list_getattr_none;have wF:=Nj;unfold getAttr? getAttrBy? getAttrBy;repeat (any_goals (first | assumption | exact hT _ | ((with_reducible show W8 _ _ (call (Value.builtin "list.__getattribute__") _ _) _ _ _); refine Ja F.slot_list_getattribute (hT _) am_entry_list_getattribute (F.args_list_getattribute_2 _ _) (meets_getattribute_miss_list a xs k sl "keys" _ wF (by decide +kernel)) ⟨hx,hA,λh' eC e lB=>?_⟩) | wp_step))
 obtain⟨t',u',he⟩:=lB.there;show W8 _ _ (JQ _ _ _ _ _ _ _) _ _ _;unfold JQ;repeat (any_goals (first | assumption | wp_step))
 exact h _ _ lB.keeps
def fN(kps:List (Key×V))(acc:List (Key×V)):List (Key×V):=kps.foldl (λa kv=>putK a kv.1 kv.2) acc
theorem Nm{prog:Wm}{w:Wq}{A:Wp}{R:Result->W2->Prop}{s:W2}{dl it:Addr}{i:Int}{t0:Tok}
  (hn:W8 (model prog w) A.in1 (Qb (.ref it)) (λr s1=>∃ (q:Addr) (k v:Value) (n:Nat),r=some (.ref q)/\s1.heap.get? q=some { cls:=.type "tuple",dict:=none,data:=.seq #[k,v] n,slots:=#[] } /\
   W8 (model prog w) A.in1 (dictSet dl k v) (λ_ s2=>Qa (model prog w) A (.builtin "dict.update.loop" ⟨[.ref dl,.ref it,Q4 (i + 1),.none],[]⟩) R s2) (λ_ _=>False) s1) (λ_ _=>False) s) :
  Qa (model prog w) A (.builtin "dict.update.loop" ⟨[.ref dl,.ref it,.int i t0,.none],[]⟩) R s:=by
 refine Q2 DP ?_;rw[Around.under_plainId qG _];show W8 _ A.in1 (Qb (.ref it) >>= _) _ _ s;refine W0 (WC hn (λr s1 hr=>?_) λ_ _ z=>z.elim);obtain⟨q,k,v,n,rfl,hq,hd⟩:=hr;dsimp only;refine W0 ?_;try with_reducible refine WG ?_
 refine W0 (wpAny_tryCatch ?_);have hT:s1.TypeIs (.ref q) "tuple":=⟨_,hq,rfl⟩
 unfold Builtin.Dict.pairItems;refine W0 (QN hT ?_);rw[if_pos (by decide)];refine W0 ?_;unfold seqItems?;refine W0 (wpAny_load hq (W4 ?_));refine W4 ?_;show W8 _ A.in1 (holding [k,v] (dictSet dl k v)) _ _ s1;try with_reducible refine WG ?_
 refine WC hd (λ_ s2 h2=>?_) λ_ _ z=>z.elim
 exact W4 ⟨Qt qG _,h2⟩
theorem Nn{prog:Wm}{w:Wq}{A:Wp}{R:Result->W2->Prop}{s:W2}{dl it:Addr}{i:Int}{t0:Tok}
  (hn:W8 (model prog w) A.in1 (Qb (.ref it)) (λr s1=>r=none/\R (.ok (.ret .none)) s1) (λ_ _=>False) s) :
  Qa (model prog w) A (.builtin "dict.update.loop" ⟨[.ref dl,.ref it,.int i t0,.none],[]⟩) R s:=by
 refine Q2 DP ?_;rw[Around.under_plainId qG _];show W8 _ A.in1 (Qb (.ref it) >>= _) _ _ s;refine W0 (WC hn (λr s1 hr=>?_) λ_ _ z=>z.elim);obtain⟨rfl,hd⟩:=hr;dsimp only;show W8 _ A.in1 (Builtin.Dict.addKeywords dl [] >>= _) _ _ s1;exact W0 (W4 (W4 hd))
section
variable {X:Cx} {pins:List (Addr×Obj)} {σ:St} {H:Hp}
theorem Rd.sub(h:Rd H a u)(k:∀ b o,H b=some o->H' b=some o):Rd H' a u:=by
 rcases h with h | ⟨o,h⟩
 ·exact .inl (k _ _ h)
 ·exact .inr ⟨o,k _ _ h⟩
def tP(H:Hp)(ys:List V)(kps:List (Key×V)):Prop:=ys.length=kps.length/\∀ (i:Nat) y kv,ys[i]? = some y->kps[i]? = some kv->∃ q,y = .ref q/\H q=some (.tup [kV kv.1,kv.2])
theorem DQ:∀ (kps acc:List (Key×V)),(fN kps acc).length<=acc.length + kps.length
 | [],acc=>Wg _
 | kv :: r,acc=>by
  have h1:=DQ r (putK acc kv.1 kv.2);have h2:=pI acc kv.1 kv.2;show(fN r (putK acc kv.1 kv.2)).length<=_;simp only[WD];omega
theorem Nq(kps:List (Key×V))(kv:Key×V)(acc:List (Key×V)):fN (kps ++ [kv]) acc=putK (fN kps acc) kv.1 kv.2:=by
 unfold fN;rw[List.foldl_append];rfl
theorem DU{A:Wp}{R:Result->W2->Prop}{dl it:Addr}{ys:List V}{kps:List (Key×V)}{tn:Nat->Heap->Prop}(hP:tP H ys kps)(mQ:H dl=none)(hz:kps.length<=Wb)
  (item:∀ (i:Nat) (y:V) (H':Hp) (s:W2) (Q:Option Value->W2->Prop),(∀ b o,H b=some o->H' b=some o)->H' it=none->Inv X pins σ H' s->tn i s.heap->ys[i]? = some y->(∀ u s',RelV y u->Inv X pins σ H' s'->tn (i + 1) s'.heap->Q (some u) s')->W8 (model X.prog X.w) A.in1 (Qb (.ref it)) Q (λ_ _=>False) s)
  (done:∀ (H':Hp) (s:W2) (Q:Option Value->W2->Prop),(∀ b o,H b=some o->H' b=some o)->H' it=none->Inv X pins σ H' s->tn ys.length s.heap->(∀ s',Inv X pins σ H' s'->Q none s')->W8 (model X.prog X.w) A.in1 (Qb (.ref it)) Q (λ_ _=>False) s)
  (keep:∀ (i:Nat) (h h':Heap),tn i h->(∀ o,h.get? it=some o->h'.get? it=some o)->tn i h') (hit:H it=none) (dR:it≠dl) (hR:∀ s',Inv X pins σ (upd H dl (.dK (fN kps []))) s'->R (.ok (.ret .none)) s') :
  ∀ (k i:Nat) (s:W2) (j:Int) (t0:Tok),ys.length - i=k->i<=ys.length->Inv X pins σ (upd H dl (.dK (fN (kps.take i) []))) s->tn i s.heap ->
   Qa (model X.prog X.w) A (.builtin "dict.update.loop" ⟨[.ref dl,.ref it,.int j t0,.none],[]⟩) R s:=by
 have up:∀ (acc:List (Key×V)) b o,H b=some o->upd H dl (.dK acc) b=some o:=λacc b o e=>by rw[aG (fP e mQ)]; exact e
 have kP:∀ acc:List (Key×V),upd H dl (.dK acc) it=none:=λacc=>by rw[aG dR]; exact hit
 intro k;induction k with
 | zero =>
  intro i s j t0 hk hi I st;have e:i=ys.length:=by omega
  subst e;rw[hP.1,List.take_of_length_le (Wg _)] at I;refine Nn (done _ s _ (up _) (kP _) I st λs' I'=>⟨rfl,hR s' I'⟩)
 | succ k ih =>
  intro i s j t0 hk hi I st;have bH:i < ys.length:=by omega
  have DW:i < kps.length:=by rw[<- hP.1]; exact bH
  obtain⟨q,ey,hq⟩:=hP.2 i ys[i] kps[i] (by simp[bH]) (by simp[DW]);-- the item is a tuple of two
  have main:∀ s1,Inv X pins σ (upd H dl (.dK (fN (kps.take i) []))) s1->tn (i + 1) s1.heap->∃ (kk vv:Value) (n:Nat),s1.heap.get? q=some { cls:=.type "tuple",dict:=none,data:=.seq #[kk,vv] n,slots:=#[] }/\RelV (kV kps[i].1) kk/\RelV kps[i].2 vv:=λs1 I1 _=>by
   obtain⟨_,ag,r,n,e⟩:=(show bG X.prog X.w _ s1.heap q (.tup [kV kps[i].1,kps[i].2]) from I1.aw q _ (up _ q _ hq))
   obtain⟨u,v,rfl,r1,r2⟩:=Vals.two r;exact⟨u,v,n,e,r1,r2⟩
  refine Nm (item i ys[i] _ s _ (up _) (kP _) I st (by simp[bH]) λu s' ru I' eN=>?_);rw[ey] at ru
  cases ru;obtain⟨kk,vv,n,e,r1,r2⟩:=main s' I' eN;refine⟨q,kk,vv,n,rfl,e,?_⟩;obtain⟨z,hd,vs,rel,dd⟩:=pJ I'.aw cg;have jb:vs.length<=Wb:=by rw[<- rel.length]; exact z
  have hl:(putK (fN (kps.take i) []) kps[i].1 kps[i].2).length<=Wb:=by
   have h1:=pI (fN (kps.take i) []) kps[i].1 kps[i].2;have h2:=DQ (kps.take i) [];simp at h2;omega
  refine wpAny_dictSet_pairs (hsz:=jb) (mq r1) dd λh' jF hs=>?_
  have he:∃ q,h'.get? dl=some q:=let ⟨q,_,_,hq,_⟩:=jF; ⟨q,hq⟩
  have I2:=sh (t':=s'.toks + 1) I' (by rw[cg]; exact True.intro) hs he (vd hl hd (rel.put kps[i].1 r2) jF);rw[Hy] at I2;have et:kps.take (i + 1)=kps.take i ++ [kps[i]]:=by rw[J0]; simp[DW]
  rw[show putK (fN (kps.take i) []) kps[i].1 kps[i].2=fN (kps.take (i + 1)) [] by rw[et,Nq]] at I2;exact ih (i + 1) _ (j + 1) _ (by omega) bH I2 (keep (i + 1) _ _ eN λo eo=>(hs.2 it dR).trans eo)
theorem Nr (hc:X.calm=true):eE X (.type "dict") (λxs H Q=>∃ p ys kps,xs=[.ref p]/\(H p=some (.tup ys)\/Rd H p (.lst ys))/\tP H ys kps/\kps.length<=Wb/\∀ l,H l=none->Q (.ref l) (upd H l (.dK (fN kps [])))):=by
 intro pins s σ H xs us Q I r h;obtain⟨p,ys,kps,rfl,hp,hP,hz,q⟩:=h;obtain⟨u,rfl,rx⟩:=gB r
 cases rx;have hA:X.A.handled=none:=I.ok.hd hc;refine callType_codes (Q₁:=λobj s₁=>obj = .ref s.heap.objs.size/\s₁ = { s with heap:=s.heap.push { cls:=.type "dict",data:=.dict #[] } }) F.kt_called_dict (F.kt_typeCall_dict_1 _) F.entry_dict_init (kt_code_dict_new _ ⟨rfl,rfl⟩) ?_;rintro obj s₁ ⟨rfl,rfl⟩;have mQ:H s.heap.objs.size=none:=I.aw.fresh (Wg _);have I1:Inv X pins σ (upd H s.heap.objs.size (.dK [])) { s with heap:=s.heap.push { cls:=.type "dict",data:=.dict #[] } }:=I.laid (t':=s.toks) (λ_ _ q=>W5 _ q) (Wg _) (ve s.heap I.big);generalize hdd:s.heap.objs.size=dl at mQ I1;have up:∀ (acc:List (Key×V)) b o,H b=some o->upd H dl (.dK acc) b=some o:=λacc b o e=>by rw[aG (fP e mQ)]; exact e
 have DY:({ s with heap:=s.heap.push { cls:=.type "dict",data:=.dict #[] } }:W2).TypeIs (.ref dl) "dict":=⟨_,by rw[<- hdd]; exact Wj _ rfl,rfl⟩
 refine⟨DY,F.args_dict_init_2 _ _,?_⟩;unfold Builtin.«dict.__init__»;refine W0 ?_;unfold Builtin.Dict.selfAndRest;refine W0 (wpAny_notOrdered_dict DY ?_);show W8 _ _ (pure (dl,[Value.ref p])) _ _ _;refine W4 ?_;show W8 _ _ (Builtin.Dict.updateFrom "dict.__init__" dl (.ref p) [] .none) _ _ _;unfold Builtin.Dict.updateFrom;have fin:∀ s',Inv X pins σ (upd H dl (.dK (fN kps []))) s'->EP X pins σ Q (.ref dl) s':=λs' I'=>⟨.ref dl,_,I',rfl,q dl mQ⟩
 rcases hp with hp | hp
 ·obtain⟨_,ag,r,n,e⟩:=(show bG X.prog X.w _ (s.heap.push { cls:=.type "dict",data:=.dict #[] }) p (.tup ys) from I1.aw p _ (up _ p _ hp))
  refine W0 (QN ⟨_,e,rfl⟩ ?_);rw[if_pos (by decide)];refine W0 (Nk e rfl rfl rfl hA λh' tk kp=>?_);rw[if_pos (show(none:Option Value).isNone=true from rfl)];refine W0 (Jq ?_);have I2:Inv X pins σ (upd H dl (.dK [])) { s with heap:=h',toks:=tk }:=I1.kept kp;have wG:h'.IsTuple p ag.toArray:=⟨_,kp _ _ e,rfl,n,rfl⟩
  refine W0 (wpAny_pyIter_tuple (s:={ s with heap:=h',toks:=tk }) wG ?_);refine W4 ⟨Qt qG _,?_⟩;have eO:upd H dl (.dK []) h'.objs.size=none:=I2.aw.fresh (Wg _);have dR:h'.objs.size≠dl:=λz=>by rw[z,cg] at eO; cases eO
  have hit:H h'.objs.size=none:=by rw[aG dR] at eO; exact eO
  have fp:∀ H':Hp,H' h'.objs.size=none->ft X pins H' h'.objs.size:=λH' hn=>I2.jB (Wg _) hn
  refine DU (X:=X) (pins:=pins) (σ:=σ) (H:=H) (dl:=dl) (it:=h'.objs.size) (ys:=ys) (kps:=kps) (tn:=λi h=>h.IsTupleIter h'.objs.size p i) hP mQ hz ?_ ?_ (λi h h2 st k=>st.at k) hit dR (λs' I'=>⟨rfl,fin s' I'⟩) ys.length 0 _ 0 _ (Nat.sub_zero _) (Qs _) ?_ ?_
  ·intro i y H' s' Q' sub hn I' st hy k;obtain⟨_,its2,r2,n2,e2⟩:=(show bG X.prog X.w _ s'.heap p (.tup ys) from I'.aw p _ (sub p _ hp))
   obtain⟨v,hv,rv⟩:=r2.get hy;obtain⟨f0,f1,f2,f3,f4,f5⟩:=fp H' hn;refine wpAny_pyNext_tuple_item st (items:=its2.toArray) ⟨_,e2,rfl,n2,rfl⟩ (x:=v) (by simpa using hv) λh3 kR sb=>?_
   exact k v { s' with heap:=h3 } rv (I'.turned (t':=s'.toks) (λb o hb e=>(sb.2 b hb).trans e) f0 f1 f3 f4 f5) kR
  ·intro H' s' Q' sub hn I' st k;obtain⟨_,its2,r2,n2,e2⟩:=(show bG X.prog X.w _ s'.heap p (.tup ys) from I'.aw p _ (sub p _ hp))
   obtain⟨f0,f1,f2,f3,f4,f5⟩:=fp H' hn;have kl:=r2.length;exact wpAny_pyNext_tuple_end (show X.A.in1.in1.handled=none from hA) st (items:=its2.toArray) ⟨_,e2,rfl,n2,rfl⟩ (by simp; omega) λh3 eb=>k { s' with heap:=h3 } (I'.turned (t':=s'.toks) (λb o hb e=>eb b o hb e) f0 f1 f3 f4 f5)
  ·exact I2.kept (t':=tk) λb o e=>W5 _ e
  ·exact⟨_,Wj _ rfl,rfl,rfl⟩
 ·obtain⟨_,ag,n,r,e⟩:=(show bG X.prog X.w _ (s.heap.push { cls:=.type "dict",data:=.dict #[] }) p (.lst ys) from(Rd.sub hp (up _)).ok I1.aw)
  refine W0 (QN ⟨_,e,rfl⟩ ?_);rw[if_pos (by decide)];refine W0 (Nl e rfl rfl rfl hA λh' tk kp=>?_);rw[if_pos (show(none:Option Value).isNone=true from rfl)];refine W0 (Jq ?_);have I2:Inv X pins σ (upd H dl (.dK [])) { s with heap:=h',toks:=tk }:=I1.kept kp;have wG:h'.IsList p ag.toArray:=⟨_,kp _ _ e,rfl,n,rfl⟩
  refine W0 (wpAny_pyIter_list (s:={ s with heap:=h',toks:=tk }) wG ?_);refine W4 ⟨Qt qG _,?_⟩;have eO:upd H dl (.dK []) h'.objs.size=none:=I2.aw.fresh (Wg _);have dR:h'.objs.size≠dl:=λz=>by rw[z,cg] at eO; cases eO
  have hit:H h'.objs.size=none:=by rw[aG dR] at eO; exact eO
  have fp:∀ H':Hp,H' h'.objs.size=none->ft X pins H' h'.objs.size:=λH' hn=>I2.jB (Wg _) hn
  refine DU (X:=X) (pins:=pins) (σ:=σ) (H:=H) (dl:=dl) (it:=h'.objs.size) (ys:=ys) (kps:=kps) (tn:=λi h=>h.IsListIter h'.objs.size p i) hP mQ hz ?_ ?_ (λi h h2 st k=>st.at k) hit dR (λs' I'=>⟨rfl,fin s' I'⟩) ys.length 0 _ 0 _ (Nat.sub_zero _) (Qs _) ?_ ?_
  ·intro i y H' s' Q' sub hn I' st hy k;obtain⟨_,its2,n2,r2,e2⟩:=(show bG X.prog X.w _ s'.heap p (.lst ys) from(Rd.sub hp sub).ok I'.aw)
   obtain⟨v,hv,rv⟩:=r2.get hy;obtain⟨f0,f1,f2,f3,f4,f5⟩:=fp H' hn;refine wpAny_pyNext_list_item st (items:=its2.toArray) ⟨_,e2,rfl,n2,rfl⟩ (x:=v) (by simpa using hv) λh3 kR sb=>?_
   exact k v { s' with heap:=h3 } rv (I'.turned (t':=s'.toks) (λb o hb e=>(sb.2 b hb).trans e) f0 f1 f3 f4 f5) kR
  ·intro H' s' Q' sub hn I' st k;obtain⟨_,its2,n2,r2,e2⟩:=(show bG X.prog X.w _ s'.heap p (.lst ys) from(Rd.sub hp sub).ok I'.aw)
   obtain⟨f0,f1,f2,f3,f4,f5⟩:=fp H' hn;have kl:=r2.length;exact wpAny_pyNext_list_end (show X.A.in1.in1.handled=none from hA) st (items:=its2.toArray) ⟨_,e2,rfl,n2,rfl⟩ (by simp; omega) λh3 eb=>k { s' with heap:=h3 } (I'.turned (t':=s'.toks) (λb o hb e=>eb b o hb e) f0 f1 f3 f4 f5)
  ·exact I2.kept (t':=tk) λb o e=>W5 _ e
  ·exact⟨_,Wj _ rfl,rfl,rfl⟩
end
end L2
set_option maxHeartbeats 400000
namespace DV
open PySem PySem.Spec PyProof.Rows L2
def dj(kvs:List (aU×D))(k:aU):Option D:=(kvs.find? λkv=>decide (kv.1=k)).map (·.2)
def putD(kvs:List (aU×D))(k:aU)(v:D):List (aU×D) :=
 if (kvs.any λkv=>decide (kv.1=k))=true then kvs.map (λkv=>if kv.1=k then(kv.1,v) else kv) else kvs ++ [(k,v)]
def mR(kps acc:List (aU×D)):List (aU×D):=kps.foldl (λa kv=>putD a kv.1 kv.2) acc
theorem Nt(h:cT k=cT j):k=j:=by
 cases k <;> cases j <;> simp[cT] at h
 ·rw[h]
 ·rw[pS h]
def DR(H:Hp)(O:Addr->Prop):List (Key×V)->List (aU×D)->Prop
 | [],[]=>True
 | p :: ws,q :: ds=>p.1=cT q.1/\Rep H O p.2 q.2/\DR H O ws ds
 | _,_=>False
section
variable {H H':Hp} {O O':Addr->Prop}
theorem DR.of:∀ {ws:List (Key×V)} {ds:List (aU×D)},ws.map (·.1)=ds.map (λp=>cT p.1)->(∀ (i:Nat) p q,ws[i]? = some p->ds[i]? = some q->Rep H O p.2 q.2)->DR H O ws ds
 | [],[],_,_=>trivial
 | [],_ :: _,h,_=>by simp at h
 | _ :: _,[],h,_=>by simp at h
 | p :: ws,q :: ds,h,k=>by
  simp only[Wo,List.cons.injEq] at h;exact⟨h.1,k 0 p q rfl rfl,DR.of h.2 λi p' q' e1 e2=>k (i + 1) p' q' (by simpa using e1) (by simpa using e2)⟩
theorem DR.keys:∀ {ws:List (Key×V)} {ds:List (aU×D)},DR H O ws ds->ws.map (·.1)=ds.map (λp=>cT p.1)
 | [],[],_=>rfl
 | [],_ :: _,h=>h.elim
 | _ :: _,[],h=>h.elim
 | p :: ws,q :: ds,h=>by simp only[Wo,h.1,DR.keys h.2.2]
theorem DR.vals:∀ {ws:List (Key×V)} {ds:List (aU×D)},DR H O ws ds->∀ (i:Nat) p q,ws[i]? = some p->ds[i]? = some q->Rep H O p.2 q.2
 | [],[],_,i,p,q,e,_=>by simp at e
 | [],_ :: _,h,_,_,_,_,_=>h.elim
 | _ :: _,[],h,_,_,_,_,_=>h.elim
 | p :: ws,q :: ds,h,i,p',q',e1,e2=>by
  cases i with
  | zero=>simp at e1 e2; subst e1 e2; exact h.2.1
  | succ i=>exact DR.vals h.2.2 i p' q' (by simpa using e1) (by simpa using e2)
theorem DR.map:∀ {ws:List (Key×V)} {ds:List (aU×D)},DR H O ws ds->(∀ v d,Rep H O v d->Rep H' O' v d)->DR H' O' ws ds
 | [],[],_,_=>trivial
 | [],_ :: _,h,_=>h.elim
 | _ :: _,[],h,_=>h.elim
 | p :: ws,q :: ds,h,k=>⟨h.1,k _ _ h.2.1,DR.map h.2.2 k⟩
theorem mS(h:p=cT q):(p=cT k) ↔ q=k:=⟨λe=>Nt (by rw[<- h]; exact e),λe=>by rw[h,e]⟩
theorem DR.any:∀ {ws:List (Key×V)} {ds:List (aU×D)} (k:aU),DR H O ws ds->(ws.any λkv=>decide (kv.1=cT k))=ds.any λkv=>decide (kv.1=k)
 | [],[],_,_=>rfl
 | [],_ :: _,_,h=>h.elim
 | _ :: _,[],_,h=>h.elim
 | p :: ws,q :: ds,k,h=>by
  rw[QY,QY,DR.any k h.2.2];congr 1
  exact decide_eq_decide.mpr (mS h.1)
theorem DR.val:∀ {ws:List (Key×V)} {ds:List (aU×D)} (k:aU),DR H O ws ds->(dj ds k=none/\de ws (cT k)=none)\/∃ v d,dj ds k=some d/\de ws (cT k)=some v/\Rep H O v d
 | [],[],_,_=>.inl ⟨rfl,rfl⟩
 | [],_ :: _,_,h=>h.elim
 | _ :: _,[],_,h=>h.elim
 | p :: ws,q :: ds,k,h=>by
  by_cases e:q.1=k
  ·have e':=(mS h.1).mpr e;exact .inr ⟨p.2,q.2,by simp[dj,Qz,e],iD e',h.2.1⟩
  ·have e':¬ p.1=cT k:=λz=>e ((mS h.1).mp z)
   have ev:dj (q :: ds) k=dj ds k:=by simp[dj,Qz,e]
   rw[ev,iE e'];exact DR.val k h.2.2
theorem DR.append:∀ {ws DZ:List (Key×V)} {ds dS:List (aU×D)},DR H O ws ds->DR H O DZ dS->DR H O (ws ++ DZ) (ds ++ dS)
 | [],_,[],_,_,h'=>h'
 | [],_,_ :: _,_,h,_=>h.elim
 | _ :: _,_,[],_,h,_=>h.elim
 | p :: ws,_,q :: ds,_,h,h'=>⟨h.1,h.2.1,DR.append h.2.2 h'⟩
theorem DR.store:∀ {ws:List (Key×V)} {ds:List (aU×D)} {k:aU} {v:V} {d:D},DR H O ws ds->Rep H O v d->DR H O (ws.map λkv=>if kv.1=cT k then(kv.1,v) else kv) (ds.map λkv=>if kv.1=k then(kv.1,d) else kv)
 | [],[],_,_,_,_,_=>trivial
 | [],_ :: _,_,_,_,h,_=>h.elim
 | _ :: _,[],_,_,_,h,_=>h.elim
 | p :: ws,q :: ds,k,v,d,h,r=>by
  refine⟨?_,?_,DR.store h.2.2 r⟩
  ·by_cases e:q.1=k
   ·dsimp only; rw[if_pos ((mS h.1).mpr e),if_pos e]; exact h.1
   ·dsimp only; rw[if_neg λz=>e ((mS h.1).mp z),if_neg e]; exact h.1
  ·by_cases e:q.1=k
   ·dsimp only; rw[if_pos ((mS h.1).mpr e),if_pos e]; exact r
   ·dsimp only; rw[if_neg λz=>e ((mS h.1).mp z),if_neg e]; exact h.2.1
theorem DR.put(h:DR H O ws ds)(r:Rep H O v d):DR H O (putK ws (cT k) v) (putD ds k d):=by
 unfold putK putD;rw[DR.any k h];split
 ·exact DR.store h r
 ·exact DR.append h ⟨rfl,r,trivial⟩
theorem DR.wH:∀ {kps:List (Key×V)} {tQ:List (aU×D)} {ws:List (Key×V)} {ds:List (aU×D)},DR H O kps tQ->DR H O ws ds->DR H O (fN kps ws) (mR tQ ds)
 | [],[],_,_,_,h=>h
 | [],_ :: _,_,_,h,_=>h.elim
 | _ :: _,[],_,_,h,_=>h.elim
 | p :: kps,q :: tQ,ws,ds,h,h'=>by
  show DR H O (fN kps (putK ws p.1 p.2)) (mR tQ (putD ds q.1 q.2));rw[h.1];exact DR.wH h.2.2 (DR.put h' h.2.1)
end
def dq:D->Option aU
 | .int i=>some (.inl i)
 | .str x=>some (.inr x)
 | _=>none
theorem D3(h:dq d=some k)(r:Rep H O v d):v=kV (cT k):=by
 cases d <;> simp[dq] at h <;> subst h <;> cases r <;> rfl
theorem qI(h:dq d=some k)(r:cZ c σ δ H v d):v=kV (cT k):=by
 rcases r with r | ⟨a,rfl,r⟩
 ·exact D3 h r
 ·cases d <;> simp[dq] at h <;> exact r.elim
def jS:List D->Option (List (aU×D))
 | []=>some []
 | .tup [k,v] :: r=>match dq k,jS r with
  | some k',some r'=>some ((k',v) :: r')
  | _,_=>none
 | _ :: _=>none
def mT:D->Option S
 | .lst ds=>(jS ds).bind λps=>if ps.length<=Wb then some (.own (.ay (mR ps []))) else none
 | .tup ds=>(jS ds).bind λps=>if ps.length<=Wb then some (.own (.ay (mR ps []))) else none
 | _=>none
theorem wI:∀ {ds:List D} {vs:List V} {ps:List (aU×D)},jS ds=some ps->aA H O vs ds->∃ kps,tP H vs kps/\DR H O kps ps/\kps.length=ps.length
 | [],[],ps,h,_=>by
  simp[jS] at h;subst h;exact⟨[],⟨rfl,λi y kv e=>by simp at e⟩,trivial,rfl⟩
 | [],_ :: _,_,_,r=>by have:=r.1; simp at this
 | _ :: _,[],_,_,r=>by have:=r.1; simp at this
 | d :: ds,v :: vs,ps,h,r=>by
  unfold jS at h;split at h
  ·rename_i heq; cases heq
  ·rename_i k w r' heq
   cases heq;split at h
   ·rename_i k' r'' hk hr
    cases h;obtain⟨kps,hP,hD,hL⟩:=wI hr r.tail;have rp:=r.head
    cases rp with
    | tup h1 h2 h3 h4 =>
     rename_i a us;match us,h3,h4,h2 with
     | [x,y],_,h4,h2 =>
      have rk:=h4 0 x k rfl rfl;have rv:=h4 1 y w rfl rfl;have ek:=D3 hk rk;subst ek;refine⟨(cT k',y) :: kps,⟨by simp[hP.1],λi z kv e1 e2=>?_⟩,⟨rfl,rv,hD⟩,by simp[hL]⟩
      cases i with
      | zero=>simp at e1 e2; subst e1 e2; exact⟨a,rfl,h2⟩
      | succ i=>exact hP.2 i z kv (by simpa using e1) (by simpa using e2)
   ·cases h
  ·cases h
theorem aP.D4(k:Ok c σ δ H)(hp:H p=none)(r:DR H (Av c σ δ) ws ds):aP c σ δ H (upd H p (.dK ws)) (.ref p) (.own (.ay ds)):=by
 have up:∀ a w,H a=some w->upd H p (.dK ws) a=some w:=λa w e=>by rw[aG (fP e hp)]; exact e
 have r1:DR (upd H p (.dK ws)) (Av (c.plus p) σ δ) ws ds:=r.map λv d h=>(h.aJ λb z=>by
  rcases z with (z | z) | z
  ·exact .inl (.inl z)
  ·exact .inr (by rw[z]; exact hp)
  ·exact .inl (.inr z)).keep λb w e _=>up b w e
 exact⟨p,rfl,⟨ws,cg,r1.keys,r1.vals⟩,λz=>k.gC hp (.inl z),k.kj hp,k.plus hp _,hp⟩
section
variable {X:Cx} {c:Fc} {e:Expr} {fb:BE} {pos pp:Pos}
theorem Nu:Qj "dict" = some (.type "dict"):=by decide +kernel
theorem Nv (hc:X.calm=true) (hg:Gl X "dict") (hm:X.mg "dict" = none) (he:SB X c e fb) (hs:oB e=true:=by rfl):SE X c (.Call (.Name "dict" pp) [e] [] pos) (a_ mT fb) :=
 vU (r:=λv H Q=>∃ p ys kps,v = .ref p/\(H p=some (.tup ys)\/Rd H p (.lst ys))/\tP H ys kps/\kps.length<=Wb/\∀ l,H l=none->Q (.ref l) (upd H l (.dK (fN kps []))))
  (Nr hc) (λv H Q ⟨p,ys,kps,e,h⟩=>⟨p,ys,kps,by rw[e],h⟩)
  (λc σ δ H x d s Q k rx hp q=>by
   cases d with
   | lst ds =>
    simp only[mT] at hp
    cases iJ:jS ds with
    | none=>rw[iJ] at hp; cases hp
    | some ps =>
     rw[iJ] at hp;simp only[WE] at hp;split at hp
     ·rename_i hz
      cases hp;obtain⟨a,vs,ex,ha,r⟩:=rx.lst;obtain⟨kps,hP,hD,hL⟩:=wI iJ r;exact⟨a,vs,kps,ex,.inr ha,hP,by rw[hL]; exact hz,λl hl=>q _ _ (.alloc k hl _) (aP.D4 k hl (DR.wH hD (ws:=[]) (ds:=[]) trivial))⟩
     ·cases hp
   | tup ds =>
    simp only[mT] at hp
    cases iJ:jS ds with
    | none=>rw[iJ] at hp; cases hp
    | some ps =>
     rw[iJ] at hp;simp only[WE] at hp;split at hp
     ·rename_i hz
      cases hp;obtain⟨a,vs,ex,ha,r⟩:=rx.tup;obtain⟨kps,hP,hD,hL⟩:=wI iJ r;exact⟨a,vs,kps,ex,.inl ha,hP,by rw[hL]; exact hz,λl hl=>q _ _ (.alloc k hl _) (aP.D4 k hl (DR.wH hD (ws:=[]) (ds:=[]) trivial))⟩
     ·cases hp
   | _=>simp[mT] at hp) hg hm Nu he (by decide) (by decide) (qD hs)
end
theorem tR(r:cZ c σ δ H v (.ay ds)):∃ a ws,v = .ref a/\H a=some (.dK ws)/\DR H (Av c σ δ) ws ds:=by
 obtain⟨a,ws,e,h,k1,k2⟩:=r.ay;exact⟨a,ws,e,h,DR.of k1 k2⟩
def D5(neg:Bool):R2:=λx y H Q=>∃ a kvs k,y = .ref a/\H a=some (.dK kvs)/\x=kV k/\Q (.bl (if neg then !(de kvs k).isSome else(de kvs k).isSome)) H
theorem Nw(hu:X.A.units + 64 < Qp):bT X (WY .NotIn) (D5 true):=by
 intro pins s σ H x y v u Q I rx ry h;obtain⟨a,kvs,k,rfl,ha,rfl,q⟩:=h
 cases ry;exact KJ (by omega) I (kX.k ha) rx λs' I'=>⟨.bl _,H,I',rfl,q⟩
def D6(K:W1)(neg:Bool):R2:=λx y H Q=>D5 neg x y H Q\/BK K neg x y H Q\/∃ i j,x = .str i/\y = .str j/\Q (.bl (if neg then !(!(Builtin.Str.occurrences j i 0 j.length 1).isEmpty) else !(Builtin.Str.occurrences j i 0 j.length 1).isEmpty)) H
theorem D7{X:Cx}(hu:X.A.units + 64 < Qp):bT X (WY .NotIn) (D6 X.K true):=(Nw hu).or (Ks.or IH)
def gv(neg:Bool)(x y:D):Option S:=match y with
 | .ay ds=>(dq x).map λk=>.pure (.bl (if neg then !(dj ds k).isSome else(dj ds k).isSome))
 | .str y=>match x with
  | .str [n]=>some (.pure (.bl (if neg then !decide (n ∈ y) else decide (n ∈ y))))
  | _=>none
 | .lst ds=>match x,fz ds with
  | .str z,some ts=>some (.pure (.bl (if neg then !ts.contains z else ts.contains z)))
  | _,_=>none
 | .tup ds=>match x,fz ds with
  | .str z,some ts=>some (.pure (.bl (if neg then !ts.contains z else ts.contains z)))
  | _,_=>none
 | _=>none
theorem D8(z:Tx)(ts:List Tx):se (V.str (toS z)) (ts.map λz=>V.str (toS z))=ts.contains z:=by
 unfold se;rw[List.any_map];induction ts with
 | nil=>rfl
 | cons t r ih =>
  rw[QY,Js,ih];congr 1
  show(toS t == toS z)=(z == t);rw[sE,Bool.beq_comm]
theorem D9(ts:List Tx):(ts.map λz=>V.str (toS z)).all kc=true:=by
 rw[List.all_map];exact List.all_eq_true.mpr λ_ _=>rfl
theorem D_{K:W1}(neg:Bool):cX (D6 K neg) (gv neg):=by
 intro c σ δ H x y d e s Q k rx ry hp q
 cases e <;> first | (simp[gv] at hp; done) | skip
 ·rename_i z;simp only[gv] at hp;split at hp <;> first | (cases hp; done) | skip
  rename_i n
  cases hp;refine .inr (.inr ⟨toS [n],toS z,rx.str,ry.str,?_⟩);rw[show toS [n] = ⟨#[n]⟩ from rfl,PySem.StrLaws.found_one,show(toS z).cps.toList=z by simp[toS]];exact q _ H (.refl k) (.bl _)
 ·rename_i ds;simp only[gv] at hp;split at hp <;> first | (cases hp; done) | skip
  rename_i z ts ht
  cases hp;obtain⟨a,vs,ea,ha,r⟩:=ry.tup;have ev:=n_ ht r;refine .inr (.inl ⟨a,vs,ea,.inr (.of ha),by rw[rx.str]; rfl,by rw[ev]; exact D9 ts,?_⟩);rw[rx.str,ev,D8];exact q _ H (.refl k) (.bl _)
 ·rename_i ds;simp only[gv] at hp;split at hp <;> first | (cases hp; done) | skip
  rename_i z ts ht
  cases hp;obtain⟨a,vs,ea,ha,r⟩:=ry.lst;have ev:=n_ ht r;refine .inr (.inl ⟨a,vs,ea,.inl (.inl ha),by rw[rx.str]; rfl,by rw[ev]; exact D9 ts,?_⟩);rw[rx.str,ev,D8];exact q _ H (.refl k) (.bl _)
 ·rename_i ds;simp only[gv] at hp
  cases hk:dq d with
  | none=>rw[hk] at hp; cases hp
  | some kk =>
   rw[hk] at hp
   cases hp;obtain⟨a,ws,ea,ha,dr⟩:=tR ry;refine .inl ⟨a,ws,cT kk,ea,ha,qI hk rx,?_⟩;have:(de ws (cT kk)).isSome=(dj ds kk).isSome:=by
    rcases dr.val kk with ⟨e1,e2⟩ | ⟨v,d,e1,e2,_⟩
    ·rw[e1,e2]; rfl
    ·rw[e1,e2]; rfl
   rw[this];exact q _ H (.refl k) (.bl _)
def qJ:R2:=λx y H Q=>∃ a kvs k v,x = .ref a/\H a=some (.dK kvs)/\y=kV k/\de kvs k=some v/\Q v H
def dI:D->D->Option S
 | .ay ds,k=>(dq k).bind λk=>(dj ds k).map .pure
 | x,y=>aB x y
theorem wJ(hu:X.A.units + 64 < Qp):gX X qJ:=by
 intro value slice pins s σ H x y v u Q I rx ry h hs;obtain⟨a,kvs,k,w,rfl,ha,rfl,hv,q⟩:=h
 cases rx;obtain⟨_,_,vs,_,dd⟩:=pJ I.aw ha;have hT:s.TypeIs (.ref a) "dict":=dd.typeIs;exact tail_any hT F.slot_dict_getitem.lookup (KI (v:=w) (by omega) I (by rw[<- hv]; exact kX.k ha) ry λw' s' I' aH=>⟨w,H,I',aH,q⟩) hs
theorem wK{K:W1}:cX (λx y H Q=>qJ x y H Q\/pG K x y H Q) dI:=by
 intro c σ δ H x y d e s Q k rx ry hp q
 cases d with
 | ay ds =>
  simp only[dI] at hp
  cases hk:dq e with
  | none=>rw[hk] at hp; cases hp
  | some kk =>
   rw[hk] at hp;simp only[WE,WM] at hp;obtain⟨dv,hv,rfl⟩:=hp;obtain⟨a,ws,ea,ha,dr⟩:=tR rx;rcases dr.val kk with ⟨e1,e2⟩ | ⟨v,d',e1,e2,r⟩
   ·rw[e1] at hv; cases hv
   ·rw[e1] at hv; cases hv
    exact .inl ⟨a,ws,cT kk,v,ea,ha,qI hk ry,e2,q v H (.refl k) r⟩
 | _=>exact .inr (cD c σ δ H x y _ e s Q k rx ry hp q)
end DV
namespace PySem
open Sem (wp)
open AutoSeq1 (wpAny_loadPart')
section
variable {prog:Wm} {w:Wq} {A:Wp} {E:Value->W2->Prop} {s:W2}
end
end PySem
namespace L2
open PySem PySem.Spec PyProof.Rows
section
variable {X:Cx} {pins:List (Addr×Obj)} {σ:St} {H:Hp} {s:W2} {h':Heap}
theorem Inv.wL(fp:List Addr)(I:Inv X pins σ H s)(k:∀ b o,b ∉ fp->s.heap.get? b=some o->h'.get? b=some o)(hf:∀ b ∈ fp,ft X pins H b):Inv X pins σ H { s with heap:=h',toks:=t' }:=by
 have kP:∀ b u,H b=some u->b ∉ fp:=λb u e z=>by rw[(hf b z).1] at e; cases e
 refine I.step (g':=s.gens) (d':=s.drawn) (ch:=fp) (λb hb=>?_) (λb o _ _ hc e _=>k b o hc e) (λb o _ _ hc e _=>⟨o.slots,k b o hc e⟩) (λ_ _ _ _ n=>n)
  (λb o hc e=>⟨o,k b o hc e⟩) (λ_ _ e=>e) (λ_ _ _ e=>e) (λb ps e=>⟨#[],by rw[e]; simp⟩) (λm hm=>?_) (λb u e=>?_) I.bare
 ·obtain⟨f0,f1,f2,f3,f4,f5⟩:=hf b hb;exact⟨f3,f1,f4,f5⟩
 ·obtain⟨o,es,ep,ho,r⟩:=hm;exact⟨o,es,ep,k _ o (λz=>(hf _ z).2.1 rfl) ho,r⟩
 ·refine(I.aw b u e).jy (λc v hc q=>k c v ?_ q) (λ_ q=>q) λ_ _ q=>q
  rcases hc with z | z
  ·rw[z]; exact kP b u e
  ·exact kP c _ z
end
end L2
namespace DV
open PySem PySem.Spec PyProof.Rows L2
section
variable {X:Cx} {c:Fc} {tg e:Expr} {fe:DE} {pos pp:Pos}
end
end DV
namespace HT
open PySem PySem.Spec PyProof.Rows
section
variable {prog:Wm} {w:Wq} {A:Wp} {E:Value->W2->Prop} {s:W2}
end
end HT
namespace DV
open PySem PySem.Spec PyProof.Rows L2
section
variable {X:Cx} {c:Fc} {e:Expr} {fb:BE} {pos p2:Pos}
end
def Fc.br(c:Fc)(i:Nat)(a:Addr):Fc:=⟨c.H₀,λb=>c.B b\/b=a,(i,a) :: c.pin,c.xc⟩
theorem Np.br(h:Np c np):Np (c.br i a) (i :: np):=λp hp=>by
 rcases Wl.mp hp with e | hp
 ·subst e; simp
 ·have:=h p hp;simp at this ⊢;exact .inr this
section
variable {c:Fc} {σ σ':St} {δ δ':Dl} {H H':Hp} {i:Nat} {a:Addr} {ds:List D}
theorem Own.unset(h:Own σ (δ.set i none) b):Own σ δ b:=by
 obtain⟨j,d',e1,e2⟩:=h;by_cases hj:i=j
 ·subst hj;rw[WO] at e1;split at e1
  ·split at e1 <;> cases e1
  ·rename_i q; exact absurd rfl q
 ·rw[W3 hj] at e1;exact⟨j,d',e1,e2⟩
theorem oC(k:Ok c σ δ H)(e:δ[i]? = some (some (.own (.lst ds))))(ea:σ[i]? = some (some (.ref a)))(b:Addr)(z:Av (c.br i a) σ (δ.set i none) b):Av c σ δ b:=by
 rcases z with (z | z) | z
 ·exact .inl z
 ·subst z; exact .inr ⟨i,_,e,ea⟩
 ·exact .inr z.unset
theorem wM(k:Ok c σ δ H)(e:δ[i]? = some (some (.own (.lst ds))))(ea:σ[i]? = some (some (.ref a))):¬ Own σ (δ.set i none) a:=λz=>by
 obtain⟨j,d',e1,e2⟩:=z;by_cases hj:i=j
 ·subst hj;rw[WO] at e1;split at e1
  ·split at e1 <;> cases e1
  ·rename_i q; exact absurd rfl q
 ·rw[W3 hj] at e1;exact hj (k.inj i j a _ _ e e1 ea e2)
theorem Ok.br(k:Ok c σ δ H)(e:δ[i]? = some (some (.own (.lst ds))))(ea:σ[i]? = some (some (.ref a))):Ok (c.br i a) σ (δ.set i none) H:=by
 have sub:=oC k e ea;have ne:∀ j d,(δ.set i none)[j]? = some (some d)->i≠j/\δ[j]? = some (some d):=λj d q=>by
  by_cases hj:i=j
  ·subst hj;rw[Wc (W6.mp e).1] at q; cases q
  ·rw[W3 hj] at q; exact⟨hj,q⟩
 refine⟨λb o h n=>k.keep b o h λ⟨j,z⟩=>n ⟨j,W9 _ z⟩,λb z=>?_,λb ⟨j,z⟩=>?_,by rw[WS]; exact k.len,λj d q=>?_,λj d q=>?_,λj l b d d' q1 q2=>?_,λp hp=>?_⟩
 ·rcases z with z | z
  ·exact k.bd b z
  ·subst z; exact k.ki ⟨i,_,e,ea⟩
 ·rcases Wl.mp z with z | z
  ·cases z; exact k.ki ⟨i,_,e,ea⟩
  ·exact k.cN b ⟨j,z⟩
 ·obtain⟨_,q⟩:=ne j _ q;obtain⟨v,g1,g2⟩:=k.slot j d q;exact⟨v,g1,g2.aJ λb z=>.inl (sub b z)⟩
 ·obtain⟨hj,q⟩:=ne j _ q;obtain⟨b,g1,g2,g3,g4⟩:=k.own j d q;refine⟨b,g1,g2.aJ λb z=>.inl (sub b z),g3.imp (λ⟨l,z⟩=>⟨l,W9 _ z⟩) id,λz=>?_⟩;rcases z with z | z
  ·exact g4 z
  ·subst z; exact hj (k.inj i j b _ _ e q ea g1)
 ·exact k.inj j l b d d' (ne j _ q1).2 (ne l _ q2).2
 ·rcases Wl.mp hp with z | z
  ·subst z; exact ea
  ·exact k.pinned p z
theorem aD.qK(k:Ok c σ δ H)(e:δ[i]? = some (some (.own (.lst ds))))(ea:σ[i]? = some (some (.ref a)))(x:aD (c.br i a) σ (δ.set i none) H σ' δ' H') :
  aD c σ δ H σ' (δ'.set i (some (.own (.lst ds)))) H'/\∀ b,Av c σ' (δ'.set i (some (.own (.lst ds)))) b->Av (c.br i a) σ' δ' b:=by
 have k':=x.ok;have ck:σ'[i]? = some (some (.ref a)):=k'.pinned (i,a) Wf;have dD:i < δ'.length:=by rw[k'.len]; exact(W6.mp ck).1
 obtain⟨a0,f1,f2,f3,f4⟩:=k.own i _ e;rw[ea] at f1; cases f1
 have ne:∀ j d,(δ'.set i (some (.own (.lst ds))))[j]? = some (some d)->(j=i/\d = .own (.lst ds))\/(i≠j/\δ'[j]? = some (some d)):=λj d q=>by
  by_cases hj:i=j
  ·subst hj;rw[Wc dD] at q
   cases q; exact .inl ⟨rfl,rfl⟩
  ·rw[W3 hj] at q; exact .inr ⟨hj,q⟩
 have own:∀ b,Own σ' (δ'.set i (some (.own (.lst ds)))) b->b=a\/Own σ' δ' b:=λb ⟨j,d,q1,q2⟩=>by
  rcases ne j _ q1 with ⟨z,_⟩ | ⟨_,z⟩
  ·subst z; rw[ck] at q2; cases q2; exact .inl rfl
  ·exact .inr ⟨j,d,z,q2⟩
 have sub:∀ b,Av c σ' (δ'.set i (some (.own (.lst ds)))) b->Av (c.br i a) σ' δ' b:=λb z=>by
  rcases z with z | z
  ·exact .inl (.inl z)
  ·rcases own b z with z | z
   ·exact .inl (.inr z)
   ·exact .inr z
 have na:∀ (j:Nat) (d:D) (b:Addr),δ'[j]? = some (some (.own d))->σ'[j]? = some (some (.ref b))->b≠a:=λj d b q1 q2 z=>by
  obtain⟨b',g1,_,_,g4⟩:=k'.own j d q1;rw[q2] at g1; cases g1
  exact g4 (.inr z)
 refine⟨⟨⟨λb o h n=>?_,λb z=>k'.bd b (.inl z),λb ⟨j,z⟩=>k'.cN b ⟨j,W9 _ z⟩,by rw[WS]; exact k'.len,λj d q=>?_,λj d q=>?_,λj l b d d' q1 q2 s1 s2=>?_,λp hp=>k'.pinned p (W9 _ hp)⟩,λb o h n=>x.keep b o h λz=>n z.unset,λb z=>?_,x.there⟩,sub⟩
 ·refine k'.keep b o h λ⟨j,z⟩=>?_
  rcases Wl.mp z with z | z
  ·cases z;rcases f3 with f3 | f3
   ·exact n f3
   ·rw[f3] at h; cases h
  ·exact n ⟨j,z⟩
 ·rcases ne j _ q with ⟨_,z⟩ | ⟨_,q⟩
  ·cases z
  ·obtain⟨v,g1,g2⟩:=k'.slot j d q;exact⟨v,g1,g2.aJ λb z=>.inl (sub b z)⟩
 ·rcases ne j _ q with ⟨z,z'⟩ | ⟨hj,q⟩
  ·subst z; cases z'
   obtain⟨vs,h1,h2⟩:=f2;refine⟨a,ck,⟨vs,x.keep a _ h1 (wM k e ea),?_⟩,f3,f4⟩;have r1:aA H (Av (c.br j a) σ (δ.set j none)) vs ds:=aA.aJ h2 λb z=>.inl (oC k e ea b z)
   exact aA.aJ (aA.cU r1 x) λb z=>.inl (sub b z)
  ·obtain⟨b,g1,g2,g3,g4⟩:=k'.own j d q;refine⟨b,g1,g2.aJ λb z=>.inl (sub b z),g3.imp (λ⟨l,z⟩=>?_) id,λz=>g4 (.inl z)⟩;rcases Wl.mp z with z | z
   ·cases z; exact absurd (.inr rfl) g4
   ·exact⟨l,z⟩
 ·rcases ne j _ q1 with ⟨z,_⟩ | ⟨hj,z1⟩ <;> rcases ne l _ q2 with ⟨z',_⟩ | ⟨hl,z2⟩
  ·rw[z,z']
  ·subst z; rw[ck] at s1; cases s1; exact absurd rfl (na l _ _ z2 s2)
  ·subst z'; rw[ck] at s2; cases s2; exact absurd rfl (na j _ _ z1 s1)
  ·exact k'.inj j l b d d' z1 z2 s1 s2
 ·rcases own b z with z | z
  ·subst z; exact .inl ⟨i,_,e,ea⟩
  ·rcases x.own b z with q | q
   ·exact .inl q.unset
   ·exact .inr q
end
section
variable {X:Cx} {c:Fc} {tg iter:Expr} {body:List Stmt} {g:DG} {b:DS} {i:Nat} {pos:Pos}
theorem Nx(hn:¬ Own σ δ a)(h:H a=some (.lst vs))(r:aA H (Av c σ δ) vs ds):ll c σ δ H (rW X.K a) ds:=by
 intro H2 kp;have h5:Rd H2 a (.lst vs):=.inl (kp a _ h hn);refine⟨⟨vs,.inl h5,by rw[r.1]; exact Wg _⟩,λi d e=>?_⟩;obtain⟨v,ev,rv⟩:=r.get e;refine⟨⟨vs,v,.inl h5,ev⟩,λx H3 ⟨e3,y⟩=>.inl ⟨e3,?_⟩⟩;have:=y vs (.inl h5);rw[ev] at this
 cases this;exact rv
def oE(np:List Nat)(i:Nat):DS:=λδ=>match δ[i]? with
 | some (some (.own d))=>if np.contains i || !np.all (bu δ) then .ok (.ret (.pure d)) (δ.set i (some (.pure d))) else .ok (.ret (.own d)) (δ.set i none)
 | some (some (.pure d))=>.ok (.ret (.pure d)) δ
 | _=>.stuck
theorem Ea{np:List Nat}{e:Expr}(aq:Np c np)(he:PE X e (b_ i)):SS X c (.Return (some e) pos) (oE np i):=PS.weak (AR he) λD σ H ⟨δ,k,q⟩=>by
 unfold oE ei at q;split at q
 ·rename_i d e;obtain⟨a,ea,oa,ia,nb⟩:=k.own i d e;refine⟨.ref a,ea,?_⟩;split at q
  ·obtain⟨a',ck,x,r⟩:=k.give e;rw[ea] at ck; cases ck
   exact q σ H x _ r
  ·rename_i hc;simp only[Bool.or_eq_true,not_or,Bool.not_eq_true,Bool.not_eq_false',List.all_eq_true] at hc;obtain⟨hc1,iC⟩:=hc;have nI:¬ c.I a:=λ⟨j,z⟩=>by
    have z1:=aq (j,a) z;have z2:=k.pinned (j,a) z;have z3:=iC j (by simpa using z1);unfold bu at z3;split at z3
    ·rename_i d' ej;have:=k.inj i j a _ _ e ej ea z2;subst this;rw[z1] at hc1; cases hc1
    ·cases z3
   have h0:c.H₀ a=none:=ia.resolve_left nI;have hi:i < δ.length:=(W6.mp e).1;have ne:∀ j d,(δ.set i none)[j]? = some (some d)->i≠j/\δ[j]? = some (some d):=λj d q=>by
    by_cases hj:i=j
    ·subst hj;rw[Wc hi] at q; cases q
    ·rw[W3 hj] at q; exact⟨hj,q⟩
   have sub:∀ b,Av (c.plus a) σ (δ.set i none) b->Av c σ δ b:=λb z=>by
    rcases z with (z | z) | z
    ·exact .inl z
    ·subst z; exact .inr ⟨i,_,e,ea⟩
    ·exact .inr z.unset
   have kp:Ok (c.plus a) σ (δ.set i none) H:=by
    refine⟨k.keep,λb z=>?_,k.cN,by rw[WS]; exact k.len,λj d q=>?_,λj d q=>?_,λj l b d d' q1 q2=>k.inj j l b d d' (ne j _ q1).2 (ne l _ q2).2,k.pinned⟩
    ·rcases z with z | z
     ·exact k.bd b z
     ·subst z; exact k.ki ⟨i,_,e,ea⟩
    ·obtain⟨_,q⟩:=ne j _ q;obtain⟨v,g1,g2⟩:=k.slot j d q;exact⟨v,g1,g2.aJ λb z=>.inl (sub b z)⟩
    ·obtain⟨hj,q⟩:=ne j _ q;obtain⟨b,g1,g2,g3,g4⟩:=k.own j d q;refine⟨b,g1,g2.aJ λb z=>.inl (sub b z),g3,λz=>?_⟩;rcases z with z | z
     ·exact g4 z
     ·subst z; exact hj (k.inj i j b _ _ e q ea g1)
   have x:aD c σ δ H σ (δ.set i none) H:=by
    refine⟨⟨k.keep,k.bd,k.cN,by rw[WS]; exact k.len,λj d q=>?_,λj d q=>?_,λj l b d d' q1 q2=>k.inj j l b d d' (ne j _ q1).2 (ne l _ q2).2,k.pinned⟩,λ_ _ w _=>w,λb z=>.inl z.unset,λ_ o w=>⟨o,w⟩⟩
    ·obtain⟨_,q⟩:=ne j _ q;obtain⟨v,g1,g2⟩:=k.slot j d q;exact⟨v,g1,g2.aJ λb z=>.inl (z.elim .inl λz=>.inr z.unset)⟩
    ·obtain⟨hj,q⟩:=ne j _ q;obtain⟨b,g1,g2,g3,g4⟩:=k.own j d q;exact⟨b,g1,g2.aJ λb z=>.inl (z.elim .inl λz=>.inr z.unset),g3,g4⟩
   exact q σ H x _ ⟨a,rfl,oa.aJ λb z=>.inl (sub b z),nb,h0,kp,h0⟩
 ·rename_i d e;obtain⟨v,e1,r⟩:=k.slot i d e;exact⟨v,e1,q σ H (.refl k) v r⟩
 ·exact q.elim
end
theorem wN(hu:X.A.units + 64 < Qp):gX X (λx y H Q=>qJ x y H Q\/pG X.K x y H Q):=(wJ hu).or cx
end DV
namespace L2
open PySem PySem.Spec PyProof.Rows
section
variable {X:Cx}
end
end L2
namespace DV
open PySem PySem.Spec PyProof.Rows L2
section
variable {X:Cx} {c:Fc} {e:Expr} {fe:DE} {pos:Pos}
end
section
variable {c:Fc} {σ:St} {δ δ':Dl} {H H':Hp} {i:Nat} {a p:Addr} {ds:List D}
theorem Ok.Ny(k:Ok c σ δ H)(e:δ[i]? = some (some (.own (.lst ds))))(ea:σ[i]? = some (some (.ref a)))(x:aD (c.br i a) σ (δ.set i none) H σ δ' H')(kp:Ok ((c.br i a).plus p) σ δ' H')(hp:H p=none):Ok (c.plus p) σ (δ'.set i (some (.own (.lst ds)))) H':=by
 obtain⟨y,_⟩:=x.qK k e ea;have k1:=y.ok;have k':=x.ok;have dD:i < δ'.length:=by rw[k'.len]; exact(W6.mp ea).1
 have pa:p≠a:=λz=>by
  obtain⟨o,ho⟩:=k.ki ⟨i,_,e,ea⟩;rw[<- z,hp] at ho; cases ho
 have ne:∀ j d,(δ'.set i (some (.own (.lst ds))))[j]? = some (some d)->(j=i/\d = .own (.lst ds))\/(i≠j/\δ'[j]? = some (some d)):=λj d q=>by
  by_cases hj:i=j
  ·subst hj;rw[Wc dD] at q
   cases q; exact .inl ⟨rfl,rfl⟩
  ·rw[W3 hj] at q; exact .inr ⟨hj,q⟩
 have sub:∀ b,Av (c.plus p) σ (δ'.set i (some (.own (.lst ds)))) b->Av ((c.br i a).plus p) σ δ' b:=λb z=>by
  rcases z with (z | z) | ⟨j,d,q1,q2⟩
  ·exact .inl (.inl (.inl z))
  ·exact .inl (.inr z)
  ·rcases ne j _ q1 with ⟨z,_⟩ | ⟨_,z⟩
   ·subst z; rw[ea] at q2; cases q2; exact .inl (.inl (.inr rfl))
   ·exact .inr ⟨j,d,z,q2⟩
 refine⟨k1.keep,λb z=>?_,k1.cN,k1.len,λj d q=>?_,λj d q=>?_,k1.inj,k1.pinned⟩
 ·rcases z with z | z
  ·exact k1.bd b z
  ·exact kp.bd b (.inr z)
 ·rcases ne j _ q with ⟨_,z⟩ | ⟨_,q⟩
  ·cases z
  ·obtain⟨v,g1,g2⟩:=kp.slot j d q;exact⟨v,g1,g2.aJ λb z=>.inl (sub b z)⟩
 ·rcases ne j _ q with ⟨z,z'⟩ | ⟨hj,q'⟩
  ·subst z; cases z'
   obtain⟨a0,f1,f2,f3,f4⟩:=k.own j _ e;rw[ea] at f1; cases f1
   obtain⟨vs,h1,h2⟩:=f2;refine⟨a,ea,⟨vs,x.keep a _ h1 (wM k e ea),?_⟩,f3,λz=>z.elim f4 λz=>pa z.symm⟩;have r1:aA H (λb=>Av (c.br j a) σ (δ.set j none) b\/Av ((c.br j a).plus p) σ δ' b) vs ds:=aA.aJ h2 λb z=>by
    rcases z with z | z
    ·exact .inl (oC k e ea b z)
    ·rcases z with (z | z) | z
     ·exact .inl (oC k e ea b (.inl z))
     ·exact .inr (by rw[z]; exact hp)
     ·rcases x.own b z with q | q
      ·exact .inl (oC k e ea b (.inr q))
      ·exact .inr q
   have r2:=aA.keep r1 (H':=H') λb w e n=>x.keep b w e λz=>n (.inl (.inr z))
   exact aA.aJ r2 λb z=>.inl (.inr (sub b z))
  ·obtain⟨b,g1,g2,g3,g4⟩:=kp.own j d q';obtain⟨b',f1,_,f3,_⟩:=k1.own j d q;rw[g1] at f1; cases f1
   exact⟨b,g1,g2.aJ λb z=>.inl (sub b z),f3,λz=>z.elim (λz=>g4 (.inl (.inl z))) λz=>g4 (.inr z)⟩
theorem aP.qK(k:Ok c σ δ H)(e:δ[i]? = some (some (.own (.lst ds))))(ea:σ[i]? = some (some (.ref a)))(x:aD (c.br i a) σ (δ.set i none) H σ δ' H')(h:aP (c.br i a) σ δ' H H' v r):aP c σ (δ'.set i (some (.own (.lst ds)))) H H' v r:=by
 obtain⟨y,sub⟩:=x.qK k e ea
 cases r with
 | pure d=>exact Rep.aJ (show Rep H' (Av (c.br i a) σ δ') v d from h) λb z=>.inl (sub b z)
 | own d =>
  obtain⟨p,e1,o,n,f,kp,hs⟩:=h;refine⟨p,e1,o.aJ λb z=>.inl ?_,λz=>n (.inl z),f,Ok.Ny k e ea x kp hs,hs⟩;rcases z with (z | z) | z
  ·exact .inl (.inl (.inl z))
  ·exact .inl (.inr z)
  ·rcases sub b (.inr z) with z | z
   ·exact .inl (.inl z)
   ·exact .inr z
end
open Classical in
noncomputable def itAt (δ₀:Dl) (ds:List D):DI:=λδ=>if δ=δ₀ then .ok ds δ else .stuck
def oF(cs:List Nat)(i:Nat)(g:DG)(t:DT)(el:DE):DE:=λδ=>match δ[i]? with
 | some (some (.own (.lst ds)))=>if cs.any (bu (δ.set i none)) then .stuck else
  (cb cs g t el ds (bB cs (δ.set i none)) []).bind λacc δ2=>.ok (.own (.lst acc)) ((cP cs (δ.set i none) δ2).set i (some (.own (.lst ds))))
 | _=>.stuck
section
variable {X:Cx} {c:Fc} {cs:List Nat} {tg iter elt:Expr} {ifs:List Expr} {scope:Scope} {pos:Pos} {g:DG} {t:DT} {el:DE} {i:Nat}
theorem Nz(hg:∀ a l v σ H Q,ot cs ((c.br i a).plus l) g v σ H Q->gt v σ H Q)(ht:∀ a l σ H Q,tT ((c.br i a).plus l) t σ H Q->tt σ H Q)(he:∀ a l σ H Q,tD ((c.br i a).plus l) el σ H Q->te σ H Q)
  (hp:∀ p ∈ c.pin,p.1 ∉ cs) (hi:i ∉ cs) (h:tD c (oF cs i g t el) σ H Q):su cs (DL X.K (b_ i)) gt tt te σ H Q:=by
 obtain⟨δ,k,q⟩:=h;unfold oF at q;split at q
 case h_2=>exact q.elim
 rename_i ds e;obtain⟨a,ea,⟨vs,hv,rv⟩,f3,f4⟩:=k.own i _ e;have kp:=k.br e ea;have gC:=wM k e ea;have r1:aA H (Av (c.br i a) σ (δ.set i none)) vs ds:=aA.aJ rv λb z=>.inl (oC k e ea b z)
 have io:ll (c.br i a) σ (δ.set i none) H (rW X.K a) ds:=Nx gC hv r1;have h':tD (c.br i a) (cf cs (itAt (δ.set i none) ds) g t el) σ H Q:=by
  refine⟨δ.set i none,kp,?_⟩;unfold cf itAt;rw[if_pos rfl];show post (c.br i a) (if cs.any (bu (δ.set i none)) then .stuck else _) _;split at q
  ·exact q.elim
  ·rename_i jD;rw[if_neg jD];rw[bc] at q ⊢;have q2:post (c.br i a) (cb cs g t el ds (bB cs (δ.set i none)) []) λacc δ2=>∀ v H',aD c σ δ H σ ((cP cs (δ.set i none) δ2).set i (some (.own (.lst ds)))) H'->aP c σ ((cP cs (δ.set i none) δ2).set i (some (.own (.lst ds)))) H H' v (.own (.lst acc))->Q v H':=by
    cases hf:cb cs g t el ds (bB cs (δ.set i none)) [] with
    | ok fl δ'=>rw[hf] at q; exact q
    | exc x δx=>rw[hf] at q; exact q
    | stuck=>rw[hf] at q; exact q
   exact aQ q2 λacc δ2 q3 v H' x r=>q3 v H' (x.qK k e ea).1 (aP.qK k e ea x r)
 have wa:∀ p ∈ (c.br i a).pin,p.1 ∉ cs:=λp hm=>by
  rcases Wl.mp hm with z | z
  ·subst z; exact hi
  ·exact hp p z
 have w:=wb (c:=c.br i a) (wi:=tI (c.br i a) (itAt (δ.set i none) ds)) (gt:=gt) (tt:=tt) (te:=te) (λ_ _ _ h=>h) (hg a) (ht a) (he a) wa h';obtain⟨δ1,k1,q1⟩:=w;unfold itAt at q1;split at q1
 ·rename_i e1;subst e1;exact⟨.ref a,ea,.inl ⟨a,rfl,⟨vs,.inl (.inl hv)⟩,q1 _ H (.refl k1) io⟩⟩
 ·exact q1.elim
theorem NA(hc:X.calm=true)(S:kY X scope cs)(hv:PE X iter (b_ i))(hg:∀ a l s₀ H₀ ex,ou (eh X scope s₀ H₀ ex) ((c.br i a).plus l) cs tg g)(ht:∀ a l s₀ H₀ ex,qt (eh X scope s₀ H₀ ex) ((c.br i a).plus l) ifs t)
  (he:∀ a l s₀ H₀ ex,SE (eh X scope s₀ H₀ ex) ((c.br i a).plus l) elt el) (hp:∀ p ∈ c.pin,p.1 ∉ cs) (hi:i ∉ cs) (hs:∀ x,Qw iter X.env x=pure x:=by intro _; rfl) :
  SE X c (.ListComp elt [⟨tg,iter,ifs,0⟩] scope pos) (oF cs i g t el) :=
 PE.weak (Cj (g:=λv σ H Q=>∃ a l,ot cs ((c.br i a).plus l) g v σ H Q) (tt:=λσ H Q=>∃ a l,tT ((c.br i a).plus l) t σ H Q) (te:=λσ H Q=>∃ a l,tD ((c.br i a).plus l) el σ H Q) hc S (wB hv)
  (λs₀ H₀ ex pins s σ H v u Q I r ⟨a,l,q⟩=>hg a l s₀ H₀ ex pins s σ H v u Q I r q) (λs₀ H₀ ex pins s σ H Q I ⟨a,l,q⟩=>ht a l s₀ H₀ ex pins s σ H Q I q) (λs₀ H₀ ex pins s σ H Q I ⟨a,l,q⟩=>he a l s₀ H₀ ex pins s σ H Q I q) hs)
  λσ H Q h=>Nz (λa l _ _ _ _ h=>⟨a,l,h⟩) (λa l _ _ _ h=>⟨a,l,h⟩) (λa l _ _ _ h=>⟨a,l,h⟩) hp hi h
end
section
variable {X:Cx} {c:Fc} {e:Expr} {fe:DE} {pos pos':Pos}
end
section
variable {X:Cx} {c:Fc} {pp pos:Pos}
end
section
variable {c:Fc} {σ:St} {δ:Dl} {H:Hp} {a:Addr} {d:D}
end
section
variable {X:Cx} {c:Fc} {e:Expr} {es:List Expr} {as:List Ak} {f0:DE} {k n:Nat} {x:Str} {G:DF} {pp pos:Pos}
end
section
variable {X:Cx} {c:Fc} {e:Expr} {fe:DE} {pos:Pos}
theorem Ok.NB(k:Ok c σ δ H)(e:δ[i]? = some (some (.own (.ay ds))))(ea:σ[i]? = some (some (.ref a)))(r:DR H (Av c σ δ) fL dS) :
  aD c σ δ H σ (δ.set i (some (.own (.ay dS)))) (upd H a (.dK fL)):=by
 have hi:i < δ.length:=(W6.mp e).1;obtain⟨a',ck,oa,ia,nb⟩:=k.own i _ e;rw[ea] at ck; cases ck
 obtain⟨vs,ha,_⟩:=oa;have qp:Own σ δ a:=⟨i,_,e,ea⟩
 have v8:Av c σ δ a:=.inr qp;have qq:∀ b,Own σ (δ.set i (some (.own (.ay dS)))) b ↔ Own σ δ b:=λb=>by
  constructor
  ·rintro ⟨j,d,e1,e2⟩;by_cases hj:i=j
   ·subst hj;exact⟨i,_,e,e2⟩
   ·rw[W3 hj] at e1;exact⟨j,d,e1,e2⟩
  ·rintro ⟨j,d,e1,e2⟩;by_cases hj:i=j
   ·subst hj;exact⟨i,_,by rw[Wc hi],e2⟩
   ·exact⟨j,d,by rw[W3 hj]; exact e1,e2⟩
 have mL:∀ b,Av c σ (δ.set i (some (.own (.ay dS)))) b->Av c σ δ b:=λb z=>z.elim .inl λz=>.inr ((qq b).mp z)
 have ne:∀ b,¬ Av c σ δ b->b≠a:=λb n z=>n (by rw[z]; exact v8)
 have kp:∀ b o,H b=some o->¬ Av c σ δ b->upd H a (.dK fL) b=some o:=λb o h n=>by rw[aG (ne b n)]; exact h
 have jO:∀ b o,H b=some o->∃ o',upd H a (.dK fL) b=some o':=λb o h=>by
  by_cases hb:b=a
  ·exact⟨_,by rw[hb]; exact cg⟩
  ·exact⟨o,by rw[aG hb]; exact h⟩
 refine⟨⟨λb o h n=>?_,λb z=>?_,λb z=>?_,by rw[WS]; exact k.len,λj d h=>?_,λj d h=>?_,λj l b d d' h1 h2 h3 h4=>?_,k.pinned⟩,λb o h n=>?_,λb z=>.inl ((qq b).mp z),jO⟩
 ·have hb:b≠a:=λz=>by
   subst z;rcases ia with z | z
   ·exact n z
   ·rw[z] at h; cases h
  rw[aG hb];exact k.keep b o h n
 ·obtain⟨o,h⟩:=k.bd b z;exact jO b o h
 ·obtain⟨o,h⟩:=k.cN b z;exact jO b o h
 ·have hj:i≠j:=λz=>by subst z; rw[Wc hi] at h; cases h
  rw[W3 hj] at h;obtain⟨v,h1,h2⟩:=k.slot j d h;exact⟨v,h1,(h2.keep kp).aJ λb z=>.inl (mL b z)⟩
 ·by_cases hj:i=j
  ·subst hj;rw[Wc hi] at h
   cases h;exact⟨a,ea,(let r':=r.map λv d h=>(Rep.keep h kp).aJ λb z=>.inl (mL b z); ⟨fL,cg,r'.keys,r'.vals⟩),ia,nb⟩
  ·rw[W3 hj] at h;obtain⟨b,h1,h2,h3,h4⟩:=k.own j d h;have hb:b≠a:=λz=>by subst z; exact hj (k.inj i j b _ d e h ea h1)
   exact⟨b,h1,(h2.keep kp λo q=>by rw[aG hb]; exact q).aJ λb z=>.inl (mL b z),h3,h4⟩
 ·have f1:∃ d,δ[j]? = some (some (.own d)):=by
   by_cases hj:i=j
   ·subst hj; exact⟨_,e⟩
   ·rw[W3 hj] at h1; exact⟨d,h1⟩
  have f2:∃ d,δ[l]? = some (some (.own d)):=by
   by_cases hj:i=l
   ·subst hj; exact⟨_,e⟩
   ·rw[W3 hj] at h2; exact⟨d',h2⟩
  obtain⟨_,f1⟩:=f1;obtain⟨_,f2⟩:=f2;exact k.inj j l b _ _ f1 f2 h3 h4
 ·have hb:b≠a:=λz=>n (by rw[z]; exact qp)
  rw[aG hb]; exact h
def jT(δ:Dl)(i:Nat):Bool:=match δ[i]? with
 | some (some (.own (.ay _)))=>true
 | _=>false
def fO(i:Nat)(fi fe:DE):DS:=λδ=>if jT δ i then(fe δ).bind λr δ1=>if jT δ1 i then(fi δ1).bind λk δ2=>match δ2[i]? with
  | some (some (.own (.ay ds)))=>match dq k.d with
   | some kk=>if ds.length < Wb then .ok .next (δ2.set i (some (.own (.ay (putD ds kk r.d))))) else .stuck
   | none=>.stuck
  | _=>.stuck else .stuck else .stuck
theorem Eb(h:jT δ i=true):∃ ds,δ[i]? = some (some (.own (.ay ds))):=by
 unfold jT at h;split at h
 ·rename_i ds e; exact⟨ds,e⟩
 ·cases h
theorem wO{i:Nat}{o ix:Expr}{fi:DE}{sp:Pos}(hu:X.A.units + 64 < Qp)(ho:PE X o (b_ i))(hi:SE X c ix fi)(he:SE X c e fe)
  (hs:QQ e (some (.Subscript o ix sp)) pos.line X.env=pure false:=by rfl):SS X c (.Assign [.Subscript o ix sp] e pos) (fO i fi fe) :=
 PS.weak (BS (by omega) ho hi he hs) λD σ H ⟨δ,k,q⟩=>by
  unfold fO ei at q;split at q
  case isFalse=>exact q.elim
  rename_i hown;rw[bc] at q;refine⟨δ,k,aQ q λr δ1 q1 v H1 a1 r1=>?_⟩;split at q1
  case isFalse=>exact q1.elim
  rename_i hown1;obtain⟨ds1,e1⟩:=Eb hown1;obtain⟨a,ea,_,_⟩:=a1.ok.own i _ e1;refine⟨.ref a,ea,δ1,a1.ok,?_⟩;rw[bc] at q1;refine aQ q1 λkx δ2 q2 u H2 a2 r2=>?_
  split at q2
  ·rename_i ds e2;split at q2
   ·rename_i kk hk;split at q2
    ·rename_i hz;obtain⟨a',ck,oa,_⟩:=a2.ok.own i _ e2;rw[ea] at ck; cases ck
     obtain⟨ws,ha,hk1,hk2⟩:=id oa;have dr:DR H2 (Av c σ δ2) ws ds:=DR.of hk1 hk2;have vD:=qI hk r2.b;subst vD;have hlen:ws.length=ds.length:=by have:=congrArg Jv hk1; simpa using this
     have rv:Rep H2 (Av c σ δ2) v r.d:=Rep.cU r1.rep a2;refine⟨a,_,rfl,nW.k ha (by rw[hlen]; exact hz),?_⟩;exact q2 σ _ (a1.trans (a2.trans (Ok.NB a2.ok e2 ea (dr.put rv))))
    ·exact q2.elim
   ·exact q2.elim
  ·exact q2.elim
end
section
variable {X:Cx} {c:Fc} {o e f:Expr} {fe ff:DE} {i:Nat} {apos ba:Pos}
def qL(δ:Dl)(i:Nat):Bool:=match δ[i]? with
 | some (some s)=>match s.d with
  | .ay _=>true
  | _=>false
 | _=>false
theorem NC(k:Ok c σ δ H)(h:qL δ i=true):∃ a ws ds s,δ[i]? = some (some s)/\s.d = .ay ds/\σ[i]? = some (some (.ref a))/\H a=some (.dK ws)/\DR H (Av c σ δ) ws ds:=by
 unfold qL at h;split at h
 ·rename_i s e;split at h
  ·rename_i ds hs;obtain⟨v,ev⟩:=mF k e;have rb:=qk k e ev;rw[hs] at rb;obtain⟨a,ws,rfl,ha,dr⟩:=tR rb;exact⟨a,ws,ds,s,e,hs,ev,ha,dr⟩
  ·cases h
 ·cases h
def ie(i:Nat)(fe ff:DE):DE:=λδ=>if qL δ i then(fe δ).bind λk δ1=>(ff δ1).bind λz δ2=>match δ2[i]? with
  | some (some s)=>match s.d,dq k.d with
   | .ay ds,some kk=>.ok (.pure ((dj ds kk).getD z.d)) δ2
   | _,_=>.stuck
  | _=>.stuck else .stuck
theorem Ec (hu:X.A.units + 64 < Qp) (ho:PE X o (b_ i)) (he:SE X c e fe) (hx:SE X c f ff) (hb:Q6 o "get" X.env (eval o X.env)=eval o X.env:=by rfl)
  (hf:((WU ba (W7 [e,f] X.env)).all (λx=>!x.1) && (JL ba (Jc [] X.env)).all (λx=>x.1.isSome)
   && decide (([e,f]:List Expr).length + ([]:List Keyword).length + (if ([]:List Keyword).isEmpty then 0 else 1) < 30))=true:=by rfl) (hl:(apos.endLine == ba.line)=true:=by rfl)
  (ht:WU ba (W7 [e,f] X.env)=[(false,eval e X.env),(false,eval f X.env)]:=by rfl):SE X c (.Call (.Attribute o "get" apos) [e,f] [] ba) (ie i fe ff) :=
 PE.weak (K3 (by omega) ho he hx ⟨hb,hf,hl,ht⟩) λσ H Q ⟨δ,k,q⟩=>by
  unfold ie at q;split at q
  case isFalse=>exact q.elim
  rename_i hd;obtain⟨a,ws,ds,s,e1,e2,e3,e4,_⟩:=NC k hd;rw[bc] at q;refine⟨.ref a,e3,a,rfl,.inl ⟨ws,.inl e4⟩,δ,k,aQ q λkx δ1 q1 v H1 a1 r1=>⟨δ1,a1.ok,?_⟩⟩;rw[bc] at q1;refine aQ q1 λzx δ2 q2 u H2 a2 r2=>?_
  split at q2
  ·rename_i s1 es1;split at q2
   ·rename_i ds1 kk lC hk;have rb:=qk a2.ok es1 e3;rw[lC] at rb;obtain⟨a',ws1,ea,ha1,wQ⟩:=tR rb
    cases ea;have hv:=qI hk (show cZ c σ δ2 H2 v kx.d from .inl (Rep.cU r1.rep a2));subst hv;refine⟨_,.inl ⟨ws1,_,.inl ha1,rfl,rfl⟩,?_⟩;rcases wQ.val kk with ⟨z1,z2⟩ | ⟨v,d,z1,z2,z3⟩
    ·rw[z1] at q2; rw[z2]
     exact q2 _ H2 (a1.trans a2) r2.rep
    ·rw[z1] at q2; rw[z2]
     exact q2 _ H2 (a1.trans a2) z3
   ·exact q2.elim
  ·exact q2.elim
end
section
variable {X:Cx}
end
end DV
namespace L2
open PySem PySem.Spec PyProof.Rows
section
variable {X:Cx} {tg:Expr}
end
end L2
namespace DV
open PySem PySem.Spec PyProof.Rows L2
variable {X:Cx} {c:Fc} {tg e:Expr} {fe:DE} {pp pos:Pos}
section
variable {X:Cx}
end
section
variable {X:Cx}
end
def jU:List D->Option (List Int)
 | []=>some []
 | .int i :: r=>(jU r).map (i :: ·)
 | _ :: _=>none
theorem ints_map(ns:List Int):jU (ns.map D.int)=some ns:=by
 induction ns with
 | nil=>rfl
 | cons n r ih=>simp[jU,ih]
section
variable {X:Cx} {c:Fc} {e:Expr} {fb:BE} {pos pp:Pos}
end
end DV
namespace L2
open PySem PySem.Spec PyProof.Rows
section
variable {prog:Wm} {w:Wq} {A:Wp} {E:Value->W2->Prop} {s:W2}
end
section
variable {X:Cx} {pos:Pos}
end
end L2
namespace DV
open PySem PySem.Spec PyProof.Rows L2
section
variable {X:Cx} {c:Fc} {pos:Pos}
end
open PySem PySem.Builtin PySem.Builtin.Str PySem.StrLaws
def mU(c:Nat)(z:List Nat)(a n:Nat):List Nat:=(List.range' a n).filter λi=>decide (z[i]? = some c)
theorem ND(z:List Nat)(c i:Nat):subAt ⟨z.toArray⟩ ⟨#[c]⟩ i=decide (z[i]? = some c):=by
 unfold subAt;have e:(⟨#[c]⟩:Str).length=1:=rfl;rw[e];show(z.toArray.extract i (i + 1) == #[c])=_;rw[List.extract_toArray,List.extract_eq_take_drop,Nat.add_sub_cancel_left];have hb:((List.take 1 (List.drop i z)).toArray == #[c])=((List.take 1 (List.drop i z)) == [c]):=by simp
 rw[hb]
 cases h:z[i]? with
 | none =>
  rw[List.getElem?_eq_none_iff] at h;rw[List.drop_of_length_le h];simp
 | some a =>
  have hi:i < z.length:=(W6.mp h).1;have ha:z[i]=a:=(W6.mp h).2;rw[QJ hi,ha];by_cases hac:a=c <;> simp[hac]
theorem wR(c:Nat)(z:List Nat):∀ (n k:Nat) (st:Array Nat×Nat),st.2<=k->st.1.size<=k->k + n=z.length + 1 ->
  (forIn (List.range' k n) st (occBody ⟨z.toArray⟩ ⟨#[c]⟩ z.length (z.length + 1))).run.fst.toList=st.1.toList ++ mU c z k n
 | 0,k,st,_,_,_=>by simp[mU]
 | n + 1,k,st,h1,h2,h3=>by
  rw[U4,U6];unfold occBody;have e1:(⟨#[c]⟩:Str).length=1:=rfl;rw[ND,e1];by_cases hc:z[k]? = some c
  ·have hk:k < z.length:=(W6.mp hc).1;rw[if_pos ⟨⟨⟨by omega,h1⟩,by omega⟩,by simpa using hc⟩];have ih:=wR c z n (k + 1) (st.1.push k,k + 1) (Wg _) (by simp; omega) (by omega);show(forIn (List.range' (k + 1) n) (st.1.push k,k + 1) (occBody ⟨z.toArray⟩ ⟨#[c]⟩ z.length (z.length + 1))).run.fst.toList=_;rw[ih];simp[mU,U4,hc]
  ·rw[if_neg (λh=>hc (by simpa using h.2))];have ih:=wR c z n (k + 1) (st.1,st.2) (by show st.2<=k + 1; omega) (by show st.1.size<=k + 1; omega) (by omega);show(forIn (List.range' (k + 1) n) (st.1,st.2) (occBody ⟨z.toArray⟩ ⟨#[c]⟩ z.length (z.length + 1))).run.fst.toList=_;rw[ih];simp[mU,U4,hc]
theorem NF(c:Nat)(z:List Nat):occurrences ⟨z.toArray⟩ ⟨#[c]⟩ 0 z.length (z.length + 1)=mU c z 0 z.length:=by
 rw[occ_eq,wR c z (z.length + 1 - 0) 0 (#[],0) (Wg _) (Wg _) (by omega)];have:z.length + 1 - 0=z.length + 1:=rfl;rw[this];unfold mU;rw[List.range'_concat];simp
section
variable {X:Cx}
end
section
variable {X:Cx} {c:Fc} {e:Expr} {fb:BE}
end
end DV
set_option maxHeartbeats 1000000
namespace PySem
open Sem (wp)
open AutoSeq1 (wpAny_loadPart')
section
variable {prog:Wm} {w:Wq} {A:Wp} {E:Value->W2->Prop} {s:W2}
end
end PySem
namespace PyProof.Rows
open PySem
section
variable {M:Model} {A:Wp} {E:Value->W2->Prop} {s:W2} {env:Env}
end
end PyProof.Rows
set_option maxHeartbeats 400000
namespace L2
open PySem PySem.Spec PyProof.Rows
end L2
namespace DV
open PySem PySem.Spec PyProof.Rows L2
section
variable {X:Cx} {c:Fc} {tg e:Expr} {fe:DE} {pos pp:Pos}
end
end DV
namespace L2
open PySem PySem.Spec PyProof.Rows
def iK(h:Heap)(a C T:Addr)(dx:Option Addr)(fl:Value):Prop :=
 ∃ vs sl oT ts a0,h.get? a=some ⟨.ref C,dx,.fields vs,sl⟩/\vs[0]? = some a0/\vs[1]? = some (.ref T)/\T≠a/\h.get? T=some oT/\oT.data = .fields ts/\ts[3]? = some fl
structure wU(h h':Heap)(fs:List Addr)(a T:Addr)(old:Value):Prop where
 new:h.get? T=none
 keep:∀ b o,h.get? b=some o->b≠a->old≠.ref b->b ∉ fs->h'.get? b=some o
 frame:∀ b o,h.get? b=some o->(∀ vs,o.data≠.fields vs)->∃ sl,h'.get? b=some { o with slots:=sl }
section
variable {M:Model} {A:Wp} {E:Value->W2->Prop} {s:W2}
theorem Ed
  (eO:A.frames=some (env :: outer)) (hl:s.heap.FunFrames base (env :: outer)) (hf:env.frame=some L)
  (he:s.heap.get? a=some ⟨.ref C,dx,.fields vs,sl⟩) (h0:vs[0]? = some a0) (h1:1 < vs.size)
  (q:∀ h' T,iK h' a C T dx (Q4 L)->wU s.heap h' ((env :: outer).filterMap (·.frame)) a T .none->Q () { s with heap:=h' }) :
  W8 M A (do let x <- frameOf env; let pl <- entryPlaceOf L b0; let y <- EntryCells.newEntry head x .none (Q4 L) .none pl; setField (.ref a) 1 y) Q E s:=by
 have na:a ∉ (env :: outer).filterMap (·.frame):=λz=>by
  obtain⟨_,o,g1,g2⟩:=hl.mem z;rw[he] at g1
  cases g1;exact g2 vs rfl
 refine W0 (wpAny_frameOf_fun eO hl hf λhA k=>W0 (wpAny_entryPlaceOf λpl bE=>?_));unfold EntryCells.newEntry newFields;refine W0 (WX ?_ (bE.sizeOk5 _ _ _ _ _));have eA:hA.get? a=some ⟨.ref C,dx,.fields vs,sl⟩:=(k.2.1 a na).trans he;generalize dB:([head,.ref L,.none,Q4 L,.none] ++ (if pl.isEmpty then Wa 6 Value.none else pl)).toArray=ts;have t3:ts[3]? = some (Q4 L):=by
  rw[<- dB];rcases bE with rfl | ⟨_,_,_,_,_,_,_,rfl⟩ <;> simp
 have eB:=W5 (h:=hA) { cls:=.type "traceback",dict:=none,data:=.fields ts } eA;have nT:hA.objs.size≠a:=WI (We eA);refine QT eB rfl h1 (q _ hA.objs.size ⟨vs.setIfInBounds 1 (.ref hA.objs.size),sl,{ cls:=.type "traceback",dict:=none,data:=.fields ts },ts,a0,?_,?_,?_,nT,?_,rfl,t3⟩ ⟨?_,λb o e n _ nf=>?_,λb o e d=>?_⟩)
 ·exact(Wt _ eB rfl)
 ·rw[Array.getElem?_setIfInBounds_ne (by decide)]; exact h0
 ·simp[h1]
 ·rw[Wu _ _ (Ne.symm nT)]; exact Wj hA rfl
 ·cases z:s.heap.get? hA.objs.size with
  | none=>rfl
  | some o =>
   obtain⟨sl',z'⟩:=k.2.2 _ o z;exact absurd (We z') (Qf _)
 ·rw[Wu _ _ (Ne.symm n)];exact W5 _ ((k.2.1 b nf).trans e)
 ·have nb:b≠a:=λz=>by
   rw[z,he] at e
   cases e;exact d vs rfl
  obtain⟨sl',z⟩:=k.2.2 b o e;exact⟨sl',by rw[Wu _ _ (Ne.symm nb)]; exact W5 _ z⟩
theorem NG
  (eO:A.frames=some (env :: outer)) (hl:s.heap.FunFrames base (env :: outer)) (hf:env.frame=some L)
  (he:s.heap.get? a=some ⟨.ref C,dx,.fields vs,sl⟩) (h0:vs[0]? = some a0) (h1:vs[1]? = some .none)
  (q:∀ h' T,iK h' a C T dx (Q4 L)->wU s.heap h' ((env :: outer).filterMap (·.frame)) a T .none->Q () { s with heap:=h' }):W8 M A (JO (.ref a) env) Q E s:=by
 unfold JO;simp only[hf];refine W0 (Qg he rfl h1 ?_);rw[if_neg (by decide)];exact Ed eO hl hf he h0 (Qk.mp h1).1 q
theorem NH
  (eO:A.frames=some (env :: outer)) (hl:s.heap.FunFrames base (env :: outer)) (hf:env.frame=some L) (hx:iK s.heap a C T₀ dx .none)
  (q:∀ h' T,iK h' a C T dx (Q4 L)->wU s.heap h' ((env :: outer).filterMap (·.frame)) a T (.ref T₀)->Q () { s with heap:=h' }):W8 M A (JO (.ref a) env) Q E s:=by
 obtain⟨vs,sl,oT,ts,a0,e1,e2,e3,e4,e5,e6,e7⟩:=hx;unfold JO;simp only[hf];refine W0 (Qg e1 rfl e3 ?_);rw[if_pos (by simp)];refine W0 (Qg e5 e6 e7 ?_);rw[if_neg (by simp[Q4])];refine W0 (QT e5 e6 (Qk.mp e7).1 ?_);have lD:∀ b,b≠T₀->(s.heap.update T₀ (Obj.mapFields (·.setIfInBounds 3 Value.none))).get? b=s.heap.get? b:=λb n=>Wu _ _ (Ne.symm n)
 have Ee:∀ b o,s.heap.get? b=some o->(∀ us,o.data≠.fields us)->b≠T₀:=λb o e d z=>by
  rw[z,e5] at e
  cases e;exact d ts e6
 refine Ed (s:={ s with heap:=s.heap.update T₀ (Obj.mapFields (·.setIfInBounds 3 Value.none)) }) eO (hl.of_keeps λb o e d=>⟨o,(lD b (Ee b o e d)).trans e,rfl⟩) hf ((lD a (Ne.symm e4)).trans e1) e2 (Qk.mp e3).1 λh' T f n=>q h' T f ⟨?_,λb o e n1 n2 n3=>?_,λb o e d=>n.frame b o ((lD b (Ee b o e d)).trans e) d⟩
 ·have:=n.new;by_cases z:T=T₀
  ·exfalso
   rw[z] at this;have g:=Wt (h:=s.heap) (Obj.mapFields (·.setIfInBounds 3 Value.none)) e5 (Obj.isFreed_of_fields (Obj.data_mapFields e6 _));rw[this] at g
   cases g
  ·exact(lD T z).symm.trans this
 ·exact n.keep b o ((lD b λz=>n2 (by rw[z])).trans e) n1 (by simp) n3
theorem NI{env:Env}{L a C T:Addr}{dx:Option Addr}{Q:Unit->W2->Prop}(hf:env.frame=some L)(hx:iK s.heap a C T dx (Q4 L))(q:Q () s):W8 M A (JO (.ref a) env) Q E s:=by
 obtain⟨vs,sl,oT,ts,a0,e1,e2,e3,e4,e5,e6,e7⟩:=hx;unfold JO;simp only[hf];refine W0 (Qg e1 rfl e3 ?_);rw[if_pos (by simp)];refine W0 (Qg e5 e6 e7 ?_);rw[if_pos (by simp)];exact W4 q
theorem NJ(hx:iK s.heap a C T dx fl)
  (q:∀ h',iK h' a C T dx (o.elim .none λf=>Q4 f)->(∀ b,b≠T->h'.get? b=s.heap.get? b)->Q () { s with heap:=h' }):W8 M A (setFlight (.ref a) o) Q E s:=by
 obtain⟨vs,sl,oT,ts,a0,e1,e2,e3,e4,e5,e6,e7⟩:=hx;have hi:=(Qk.mp e7).1;have lD:∀ b,b≠T->(s.heap.update T (Obj.mapFields (·.setIfInBounds 3 (o.elim Value.none λf=>Q4 f)))).get? b=s.heap.get? b:=λb n=>Wu _ _ (Ne.symm n)
 unfold setFlight;refine W0 (Qg e1 rfl e3 ?_);rw[if_pos (by simp)];exact QT e5 e6 hi (q _ ⟨vs,sl,_,_,a0,(lD a (Ne.symm e4)).trans e1,e2,e3,e4,Wt _ e5 (Obj.isFreed_of_fields (Obj.data_mapFields e6 _)),Obj.data_mapFields e6 _,by simp[hi]⟩ lD)
end
abbrev jV:List Value:=[.type "ValueError",.type "Exception",.type "BaseException",.type "object"]
def mV (K:W1) (C:Addr):Prop:=PySem.W.excIn K C jV "ValueError.__new__" = true
theorem mV.obj{K:W1}{C:Addr}{h:Heap}(q:mV K C)(X:K.In h):∃ (bm:List Value) (N:Addr) (nm qn:Str) (bs:List Value) (ig:Bool) (sn:List Str) (sub:List Value) (ab:Bool) (col:Option Bool) (dd:Option Addr) (k0 k1 k2 k3 k5:Option Value) (mN:Str->Option Value),
  h.get? C=some (excClassObj nm qn C N bs bm ig sn sub ab col dd k0 k1 k2 k3 k5 "ValueError.__new__")/\h.Ns N mN/\mN "__init__" = none/\OwnTail h jV bm:=by
 unfold mV PySem.W.excIn at q;split at q;next dd cd sl lk =>
  split at q;next C' bm k0 k1 k2 k3 n k5 e1 e2 =>
   simp only[Wr,beq_iff_eq,U0] at q;obtain⟨⟨⟨⟨⟨c1,c2⟩,c3⟩,c4⟩,c5⟩,c6⟩:=q;subst c1; subst c2
   have e3:sl = #[k0,k1,k2,k3,some (.builtin "ValueError.__new__"),k5]:=by
    cases sl; simp only at e2; rw[e2]
   subst e3
   cases cd;simp only at e1 c3 c4 c5 c6 lk;subst e1; subst c3
   exact⟨bm,_,_,_,_,_,_,_,_,_,dd,k0,k1,k2,k3,k5,_,X _ _ lk,.of_isNs (PySem.W.isNs_of_in X c5),PySem.W.nsMap_none_of_in X c5 c6,PySem.W.tail_of_in X c4⟩
  next=>cases q
 next=>cases q
def kB(P:Wm)(w:Wq):iB:=λouter H s E v s' =>
 ∃ (a C T:Addr) (dx:Option Addr) (H':Hp),v = .ref a/\s'.os=s.os/\AllBare s'.gens/\Un (eM outer) [] H H' s.heap s'.heap/\cM P w H' s'.heap/\iK s'.heap a C T dx .none/\s.heap.get? a=none/\s.heap.get? T=none/\H' a=none/\H' T=none/\E (.ref C) dx H'
section
variable {X:Cx} {x:Str} {C:Addr} {np ba pos:Pos}
end
section
variable {X:Cx} {pins:List (Addr×Obj)} {σ:St} {H:Hp} {s:W2} {h':Heap}
theorem Inv.gone(I:Inv X pins σ H s)(hx:X.ex=[])(e:s.heap.get? b=none):H b=none/\X.s₀.heap.get? b=none:=by
 constructor
 ·cases q:H b with
  | none=>rfl
  | some o =>
   exfalso
   have:∃ u,s.heap.get? b=some u:=by
    have z:=I.aw b o q;clear q;induction o with
    | lst xs=>obtain⟨_,_,_,_,e⟩:=z; exact⟨_,e⟩
    | tup xs=>obtain⟨_,_,_,_,e⟩:=z; exact⟨_,e⟩
    | dK kvs=>obtain⟨_,_,_,_,_,_,_,e,_⟩:=z; exact⟨_,e⟩
    | dT kvs=>obtain⟨_,_,_,_,_,_,_,e,_⟩:=z; exact⟨_,e⟩
    | set S n=>obtain⟨_,_,_,_,e,_⟩:=z; exact⟨_,e⟩
    | ins C dx fs=>obtain⟨_,_,_,e,_⟩:=z; exact⟨_,e⟩
    | own y=>exact z
    | xd fs=>obtain⟨_,⟨_,_,_,e,_⟩,_⟩:=z; exact⟨_,e⟩
    | jx lo hi=>obtain⟨_,_,_,e⟩:=z; exact⟨_,e⟩
    | frz ob u ih=>exact⟨_,z.1⟩
    | tbl ps=>exact⟨_,z⟩
    | met f y=>exact⟨_,z⟩
    | ext φ=>exact z.2.1
   obtain⟨u,q⟩:=this;rw[e] at q; cases q
 ·cases q:X.s₀.heap.get? b with
  | none=>rfl
  | some o =>
   obtain⟨o',q'⟩:=I.base.there b o q (by rw[hx]; simp);rw[e] at q'; cases q'
end
structure Apart(X:Cx)(pins:List (Addr×Obj))(H:Hp)(b:Addr):Prop where
 old:X.s₀.heap.get? b=none
 free:H b=none
 loc:b≠X.env.locals
 jG:∀ x c,X.env.cells.lookup x=some c->c≠b
 pin:∀ p ∈ X.pn ++ pins,p.1≠b
section
variable {X:Cx} {pins:List (Addr×Obj)} {σ:St} {H:Hp} {s:W2} {h':Heap} {a T:Addr}
theorem Inv.mf(I:Inv X pins σ H s)(e:X.s₀.heap.get? b=some o):b≠X.env.locals:=Wi (Wv (We e) I.ok.above)
theorem Inv.wV(I:Inv X pins σ H s)(ha:Apart X pins H a)(hT:Apart X pins H T)(k1:∀ b o,s.heap.get? b=some o->b ∉ eM X.stack->b≠a->b≠T->h'.get? b=some o)
  (k2:∀ b o,s.heap.get? b=some o->b ∈ eM X.stack->∃ sl,h'.get? b=some { o with slots:=sl }):Inv X pins σ H { s with heap:=h' }:=by
 have any:∀ b o,s.heap.get? b=some o->b≠a->b≠T->∃ sl,h'.get? b=some { o with slots:=sl }:=λb o e n1 n2=>by
  by_cases hb:b ∈ eM X.stack
  ·exact k2 b o e hb
  ·exact⟨o.slots,k1 b o e hb n1 n2⟩
 have ne:∀ b o,X.s₀.heap.get? b=some o->b≠a/\b≠T:=λb o e=>⟨λz=>(by rw[z,ha.old] at e; cases e),λz=>(by rw[z,hT.old] at e; cases e)⟩
 have Ef:∀ b,b≠X.env.locals->b ∉ X.fs->b ∉ eM X.stack:=λb n1 n2 z=>(Wl.mp (I.rN b z)).elim n1 n2
 have cellK:∀ y c,X.env.cells.lookup y=some c->∀ v,s.heap.IsCell c v->h'.IsCell c v:=λy c e v ⟨o,ho,hd⟩=>by
  obtain⟨sl,q⟩:=any c o ho (ha.jG y c e) (hT.jG y c e);exact⟨_,q,hd⟩
 refine⟨I.ok,I.os,I.bare,⟨λb o e n hb hx=>?_,λb o e n hb hx=>?_,I.base.free,λb o e hx=>?_,I.base.iu,I.base.gQ,I.base.iw⟩,?_,λy c e=>?_,I.free,I.dY,λp hp=>?_,λb o e=>?_,I.len⟩
 ·exact k1 b o (I.base.keep b o e n hb hx) (Ef b (I.mf e) hb) (ne b o e).1 (ne b o e).2
 ·obtain⟨sl,q⟩:=I.base.slot b o e n hb hx;obtain⟨sl',q'⟩:=any b _ q (ne b o e).1 (ne b o e).2;exact⟨sl',q'⟩
 ·obtain⟨o',q⟩:=I.base.there b o e hx;obtain⟨sl',q'⟩:=any b _ q (ne b o e).1 (ne b o e).2;exact⟨_,q'⟩
 ·obtain⟨m,⟨o,es,ep,ho,hd,r⟩,hl⟩:=I.loc;obtain⟨sl,q⟩:=any _ o ho (λz=>ha.loc z.symm) (λz=>hT.loc z.symm);refine⟨m,⟨_,es,ep,q,hd,r⟩,λi y v e1 e2 e3=>?_⟩;obtain⟨u,ru,lk⟩:=hl i y v e1 e2 e3;refine⟨u,ru,lk.elim .inl λ⟨k,c,e,z⟩=>.inr ⟨k,c,e,cellK y c e _ z⟩⟩
 ·obtain⟨v,z⟩:=I.cell y c e;exact⟨v,cellK y c e v z⟩
 ·obtain⟨e,n,nl,nf,d⟩:=I.pin p hp;exact⟨k1 p.1 p.2 e (Ef _ nl nf) (ha.pin p hp) (hT.pin p hp),n,nl,nf,d⟩
 ·refine(I.aw b o e).jy (λc u hc q=>k1 c u q (λz=>?_) (λz=>?_) (λz=>?_)) (λ_ q=>q) λ_ _ q=>q
  ·have:=I.rO c z;rcases hc with rfl | hc
   ·rw[e] at this; cases this
   ·rw[hc] at this; cases this
  ·subst z;rcases hc with rfl | hc
   ·rw[ha.free] at e; cases e
   ·rw[ha.free] at hc; cases hc
  ·subst z;rcases hc with rfl | hc
   ·rw[hT.free] at e; cases e
   ·rw[hT.free] at hc; cases hc
theorem Inv.wW(I:Inv X pins σ H s)(ha:Apart X pins H a)(ob:bG X.prog X.w (upd H a o) s.heap a o):Inv X pins σ (upd H a o) s:=by
 have ne:∀ {b:Addr} {u:HO},H b=some u->b≠a:=λ{b u} e z=>by rw[z,ha.free] at e; cases e
 have up:∀ {b:Addr} {u:HO},H b=some u->upd H a o b=some u:=λ{b u} e=>by rw[aG (ne e)]; exact e
 have no:∀ {b:Addr},b≠a->H b=none->upd H a o b=none:=λ{b} n e=>by rw[aG n]; exact e
 refine⟨I.ok,I.os,I.bare,⟨I.base.keep,I.base.slot,λb u e n hx=>no (λz=>by rw[z,ha.old] at e; cases e) (I.base.free b u e n hx),I.base.there,λb xs e=>up (I.base.iu b xs e),λb u z e=>up (I.base.gQ b u z e),λb ps e=>?_⟩,I.loc,I.cell,no (Ne.symm ha.loc) I.free,λx c e=>no (ha.jG x c e) (I.dY x c e),λp hp=>?_,λb u e=>?_,I.len⟩
 ·obtain⟨m,q⟩:=I.base.iw b ps e;exact⟨m,up q⟩
 ·obtain⟨e,n,nl,nf,d⟩:=I.pin p hp;exact⟨e,no (ha.pin p hp) n,nl,nf,d⟩
 ·by_cases hb:b=a
  ·subst hb;rw[cg] at e
   cases e;exact ob
  ·rw[aG hb] at e;exact(I.aw b u e).jy (λ_ _ _ q=>q) (λc q=>up q) λc xs q=>up q
theorem NK(I:Inv X pins σ H s)(hN:X.N.Nodup)(hi:X.N[i]? = some x)(hk:X.env.scope.names.lookup x=some .local)
  (h:∀ s',Inv X pins (σ.set i none) H s'->Q () s'):W8 M A (do bindName X.env x .none; unbindBehindTheSuite X.env x pos) Q E s:=by
 have pw:i < σ.length:=by rw[I.len]; exact(W6.mp hi).1
 refine W0 (wpAny_bindName (rQ (v:=.aN) (u:=.none) I hN hi (.inl hk) rfl (λs1 I1 _=>?_) (.inr hk)));obtain⟨m,hn,hl⟩:=id I1.loc;obtain⟨u,ru,lk⟩:=hl i x .aN hi (Wc pw) (.inl hk);have hv:m x=some u:=by
  rcases lk with ⟨_,e⟩ | ⟨z,_⟩
  ·exact e
  ·have:X.env.kindOf x=some .local:=hk;rw[this] at z;rcases z with z | z <;> cases z
 refine wpAny_onRaise (wpAny_unbindName_local hk hn hv (by rw[I.ok.kind]; rfl) λh' w' jA hs=>h _ ?_);obtain⟨oL,_,_,hoL,_⟩:=id hn;have iU:=I1.iU;refine⟨I1.ok,I1.os,I1.bare,⟨λb o e n hb hx=>?_,λb o e n hb hx=>?_,I1.base.free,λb o e hx=>?_,I1.base.iu,I1.base.gQ,I1.base.iw⟩,⟨_,jA,λj y v' e1 e2 e3=>?_⟩,λy c e=>?_,I1.free,I1.dY,λp hp=>?_,λb ob e=>?_,by simpa using I.len⟩
 ·exact(hs.2 b (I1.mf e)).trans (I1.base.keep b o e n hb hx)
 ·obtain⟨sl,q⟩:=I1.base.slot b o e n hb hx;exact⟨sl,(hs.2 b (I1.mf e)).trans q⟩
 ·obtain⟨o',q⟩:=I1.base.there b o e hx;exact⟨o',(hs.2 b (I1.mf e)).trans q⟩
 ·by_cases hj:j=i
  ·subst hj;rw[Wc pw] at e2
   cases e2
  ·rw[W3 (Ne.symm hj)] at e2;obtain⟨u',r',q⟩:=hl j y v' e1 (by rw[W3 (Ne.symm hj)]; exact e2) e3;have NL:y≠x:=λz=>hj (uJ hN e1 (z ▸ hi))
   refine⟨u',r',?_⟩;rcases q with ⟨k,e⟩ | ⟨k,c,e,z⟩
   ·exact .inl ⟨k,by simp[NL,e]⟩
   ·exact .inr ⟨k,c,e,z.sameBut hs (iU y c e)⟩
 ·obtain⟨w2,z⟩:=I1.cell y c e;exact⟨w2,z.sameBut hs (iU y c e)⟩
 ·obtain⟨e,n,nl,nf,d⟩:=I1.pin p hp;exact⟨(hs.2 p.1 nl).trans e,n,nl,nf,d⟩
 ·refine(I1.aw b ob e).jy (λc u' hc q=>(hs.2 c λz=>?_).trans q) (λ_ q=>q) λ_ _ q=>q
  subst z;have:=I1.free;rcases hc with rfl | hc
  ·rw[e] at this; cases this
  ·rw[hc] at this; cases this
end
section
variable {prog:Wm} {w:Wq} {A:Wp} {E:Value->W2->Prop} {K:W1}
theorem NM{C B e:Addr}{oe:Obj}{h:Heap}{g:Array GenState}{d:Drawn}{t:Nat}{os:OsState}{Q:Bool->W2->Prop}(X:K.In h)(qB:mV K B)(qm:PySem.W.mroIn K C (.ref B)=some true)(he:h.get? e=some oe)(hc:oe.cls = .ref C)
  (hq:Q true ⟨h,g,d,t,os⟩):W8 (model prog w) A (excMatches (.ref e) (.ref B)) Q E ⟨h,g,d,t,os⟩:=by
 obtain⟨bm,N,nm,qn,bs,ig,sn,sub,ab,col,dd,k0,k1,k2,k3,k5,mN,hB,_,_,hT⟩:=qB.obj X;have cB:(Value.ref B :: bm).contains (.type "BaseException")=true:=by rw[Js,hT.hasType (X:="BaseException") (b:=true) rfl,Bool.or_true]
 have lk:=PySem.W.looks_mroIn (M:=model prog w) X qm;have f:=tc_notTuple;unfold excMatches;repeat (first | with_reducible refine PySem.W.Looks.at lk ?_ | (with_reducible refine Ql he ?_; rw[hc]) | with_reducible refine Ql hB ?_ | (with_reducible refine wpAny_isSubtype_exc hB ?_; rw[cB]) | wp_step)
 exact hq
end
def Cx.wt(X:Cx)(pn:List (Addr×Obj))(xe:Value->W2->Prop):Cx:={ X with pn:=pn,xe:=xe }
def Cx.hand(X:Cx)(a:Addr):Cx:={ X with A:=X.A.mark (some (.ref a)),calm:=false,xe:=λ_ _=>False }
section
variable {X:Cx} {pins ps:List (Addr×Obj)} {σ:St} {H:Hp} {s:W2} {a:Addr} {xe:Value->W2->Prop} {pn:List (Addr×Obj)}
theorem Cx.Ok.wt(o:X.Ok):(X.wt pn xe).Ok:=⟨o.mod,o.kind,o.glob,o.blt,o.above,o.inj,o.has,o.kM,o.hd,o.frames,o.md,o.me,o.bs,o.gR,o.kN,o.kO,o.fQ,o.iT⟩
theorem Cx.Ok.hand(o:X.Ok):(X.hand a).Ok:=⟨o.mod,o.kind,o.glob,o.blt,o.above,o.inj,o.has,o.kM,λz=>(by cases z),o.frames,o.md,o.me,o.bs,o.gR,o.kN,o.kO,o.fQ,o.iT⟩
theorem Inv.wt(I:Inv X pins σ H s):Inv (X.wt (X.pn ++ pins) xe) [] σ H s:=⟨I.ok.wt,I.os,I.bare,I.base,I.loc,I.cell,I.free,I.dY,λp hp=>I.pin p (by simpa[Cx.wt] using hp),I.aw,I.len⟩
theorem Inv.je(o:X.Ok)(J:Inv (X.wt (X.pn ++ pins) xe) ps σ H s):Inv X pins σ H s:=⟨o,J.os,J.bare,J.base,J.loc,J.cell,J.free,J.dY,λp hp=>J.pin p (J4 _ hp),J.aw,J.len⟩
theorem Inv.hand(I:Inv X pins σ H s):Inv (X.hand a) pins σ H s:=⟨I.ok.hand,I.os,I.bare,I.base,I.loc,I.cell,I.free,I.dY,I.pin,I.aw,I.len⟩
theorem Inv.NN(o:X.Ok)(J:Inv (X.hand a) pins σ H s):Inv X pins σ H s:=⟨o,J.os,J.bare,J.base,J.loc,J.cell,J.free,J.dY,J.pin,J.aw,J.len⟩
theorem Apart.je(h:Apart (X.wt (X.pn ++ pins) xe) ps H a):Apart X pins H a:=⟨h.old,h.free,h.loc,h.jG,λp hp=>h.pin p (J4 _ hp)⟩
theorem SP.je(o:X.Ok)(h:SP (X.wt (X.pn ++ pins) xe) ps D f s):SP X pins D f s:=by
 cases f with
 | next=>obtain⟨σ',H',J,q⟩:=h; exact⟨σ',H',Inv.je o J,q⟩
 | brk=>obtain⟨σ',H',J,q⟩:=h; exact⟨σ',H',Inv.je o J,q⟩
 | cont=>obtain⟨σ',H',J,q⟩:=h; exact⟨σ',H',Inv.je o J,q⟩
 | ret u=>obtain⟨v,σ',H',J,r,q⟩:=h; exact⟨v,σ',H',Inv.je o J,r,q⟩
def qM(X:Cx)(pins:List (Addr×Obj))(H:Hp)(s:W2)(a C:Addr)(dx:Option Addr):Prop:=∃ T fl,iK s.heap a C T dx fl/\(fl = .none\/∃ L,X.env.frame=some L/\fl=Q4 L)/\Apart X pins H a/\Apart X pins H T
def tS(X:Cx)(ps:List (Addr×Obj))(H:Hp)(s:W2)(a C:Addr)(dx:Option Addr):Prop:=(∃ vs sl a0,s.heap.get? a=some ⟨.ref C,dx,.fields vs,sl⟩/\vs[0]? = some a0/\vs[1]? = some .none)/\Apart X ps H a
theorem Inv.apart(I:Inv X pins σ H s)(hx:X.ex=[])(e:s.heap.get? b=none)(f:H' b=none):Apart X pins H' b:=by
 refine⟨(I.gone hx e).2,f,λz=>?_,λx c hc z=>?_,λp hp z=>?_⟩
 ·obtain⟨m,⟨o,_,_,ho,_⟩,_⟩:=I.loc;rw[<- z,e] at ho; cases ho
 ·obtain⟨v,o,ho,_⟩:=I.cell x c hc;rw[z,e] at ho; cases ho
 ·have:=(I.pin p hp).1;rw[z,e] at this; cases this
section
variable {M:Model} {E:Value->W2->Prop} {C L:Addr} {dx:Option Addr} {Q:Unit->W2->Prop}
theorem Inv.Eg(I:Inv X pins σ H s)(c9:X.stack=X.env :: X.outer)(hf:X.env.frame=some L)(hex:X.ex=[])(hc:qM X pins H s a C dx\/tS X pins H s a C dx)
  (q:∀ h' T,Inv X pins σ H { s with heap:=h' }->iK h' a C T dx (Q4 L)->Apart X pins H a->Apart X pins H T->Q () { s with heap:=h' }):W8 M X.A (JO (.ref a) X.env) Q E s:=by
 have eO:X.A.frames=some (X.env :: X.outer):=by rw[<- c9]; exact I.ok.frames
 have hl:s.heap.FunFrames X.base (X.env :: X.outer):=by rw[<- c9]; exact I.stack
 have mem:∀ {b},b ∈ eM X.stack->∃ o,s.heap.get? b=some o/\∀ vs,o.data≠.fields vs:=λ{b} z=>let ⟨_,o,g1,g2⟩:=I.stack.mem z; ⟨o,g1,g2⟩
 rcases hc with ⟨T,fl,f,iZ,pa,pT⟩ | ⟨⟨vs,sl,a0,e1,e2,e3⟩,pa⟩
 ·rcases iZ with rfl | ⟨L',e,rfl⟩
  ·refine NH eO hl hf f λh' T' f' n=>?_
   refine q h' T' (I.wV pa pT (λb o z m n1 n2=>n.keep b o z n1 (λw=>n2 (by cases w; rfl)) (by rw[<- c9]; exact m)) λb o z m=>?_) f' pa (I.apart hex n.new (I.gone hex n.new).1);obtain⟨o',g1,g2⟩:=mem m;rw[z] at g1; cases g1
   exact n.frame b o z g2
  ·rw[hf] at e; cases e
   exact NI hf f (q s.heap T I f pa pT)
 ·refine NG eO hl hf e1 e2 e3 λh' T' f' n=>?_
  refine q h' T' (I.wV pa pa (λb o z m n1 n2=>n.keep b o z n1 (λw=>by cases w) (by rw[<- c9]; exact m)) λb o z m=>?_) f' pa (I.apart hex n.new (I.gone hex n.new).1);obtain⟨o',g1,g2⟩:=mem m;rw[z] at g1; cases g1
  exact n.frame b o z g2
theorem Inv.wX{A:Wp}{o:Option Addr}{fl:Value}(I:Inv X pins σ H s)(f:iK s.heap a C T dx fl)(pT:Apart X pins H T)
  (q:∀ h',Inv X pins σ H { s with heap:=h' }->iK h' a C T dx (o.elim .none λf=>Q4 f)->Q () { s with heap:=h' }):W8 M A (setFlight (.ref a) o) Q E s :=
 NJ f λh' f' k=>q h' (I.wV pT pT (λb u z _ n _=>(k b n).trans z) λb u z _=>by
  by_cases n:b=T
  ·subst n;obtain⟨vs,sl,oT,ts,a0,e1,e2,e3,e4,e5,e6,e7⟩:=f;have:=I.rO b ‹_›;obtain⟨_,o',g1,g2⟩:=I.stack.mem ‹b ∈ eM X.stack›;rw[e5] at g1; cases g1
   exact absurd e6 (g2 ts)
  ·exact⟨u.slots,(k b n).trans z⟩) f'
end
def Ends.hand(D:Ends)(i:Nat):Ends where
 nx:=λσ H=>D.nx (σ.set i none) H
 rt:=D.rt
 bk:=λσ H=>D.bk (σ.set i none) H
 ct:=λσ H=>D.ct (σ.set i none) H
theorem NO{body:List Stmt}{x n:Str}{b₀:Stmt}{tU:List Stmt}{np wY pos:Pos}{B:Addr}{i:Nat}{tb:(Addr->Option Addr->St->Hp->Prop)->TS}{th:Addr->Addr->TS}(hex:X.ex=[])(c9:X.stack=X.env :: X.outer)(hf:X.env.frame=some X.env.locals)
  (hN:X.N.Nodup) (hi:X.N[i]? = some n) (hl:X.env.scope.names.lookup n=some .local) (hg:Gl X x) (hm:X.mg x=some (.ref B)) (qB:mV X.K B) (da:(x == ("__debug__" : Str))=false)
  (eW:∀ (W:Addr->Option Addr->St->Hp->Prop) (pn:List (Addr×Obj)) (xe:Value->W2->Prop),(∀ ps σ H s a C dx,Inv (X.wt pn xe) ps σ H s->qM (X.wt pn xe) ps H s a C dx\/tS (X.wt pn xe) ps H s a C dx->W C dx σ H->xe (.ref a) s)->dC (X.wt pn xe) body (tb W))
  (NP:∀ C a,dC (X.hand a) (b₀ :: tU) (th C a)) :
  PS X (.Try body [.ExceptHandler (some (.Name x np)) (some n) (b₀ :: tU) wY] [] [] pos)
   (λD σ H=>tb (λC dx σ' H'=>PySem.W.mroIn X.K C (.ref B)=some true/\∃ v,(∀ x,v = .ref x->dx=some x)/\∀ a,H' a=none->th C a (D.hand i) (σ'.set i (some (.ref a))) (upd H' a (.ext (DV.excAt C v a)))) D σ H):=by
 intro pins s σ H D I hw;refine wpAny_Try_except (WC (eW _ (X.pn ++ pins) _ (λps σ1 H1 s1 a C dx J hc hW=>?_) [] s σ H D I.wt hw) (λf s1 hs=>?_) λe s1 he=>he)
 ·have J:Inv X pins σ1 H1 s1:=Inv.je I.ok J;have hc:qM X pins H1 s1 a C dx\/tS X pins H1 s1 a C dx:=by
   rcases hc with ⟨T,fl,f,iZ,pa,pT⟩ | ⟨y,pa⟩
   ·exact .inl ⟨T,fl,f,iZ,pa.je,pT.je⟩
   ·exact .inr ⟨y,pa.je⟩
  refine J.Eg c9 hf hex hc λh2 T J2 f2 pa pT=>?_
  refine J2.wX f2 pT λh3 I3 f3=>?_
  obtain⟨vs3,sl3,_,_,_,u3,_⟩:=id f3;obtain⟨qm,v,hv,qh⟩:=hW;refine wpAny_handleBy_cons (codeAny_handlers_test ?_) (by intro z; cases z);have NQ:Inv (X.hand a) pins σ1 H1 { s1 with heap:=h3 }:=I3.hand;refine nN (X:=X.hand a) NQ hg hm ?_ da;refine NM I3.cW qB qm u3 rfl ?_;refine codeAny_handlers_suite_as (I3.wX f3 pT λh4 I4 f4=>?_);obtain⟨vs4,sl4,_,_,_,u1,_⟩:=f4;have I5:Inv X pins σ1 (upd H1 a (.ext (DV.excAt C v a))) { s1 with heap:=h4 }:=I4.wW pa ⟨⟨_,u1,rfl,λx z=>hv x z,vs4,rfl⟩,⟨_,u1⟩,λh1 h2 ⟨o,e1,e2⟩ k=>⟨o,k o e1,e2⟩⟩;refine rQ (v:=.ref a) (u:=.ref a) (X:=X.hand a) I5.hand hN hi (.inl hl) rfl (λs6 I6 _=>?_) (.inr hl);refine WC (NP C a pins s6 _ _ (D.hand i) I6 (qh a pa.free)) (λf s7 hs=>?_) (λe s7 he=>he.elim);have un:∀ {σ':St} {H':Hp} {Q:Flow->W2->Prop},Inv (X.hand a) pins σ' H' s7->(∀ s8,Inv X pins (σ'.set i none) H' s8->Q f s8)->W8 (model X.prog X.w) X.A (do bindName X.env n .none; unbindBehindTheSuite X.env n wY) (λ_ s8=>Q f s8) X.xe s7 :=
   λ{σ' H' Q} J7 k=>NK (Inv.NN I.ok J7) hN hi hl λs8 J8=>k s8 J8
  cases f with
  | next=>obtain⟨σ',H',J7,q⟩:=hs; exact un J7 λs8 J8=>⟨_,_,J8,q⟩
  | brk=>obtain⟨σ',H',J7,q⟩:=hs; exact un J7 λs8 J8=>⟨_,_,J8,q⟩
  | cont=>obtain⟨σ',H',J7,q⟩:=hs; exact un J7 λs8 J8=>⟨_,_,J8,q⟩
  | ret u=>obtain⟨v,σ',H',J7,r,q⟩:=hs; exact un J7 λs8 J8=>⟨v,_,_,J8,r,q⟩
 ·have hs:=SP.je I.ok hs
  cases f with
  | next=>exact wpAny_execs_nil hs
  | brk=>exact hs
  | cont=>exact hs
  | ret u=>exact hs
end
def lE(X:Cx)(W:Addr->Option Addr->St->Hp->Prop):Prop:=∀ ps σ H s a C dx,Inv X ps σ H s->qM X ps H s a C dx\/tS X ps H s a C dx->W C dx σ H->X.xe (.ref a) s
section
variable {X:Cx} {pins:List (Addr×Obj)} {σ:St} {H:Hp} {s:W2} {b:Addr}
theorem Inv.NR(I:Inv X pins σ H s)(hx:X.ex=[])(h:kB X.prog X.w X.stack H s E v s'):∃ a C dx H',v = .ref a/\Inv X pins σ H' s'/\qM X pins H' s' a C dx/\E (.ref C) dx H':=by
 obtain⟨a,C,T,dx,H',rfl,ho,hb,un,aw,fl,na,nT,fa,fT,q⟩:=h;exact⟨a,C,dx,H',rfl,I.AL (ch:=[]) ho un aw hb (λb z=>absurd z (by simp)),⟨T,.none,fl,.inl rfl,I.apart hx na fa,I.apart hx nT fT⟩,q⟩
end
section
variable {X:Cx} {k:Nat} {f:Addr} {fd:WP} {ps:List Str} {sp:Sp} {x:Str} {p pos:Pos} {e:Expr} {es:List Expr} {t:TA} {W:Addr->Option Addr->St->Hp->Prop}
theorem Eh(F:eV X.prog X.w X.K X.mg X.base (kB X.prog X.w) k f fd ps sp)(hr:cG k X.A)(hex:X.ex=[])(hg:Gl X x)(hm:X.mg x=some (.ref f))(hk:QH X.K (.ref f)=true)(hb:Binds X.K fd ps [])(hx:lE X W)
  (ha:PA X (e :: es) t) (da:(x == ("__debug__" : Str))=false:=by decide) (he:W7 (e :: es) X.env=(false,eval e X.env) :: W7 es X.env:=by rfl) (bE:(WU pos (W7 es X.env)).any (·.1)=false:=by rfl) :
  PE X (.Call (.Name x p) (e :: es) [] pos) (λσ H Q=>t σ H λvs H1=>sp vs H1 Q (λc dx H'=>∃ C,c = .ref C/\W C dx σ H')):=by
 intro pins s σ H Q I h;refine QW (nN I hg hm ?_ da);refine PySem.W.callWith_K (h₀:=X.base) I.ok.mod.ma hk (aV (ha pos pins s σ H _ I h) λus s1 ⟨vs,H1,I1,r,q⟩=>⟨I1.cW,?_⟩) he bE;have hl:(us ++ []).length=ps.length:=by rw[Q0,<- r.length]; exact F.len _ _ _ _ q
 refine wpAny_call (QV (F.run X.A X.stack s1 H1 ⟨us,[]⟩ us vs Q _ hr I1.r_ (by have:=hb s1 us I1.cW hl; rwa [Q0] at this) r q) λr s' hq=>?_)
 cases r with
 | error e =>
  obtain⟨a,C,dx,H',ea,I2,co,C',hC,hW⟩:=I1.NR (E:=λc dx H'=>∃ C,c = .ref C/\W C dx σ H') (v:=e) (s':=s') hex hq
  cases hC;subst ea;exact hx pins σ H' s' a C dx I2 (.inl co) hW
 | ok fl =>
  cases fl with
  | ret u=>exact I1.after hq
  | next=>exact False.elim hq
  | brk=>exact False.elim hq
  | cont=>exact False.elim hq
end
section
variable {P:Wm} {w:Wq} {K:W1} {mg:Str->Option Value} {base:Heap} {N:List Str} {qual:Str} {scope:Scope} {f:Addr} {cd:Value} {A:Wp} {outer:List Env} {s₀:W2} {H₀:Hp} {E:XK}
theorem NS{W:Addr->Option Addr->St->Hp->Prop}(hW:∀ C dx σ H,W C dx σ H->E (.ref C) dx H):lE (fI (kB P w) P w K mg base N qual scope f cd A outer s₀ H₀ E) W:=λps σ H s a C dx I hc q=>by
 show W8 _ _ (leaving _ _) _ _ _;unfold leaving;refine W0 (I.Eg rfl rfl rfl hc λh2 T I2 f2 pa pT=>I2.wX f2 pT λh3 I3 f3=>?_);exact⟨a,C,T,dx,H,rfl,I3.os,I3.bare,I3.base,I3.aw,f3,pa.old,pT.old,pa.free,pT.free,hW C dx σ H q⟩
end
def Cx.loop(X:Cx):Cx:={ X with xe:=notedBy (model X.prog X.w) X.A X.env (cameBackBy (model X.prog X.w) X.A X.env X.xe) }
section
variable {X:Cx} {pins ps:List (Addr×Obj)} {σ:St} {H:Hp} {s:W2}
end
end L2
namespace DV
open PySem PySem.Spec PyProof.Rows L2
section
variable {c:Fc} {σ σ':St} {δ δ':Dl} {H H':Hp} {g:Xc->Dl->Prop}
theorem Ok.since(h0:c.H₀=H)(k:Ok c σ δ H)(hI:∀ a,c.I a->Own σ δ a)(k':Ok c σ' δ' H'):aD c σ δ H σ' δ' H':=by
 refine⟨k',λa o e n=>k'.keep a o (by rw[h0]; exact e) λz=>n (hI a z),λa ⟨i,d,e1,e2⟩=>?_,λa o e=>?_⟩
 ·obtain⟨b,e3,_,q,_⟩:=k'.own i d e1;rw[e2] at e3; cases e3
  rcases q with q | q
  ·exact .inl (hI a q)
  ·rw[h0] at q; exact .inr q
 ·by_cases z:c.I a
  ·exact k'.cN a z
  ·exact⟨o,k'.keep a o (by rw[h0]; exact e) z⟩
end
def wD(mg:Str->Option Value)(c:Fc)(C:Addr)(dx:Option Addr)(σ:St)(H:Hp):Prop:=∃ (x:Xc) (δ:Dl) (v:V),mg (toS x.cls)=some (.ref C)/\Ok c σ δ H/\Rep H (Av c σ δ) v x.kh/\(∀ y,v = .ref y->dx=some y)/\c.xc x δ
abbrev DX:=List S->Option ((S×List S) ⊕ (Xc×List S))
def mW(f:DS)(n:Nat)(ss:List S):Option ((S×List S) ⊕ (Xc×List S)):=match f (bC n ss) with
 | .ok fl δ=>(cp fl).bind λr=>(bF 0 ss δ).map λaE=>.inl (r,aE)
 | .exc x δ=>(bF 0 ss δ).map λaE=>.inr (x,aE)
 | .stuck=>none
def tV(mg:Str->Option Value)(n:Nat)(G:DX):Sp:=λvs H Q E=>∃ ss B,vs.length=n/\Ok ⟨H,B,b8 0 ss vs,λ_ _=>False⟩ (b9 vs) (cn ss) H/\∃ y,G ss=some y/\match y with
 | .inl (r,aE)=>∀ v H',aD ⟨H,B,b8 0 ss vs,λ_ _=>False⟩ (b9 vs) (cn ss) H (b9 vs) (cn aE) H'->aP ⟨H,B,b8 0 ss vs,λ_ _=>False⟩ (b9 vs) (cn aE) H H' v r->Q v H'
 | .inr (x,aE)=>∀ C dx v H',mg (toS x.cls)=some (.ref C)->aD ⟨H,B,b8 0 ss vs,λ_ _=>False⟩ (b9 vs) (cn ss) H (b9 vs) (cn aE) H'->Rep H' (Av ⟨H,B,b8 0 ss vs,λ_ _=>False⟩ (b9 vs) (cn aE)) v x.kh->(∀ y,v = .ref y->dx=some y)->E (.ref C) dx H'
def lF(P:Wm)(w:Wq)(K:W1)(mg:Str->Option Value)(base:Heap)(k:Nat)(x:Str)(n:Nat)(G:DX):Prop :=
 ∃ (f:Addr) (fd:WP) (ps:List Str),mg x=some (.ref f)/\QH K (.ref f)=true/\Binds K fd ps []/\eV P w K mg base (kB P w) k f fd ps (tV mg n G)
theorem NT(h:(⟨H,B,b8 0 ss vs,g⟩:Fc).I a):Own (b9 vs) (cn ss) a:=by
 obtain⟨i,hi⟩:=h;obtain⟨j,d,_,e1,e2⟩:=lr hi;exact⟨j,d,e_.mpr e1,fA.mpr e2⟩
section
variable {P:Wm} {w:Wq} {K:W1} {mg:Str->Option Value} {base:Heap}
theorem aP.NU(h:aP { c with xc:=g } σ δ Hs H v r):aP c σ δ Hs H v r:=by
 cases r with
 | pure d=>exact h
 | own d =>
  obtain⟨a,e,o,n,f,k,q⟩:=h;exact⟨a,e,o,n,f,⟨k.keep,k.bd,k.cN,k.len,k.slot,k.own,k.inj,k.pinned⟩,q⟩
theorem NV{x qual:Str}{st:Stmt}{f:Addr}{fd:WP}{N ps:List Str}{k:Nat}{np:List Nat}{fb:DS}{G:DX}(F:b7 K x qual st f fd)(S:cA N ps (bo st))
  (eW:∀ (c:Fc) (aL:Value) (A:Wp) (outer:List Env) (s:W2) (H:Hp) (E:XK),cG k (A.deeper (Jf qual (bo st) s.heap.objs.size f aL))->Np c np ->
   lE (fI (kB P w) P w K mg base N qual (bo st) f aL A outer s H E) (wD mg c)->fV (fI (kB P w) P w K mg base N qual (bo st) f aL A outer s H E) c (fJ st) fb)
  (hG:∀ ss y,G ss=some y->bW np 0 ss=true/\mW fb N.length ss=some y):eV P w K mg base (kB P w) (k + 1) f fd ps (tV mg ps.length G):=by
 obtain⟨oc,od,kV,doc,pm,an,aL,ct,jC,rfl,lk,dP⟩:=F.ex;refine Bs lk dP S (λvs H Q E h=>?_) λA outer s H vs Q E hr h=>?_
 ·obtain⟨ss,B,hl,_⟩:=h;exact hl
 ·obtain⟨ss,B,hl,ok,y,hg,q⟩:=h;obtain⟨gu,hrun⟩:=hG ss _ hg;have jb:ss.length=vs.length:=by have:=ok.len; simpa using this
  let g:Xc->Dl->Prop:=λx δ'=>∃ aE,bF 0 ss δ'=some aE/\y = .inr (x,aE)
  have qx:Np ⟨H,B,b8 0 ss vs,g⟩ np:=λp hp=>by
   obtain⟨j,d,e,h1,_⟩:=lr (i:=p.1) (a:=p.2) hp;rw[e];exact tq gu h1
  have c9:start N vs=b9 vs ++ Wa (N.length - ss.length) none:=by rw[jb]; rfl
  have jW:Ok ⟨H,B,b8 0 ss vs,λ_ _=>False⟩ (start N vs) (bC N.length ss) H:=by rw[c9]; exact ok.ext _
  have gU:∀ C dx σ' H',wD mg ⟨H,B,b8 0 ss vs,g⟩ C dx σ' H'->E (.ref C) dx H':=λC dx σ' H' ⟨z,δ',v,hm,k',rv,hv,aE,ho,hy⟩=>by
   rw[hy] at q;have k1:Ok ⟨H,B,b8 0 ss vs,λ_ _=>False⟩ σ' δ' H':=⟨k'.keep,k'.bd,k'.cN,k'.len,k'.slot,k'.own,k'.inj,k'.pinned⟩
   have a:aD ⟨H,B,b8 0 ss vs,λ_ _=>False⟩ (b9 vs ++ Wa (N.length - ss.length) none) (cn ss ++ Wa (N.length - ss.length) none) H σ' δ' H' :=
    Ok.since rfl (by rw[c9] at jW; exact jW) (λa z=>Own.ext.mpr (NT z)) k1
   exact q C dx v H' hm (lA rfl ok a ho).1 ((lA rfl ok a ho).2 v (.pure z.kh) rv) hv
  refine⟨kq ⟨H,B,b8 0 ss vs,g⟩ fb,eW ⟨H,B,b8 0 ss vs,g⟩ aL A outer s H E hr qx (NS gU),bC N.length ss,⟨jW.keep,jW.bd,jW.cN,jW.len,jW.slot,jW.own,jW.inj,jW.pinned⟩,?_⟩;unfold mW at hrun;unfold ei
  cases e:fb (bC N.length ss) with
  | stuck=>rw[e] at hrun; cases hrun
  | exc x δx =>
   rw[e] at hrun;simp only at hrun
   cases eo:bF 0 ss δx with
   | none=>rw[eo] at hrun; cases hrun
   | some os =>
    rw[eo] at hrun
    cases hrun;exact⟨os,eo,rfl⟩
  | ok fl δ' =>
   rw[e] at hrun;show ∀ σ' H',aD _ (start N vs) (bC N.length ss) H σ' δ' H'->fin _ _ σ' δ' H' fl;intro σ' H' a;rw[c9] at a;have k1:=a.ok;have a1:aD ⟨H,B,b8 0 ss vs,λ_ _=>False⟩ (b9 vs ++ Wa (N.length - ss.length) none) (bC N.length ss) H σ' δ' H':=⟨⟨k1.keep,k1.bd,k1.cN,k1.len,k1.slot,k1.own,k1.inj,k1.pinned⟩,a.keep,a.own,a.there⟩
   simp only at hrun
   cases fl with
   | brk=>cases hrun
   | cont=>cases hrun
   | next =>
    simp only[cp,WE] at hrun
    cases eo:bF 0 ss δ' with
    | none=>rw[eo] at hrun; cases hrun
    | some os =>
     rw[eo] at hrun
     cases hrun;obtain⟨l1,l2⟩:=lA rfl ok a1 eo;exact q .aN H' l1 .aN
   | ret r' =>
    simp only[cp,WE] at hrun
    cases eo:bF 0 ss δ' with
    | none=>rw[eo] at hrun; cases hrun
    | some os =>
     rw[eo] at hrun
     cases hrun;obtain⟨l1,l2⟩:=lA rfl ok a1 eo;exactλv rv=>q v H' l1 (l2 v _ (aP.NU (c:=⟨H,B,b8 0 ss vs,λ_ _=>False⟩) (g:=g) rv))
theorem Ei{x qual:Str}{st:Stmt}{f:Addr}{fd:WP}{N ps:List Str}{k:Nat}{np:List Nat}{fb:DS}{G:DX}(F:b7 K x qual st f fd)(hm:mg x=some (.ref f))(hb:Binds K fd ps [])(S:cA N ps (bo st))
  (eW:∀ (c:Fc) (aL:Value) (A:Wp) (outer:List Env) (s:W2) (H:Hp) (E:XK),cG k (A.deeper (Jf qual (bo st) s.heap.objs.size f aL))->Np c np ->
   lE (fI (kB P w) P w K mg base N qual (bo st) f aL A outer s H E) (wD mg c)->fV (fI (kB P w) P w K mg base N qual (bo st) f aL A outer s H E) c (fJ st) fb)
  (hG:∀ ss y,G ss=some y->bW np 0 ss=true/\mW fb N.length ss=some y):lF P w K mg base (k + 1) x ps.length G:=⟨f,fd,ps,hm,F.kp,hb,NV F S eW hG⟩
end
def wZ:(S×List S) ⊕ (Xc×List S)->List S
 | .inl y=>y.2
 | .inr y=>y.2
def mX(G:DX):Prop:=∀ ss y,G ss=some y->∀ (j:Nat),(∀ d,ss[j]? = some (.own d)->∃ d',(wZ y)[j]? = some (.own d'))/\∀ d,ss[j]? = some (.pure d)->∃ d',(wZ y)[j]? = some (.pure d')
theorem NX{ss os:List S}{δ:Dl}(e:bF 0 ss δ=some os)(j:Nat):(∀ d,ss[j]? = some (.own d)->∃ d',os[j]? = some (.own d'))/\∀ d,ss[j]? = some (.pure d)->∃ d',os[j]? = some (.pure d'):=by
 obtain⟨h1,h2⟩:=qw e;refine⟨λd ed=>?_,λd ed=>?_⟩
 ·rcases h2 j _ ed with ⟨d',z,_⟩ | ⟨d',d'',_,_,z⟩
  ·cases z
  ·exact⟨d'',z⟩
 ·rcases h2 j _ ed with ⟨d',z,z'⟩ | ⟨d',d'',z,_⟩
  ·exact⟨d',z'⟩
  ·cases z
theorem NY(h:mW fb n ss=some y):∃ δ,bF 0 ss δ=some (wZ y):=by
 unfold mW at h
 cases e:fb (bC n ss) with
 | stuck=>rw[e] at h; cases h
 | exc x δ =>
  rw[e] at h;simp only at h
  cases e2:bF 0 ss δ with
  | none=>rw[e2] at h; cases h
  | some os=>rw[e2] at h; cases h; exact⟨δ,e2⟩
 | ok fl δ =>
  rw[e] at h;simp only at h
  cases e1:cp fl with
  | none=>rw[e1] at h; cases h
  | some r =>
   rw[e1] at h;simp only[WE] at h
   cases e2:bF 0 ss δ with
   | none=>rw[e2] at h; cases h
   | some os=>rw[e2] at h; cases h; exact⟨δ,e2⟩
def jX(np:List Nat)(n:Nat)(b:DS):DX:=λss=>if bW np 0 ss then mW b n ss else none
theorem w4(h:jX np n b ss=some y):bW np 0 ss=true/\mW b n ss=some y:=by
 unfold jX at h;split at h
 ·exact⟨by assumption,h⟩
 ·cases h
theorem Ej{np:List Nat}{n:Nat}{b:DS}:mX (jX np n b):=λss y h j=>by
 obtain⟨δ,e⟩:=NY (w4 h).2;exact NX e j
def jY(G:DX)(as:List Ak):DE:=λδ=>if (bf as).all (bu δ) && bN (bf as) then(bL as δ).bind λds δ1=>match bw as ds δ1 with
  | none=>.stuck
  | some ss=>match G ss with
   | none=>.stuck
   | some (.inl (r,aE))=>.ok r (aS as aE δ1)
   | some (.inr (x,aE))=>.exc x (aS as aE δ1)
 else .stuck
section
variable {X:Cx} {c:Fc} {e:Expr} {es:List Expr} {as:List Ak} {k n:Nat} {x:Str} {G:DX} {pp pos:Pos}
theorem NZ(hK:mX G)(hl:as.length=n)(h:tD c (jY G as) σ H Q):tX c as σ H λvs H1=>tV X.mg n G vs H1 Q (λc' dx H'=>∃ C,c' = .ref C/\wD X.mg c C dx σ H'):=by
 obtain⟨δ,kk,q⟩:=h;unfold jY at q;split at q
 ·rename_i hc;rw[Wr] at hc;have nd:=tE hc.2;rw[bc] at q;refine⟨δ,kk,λi hi=>?_,aQ q λds δ1 q1 vs H1 a1 r1=>?_⟩
  ·have:=Qq.mp hc.1 i (kA.mpr hi);unfold bu at this;split at this
   ·rename_i d ed;exact mF kk ed
   ·cases this
  ·cases em:bw as ds δ1 with
   | none=>rw[em] at q1; exact q1.elim
   | some ss =>
    rw[em] at q1;simp only at q1
    cases eg:G ss with
    | none=>rw[eg] at q1; exact q1.elim
    | some y =>
     rw[eg] at q1;have jR:=wm a1.ok r1 em nd;obtain⟨m1,m2,_⟩:=qy r1 em;have g2:=hK ss y eg;refine⟨ss,_,by rw[<- m2]; exact hl,jR,y,eg,?_⟩
     cases y with
     | inl y =>
      obtain⟨r,aE⟩:=y;intro v H2 a2 r2;obtain⟨o1,o2⟩:=tG a1.ok r1 em nd rfl a2 (λj d ed=>(g2 j).1 d ed) λj d ed=>(g2 j).2 d ed
      exact q1 v H2 (a1.trans o1) (aP.back (o2 v r r2) a1)
     | inr y =>
      obtain⟨z,aE⟩:=y;intro C dx v H2 hm a2 rv hv;obtain⟨o1,o2⟩:=tG a1.ok r1 em nd rfl a2 (λj d ed=>(g2 j).1 d ed) λj d ed=>(g2 j).2 d ed
      exact⟨C,rfl,z,aS as aE δ1,v,hm,o1.ok,o2 v (.pure z.kh) rv,hv,q1⟩
 ·exact q.elim
theorem Ek (F:lF X.prog X.w X.K X.mg X.base k x n G) (hK:mX G) (hr:cG k X.A) (hex:X.ex=[]) (hx:lE X (wD X.mg c)) (hg:Gl X x) (ha:SX X c (e :: es) as) (hl:as.length=n) (da:(x == ("__debug__" : Str))=false:=by decide)
  (he:W7 (e :: es) X.env=(false,eval e X.env) :: W7 es X.env:=by rfl) (bE:(WU pos (W7 es X.env)).any (·.1)=false:=by rfl):SE X c (.Call (.Name x pp) (e :: es) [] pos) (jY G as):=by
 obtain⟨f,fd,ps,hm,hk,hb,ok⟩:=F;exact PE.weak (Eh ok hr hex hg hm hk hb hx ha da he bE) λσ H Q h=>NZ hK hl h
end
def w6(δ:Dl):Bool:=δ.all fun
 | some (.own _)=>false
 | _=>true
def unset(i:Nat):Rs Fl->Rs Fl
 | .ok fl δ=>.ok fl (δ.set i none)
 | r=>r
def tW(ce:Tx->Nat)(ys:List Tx)(i:Nat)(fb fh:DS):DS:=λδ=>if w6 δ then match fb δ with
  | .exc x δ'=>if ys.contains x.cls && decide (i < δ'.length) then unset i (fh (δ'.set i (some (.pure (.exc (ce x.cls) x.kh))))) else .stuck
  | r=>r
 else .stuck
section
variable {c:Fc} {σ σ':St} {δ δ':Dl} {H H':Hp}
theorem N0(h:Np c []):c.pin=[]:=by
 cases e:c.pin with
 | nil=>rfl
 | cons p r =>
  have:=h p (by rw[e]; exact Wf);simp at this
theorem aD.unset(x:aD c σ₀ δ₀ H₀ σ δ H)(hp:c.pin=[])(i:Nat):aD c σ₀ δ₀ H₀ (σ.set i none) (δ.set i none) H:=by
 have k:=x.ok;have back:∀ {α:Type} {l:List (Option α)} {j:Nat} {v:α},(l.set i none)[j]? = some (some v)->l[j]? = some (some v)/\i≠j:=λ{α l j v} e=>by
  by_cases hj:i=j
  ·subst hj;rw[WO] at e;simp at e
  ·rw[W3 hj] at e;exact⟨e,hj⟩
 have own:∀ a,Own (σ.set i none) (δ.set i none) a->Own σ δ a:=λa ⟨j,d,e1,e2⟩=>⟨j,d,(back e1).1,(back e2).1⟩
 have av:∀ a,Av c (σ.set i none) (δ.set i none) a->Av c σ δ a:=λa z=>z.elim .inl λz=>.inr (own a z)
 refine⟨⟨k.keep,k.bd,k.cN,by simp[k.len],λj d e=>?_,λj d e=>?_,λj1 j2 a d d' e1 e2 e3 e4=>k.inj j1 j2 a d d' (back e1).1 (back e2).1 (back e3).1 (back e4).1,λp hm=>by rw[hp] at hm; simp at hm⟩,x.keep,λa z=>x.own a (own a z),x.there⟩
 ·obtain⟨e',n⟩:=back e;obtain⟨v,e1,r⟩:=k.slot j d e';exact⟨v,by rw[W3 n]; exact e1,r.aJ λa z=>.inl (av a z)⟩
 ·obtain⟨e',n⟩:=back e;obtain⟨a,e1,r,q⟩:=k.own j d e';exact⟨a,by rw[W3 n]; exact e1,r.aJ λa z=>.inl (av a z),q⟩
end
section
variable {c:Fc} {σ σ':St} {δ δ':Dl} {H H':Hp} {B':Addr->Prop} {g:Xc->Dl->Prop}
theorem Ok.El(k:Ok c σ δ H)(h:w6 δ=true):Ok ⟨H,c.B,[],g⟩ σ δ H :=
 ⟨λ_ _ e _=>e,k.bd,λa ⟨i,z⟩=>(by simp at z),k.len,k.slot,λi d e=>((by have:=Qq.mp h _ (WF e); cases this)),k.inj,λp z=>(by simp at z)⟩
theorem Ok.mY(k:Ok c σ δ H)(hp:c.pin=[])(k':Ok ⟨H,B',[],g⟩ σ' δ' H'):Ok { c with B:=B' } σ' δ' H':=by
 have nI:∀ a,¬ c.I a:=λa ⟨i,z⟩=>by rw[hp] at z; simp at z
 have Em:∀ a,¬ (⟨H,B',[],g⟩:Fc).I a:=λa ⟨i,z⟩=>by simp at z
 refine⟨λa o e n=>k'.keep a o (k.keep a o e n) (Em a),k'.bd,λa z=>absurd z (nI a),k'.len,k'.slot,λi d e=>?_,k'.inj,λp z=>by rw[show({ c with B:=B' }:Fc).pin=c.pin from rfl,hp] at z; simp at z⟩;obtain⟨a,e1,r,q,nb⟩:=k'.own i d e;refine⟨a,e1,r,.inr ?_,nb⟩;rcases q with q | q
 ·exact absurd q (Em a)
 ·exact k.kj q
theorem aD.mY(k:Ok c σ δ H)(hp:c.pin=[])(x:aD ⟨H,c.B,[],g⟩ σ δ H σ' δ' H'):aD c σ δ H σ' δ' H':=⟨k.mY hp x.ok,x.keep,x.own,x.there⟩
theorem aP.mY(k:Ok c σ δ H)(hp:c.pin=[])(h:aP ⟨H,c.B,[],g⟩ σ' δ' H H' v r):aP c σ' δ' c.H₀ H' v r:=by
 cases r with
 | pure d=>exact h
 | own d =>
  obtain⟨a,e,o,n,f,k',q⟩:=h;exact⟨a,e,o,n,k.kj f,k.mY hp k',k.kj f⟩
theorem aP.unset(hp:c.pin=[])(i:Nat)(h:aP c σ δ Hs H v r):aP c (σ.set i none) (δ.set i none) Hs H v r:=by
 have own:∀ a,Own (σ.set i none) (δ.set i none) a->Own σ δ a:=λa ⟨j,d,e1,e2⟩=>by
  have back:∀ {α:Type} {l:List (Option α)} {v:α},(l.set i none)[j]? = some (some v)->l[j]? = some (some v):=λ{α l v} e=>by
   by_cases hj:i=j
   ·subst hj; rw[WO] at e; simp at e
   ·rw[W3 hj] at e; exact e
  exact⟨j,d,back e1,back e2⟩
 cases r with
 | pure d=>exact Rep.aJ h λa z=>.inl (z.elim .inl λz=>.inr (own a z))
 | own d =>
  obtain⟨a,e,o,n,f,k,q⟩:=h;exact⟨a,e,o.aJ λb z=>.inl (z.elim .inl λz=>.inr (own b z)),n,f,(aD.unset (aD.refl k) hp i).ok,q⟩
end
theorem N1(hex:X.ex=[])(aq:Np c [])(c9:X.stack=X.env :: X.outer)(hf:X.env.frame=some X.env.locals)
  (hN:X.N.Nodup) (hi:X.N[i]? = some n) (hl:X.env.scope.names.lookup n=some .local) (hg:Gl X x) (hm:X.mg x=some (.ref B)) (qB:mV X.K B)
  (N2:∀ y ∈ ys,X.mg (toS y)=some (.ref (ce y))/\PySem.W.mroIn X.K (ce y) (.ref B)=some true)
  (hb:∀ (c':Fc) (pn:List (Addr×Obj)) (xe:Value->W2->Prop),Np c' []->lE (X.wt pn xe) (wD X.mg c')->fV (X.wt pn xe) c' body fb) (hh:∀ a,fV (X.hand a) c (b₀ :: tU) fh) (da:(x == ("__debug__" : Str))=false:=by decide) :
  SS X c (.Try body [.ExceptHandler (some (.Name x np)) (some n) (b₀ :: tU) wY] [] [] pos) (tW ce ys i fb fh):=by
 have hp:=N0 aq;refine PS.weak (NO (i:=i) (B:=B) (th:=λ_ _=>kq c fh)
  (tb:=λW D σ H=>kq ⟨H,c.B,[],λz δ'=>∀ σ' H',Ok ⟨H,c.B,[],λ_ _=>False⟩ σ' δ' H'->∀ C dx v,X.mg (toS z.cls)=some (.ref C)->Rep H' (Av ⟨H,c.B,[],λ_ _=>False⟩ σ' δ') v z.kh->(∀ y,v = .ref y->dx=some y)->W C dx σ' H'⟩ fb D σ H) hex c9 hf hN hi hl hg hm qB da
  (λW pn xe acc pins s σ H D I hw=>hb _ pn xe (λp z=>(by simp at z)) (λps σ' H' s' a C dx J co ⟨y,δ',v,hy,k',rv,hv,w'⟩=>acc ps σ' H' s' a C dx J co (w' σ' H' ⟨k'.keep,k'.bd,k'.cN,k'.len,k'.slot,k'.own,k'.inj,k'.pinned⟩ C dx v hy rv hv)) pins s σ H D I hw)
  (λ_ a=>hh a)) λD σ H ⟨δ,k,q⟩=>?_
 unfold tW at q;split at q
 ·rename_i jD;refine⟨δ,k.El jD,?_⟩;unfold ei at q ⊢
  cases e:fb δ with
  | stuck=>rw[e] at q; exact q.elim
  | ok fl δ' =>
   rw[e] at q;intro σ' H' a;have f0:=q σ' H' (aD.mY k hp a)
   cases fl with
   | next=>exact f0
   | brk=>exact f0
   | cont=>exact f0
   | ret r=>exactλv rv=>f0 v (aP.mY k hp rv)
  | exc z δ' =>
   rw[e] at q;simp only at q;split at q
   ·rename_i hc;simp only[Wr,decide_eq_true_eq] at hc;obtain⟨hy,bH⟩:=hc;intro σ' H' k' C dx v hC rv hv;obtain⟨y1,y2⟩:=N2 z.cls (by simpa using hy);rw[y1] at hC
    cases hC;refine⟨y2,v,hv,λa ha=>?_⟩;have A1:aD c σ δ H σ' δ' H':=aD.mY k hp (Ok.since (c:=⟨H,c.B,[],λ_ _=>False⟩) rfl (k.El jD) (λa ⟨j,z⟩=>by simp at z) k');have A2:=A1.trans (aD.alloc A1.ok ha (.ext (excAt (ce z.cls) v a)));have A3:=Ok.set (i:=i) (v:=.ref a) (r:=.pure (.exc (ce z.cls) z.kh)) A2 (.exc (A1.ok.gC ha) cg (Rep.cU rv (aD.alloc A1.ok ha _))) (λp zz=>by rw[hp] at zz; simp at zz);refine⟨δ'.set i (some (.pure (.exc (ce z.cls) z.kh))),A3.ok,?_⟩;unfold ei;generalize fh (δ'.set i (some (.pure (.exc (ce z.cls) z.kh))))=r at q
    cases r with
    | stuck=>exact q.elim
    | exc z' δ4=>exact q
    | ok fl δ4 =>
     intro σ4 H4 A4;have f0:=q (σ4.set i none) H4 (aD.unset (A3.trans A4) hp i)
     cases fl with
     | next=>exact f0
     | brk=>exact f0
     | cont=>exact f0
     | ret r=>exactλv rv=>f0 v (aP.unset hp i rv)
   ·exact q.elim
 ·exact q.elim
end DV
namespace L2
open PySem PySem.Spec PyProof.Rows PySem.W Builtin Builtin.ObjectAttr Builtin.Getset_descriptor
section
variable {prog:Wm} {w:Wq} {A:Wp} {E:Value->W2->Prop} {K:W1} {C e:Addr} {oe:Obj} {h:Heap} {g:Array GenState} {d:Drawn} {t:Nat} {os:OsState}
structure kC(K:W1)(C:Addr):Prop where
 ga:JD K (.ref C) "__getattribute__" = some (some (.builtin "BaseException.__getattribute__"))
 gt:JD K (.ref C) "__getattr__" = some none
 cl:JD K (.ref C) "__class__" = some (some (.builtin "object.__class__"))
 sp:specialIn K (.builtin "object.__class__") "__get__" = some (some (.builtin "getset_descriptor.__get__"))
 tk:takesIn K (.builtin "object.__class__")=some true
 mo:mroIn K C (.type "object")=some true
 mb:mroIn K C (.type "BaseException")=some true
theorem N3(X:K.In h)(k:kC K C)(he:h.get? e=some oe)(hc:oe.cls = .ref C)(q:R (.ok (.ret (.ref C))) ⟨h,g,d,t,os⟩) :
  Qa (model prog w) A (.call (.builtin "getset_descriptor.__get__") ⟨[.builtin "object.__class__",.ref e,tp],[]⟩) R ⟨h,g,d,t,os⟩:=by
 have l1:Looks (model prog w) h (typeOf (.ref e)) (.ref C):=hc ▸ (Looks.ld he).andThen .now;have l2:=looks_mroIn (M:=model prog w) X k.mo;refine Jb
  KF.slot_gs.plain KF.entry_gs
  (KF.slot_gs.check _ _ _ _ _ _ _ _
   KF.type_class (KF.args_gs _ _ _) ?_)
 unfold Builtin.«getset_descriptor.__get__» descrGet; rw[dga_obj]
 refine W0 (W4 ?_);unfold descrGetter descrCheckInstance descrNameAndClass isInstance; simp only[KF.owner_class]
 repeat lk
 refine⟨Code.quiet_builtin _ (by decide +kernel),
  Q2 KF.entry_class ?_⟩
 unfold Builtin.«object.__class__» shownTypeOf; repeat lk
 exact q
theorem N4(X:K.In h)(k:kC K C)(he:h.get? e=some oe)(hc:oe.cls = .ref C)(q:Q (.done (.ret (.ref C))) ⟨h,g,d,t,os⟩) :
  W8 (model prog w) A (Builtin.«object.__getattribute__» ⟨[.ref e,.str "__class__" tk],[]⟩) Q E ⟨h,g,d,t,os⟩:=by
 have l0:Looks (model prog w) h (typeOf (.ref e)) (.ref C):=hc ▸ (Looks.ld he).andThen .now;have l1:=JR (M:=model prog w) X k.cl;have l2:=KF.type_class;have l3:=F.slot_gs_get.lookup;have l4:=F.slot_gs_set.lookup;repeat (any_goals (first | assumption | with_reducible refine Looks.at l0 ?_ | with_reducible refine Looks.at l1 ?_ | (with_reducible refine Ql he ?_; rw[hc]) | wp_step))
 refine N3 X k he hc ?_;repeat (any_goals (first | assumption | wp_step))
theorem En(X:K.In h)(k:kC K C)(he:h.get? e=some oe)(hc:oe.cls = .ref C)(q:Q () ⟨h,g,d,t,os⟩) :
  W8 (model prog w) A (checkBuiltinCall "BaseException.__getattribute__" ⟨[.ref e,nv],[]⟩) Q E ⟨h,g,d,t,os⟩:=by
 have l0:Looks (model prog w) h (typeOf (.ref e)) (.ref C):=hc ▸ (Looks.ld he).andThen .now;have l1:=looks_mroIn (M:=model prog w) X k.mb;have b1:builtinKind "BaseException.__getattribute__" = some .slot:=by decide +kernel
 have b2:splitId "BaseException.__getattribute__" = some ("BaseException","__getattribute__"):=by decide +kernel
 have b3:=F.args_bexc_ga (.ref e) nv;simp only[checkBuiltinCall,b1,b2];refine W0 ?_;unfold isInstance;repeat (first | with_reducible refine Looks.at l0 ?_ | with_reducible refine Looks.at l1 ?_ | (with_reducible refine Ql he ?_; rw[hc]) | wp_step)
 exact q
theorem N5 (X:K.In h) (k:kC K C) (he:h.get? e=some oe) (hc:oe.cls = .ref C) (q:Q (some (.ref C)) ⟨h,g,d,t + 1,os⟩):W8 (model prog w) A (getAttr? (.ref e) "__class__") Q E ⟨h,g,d,t,os⟩:=by
 have L0:Looks (model prog w) h (typeOf (.ref e)) (.ref C):=hc ▸ (Looks.ld he).andThen .now;have L1:=JR (M:=model prog w) X k.ga;have L2:=JR (M:=model prog w) X k.gt;have L3:=looks_mroIn (M:=model prog w) X k.mb;have N6:(false && onTheHeap (Value.builtin "BaseException.__getattribute__"))=false:=rfl;have mZ:(Value.builtin "BaseException.__getattribute__" == Value.builtin "object.__getattribute__")=false:=by decide +kernel
 have f3:=F.attrBase_ValueError.ga.bind (.ref e);unfold getAttr? getAttrBy? getAttrBy;refine W0 (wpAny_mkText (W0 (Jo (WG (W0 (L0.at (W0 (L1.at ?_))))))));dsimp only;rw[mZ,Bool.and_false];simp only[Qh,if_false];unfold getAttrByItsOwn hookBefore;repeat (any_goals (first | assumption | with_reducible refine Looks.at L2 ?_ | wp_step))
 refine Jb F.attrBase_ValueError.ga.plain F.entry_bexc_ga (En X k he hc (N4 X k he hc ?_));repeat (any_goals (first | assumption | wp_step))
theorem N7{v:V}(k:kC K C)(hk:(clsIn K C).isSome=true):KitX K (.ref e) (.ref C) (DV.excAt C v e) where
 ty:=λM h X ⟨o,h1,h2,_⟩=>h2 ▸ (Looks.ld h1).andThen .now
 it:=λM h X _=>by
  obtain⟨cd,dP⟩:=QM.mp hk;unfold clsIn at dP;split at dP;next c' d' cd' sl' ho=>exactλA' Q' E' s' kk q=>by unfold isType loadHead; exact W0 (wpAny_loadPart (kk _ _ (X _ _ ho)) (W4 q))
  next=>cases dP
 ne:=λh tp dd ag n sl X N8=>by
  obtain⟨cd,dP⟩:=QM.mp hk;refine Bool.eq_false_iff.mpr λq=>?_
  obtain rfl:C=tp:=Value.ref.inj (beq_iff_eq.mp q);unfold clsIn at dP;split at dP;next c' d' cd' sl' ho=>have z:=(X _ _ ho).symm.trans N8; cases z
  next=>cases dP
 ca:=λ{prog w A E Q s} X ⟨o,h1,h2,_⟩ q=>by
  obtain⟨hh,gg,dd,tt,oo⟩:=s;exact N5 X k h1 h2 q
end
section
variable {X:Cx} {y:Str} {D:Addr} {pos:Pos}
theorem N9 (hg:Gl X y) (hm:X.mg y=some (.ref D)) (hd:(y == ("__debug__" : Str))=false:=by decide):PE X (.Name y pos) (λσ H Q=>Q (.ref D) H):=λpins s σ H Q I h=>nN I hg hm ⟨.ref D,H,I,rfl,h⟩ hd
structure IsT(K:W1)(ce:DV.Tx->Nat)(ys:List DV.Tx)(cv:Value)(tab:DV.Tx->Bool):Prop where
 k:∀ z ∈ ys,kC K (ce z)
 c:∀ z ∈ ys,(PySem.W.clsIn K (ce z)).isSome=true
 one:∀ z ∈ ys,QG K (.ref (ce z)) cv=some (tab z)
theorem Eo(N_:∀ u,RelV cV u->u=cv)(T:IsT X.K ce ys cv tab) :
  eE X (.builtin "isinstance") (λxs H Q=>∃ (a:Addr) (z:DV.Tx) (v:V),xs=[.ref a,cV]/\H a=some (.ext (DV.excAt (ce z) v a))/\z ∈ ys/\Q (.bl (tab z)) H):=by
 intro pins s σ H xs us Q I r h;obtain⟨a,z,v,rfl,ha,hz,q⟩:=h;obtain⟨u,w',rfl,r1,r2⟩:=uU r
 cases r1;have e:=N_ _ r2;subst e;obtain⟨p,_,_⟩:=I.aw a _ ha;exact Q8 (N7 (T.k z hz) (T.c z hz)) I.cW p (T.one z hz) (λz=>nomatch z) λtk=>⟨.bl (tab z),H,I.tok tk,rfl,q⟩
end
structure f_(k:Nat)(A:Wp):Prop where
 dp:A.depth + 3 * k + 5 < recursionLimit
 un:A.units + 16 * k + 200 < Qp
theorem f_.deeper(r:f_ (k + 1) A)(env:Env):f_ k (A.deeper env) :=
 ⟨by have:=r.dp; show A.depth + 1 + 3 * k + 5 < _; omega,by have:=r.un; show A.units + 3 + 16 * k + 200 < _; omega⟩
theorem cG.h(r:cG k A):f_ k A:=⟨r.dp,r.un⟩
theorem f_.mono(r:f_ k A)(h:j<=k):f_ j A:=⟨by have:=r.dp; omega,by have:=r.un; omega⟩
theorem f_.mark(r:f_ k A)(v:Option Value):f_ k (A.mark v):=⟨r.dp,r.un⟩
def Cx.w8(X:Cx):Cx:={ X with calm:=false,xe:=λ_ _=>False }
structure w_(P:Wm)(w:Wq)(K:W1)(mg:Str->Option Value)(base:Heap)(k:Nat)(f:Addr)(fd:WP)(ps:List Str)(sp:Sp):Prop where
 len:∀ vs H Q E,sp vs H Q E->vs.length=ps.length
 run:∀ (A:Wp) (outer:List Env) (s:W2) (H:Hp) (args:Args) (us:List Value) (vs:List V) (Q:VK),f_ k A->ka P w K mg base A outer s H->BindsTo s fd args (ps.zip us)->Vals vs us->sp vs H Q E0 ->
  Qa (model P w) A (.call (.ref f) args) (CR d_ outer P w H s Q E0) s
section
variable {P:Wm} {w:Wq} {K:W1} {mg:Str->Option Value} {base:Heap} {k:Nat} {f:Addr}
theorem Oa{x qual:Str}{st:Stmt}{fd:WP}{N ps:List Str}{sp:Sp}(F:b7 K x qual st f fd)(S:cA N ps (bo st))(len:∀ vs H Q E,sp vs H Q E->vs.length=ps.length)
  (eW:∀ (aL:Value) (A:Wp) (outer:List Env) (s:W2) (H:Hp) (vs:List V) (Q:VK),f_ k (A.deeper (Jf qual (bo st) s.heap.objs.size f aL))->sp vs H Q E0 ->
   ∃ t,dC (fI d_ P w K mg base N qual (bo st) f aL A outer s H E0).w8 (fJ st) t/\t { nx:=λ_ H'=>Q .aN H',rt:=Q } (start N vs) H):w_ P w K mg base (k + 1) f fd ps sp:=by
 obtain⟨oc,od,kV,doc,pm,an,aL,ct,jC,rfl,lk,dP⟩:=F.ex;refine⟨len,λA outer s H args us vs Q hr e0 hb r iY=>?_⟩;have hl:=len _ _ _ _ iY;have KX:K.In s.heap:=e0.mod.ma.keeps λb o e=>(e0.bs b o e).1
 have lim:s.heap.NoLimit:=e0.mod.nolimit.keeps λb o e=>(e0.bs b o e).1
 have u2:∀ y ∈ ps.zip us,(bo st).names.lookup y.1=some .local\/((bo st).names.lookup y.1=some .cell/\((Qy (s.heap.objs.size + 1) (bo st).names []).lookup y.1).isSome=true):=λ⟨n,v⟩ hy=>by
  rcases S.par n (U5 hy).1 with q | q
  ·exact .inl q
  ·exact .inr ⟨q,Ju _ _ _ (.inl q)⟩
 have Ob:A.depth < recursionLimit:=by have:=hr.dp; omega
 refine codeAny_call_function Ob (KX _ _ lk) rfl S.co S.gen rfl (PySem.W.codeRec_of KX dP) (hb _ _ _ _ ?_);refine wpAny_newFunctionEnv_cells S.kind u2 λenv he s1 x=>?_
 subst he;refine⟨lim.keeps x.toInCall.keep,codeAny_func ?_⟩;obtain⟨t,ht,hq⟩:=eW aL A outer s H vs Q (hr.deeper _) iY;have e1:ka P w K mg base { A with handled:=none } outer s H:=⟨e0.frames,e0.mod,e0.bs,e0.gR,e0.fQ,e0.iT,e0.aw,e0.bare⟩
 have J:=Bq (CX:=d_) (E:=E0) (qual:=qual) (f:=f) (cd:=aL) (A:={ A with handled:=none }) S rfl e1 hl r x;have I:Inv (fI d_ P w K mg base N qual (bo st) f aL A outer s H E0).w8 [] (start N vs) H s1:=by
  have o:=J.ok;exact⟨⟨o.mod,o.kind,o.glob,o.blt,o.above,o.inj,o.has,o.kM,λz=>(by cases z),Around.frames_deeper e0.frames,o.md,o.me,o.bs,o.gR,o.kN,o.kO,o.fQ,o.iT⟩,J.os,J.bare,J.base,J.loc,J.cell,J.free,J.dY,J.pin,J.aw,J.len⟩
 refine WC (ht [] s1 (start N vs) H _ I hq) (λfl s' hs=>?_) λe s' hs=>hs.elim
 cases fl with
 | ret u =>
  obtain⟨v,σ',H',J2,rv,q⟩:=hs;exact⟨v,H',J2.os,J2.bare,J2.base,J2.aw,rv,q⟩
 | next =>
  obtain⟨σ',H',J2,q⟩:=hs;exact⟨V.aN,H',J2.os,J2.bare,J2.base,J2.aw,rfl,q⟩
 | brk =>
  obtain⟨_,_,_,q⟩:=hs;exact False.elim q
 | cont =>
  obtain⟨_,_,_,q⟩:=hs;exact False.elim q
end
section
variable {X:Cx} {k:Nat} {f:Addr} {fd:WP} {ps:List Str} {sp:Sp} {x:Str} {p pos:Pos} {e:Expr} {es:List Expr} {t:TA}
theorem Oc(F:w_ X.prog X.w X.K X.mg X.base k f fd ps sp)(hr:f_ k X.A)(hg:Gl X x)(hm:X.mg x=some (.ref f))(hk:QH X.K (.ref f)=true)(hb:Binds X.K fd ps [])
  (ha:PA X (e :: es) t) (da:(x == ("__debug__" : Str))=false:=by decide) (he:W7 (e :: es) X.env=(false,eval e X.env) :: W7 es X.env:=by rfl) (bE:(WU pos (W7 es X.env)).any (·.1)=false:=by rfl) :
  PE X (.Call (.Name x p) (e :: es) [] pos) (uY sp [] E0 t):=by
 intro pins s σ H Q I h;refine QW (nN I hg hm ?_ da);refine PySem.W.callWith_K (h₀:=X.base) I.ok.mod.ma hk (aV (ha pos pins s σ H _ I h) λus s1 ⟨vs,H1,I1,r,q⟩=>⟨I1.cW,?_⟩) he bE;have q:sp vs H1 Q E0:=by have q':sp (vs ++ []) H1 Q E0:=q; rwa [Q0] at q'
 have hl:(us ++ []).length=ps.length:=by rw[Q0,<- r.length]; exact F.len _ _ _ _ q
 refine wpAny_call (QV (F.run X.A X.stack s1 H1 ⟨us,[]⟩ us vs Q hr I1.r_ (by have:=hb s1 us I1.cW hl; rwa [Q0] at this) r q) λr s' hq=>?_)
 cases r with
 | error e=>exact False.elim hq
 | ok fl =>
  cases fl with
  | ret u=>exact I1.after hq
  | next=>exact False.elim hq
  | brk=>exact False.elim hq
  | cont=>exact False.elim hq
end
end L2
namespace DV
open PySem PySem.Spec PyProof.Rows L2
def gb(ce:Tx->Nat)(ys:List Tx)(tab:Tx->Bool)(fb:BE):DE:=λδ=>(fb δ).bind λd δ'=>match d with
 | .exc n _=>match ys.find? λz=>ce z == n with
  | some z=>.ok (.pure (.bl (tab z))) δ'
  | none=>.stuck
 | _=>.stuck
section
variable {X:Cx} {c:Fc} {e:Expr} {fb:BE} {pp py pos:Pos} {y:Str} {ce:Tx->Nat} {ys:List Tx} {tab:Tx->Bool}
theorem Ep(h:tD c (gb ce ys tab fb) σ H Q):tB c fb σ H λv H1=>∃ (a:Addr) (z:Tx) (w:V),[v,cV]=[.ref a,cV]/\H1 a=some (.ext (excAt (ce z) w a))/\z ∈ ys/\Q (.bl (tab z)) H1:=by
 obtain⟨δ,k,q⟩:=h;unfold gb at q;rw[bc] at q;refine⟨δ,k,aQ q λd δ1 q1 v H1 a1 r1=>?_⟩
 cases d <;> first | exact q1.elim | skip
 rename_i n fl;simp only at q1;split at q1
 ·rename_i z hz;have h1:=List.find?_some hz;have h2:=List.mem_of_find?_eq_some hz;have e:ce z=n:=by simpa using h1
  subst e;rcases r1 with r1 | ⟨a,_,o⟩
  ·cases r1 with
   | exc _ ha _=>exact⟨_,z,_,rfl,ha,h2,q1 _ H1 a1 (.bl _)⟩
  ·exact o.elim
 ·exact q1.elim
theorem kD {D:Addr} (T:IsT X.K ce ys (.ref D) tab) (hg:Gl X "isinstance") (hm:X.mg "isinstance" = none) (qe:Gl X y) (qf:X.mg y=some (.ref D)) (he:SB X c e fb) (qg:(y == ("__debug__" : Str))=false:=by decide)
  (hs:W7 [e,.Name y py] X.env=(false,eval e X.env) :: W7 [.Name y py] X.env:=by rfl) (bE:(WU pos (W7 [.Name y py] X.env)).any (·.1)=false:=by rfl) :
  SE X c (.Call (.Name "isinstance" pp) [e,.Name y py] [] pos) (gb ce ys tab fb) :=
 PE.weak (nP (Eo (cV:=.ref D) (λu r=>by cases r; rfl) T) hg hm PyProof.Rows.boot_isinstance (dt he (dt (N9 qe qf qg) eU) hs) (by decide) (by decide) hs bE) λσ H Q h=>Ep h
theorem Od {T':String} (T:IsT X.K ce ys (.type T') tab) (hg:Gl X "isinstance") (hm:X.mg "isinstance" = none) (qe:Gl X y) (qf:X.mg y=none) (vY:Qj y=some (.type T')) (he:SB X c e fb)
  (vZ:y≠"__name__":=by decide) (qg:(y == ("__debug__" : Str))=false:=by decide)
  (hs:W7 [e,.Name y py] X.env=(false,eval e X.env) :: W7 [.Name y py] X.env:=by rfl) (bE:(WU pos (W7 [.Name y py] X.env)).any (·.1)=false:=by rfl) :
  SE X c (.Call (.Name "isinstance" pp) [e,.Name y py] [] pos) (gb ce ys tab fb) :=
 PE.weak (nP (Eo (cV:=.ty T') (λu r=>by cases r; rfl) T) hg hm PyProof.Rows.boot_isinstance (dt he (dt (AO (v:=.ty T') qe qf vY rfl vZ qg) eU) hs) (by decide) (by decide) hs bE) λσ H Q h=>Ep h
end
def oG(P:Wm)(w:Wq)(K:W1)(mg:Str->Option Value)(base:Heap)(k:Nat)(x:Str)(n:Nat)(G:DF):Prop :=
 ∃ (f:Addr) (fd:WP) (ps:List Str),mg x=some (.ref f)/\QH K (.ref f)=true/\Binds K fd ps []/\w_ P w K mg base k f fd ps (ku n G)
theorem Er(r:f_ k A):A.units + 64 < Qp:=by have:=r.un; omega
section
variable {P:Wm} {w:Wq} {K:W1} {mg:Str->Option Value} {base:Heap}
theorem Es{x qual:Str}{st:Stmt}{f:Addr}{fd:WP}{N ps:List Str}{k:Nat}{np:List Nat}{fb:DS}{G:DF}(F:b7 K x qual st f fd)(hm:mg x=some (.ref f))(hb:Binds K fd ps [])(S:cA N ps (bo st))
  (eW:∀ (c:Fc) (aL:Value) (A:Wp) (outer:List Env) (s:W2) (H:Hp) (E:XK),f_ k (A.deeper (Jf qual (bo st) s.heap.objs.size f aL))->Np c np->fV (fI d_ P w K mg base N qual (bo st) f aL A outer s H E).w8 c (fJ st) fb)
  (hG:∀ ss y,G ss=some y->bW np 0 ss=true/\fZ fb N.length ss=some y):oG P w K mg base (k + 1) x ps.length G:=by
 refine⟨f,fd,ps,hm,F.kp,hb,Oa F S (λvs H Q E h=>?_) λaL A outer s H vs Q hr h=>?_⟩
 ·obtain⟨ss,B,hl,_⟩:=h;exact hl
 ·obtain⟨ss,B,hl,ok,r,aE,hg,q⟩:=h;obtain⟨gu,hrun⟩:=hG ss _ hg;have jb:ss.length=vs.length:=by have:=ok.len; simpa using this
  have qx:Np ⟨H,B,b8 0 ss vs,λ_ _=>False⟩ np:=λp hp=>by
   obtain⟨j,d,e,h1,_⟩:=lr (i:=p.1) (a:=p.2) hp;rw[e];exact tq gu h1
  refine⟨kq ⟨H,B,b8 0 ss vs,λ_ _=>False⟩ fb,eW ⟨H,B,b8 0 ss vs,λ_ _=>False⟩ aL A outer s H E0 hr qx,?_⟩;have c9:start N vs=b9 vs ++ Wa (N.length - ss.length) none:=by rw[jb]; rfl
  refine⟨bC N.length ss,by rw[c9]; exact ok.ext _,?_⟩;unfold fZ at hrun;unfold ei
  cases e:fb (bC N.length ss) with
  | exc x δx=>rw[e] at hrun; cases hrun
  | stuck=>rw[e] at hrun; cases hrun
  | ok fl δ' =>
   rw[e] at hrun;show ∀ σ' H',aD _ (start N vs) (bC N.length ss) H σ' δ' H'->fin _ _ σ' δ' H' fl;intro σ' H' a;rw[c9] at a;simp only at hrun
   cases fl with
   | brk=>cases hrun
   | cont=>cases hrun
   | next =>
    simp only[cp,WE] at hrun
    cases eo:bF 0 ss δ' with
    | none=>rw[eo] at hrun; cases hrun
    | some os =>
     rw[eo] at hrun
     cases hrun;obtain⟨l1,l2⟩:=lA rfl ok a eo;exact q .aN H' l1 .aN
   | ret r' =>
    simp only[cp,WE] at hrun
    cases eo:bF 0 ss δ' with
    | none=>rw[eo] at hrun; cases hrun
    | some os =>
     rw[eo] at hrun
     cases hrun;obtain⟨l1,l2⟩:=lA rfl ok a eo;exactλv rv=>q v H' l1 (l2 v _ rv)
end
section
variable {X:Cx} {c:Fc} {e:Expr} {es:List Expr} {as:List Ak} {k n:Nat} {x:Str} {G:DF} {pp pos:Pos}
theorem Et (F:oG X.prog X.w X.K X.mg X.base k x n G) (hK:di G) (hr:f_ k X.A) (hg:Gl X x) (ha:SX X c (e :: es) as) (hl:as.length=n) (da:(x == ("__debug__" : Str))=false:=by decide)
  (he:W7 (e :: es) X.env=(false,eval e X.env) :: W7 es X.env:=by rfl) (bE:(WU pos (W7 es X.env)).any (·.1)=false:=by rfl):SE X c (.Call (.Name x pp) (e :: es) [] pos) (ax G as):=by
 obtain⟨f,fd,ps,hm,hk,hb,ok⟩:=F;exact PE.weak (Oc ok hr hg hm hk hb ha da he bE) λσ H Q h=>Dz (ps:=ps) hK hl h
end
end DV
namespace L2
open PySem PySem.Spec PyProof.Rows PySem.SeqAt
theorem xa:∀ {bs:List Bool} {us:List Value},Vals (bs.map V.bl) us->us=bs.map Value.bool
 | [],us,r=>by cases r; rfl
 | b :: bs,us,r=>by
  cases r with
  | cons r1 r2 =>
   cases r1;rw[xa r2];rfl
def qN:Value->Bool
 | .bool b=>b
 | _=>false
theorem Eu:∀ bs:List Bool,(bs.map Value.bool).countP qN=bs.count true
 | []=>rfl
 | b :: bs=>by
  rw[Wo,List.countP_cons,Eu bs,JK]
  cases b <;> rfl
def Ew(K:W1):V->List V->Hp->VK->Prop:=λx xs H Q=>∃ (a:Addr) (bs:List Bool),x = .ref a/\xs=[.bl true]/\bS K H a (bs.map V.bl)/\Q (.int (bs.count true:Nat)) H
def Ex(K:W1):V->List V->Hp->VK->Prop:=λx xs H Q=>∃ (a:Addr) (bs:List Bool),x = .ref a/\xs=[.bl true]/\bS K H a (bs.map V.bl)/\true ∈ bs/\bs.length<=1000/\Q (.int (bs.idxOf true:Nat)) H
section
variable {X:Cx}
theorem Oe:nR X "list.count" (Ew X.K):=by
 intro pins s σ H x xs v us Q I rx rs h;obtain⟨a,bs,rfl,rfl,hq,q⟩:=h;obtain⟨u,rfl,ru⟩:=gB rs
 cases ru
 cases rx;obtain⟨ag,r',p,_⟩:=I.list hq;obtain rfl:=xa r';obtain⟨⟨cls,dd,data,sl⟩,ho,hc,n,hd⟩:=p.isList;simp only at hc hd;subst hc; subst hd
 refine Ja PySem.F.slot_list_count ⟨_,ho,rfl⟩ PySem.F.entry_list_count (PySem.F.args_list_count_2 _ _) (list_countAt a _ n dd sl (.bool true) qN) ⟨ho,λy hy=>?_,?_⟩
 ·have lG:y ∈ bs.map Value.bool:=by simpa using hy
  obtain⟨b,_,rfl⟩:=WV.mp lG;have:=EqAt.bool_bool (A:=X.A.in1) (s:=s) b true
  cases b <;> exact this
 ·rw[show(bs.map Value.bool).toArray.toList=bs.map Value.bool from rfl,Eu];exact⟨.int (bs.count true:Nat),H,I.tok _,⟨_,rfl⟩,q⟩
theorem Of:nR X "list.index" (Ex X.K):=by
 intro pins s σ H x xs v us Q I rx rs h;obtain⟨a,bs,rfl,rfl,hq,hm,hl,q⟩:=h;obtain⟨u,rfl,ru⟩:=gB rs
 cases ru
 cases rx;obtain⟨ag,r',p,_⟩:=I.list hq;obtain rfl:=xa r';obtain⟨⟨cls,dd,data,sl⟩,ho,hc,n,hd⟩:=p.isList;simp only at hc hd;subst hc; subst hd
 have hj:bs.idxOf true < bs.length:=List.idxOf_lt_length_iff.mpr hm;refine Ja Jn ⟨_,ho,rfl⟩ PySem.F.entry_list_index (PySem.F.args_list_index_2 _ _) (list_indexAt a _ n dd sl (.bool true) qN (bs.idxOf true) (by simpa using hj) (by omega) ?_ ?_) ⟨ho,λy hy=>?_,⟨.int (bs.idxOf true:Nat),H,I.tok _,⟨_,rfl⟩,q⟩⟩
 ·have:=List.getElem_idxOf hj;simp[qN,this]
 ·intro m m_ bH;have Ey:m < bs.length:=by simpa using m_
  have:bs[m]≠true:=λz=>by
   have z2:=List.not_of_lt_findIdx (p:=(· == true)) (xs:=bs) (i:=m) bH;rw[z] at z2
   cases z2
  simp[qN,this]
 ·have lG:y ∈ bs.map Value.bool:=by simpa using hy
  obtain⟨b,_,rfl⟩:=WV.mp lG;have:=EqAt.bool_bool (A:=X.A.in1) (s:=s) b true
  cases b <;> exact this
end
end L2
namespace DV
open PySem PySem.Spec PyProof.Rows L2
def oH:D->Option S
 | .lst ds=>(gq ds).map λbs=>.pure (.int (bs.count true:Nat))
 | _=>none
def oI:D->Option S
 | .lst ds=>match gq ds with
  | some bs=>if true ∈ bs/\bs.length<=1000 then some (.pure (.int (bs.idxOf true:Nat))) else none
  | none=>none
 | _=>none
section
variable {X:Cx} {c:Fc} {e:Expr} {fb:BE}
theorem Og {K:W1}:jL (λx H Q=>pH K "list" x H/\Ew K x [.bl true] H Q) oH:=by
 intro c σ δ H x d s Q k rx hp q
 cases d with
 | lst ds =>
  simp only[oH] at hp
  cases e:gq ds with
  | none=>rw[e] at hp; cases hp
  | some bs =>
   rw[e] at hp
   cases hp;obtain⟨a,vs,ea,ha,ra⟩:=rx.lst;obtain rfl:=sU e ra;subst ea;exact⟨.inl ⟨rfl,_,.inl ha⟩,a,bs,rfl,rfl,.inl ha,q _ H (.refl k) (.int _)⟩
 | _=>simp[oH] at hp
theorem Oh {K:W1}:jL (λx H Q=>pH K "list" x H/\Ex K x [.bl true] H Q) oI:=by
 intro c σ δ H x d s Q k rx hp q
 cases d with
 | lst ds =>
  simp only[oI] at hp
  cases e:gq ds with
  | none=>rw[e] at hp; cases hp
  | some bs =>
   rw[e] at hp;simp only at hp;split at hp
   ·rename_i hz
    cases hp;obtain⟨a,vs,ea,ha,ra⟩:=rx.lst;obtain rfl:=sU e ra;subst ea;exact⟨.inl ⟨rfl,_,.inl ha⟩,a,bs,rfl,rfl,.inl ha,hz.1,hz.2,q _ H (.refl k) (.int _)⟩
   ·cases hp
 | _=>simp[oI] at hp
theorem Oi{j}{p0 apos ba:Pos}(he:SB X c e fb)
  (gY:Q6 e "count" X.env (eval e X.env)=eval e X.env:=by rfl)
  (gZ:((WU ba (W7 [.Constant (.bool true) j p0] X.env)).all (λx=>!x.1) && (JL ba (Jc [] X.env)).all (λx=>x.1.isSome)
   && decide ([Expr.Constant (.bool true) j p0].length + ([]:List Keyword).length + (if ([]:List Keyword).isEmpty then 0 else 1) < 30))=true:=by rfl)
  (dZ:(apos.endLine == ba.line)=true:=by rfl) (hs:W7 [.Constant (.bool true) j p0] X.env=(false,eval (.Constant (.bool true) j p0) X.env) :: W7 [] X.env:=by rfl) :
  SE X c (.Call (.Attribute e "count" apos) [.Constant (.bool true) j p0] [] ba) (a_ oH fb):=by
 refine PE.weak (nU Jm PySem.F.slot_list_count PySem.F.type_list_count Oe he (dt uK eU hs) gY gZ dZ hs rfl) λσ H Q h=>?_
 obtain⟨δ,k,q⟩:=qc (Og (K:=X.K)) h;exact⟨δ,k,aQ q λy δ1 q1 v H1 a1 r1=>q1 v H1 a1 r1⟩
theorem Oj{j}{p0 apos ba:Pos}(he:SB X c e fb)
  (gY:Q6 e "index" X.env (eval e X.env)=eval e X.env:=by rfl)
  (gZ:((WU ba (W7 [.Constant (.bool true) j p0] X.env)).all (λx=>!x.1) && (JL ba (Jc [] X.env)).all (λx=>x.1.isSome)
   && decide ([Expr.Constant (.bool true) j p0].length + ([]:List Keyword).length + (if ([]:List Keyword).isEmpty then 0 else 1) < 30))=true:=by rfl)
  (dZ:(apos.endLine == ba.line)=true:=by rfl) (hs:W7 [.Constant (.bool true) j p0] X.env=(false,eval (.Constant (.bool true) j p0) X.env) :: W7 [] X.env:=by rfl) :
  SE X c (.Call (.Attribute e "index" apos) [.Constant (.bool true) j p0] [] ba) (a_ oI fb):=by
 refine PE.weak (nU Jm Jn PySem.F.type_list_index Of he (dt uK eU hs) gY gZ dZ hs rfl) λσ H Q h=>?_
 obtain⟨δ,k,q⟩:=qc (Oh (K:=X.K)) h;exact⟨δ,k,aQ q λy δ1 q1 v H1 a1 r1=>q1 v H1 a1 r1⟩
end
theorem SS.iy{X:Cx}{c:Fc}{st:Stmt}{f:DS}(h:SS X.iy c st f):SS X c st f:=λpins s σ H D I hw =>
 WC (h pins s σ H D (I.gU _) hw) (λ_ _ q=>q.j_) λ_ _ z=>False.elim z
theorem Ol:Qj "ValueError" = some (.type "ValueError"):=by decide +kernel
def Ez:List (Tx×Nat)->Tx->Nat
 | [],_=>0
 | p :: r,x=>bif p.1 == x then p.2 else Ez r x
end DV
namespace L2
open PySem PySem.Spec PyProof.Rows
section
variable {X:Cx}
end
end L2
namespace DV
open PySem PySem.Spec PyProof.Rows L2
end DV
namespace PySem
open Sem (wp)
section
variable {prog:Wm} {w:Wq} {A:Wp} {E:Value->W2->Prop} {s:W2}
end
end PySem
namespace L2
open PySem PySem.Spec PyProof.Rows
section
variable {X:Cx} {pins:List (Addr×Obj)} {σ:St} {H:Hp} {s:W2} {h':Heap}
theorem Inv.EA(fp:List Addr)(I:Inv X pins σ H s)(hf:∀ b ∈ fp,ft X pins H b)(bH:∀ b ∈ fp,b < s.heap.objs.size)(ru:RelV x u)(rv:RelV y v)
  (hT:h'.get? s.heap.objs.size=some { cls:=.type "tuple",data:=.seq #[u,v] }) (k:∀ b o,b ∉ fp->s.heap.get? b=some o->h'.get? b=some o) :
  Inv X pins σ (upd H s.heap.objs.size (.tup [x,y])) { s with heap:=h',toks:=t' }:=by
 have I1:Inv X pins σ (upd H s.heap.objs.size (.tup [x,y])) { s with heap:=s.heap.push { cls:=.type "tuple",data:=.seq #[u,v] },toks:=t' } :=
  I.laid (t':=t') (λb o e=>W5 _ e) (Wg _) (show bG X.prog X.w _ _ _ (.tup [x,y]) from
   ⟨by simp only[WD,Jp]; rw[Qr]; decide,[u,v],.cons ru (.cons rv .nil),ir.new _ _⟩)
 have:=Inv.wL (t':=t') (h':=h') fp I1 (λb o hb eb=>?_) λb hb=>?_
 ·exact this
 ·rcases Heap.get?_push_cases eb with ⟨z,z'⟩ | eb
  ·subst z z'; exact hT
  ·exact k b o hb eb
 ·obtain⟨f0,r⟩:=hf b hb;exact⟨by rw[aG (Wi (bH b hb))]; exact f0,r⟩
end
end L2
namespace DV
open PySem PySem.Spec PyProof.Rows L2
section
variable {X:Cx} {c:Fc} {tg e:Expr} {fe:DE} {pos pp:Pos}
def gf(xs ys:List D):List D:=List.zipWith (λx y=>D.tup [x,y]) xs ys
theorem Om{xs ys:List D}{i:Nat}{d:D}(h:(gf xs ys)[i]? = some d):∃ x y,xs[i]? = some x/\ys[i]? = some y/\d = .tup [x,y]:=by
 unfold gf at h;rw[List.getElem?_zipWith] at h
 cases e1:xs[i]? with
 | none=>rw[e1] at h; cases h
 | some x =>
  cases e2:ys[i]? with
  | none=>rw[e1,e2] at h; cases h
  | some y =>
   rw[e1,e2] at h
   cases h;exact⟨x,y,rfl,rfl,rfl⟩
theorem aA.two(r:Rep H O u x)(r':Rep H O v y):aA H O [u,v] [x,y]:=by
 refine⟨rfl,λj v' d' e1 e2=>?_⟩;match j with
 | 0=>simp at e1 e2; subst e1 e2; exact r
 | 1=>simp at e1 e2; subst e1 e2; exact r'
 | j + 2=>simp at e1
end
def nc(G:DX)(as:List Ak):DE:=λδ=>if (bf as).all (bu δ) && bN (bf as) then(bL as δ).bind λds δ1=>match bw as ds δ1 with
  | none=>.stuck
  | some ss=>match G ss with
   | some (.inl (r,aE))=>.ok r (aS as aE δ1)
   | _=>.stuck
 else .stuck
section
variable {X:Cx} {c:Fc} {e:Expr} {es:List Expr} {as:List Ak} {k n:Nat} {x:Str} {G:DX} {pp pos:Pos}
theorem Oo(hK:mX G)(hl:as.length=n)(h:tD c (nc G as) σ H Q):tX c as σ H λvs H1=>tV X.mg n G vs H1 Q (λc' _ H'=>∃ C,c' = .ref C/\False):=by
 obtain⟨δ,kk,q⟩:=h;unfold nc at q;split at q
 ·rename_i hc;rw[Wr] at hc;have nd:=tE hc.2;rw[bc] at q;refine⟨δ,kk,λi hi=>?_,aQ q λds δ1 q1 vs H1 a1 r1=>?_⟩
  ·have:=Qq.mp hc.1 i (kA.mpr hi);unfold bu at this;split at this
   ·rename_i d ed;exact mF kk ed
   ·cases this
  ·cases em:bw as ds δ1 with
   | none=>rw[em] at q1; exact q1.elim
   | some ss =>
    rw[em] at q1;simp only at q1
    cases eg:G ss with
    | none=>rw[eg] at q1; exact q1.elim
    | some y =>
     rw[eg] at q1;have jR:=wm a1.ok r1 em nd;obtain⟨m1,m2,_⟩:=qy r1 em;have g2:=hK ss y eg
     cases y with
     | inl y =>
      refine⟨ss,_,by rw[<- m2]; exact hl,jR,.inl y,eg,?_⟩;obtain⟨r,aE⟩:=y;intro v H2 a2 r2;obtain⟨o1,o2⟩:=tG a1.ok r1 em nd rfl a2 (λj d ed=>(g2 j).1 d ed) λj d ed=>(g2 j).2 d ed
      exact q1 v H2 (a1.trans o1) (aP.back (o2 v r r2) a1)
     | inr y=>exact q1.elim
 ·exact q.elim
theorem Oq (F:lF X.prog X.w X.K X.mg X.base k x n G) (hK:mX G) (hr:cG k X.A) (hex:X.ex=[]) (hg:Gl X x) (ha:SX X c (e :: es) as) (hl:as.length=n) (da:(x == ("__debug__" : Str))=false:=by decide)
  (he:W7 (e :: es) X.env=(false,eval e X.env) :: W7 es X.env:=by rfl) (bE:(WU pos (W7 es X.env)).any (·.1)=false:=by rfl):SE X c (.Call (.Name x pp) (e :: es) [] pos) (nc G as):=by
 obtain⟨f,fd,ps,hm,hk,hb,ok⟩:=F;exact PE.weak (Eh (W:=λ_ _ _ _=>False) ok hr hex hg hm hk hb (λ_ _ _ _ _ _ _ _ _ h=>h.elim) ha da he bE) λσ H Q h=>Oo hK hl h
end
end DV
namespace PySem
open Sem (wp)
section
variable {prog:Wm} {w:Wq} {A:Wp} {E:Value->W2->Prop} {hp:Heap} {g:Array GenState} {d:Drawn} {t:Nat} {os:OsState}
variable {nm qn:Str} {C N:Addr} {bs bm tY:List Value} {ig:Bool} {sn:List Str} {sub:List Value} {ab:Bool} {col:Option Bool} {dd:Option Addr} {k0 k1 k2 k3 k5:Option Value} {B newId EB:String}
theorem Ot(F:ExcBaseFacts B newId EB tY)(T:OwnTail hp tY bm)
  (hC:hp.get? C=some (excClassObj nm qn C N bs bm ig sn sub ab col dd k0 k1 k2 k3 k5 newId)) (hN:hp.Ns N mN) (hi:mN "__init__" = some (.ref f)) (hf:hp.get? f=some o) (qO:o.cls = .type "function")
  (q:∀ h' e,Heap.MadeExcOf hp h' e (.ref C) vs->W8 (model prog w) A (call (.ref f) (.ref e :: vs)) (λr s'=>r = .none/\Q (.done (.ret (.ref e))) s') E ⟨h',g,d,t,os⟩) (hl:vs.length<=Wb) :
  W8 (model prog w) A (Builtin.«type.__call__» ⟨.ref C :: vs,[]⟩) Q E ⟨hp,g,d,t,os⟩:=by
 repeat (first | with_reducible refine Ql hC ?_ | with_reducible refine wpAny_madeBy_exc hC ?_ | wp_step)
 refine codeAny_call_builtin_code (Code.quiet_builtin _ F.quiet) (wpAny_check_new_subT F T hC (codeAny_exc_new_subT F T hC ?_ hl));show W8 _ _ _ _ _ _;have up:∀ {o1 o2:Obj} {b:Addr} {u:Obj},hp.get? b=some u->((hp.push o1).push o2).get? b=some u:=λe=>W5 _ (W5 _ e)
 have EC:=up (o1:={ cls:=.type "tuple",data:=.seq vs.toArray }) (o2:={ cls:=.ref C,data:=.fields #[.ref hp.objs.size,.none,.none,.none,.bool false,.none] }) hC;have Ou:=up (o1:={ cls:=.type "tuple",data:=.seq vs.toArray }) (o2:={ cls:=.ref C,data:=.fields #[.ref hp.objs.size,.none,.none,.none,.bool false,.none] }) hf;have Ov:((hp.push { cls:=.type "tuple",data:=.seq vs.toArray }).push { cls:=.ref C,data:=.fields #[.ref hp.objs.size,.none,.none,.none,.bool false,.none] }).Ns N mN:=let ⟨o,es,ep,e,r⟩:=hN; ⟨o,es,ep,up e,r⟩
 have he:((hp.push { cls:=.type "tuple",data:=.seq vs.toArray }).push { cls:=.ref C,data:=.fields #[.ref hp.objs.size,.none,.none,.none,.bool false,.none] }).get? (hp.objs.size + 1)=some { cls:=.ref C,data:=.fields #[.ref hp.objs.size,.none,.none,.none,.bool false,.none] }:=by heap_get
 have hc:(Value.ref C :: bm).contains (.ref C)=true:=by simp
 have T1:=T.keeps (h':=(hp.push { cls:=.type "tuple",data:=.seq vs.toArray }).push { cls:=.ref C,data:=.fields #[.ref hp.objs.size,.none,.none,.none,.bool false,.none] }) λb o e=>up e
 unfold isInstance;repeat (first | with_reducible refine Ql he ?_ | (with_reducible refine wpAny_isSubtype_exc EC ?_; rw[hc]) | wp_step)
 show W8 _ _ (JT (.ref C) _) _ _ _;refine wpAny_typeLookup_tail EC Ov T1 F.mroIs F.init.lookup ?_;rw[hi];refine WG (W0 ?_);unfold bindSpecial;refine W0 (QN (T:="function") ⟨_,Ou,qO⟩ ?_);rw[if_pos (by decide)];refine W4 (W0 (WC (q _ (hp.objs.size + 1) ⟨λb o hb=>up hb,Jz (U1 _),hp.objs.size,he,Jz (Wg _),W5 _ (Heap.get?_push_at rfl rfl)⟩) (λr s' hr=>?_) λ_ _ x=>x));obtain⟨rfl,hQ⟩:=hr;wp_walk
 exact hQ
theorem Ow(F:ExcBaseFacts B newId EB tY)(T:OwnTail hp tY bm)
  (hC:hp.get? C=some (excClassObj nm qn C N bs bm ig sn sub ab col dd k0 k1 k2 k3 k5 newId)) (hN:hp.Ns N mN) (hi:mN "__init__" = some (.ref f)) (hf:hp.get? f=some o) (qO:o.cls = .type "function")
  (q:∀ h' e,Heap.MadeExcOf hp h' e (.ref C) vs->W8 (model prog w) (A.under (.builtin "type.__call__" ⟨.ref C :: vs,[]⟩)) (call (.ref f) (.ref e :: vs)) (λr s'=>r = .none/\Q (.ref e) s') E ⟨h',g,d,t,os⟩) (hl:vs.length<=Wb) :
  W8 (model prog w) A (call (.ref C) vs) Q E ⟨hp,g,d,t,os⟩:=by
 have f1:=tc_lookup;have f2:=tc_bind (.ref C);have hT:(⟨hp,g,d,t,os⟩:W2).TypeIs (.ref C) "type":=⟨_,hC,rfl⟩
 refine wpAny_call (codeAny_of_tree ?_); show W8 _ _ (callAny (.ref C) _) _ _ _
 repeat (any_goals (first | assumption | with_reducible refine Ql hC ?_ | wp_step))
 exact⟨rfl,codeAny_call_builtin_at (Code.quiet_builtin _ (by decide +kernel)) entry_typeCall (wpAny_check_type_call_sub hC (Ot F T hC hN hi hf qO (λh' e hm=>q h' e hm) hl))⟩
theorem Ox(hh:A.handled=none)
  (h:W8 M A x (λv s1=>∃ (e C N:Addr) (dx:Option Addr) (vs:Array Value) (sl:Array (Option Value)) (nm qn:Str) (bs bm:List Value) (ig:Bool) (sn:List Str) (sub:List Value) (ab:Bool) (col:Option Bool) (dd:Option Addr) (k0 k1 k2 k3 k5:Option Value) (newId:String),
   v = .ref e/\bm.contains (.type "BaseException")=true/\s1.heap.get? C=some (excClassObj nm qn C N bs bm ig sn sub ab col dd k0 k1 k2 k3 k5 newId)/\s1.heap.get? e=some ⟨.ref C,dx,.fields vs,sl⟩/\vs[1]? = some .none/\E (.ref e) s1) E s) :
  W8 M A (raiseStmt env (some x) none) Q E s:=by
 unfold raiseStmt;refine W0 (WC h (λv s1 h1=>?_) λ_ _ x=>x);obtain⟨e,C,N,dx,vs,sl,nm,qn,bs,bm,ig,sn,sub,ab,col,dd,k0,k1,k2,k3,k5,newId,rfl,hb,hC,he,hv,hE⟩:=h1;have hc:(Value.ref C :: bm).contains (.type "BaseException")=true:=by rw[Js,hb,Bool.or_true]
 obtain⟨hp,g,d,tk,os⟩:=s1;repeat (first | with_reducible refine Ql he ?_ | with_reducible refine Ql hC ?_ | (with_reducible refine wpAny_isSubtype_exc hC ?_; rw[hc]) | wp_step)
 rw[hv];repeat (first | wp_step)
 exact wpAny_raiseNew_none hh hE
end
end PySem
namespace L2
open PySem PySem.Spec PyProof.Rows PySem.W PySem.Builtin PySem.Builtin.ObjectAttr
def tZ:List Value->Bool
 | .ref _ :: r=>tZ r
 | l=>l == jV
theorem xb (self:Value):∀ {l:List Value},tZ l=true->refuseLoop self "__setattr__" l=pure ()
 | [],e=>by cases e
 | .ref c :: r,e=>by rw[refuseLoop_ref]; exact xb self e
 | .none :: r,e=>by cases e
 | .type n :: r,e=>by
  have:(Value.type n :: r)=jV:=beq_iff_eq.mp e;rw[this]; exact PySem.F.store_ValueError.passes self
 | .bool b :: r,e=>by cases (beq_iff_eq.mp (show((Value.bool b :: r) == jV)=true from e))
 | v :: r,e=>by
  cases v <;> first
   | (rw[refuseLoop_ref]; exact xb self e)
   | (rw[show _=jV from beq_iff_eq.mp e]; exact PySem.F.store_ValueError.passes self)
theorem ED:∀ {l:List Value},tZ l=true->l.contains (.type "object")=true
 | [],e=>by cases e
 | v :: r,e=>by
  cases v <;> first
   | (rw[Js,ED (l:=r) e,Bool.or_true])
   | (rw[show _=jV from beq_iff_eq.mp e]; decide)
def t4(K:W1)(C:Addr):Bool:=(clsIn K C).any λcd=>tZ cd.mro
section
variable {prog:Wm} {w:Wq} {A:Wp} {E:Value->W2->Prop} {s:W2} {K:W1} {x C:Addr} {name:Str} {v:Value} {R:Result->W2->Prop}
theorem Oy(X:K.In s.heap)(I:InstAt s.heap x ox C od)(hp:t4 K C=true)(ht:takerIn K C name=some none)
  (q:∀ b,W8 (model prog w) A.in1 (storeInOwnDict (.ref x) (.ref C) (.str name tk) name v b) (λfin s'=>match fin with | .done f=>R (.ok f) s' | .again c'=>c'.quiet=true/\Qa (model prog w) A c' R s') (λe s'=>R (.error e) s') s) :
  Qa (model prog w) A (.call (.builtin "object.__setattr__") ⟨[.ref x,.str name tk,v],[]⟩) R s:=by
 have SF:=PySem.F.store_object;obtain⟨cd,hc,ho⟩:=any_some hp;have ne:cd.mro.isEmpty=false:=by
  cases z:cd.mro with
  | nil=>rw[z] at ho; cases ho
  | cons _ _=>rfl
 have sub:Looks (model prog w) s.heap (isInstance (.ref x) (.type "object")) true:=I.type.andThen (looks_mroIn X (by unfold mroIn; rw[hc,WE,if_neg (by rw[ne]; decide),ED ho]));refine Jb SF.slot.plain SF.entry (@check_slot (model prog w) _ _ s "object.__setattr__" "object" "__setattr__" (.ref x) [.str name tk,v] [] _ SF.kind SF.split sub (SF.args (.ref x) (.str name tk) v) ?_);obtain⟨attr,ha,hr⟩:=Option.bind_eq_some_iff.mp ht;have hm:Looks (model prog w) s.heap (mroOf (.ref C)) cd.mro:=(looks_clsIn X hc).andThen .now;have L3:Looks (model prog w) s.heap (storeTaker? attr) none:=by
  cases attr with
  | none=>exact .now
  | some a =>
   obtain⟨b,hb,hn⟩:=WM.mp hr;refine(looks_takesIn X hb).andThen ?_
   cases b
   ·exact .now
   ·cases hn
 rw[osa_eq,refuse_eq];refine W0 (W0 (I.type.here (W0 (hm.here ?_))));rw[xb _ ho];exact W4 (W0 (I.type.here (W0 ((JR X ha).here (W0 (L3.here (q _)))))))
theorem Oz(X:K.In s.heap)(hx:s.heap.get? x=some ⟨.ref C,none,.fields vs,sl⟩)
  (hs:JD K (.ref C) "__setattr__" = some (some (.builtin "object.__setattr__"))) (hp:t4 K C=true) (ht:takerIn K C name=some none) (hh:hasDictIn K C=true)
  (q:∀ h' tk,h'.get? x=some ⟨.ref C,some s.heap.objs.size,.fields vs,sl⟩->(∀ b o,b≠x->s.heap.get? b=some o->h'.get? b=some o)->h'.Ns1 s.heap.objs.size (λz=>if z=name then some v else none)->Q () { s with heap:=h',toks:=tk }) :
  W8 (model prog w) A (setAttr (.ref x) name v) Q E s:=by
 have J:InstAt s.heap x ⟨.ref C,none,.fields vs,sl⟩ C none:=⟨hx,rfl,rfl,trivial⟩
 refine set_plain X J hs (Oy (s:={ s with toks:=s.toks + 1 }) X J hp ht λb=>?_);obtain⟨cd,hc,hd'⟩:=any_some hh;have t5:(s.heap.push { cls:=.type "dict",data:=.dict #[] }).get? x=some ⟨.ref C,none,.fields vs,sl⟩:=W5 _ hx;have EE:x≠s.heap.objs.size:=Wi (We hx);refine W0 (W4 (W0 (W0 (wpAny_loadPart hx (W0 (PySem.W.Looks.here (s:={ s with toks:=s.toks + 1 }) (PySem.W.looks_clsIn X hc) ?_))))));rw[hd'];show W8 _ _ (alloc { cls:=.type "dict",data:=.dict #[] } >>= λd=>(update x λo=>{ cls:=o.cls,dict:=some d,data:=o.data,slots:=o.slots }) >>= λ_=>dictMade (.ref C) x d) _ _ _;refine W0 (wpAny_alloc' (W0 (wpAny_update' t5 (W4 ?_))));have gd:((s.heap.push { cls:=.type "dict",data:=.dict #[] }).update x λo=>{ cls:=o.cls,dict:=some s.heap.objs.size,data:=o.data,slots:=o.slots }).get? s.heap.objs.size=some { cls:=.type "dict",data:=.dict #[] }:=(Heap.get?_update_ne _ _ _ _ EE.symm).trans (Heap.get?_push_at rfl rfl);have nd:((s.heap.push { cls:=.type "dict",data:=.dict #[] }).update x λo=>{ cls:=o.cls,dict:=some s.heap.objs.size,data:=o.data,slots:=o.slots }).Ns s.heap.objs.size (λ_=>none):=⟨_,#[],_,gd,rfl,λe he=>absurd he (by simp),λ_=>rfl⟩
 show W8 _ _ (storeInDict s.heap.objs.size (.str name _) name v) _ _ _;unfold storeInDict newKeyGuard;refine W0 (W4 (W0 (wpAny_nsSet1 (Heap.Ns1.of_empty nd) λh' jA sb=>?_)));obtain⟨oD,esD,epD,hoD,hdD,hcD⟩:=jA.count (Within.cons name v Within.nil);refine W0 (wpAny_lookBehind hoD (by rw[hdD]; exact pastItsLine_dict (WK hcD (by rw[WD,Jp,Qr]; omega))) ?_);refine W4 (q h' _ ((sb.2 x EE).trans (Wt _ t5 rfl)) (λb o hb e=>?_) jA);exact(sb.2 b (Wi (We e))).trans ((Heap.get?_update_ne _ _ _ _ hb).trans (W5 _ e))
theorem OA{vs:Array Value}{sl:Array (Option Value)}{dx:Addr}{mA:Str->Option Value}{expr:Bool}{Q:Value->W2->Prop}(X:K.In s.heap)(hx:s.heap.get? x=some ⟨.ref C,some dx,.fields vs,sl⟩)(hd:s.heap.Ns1 dx mA)
  (k:kC K C) (oy:JD K (.ref C) name=some none) (hh:hasDictIn K C=true)
  (hv:mA name=some v) (jR:handedIn v=true) (q:Q v { s with toks:=s.toks + 1 }):W8 (model prog w) A (getAttr (.ref x) name expr) Q E s:=by
 obtain⟨od,ho,hl⟩:=Bh hd;have J:InstAt s.heap x ⟨.ref C,some dx,.fields vs,sl⟩ C (some od):=⟨hx,rfl,rfl,ho⟩
 obtain⟨h,g,d,t,os⟩:=s;have L0:Looks (model prog w) h (typeOf (.ref x)) (.ref C):=J.type;have L1:=JR (M:=model prog w) X k.ga;have L2:=JR (M:=model prog w) X k.gt;have L4:=looks_find (M:=model prog w) X J (findObj_own (v:=v) hh oy rfl (by rw[hl,hv]));have N6:(expr && onTheHeap (Value.builtin "BaseException.__getattribute__"))=false:=by cases expr <;> rfl
 have mZ:(Value.builtin "BaseException.__getattribute__" == Value.builtin "object.__getattribute__")=false:=by decide +kernel
 have f3:=F.attrBase_ValueError.ga.bind (.ref x);unfold getAttr getAttrBy;refine W0 (wpAny_mkText (WG (W0 (L0.at (W0 (L1.at ?_))))));dsimp only;rw[mZ,Bool.and_false];simp only[Qh,if_false];unfold getAttrByItsOwn hookBefore;repeat (any_goals (first | assumption | with_reducible refine Looks.at L2 ?_ | wp_step))
 refine Jb F.attrBase_ValueError.ga.plain F.entry_bexc_ga (En X k hx rfl ?_);repeat (any_goals (first | assumption | with_reducible refine Looks.at L0 ?_ | with_reducible refine Looks.at L4 ?_ | wp_step))
 show W8 _ _ (handedOut v) _ _ _;rw[handedOut_of jR]; exact W4 q
end
def lH(C a:Addr):Heap->Prop:=λh=>∃ vs sl a0,h.get? a=some ⟨.ref C,none,.fields vs,sl⟩/\vs[0]? = some a0/\vs[1]? = some .none
def iL(C:Addr)(dx:Option Addr)(a:Addr):Heap->Prop:=λh=>∃ vs sl a0,h.get? a=some ⟨.ref C,dx,.fields vs,sl⟩/\vs[0]? = some a0/\vs[1]? = some .none
section
variable {P:Wm} {w:Wq} {H:Hp} {h:Heap} {C a:Addr}
theorem OB(q:lH C a h):bG P w H h a (.ext (lH C a)):=by
 refine⟨q,?_,?_⟩
 ·obtain⟨vs,sl,a0,e,_⟩:=q;exact⟨_,e⟩
 ·rintro h1 h2 ⟨vs,sl,a0,e,r⟩ k;exact⟨vs,sl,a0,k _ e,r⟩
theorem OC{dx:Option Addr}(q:iL C dx a h):bG P w H h a (.ext (iL C dx a)):=by
 refine⟨q,?_,?_⟩
 ·obtain⟨vs,sl,a0,e,_⟩:=q;exact⟨_,e⟩
 ·rintro h1 h2 ⟨vs,sl,a0,e,r⟩ k;exact⟨vs,sl,a0,k _ e,r⟩
theorem OD{fs:List (Str×V)}(q:DV.i6 fs a h):bG P w H h a (.ext (DV.i6 fs a)):=by
 refine⟨q,?_,?_⟩
 ·obtain⟨mA,⟨o,_,_,e,_⟩,_⟩:=q;exact⟨_,e⟩
 ·rintro h1 h2 ⟨mA,⟨o,es,ep,e,c⟩,r⟩ k;exact⟨mA,⟨o,es,ep,k _ e,c⟩,r⟩
end
structure t6(K:W1)(C:Addr)(f:Str):Prop where
 set:JD K (.ref C) "__setattr__" = some (some (.builtin "object.__setattr__"))
 over:t4 K C=true
 hd:hasDictIn K C=true
 tk:takerIn K C f=some none
section
variable {X:Cx} {o value:Expr} {f:Str} {ta tv:TE} {pos pos':Pos}
def EF(K:W1)(ta tv:TE)(f:Str):TS:=λD σ H=>tv σ H λy H1=>ta σ H1 λx H2=>∃ a C,x = .ref a/\H2 a=some (.ext (lH C a))/\t6 K C f/\∀ dx,H2 dx=none->dx≠a->D.nx σ (upd (upd H2 a (.ext (iL C (some dx) a))) dx (.ext (DV.i6 [(f,y)] dx)))
theorem OE{f g:Str}{y:V}{u:Value}(r:RelV y u):fH (List.lookup g [(f,y)]) (if g=f then some u else none):=by
 by_cases z:g=f
 ·subst z; simp[fH,r]
 ·rw[WT,beq_eq_false_iff_ne.mpr z,if_neg z]; trivial
theorem OF(hex:X.ex=[])(ha:PE X o ta)(hv:PE X value tv)(hs:QQ value (some (.Attribute o f pos')) pos.line X.env=pure false):PS X (.Assign [.Attribute o f pos'] value pos) (EF X.K ta tv f):=by
 intro pins s σ H D I h;refine plainObj_wpAny_Assign_Attribute (aV (hv pins s σ H _ I h) λu s1 ⟨y,H1,I1,ry,q⟩=>aV (ha pins s1 σ H1 _ I1 q) λov s2 ⟨x,H2,I2,rx,a,C,ex,ea,c,q2⟩=>?_) hs;subst ex;obtain rfl:ov=Value.ref a:=rx;obtain⟨⟨vs,sl,a0,e0,e1,e2⟩,_,_⟩:=(show bG X.prog X.w H2 s2.heap a (.ext (lH C a)) from I2.aw a _ ea)
 have n0:=I2.aw.fresh (Wg s2.heap.objs.size);have ne:s2.heap.objs.size≠a:=WI (We e0);refine Oz I2.cW e0 c.set c.over c.tk c.hd λh' tk g1 g2 g3=>⟨σ,_,?_,q2 _ n0 ne⟩
 have Iw:=I2.write (x:=a) (e:=a) (t':=tk) (by rw[ea]; exact True.intro) (.inl rfl) (λb u nb z=>g2 b u nb z) ⟨_,g1⟩ (OC (P:=X.prog) (w:=X.w) (H:=upd H2 a (.ext (iL C (some s2.heap.objs.size) a))) ⟨vs,sl,a0,g1,e1,e2⟩);exact Iw.wW (I2.apart hex (Jz (Wg _)) (by rw[aG ne]; exact n0)) (OD ⟨_,g3,λg=>OE ry⟩)
end
def lJ(K:W1)(C f:Addr):Bool:=match K.lookup C with
 | some ⟨.type "type",_,.cls c,ss⟩=>(match c.mro,ss.toList with
  | .ref C' :: bm,[_,_,_,_,some (.builtin n),_]=>C' == C && n == "ValueError.__new__" && !c.hasDel && tailIn K jV bm && nsOkIn K c.ns && nsIn K c.ns "__init__" == some (some (.ref f))
  | _,_=>false)
 | _=>false
theorem OG{K:W1}{h:Heap}{N:Addr}{m:Str->Option Value}{n:Str}{v:Value}(X:K.In h)(G:h.Ns N m)(e:nsIn K N n=some (some v)):m n=some v:=by
 obtain⟨o,es,ep,ho,hd,_,hf⟩:=G;unfold nsIn at e;split at e;next c d es' n' sl q =>
  have z:=X _ _ q;rw[ho] at z
  cases z;simp only at hd;injection hd with h1 h2
  subst h1;split at e;next x hx =>
   cases e;rw[<- hf n];unfold nsFind findBy;rw[<- Array.find?_toList,hx];rfl
  next=>split at e <;> cases e
 next=>cases e
theorem EG{K:W1}{C f:Addr}{h:Heap}(q:lJ K C f=true)(X:K.In h):∃ (bm:List Value) (N:Addr) (nm qn:Str) (bs:List Value) (ig:Bool) (sn:List Str) (sub:List Value) (ab:Bool) (col:Option Bool) (dd:Option Addr) (k0 k1 k2 k3 k5:Option Value) (mN:Str->Option Value),
  h.get? C=some (excClassObj nm qn C N bs bm ig sn sub ab col dd k0 k1 k2 k3 k5 "ValueError.__new__")/\h.Ns N mN/\mN "__init__" = some (.ref f)/\OwnTail h jV bm:=by
 unfold lJ at q;split at q;next dd cd sl lk =>
  split at q;next C' bm k0 k1 k2 k3 n k5 e1 e2 =>
   simp only[Wr,beq_iff_eq,U0] at q;obtain⟨⟨⟨⟨⟨c1,c2⟩,c3⟩,c4⟩,c5⟩,c6⟩:=q;subst c1; subst c2
   have e3:sl = #[k0,k1,k2,k3,some (.builtin "ValueError.__new__"),k5]:=by
    cases sl; simp only at e2; rw[e2]
   subst e3
   cases cd;simp only at e1 c3 c4 c5 c6 lk;subst e1; subst c3
   have hN:=Heap.Ns.of_isNs (isNs_of_in X c5);exact⟨bm,_,_,_,_,_,_,_,_,_,dd,k0,k1,k2,k3,k5,_,X _ _ lk,hN,OG X hN c6,tail_of_in X c4⟩
  next=>cases q
 next=>cases q
section
variable {X:Cx} {k:Nat} {f C:Addr} {fd:WP} {ps:List Str} {sp:Sp} {x:Str} {p pos:Pos} {e:Expr} {es:List Expr} {t:TA}
theorem OH {K:W1} {h:Heap} (X:K.In h) (q:isFn K (.ref f)=true):∃ o,h.get? f=some o/\o.cls = .type "function":=by
 have z:(K.lookup f).map (·.cls)=some (.type "function"):=beq_iff_eq.mp q;obtain⟨o,lk,e⟩:=WM.mp z;exact⟨o,X _ _ lk,e⟩
theorem OI{pins:List (Addr×Obj)}{σ:St}{H:Hp}{s:W2}{Q:VK}{us:List Value}{vs:List V}(q:lJ X.K C f=true)(iW:isFn X.K (.ref f)=true)(F:eV X.prog X.w X.K X.mg X.base d_ k f fd ps sp)(hr:cG (k + 1) X.A)(hb:Binds X.K fd ps [])(hex:X.ex=[])
  (I:Inv X pins σ H s) (r:Vals vs us) (hl:us.length<=Wb)
  (h:∀ a,H a=none->X.s₀.heap.get? a=none->sp (.ref a :: vs) (upd H a (.ext (lH C a))) (λv H2=>v = .aN/\Q (.ref a) H2) E0) :
  W8 (model X.prog X.w) X.A (call (.ref C) us) (EP X pins σ Q) X.xe s:=by
 obtain⟨bm,N,nm,qn,bs,ig,sn,sub,ab,col,dd,k0,k1,k2,k3,k5,mN,hC,hN,hi,hT⟩:=EG q I.cW;obtain⟨o,hf,qO⟩:=OH I.cW iW;obtain⟨hp,g,d,tk,os⟩:=s;refine Ow PySem.F.excBase_ValueError hT hC hN hi hf qO (λh' a hm=>?_) hl;obtain⟨t0,ht,_,_⟩:=hm.there;have I1:Inv X pins σ H ⟨h',g,d,tk,os⟩:=I.kept (t':=tk) hm.keeps;have g1:=I.gone hex hm.new;have ap:=I.apart hex hm.new g1.1;have I2:Inv X pins σ (upd H a (.ext (lH C a))) ⟨h',g,d,tk,os⟩:=I1.wW ap (OB ⟨_,_,_,ht,rfl,rfl⟩);have hq:=h a g1.1 g1.2;have r2:Vals (V.ref a :: vs) (Value.ref a :: us):=.cons rfl r;have qP:(Value.ref a :: us ++ []).length=ps.length:=by
  rw[Q0,<- r2.length]; exact F.len _ _ _ _ hq
 refine wpAny_call (QV (F.run _ X.stack _ _ ⟨Value.ref a :: us,[]⟩ (Value.ref a :: us) _ _ E0 (hr.make C us []) (I2.r_.make C us []) (by have:=hb _ (Value.ref a :: us) I2.cW qP; rwa [Q0] at this) r2 hq) λrr s' qQ=>?_)
 cases rr with
 | error z=>exact qQ.elim
 | ok fl =>
  cases fl with
  | ret u =>
   obtain⟨v,H',I3,rv,ev,q3⟩:=I2.after qQ;subst ev;exact⟨rv,⟨V.ref a,H',I3,rfl,q3⟩⟩
  | next=>exact False.elim qQ
  | brk=>exact False.elim qQ
  | cont=>exact False.elim qQ
theorem OJ(q:lJ X.K C f=true)(iW:isFn X.K (.ref f)=true)(hk:keepIn X.K (.ref C)=true)(F:eV X.prog X.w X.K X.mg X.base d_ k f fd ps sp)(hr:cG (k + 1) X.A)(hb:Binds X.K fd ps [])(hex:X.ex=[])(hg:Gl X x)(hm:X.mg x=some (.ref C))
  (ha:PA X (e :: es) t) (hl:(e :: es).length<=100) (da:(x == ("__debug__" : Str))=false:=by decide) (he:W7 (e :: es) X.env=(false,eval e X.env) :: W7 es X.env:=by rfl) (bE:(WU pos (W7 es X.env)).any (·.1)=false:=by rfl) :
  PE X (.Call (.Name x p) (e :: es) [] pos) (λσ H Q=>t σ H λvs H1=>vs.length<=100/\∀ a,H1 a=none->X.s₀.heap.get? a=none->sp (.ref a :: vs) (upd H1 a (.ext (lH C a))) (λv H2=>v = .aN/\Q (.ref a) H2) E0):=by
 intro pins s σ H Q I h;refine QW (nN I hg hm ?_ da);refine callWith_K (h₀:=X.base) I.ok.mod.ma hk (aV (ha pos pins s σ H _ I h) λus s1 ⟨vs,H1,I1,r,q1⟩=>⟨I1.cW,?_⟩) he bE;exact OI q iW F hr hb hex I1 r (by rw[Q1,<- r.length,Qr]; have:=q1.1; omega) q1.2
end
def xf(K:W1)(fl:List Str):Sp:=λvs H Q _=>∃ a C ys,vs = .ref a :: ys/\ys.length=fl.length/\H a=some (.ext (lH C a))/\(∀ f ∈ fl,t6 K C f)/\∀ dx,H dx=none->dx≠a->Q .aN (upd (upd H a (.ext (iL C (some dx) a))) dx (.ext (DV.i6 (fl.zip ys) dx)))
section
variable {P:Wm} {w:Wq} {K:W1} {mg:Str->Option Value} {base:Heap} {x qual f1 f2:Str} {st:Stmt} {f:Addr} {fd:WP} {N ps:List Str} {k:Nat}
theorem OK(F:b7 K x qual st f fd)(S:cA N ps (bo st))(iJ:ps.length=2)(h0:∀ vs:List V,vs.length=2->start N vs=vs.map some)
  (eW:∀ (aL:Value) (A:Wp) (outer:List Env) (s:W2) (H:Hp) (E:XK),cG k (A.deeper (Jf qual (bo st) s.heap.objs.size f aL))->dC (fI d_ P w K mg base N qual (bo st) f aL A outer s H E).iy (fJ st) (EF K (b_ 0) (b_ 1) f1)) :
  eV P w K mg base d_ (k + 1) f fd ps (xf K [f1]):=by
 refine F.ok S (λvs H Q E ⟨a,C,ys,e,l,_⟩=>by rw[e,iJ,WD,l]; rfl) λaL A outer s H vs Q E hr ⟨a,C,ys,e,l,ea,c,q⟩=>⟨_,eW aL A outer s H E hr,?_⟩
 subst e;obtain⟨y,rfl⟩:=List.length_eq_one_iff.mp l;rw[h0 _ rfl];exact⟨y,rfl,.ref a,rfl,a,C,rfl,ea,c _ (by simp),q⟩
end
theorem bG.less:∀ {b:Addr} {o:HO},bG P w (upd H a (.ext φ)) h b o->bG P w H h b o:=by
 have dn:∀ {c:Addr} {u:HO},upd H a (.ext φ) c=some u->(∀ ψ,u≠.ext ψ)->H c=some u:=λ{c u} e n=>by
  by_cases hc:c=a
  ·subst hc; rw[cg] at e; cases e; exact absurd rfl (n φ)
  ·rw[aG hc] at e; exact e
 intro b o;induction o generalizing b with
 | dT kvs =>
  rintro ⟨h1,h2,xs,h3,h4⟩;refine⟨h1,h2,xs,L2.Paired.rK h3 (λp q ⟨e1,e2,e3⟩=>⟨e1,dn e2 (λψ z=>by cases z),e3⟩),h4⟩
 | ins C dx fs =>
  rintro ⟨h1,h2⟩;exact⟨dn h1 (λψ z=>by cases z),h2⟩
 | frz ob u ih=>exactλ⟨h1,h2⟩=>⟨h1,ih h2⟩
 | _=>exactλx=>x
theorem Inv.OL(I:Inv X pins σ (upd H a (.ext φ)) s)(hn:H a=none):Inv X pins σ H s:=by
 have dn:∀ {c:Addr} {u:HO},upd H a (.ext φ) c=some u->(∀ ψ,u≠.ext ψ)->H c=some u:=λ{c u} e n=>by
  by_cases hc:c=a
  ·subst hc; rw[cg] at e; cases e; exact absurd rfl (n φ)
  ·rw[aG hc] at e; exact e
 have no:∀ {c:Addr},upd H a (.ext φ) c=none->H c=none:=λ{c} e=>by
  by_cases hc:c=a
  ·subst hc; exact hn
  ·rw[aG hc] at e; exact e
 refine⟨I.ok,I.os,I.bare,⟨I.base.keep,I.base.slot,λb o e n hx=>no (I.base.free b o e n hx),I.base.there,λb xs e=>dn (I.base.iu b xs e) (λψ z=>by cases z),λb o u e=>dn (I.base.gQ b o u e) (λψ z=>by cases z),λb ps e=>?_⟩,I.loc,I.cell,no I.free,λx c e=>no (I.dY x c e),λp hp=>?_,λb o e=>?_,I.len⟩
 ·obtain⟨m,q⟩:=I.base.iw b ps e;exact⟨m,dn q (λψ z=>by cases z)⟩
 ·obtain⟨e,n,r⟩:=I.pin p hp;exact⟨e,no n,r⟩
 ·have hb:b≠a:=λz=>by rw[z,hn] at e; cases e
  exact(I.aw b o (by rw[aG hb]; exact e)).less
section
variable {X:Cx} {C f:Addr} {call:Expr} {te:TE} {pos:Pos}
theorem OM{W:Option Addr->St->Hp->Prop}(q:lJ X.K C f=true)(hc:X.calm=true)(he:PE X call te)
  (nZ:∀ pins σ H s a dx,Inv X pins σ (upd H a (.ext (iL C dx a))) s->H a=none->X.s₀.heap.get? a=none->W dx σ H->X.xe (.ref a) s) :
  PS X (.Raise (some call) none pos) (λ_ σ H=>te σ H λv H2=>∃ a H1 dx,v = .ref a/\H2=upd H1 a (.ext (iL C dx a))/\H1 a=none/\X.s₀.heap.get? a=none/\W dx σ H1):=by
 intro pins s σ H D I h;rw[arm_exec_Raise];refine W0 (wpAny_standAt (Ox (I.ok.hd hc) (W0 (aV (he pins s σ H _ I h) λv s1 ⟨x,H2,I2,rx,a,H1,dx,ex,eH,n1,n2,w⟩=>W0 (wpAny_standAt (W4 ?_))))));subst ex eH;obtain rfl:v=Value.ref a:=rx;obtain⟨bm,N,nm,qn,bs,ig,sn,sub,ab,col,dd,k0,k1,k2,k3,k5,mN,hC,hN,hi,hT⟩:=EG q I2.cW;obtain⟨⟨vs,sl,a0,e0,e1,e2⟩,_,_⟩:=(show bG X.prog X.w (upd H1 a (.ext (iL C dx a))) s1.heap a (.ext (iL C dx a)) from I2.aw a _ cg)
 exact⟨a,C,N,dx,vs,sl,nm,qn,bs,bm,ig,sn,sub,ab,col,dd,k0,k1,k2,k3,k5,_,rfl,hT.hasType rfl,hC,e0,e2,nZ pins σ H1 s1 a dx I2 n1 n2 w⟩
end
end L2
namespace DV
open PySem PySem.Spec PyProof.Rows L2 PySem.W
def oJ(y:Tx)(fl:List Tx)(fs:DA):DS:=λδ=>(fs δ).bind λds δ1=>if ds.length=fl.length then .exc ⟨y,.xd (fl.zip ds)⟩ δ1 else .stuck
theorem ON{c:Fc}{σ:St}{δ:Dl}{H:Hp}{dx:Addr}{vs:List V}{fl:List Tx}{ds:List D}(k:Ok c σ δ H)(n:H dx=none)(r:aA H (Av c σ δ) vs ds)(hl:ds.length=fl.length) :
  Ok c σ δ (upd H dx (.ext (i6 ((fl.map toS).zip vs) dx)))/\Rep (upd H dx (.ext (i6 ((fl.map toS).zip vs) dx))) (Av c σ δ) (.ref dx) (.xd (fl.zip ds)):=by
 have r1:=aA.cU r (aD.alloc k n (.ext (i6 ((fl.map toS).zip vs) dx)));refine⟨k.alloc n _,.xd (k.gC n) cg ?_ λi p q e1 e2=>?_⟩
 ·rw[List.map_fst_zip (by rw[Wy,r.1,hl]; omega)];have z:(fl.zip ds).map (λp=>toS p.1)=((fl.zip ds).map Prod.fst).map toS:=by rw[WB]; rfl
  rw[z,List.map_fst_zip (by omega)]
 ·rw[List.getElem?_zip_eq_some] at e1 e2;exact r1.2 i _ _ e1.2 e2.2
theorem OO{X:Cx}{c:Fc}{x:Str}{fl:List Str}{C f:Addr}{fd:WP}{ps:List Str}{k:Nat}{e:Expr}{es:List Expr}{fe:DA}{np ba pos:Pos}(y:Tx)(gl:List Tx)(q:lJ X.K C f=true)(iW:isFn X.K (.ref f)=true)(hk:keepIn X.K (.ref C)=true)(hS:∀ z ∈ fl,t6 X.K C z)
  (F:eV X.prog X.w X.K X.mg X.base d_ k f fd ps (xf X.K fl)) (hr:cG (k + 1) X.A) (hb:Binds X.K fd ps []) (hc:X.calm=true) (hg:Gl X x) (hm:X.mg x=some (.ref C)) (he:SA X c (e :: es) fe) (hx:lE X (wD X.mg c)) (hl:(e :: es).length<=100) (lK:fl=gl.map toS:=by decide +kernel) (qP:fl.length<=100:=by decide) (hy:x=toS y:=by decide +kernel) (hd:(x == ("__debug__" : Str))=false:=by decide) (hex:X.ex=[]:=by rfl)
  (hs:W7 (e :: es) X.env=(false,eval e X.env) :: W7 es X.env:=by rfl) (bE:(WU ba (W7 es X.env)).any (·.1)=false:=by rfl):SS X c (.Raise (some (.Call (.Name x np) (e :: es) [] ba)) none pos) (oJ y gl fe) :=
 PS.weak (OM (W:=λdx σ H=>wD X.mg c C dx σ H) q hc (OJ (p:=np) (pos:=ba) q iW hk F hr hb hex hg hm he.pa hl hd hs bE) λpins σ H s a dx I n1 n2 w=>by
  obtain⟨⟨vs,sl,a0,e0,e1,e2⟩,_,_⟩:=(show bG X.prog X.w (upd H a (.ext (iL C dx a))) s.heap a (.ext (iL C dx a)) from I.aw a _ cg)
  have ne:∀ {b:Addr},upd H a (.ext (iL C dx a)) b=none->a≠b:=λ{b} z e=>by rw[<- e,cg] at z; cases z
  exact hx pins σ H s a C dx (I.OL n1) (.inr ⟨⟨vs,sl,a0,e0,e1,e2⟩,n2,n1,ne I.free,λx c hc z=>ne (I.dY x c hc) z.symm,λp hp z=>ne (I.pin p hp).2.1 z.symm⟩) w) λD σ H ⟨δ,k,q⟩=>by
  unfold oJ ei at q;rw[bc] at q;refine⟨δ,k,aQ q λds δ1 q1 vs H1 a1 r1=>?_⟩;split at q1
  ·rename_i hlen;have OP:vs.length=fl.length:=by rw[r1.1,hlen,lK,Wy]
   refine⟨by omega,λa n1 n2=>⟨a,C,vs,rfl,OP,cg,hS,λdx d1 d2=>⟨rfl,a,upd H1 dx (.ext (i6 (fl.zip vs) dx)),some dx,rfl,?_,?_,n2,?_⟩⟩⟩
   ·funext b
    unfold upd;by_cases hb:b=a
    ·subst hb; simp[Ne.symm d2]
    ·simp[hb]
   ·rw[aG (Ne.symm d2)]; exact n1
   ·have OQ:H1 dx=none:=by rwa [aG d2] at d1
    obtain⟨k1,rx⟩:=ON (fl:=gl) a1.ok OQ r1 hlen;rw[lK];exact⟨⟨y,.xd (gl.zip ds)⟩,δ1,.ref dx,by rw[<- hy]; exact hm,k1,rx,λz e=>by cases e; rfl,q1⟩
  ·exact q1.elim
def xg(P:Wm)(w:Wq)(K:W1)(mg:Str->Option Value)(base:Heap)(C:Addr)(fl:List Str):Prop :=
 ∃ (f:Addr) (fd:WP) (ps:List Str),lJ K C f=true/\isFn K (.ref f)=true/\keepIn K (.ref C)=true/\(∀ z ∈ fl,t6 K C z)/\Binds K fd ps []/\eV P w K mg base d_ 1 f fd ps (xf K fl)
theorem OR{X:Cx}{c:Fc}{x:Str}{fl:List Str}{C:Addr}{e:Expr}{es:List Expr}{fe:DA}{np ba pos:Pos}(y:Tx)(gl:List Tx)(N:xg X.prog X.w X.K X.mg X.base C fl)(hr:cG 2 X.A)(hc:X.calm=true)(hg:Gl X x)(hm:X.mg x=some (.ref C))(he:SA X c (e :: es) fe)(hx:lE X (wD X.mg c))(hl:(e :: es).length<=100:=by decide)(lK:fl=gl.map toS:=by decide +kernel)(qP:fl.length<=100:=by decide)
  (hy:x=toS y:=by decide +kernel) (hd:(x == ("__debug__" : Str))=false:=by decide) (hex:X.ex=[]:=by rfl) (hs:W7 (e :: es) X.env=(false,eval e X.env) :: W7 es X.env:=by rfl) (bE:(WU ba (W7 es X.env)).any (·.1)=false:=by rfl):SS X c (.Raise (some (.Call (.Name x np) (e :: es) [] ba)) none pos) (oJ y gl fe):=by
 obtain⟨f,fd,ps,h1,h2,h3,h4,h5,h6⟩:=N;exact OO y gl h1 h2 h3 h4 h6 hr h5 hc hg hm he hx hl lK qP hy hd hex hs bE
def OT:Stmt->List Stmt
 | .ClassDef _ _ _ b _ _ _ _ _ _ _=>b
 | _=>[]
section
variable {X:Cx} {c:Fc} {e:Expr} {fb:BE}
end
end DV
namespace L2
open PySem PySem.Spec PyProof.Rows
section
variable {X:Cx} {tg:Expr}
end
end L2
namespace DV
open PySem PySem.Spec PyProof.Rows L2
section
variable {X:Cx} {c:Fc} {tg e:Expr} {fe:DE} {pos pp:Pos}
end
end DV
namespace PySem.SeqAt
open AutoSeq1 (wpAny_loadPart')
open MeetsSeq
section
variable {A:Wp} {s:W2}
end
end PySem.SeqAt
namespace DV
open PySem PySem.Spec PyProof.Rows L2
end DV
namespace PySem.SeqAt
open AutoSeq1 (wpAny_loadPart')
open MeetsSeq
end PySem.SeqAt
namespace PySem
section
variable {prog:Wm} {w:Wq} {A:Wp} {R:Result->W2->Prop} {I:Addr} {fp wr:List Addr} {n:Nat} {P:Nat->Value->Prop} {St:Nat->Heap->Prop}
end
section
variable {prog:Wm} {w:Wq} {A:Wp} {E:Value->W2->Prop} {s:W2}
end
end PySem
namespace DV
open PySem PySem.Spec PyProof.Rows L2
section
variable {X:Cx} {c:Fc} {e:Expr} {fb:BE} {pos pp:Pos}
end
def oK(fk fv:DE):DE:=λδ=>(fk δ).bind λr δ1=>(fv δ1).bind λs δ2=>match r,s with
 | .pure dk,.pure d=>match dq dk with
  | some kk=>.ok (.own (.ay [(kk,d)])) δ2
  | none=>.stuck
 | _,_=>.stuck
section
variable {c:Fc} {σ:St} {δ δ':Dl} {H H':Hp} {p:Addr}
theorem Ok.OU(k:Ok (c.plus p) σ δ H)(h0:c.H₀ p=none)(o:HO):Ok (c.plus p) σ δ (upd H p o):=by
 have tf:∀ b w,H b=some w->¬ Av (c.plus p) σ δ b->upd H p o b=some w:=λb w e n=>by
  rw[aG (λz:b=p=>n (.inl (.inr z)))]; exact e
 have ex:∀ b,(∃ w,H b=some w)->∃ w,upd H p o b=some w:=λb ⟨w,e⟩=>by
  by_cases z:b=p
  ·rw[z]; exact⟨o,cg⟩
  ·rw[aG z]; exact⟨w,e⟩
 refine⟨λa w e n=>?_,λa z=>ex a (k.bd a z),λa z=>ex a (k.cN a z),k.len,λi d e=>?_,λi d e=>?_,k.inj,k.pinned⟩
 ·rw[aG (λz:a=p=>by have e':c.H₀ a=some w:=e; rw[z,h0] at e'; cases e')];exact k.keep a w e n
 ·obtain⟨v,e1,r⟩:=k.slot i d e;exact⟨v,e1,r.keep tf⟩
 ·obtain⟨a,e1,oa,h1,h2⟩:=k.own i d e;exact⟨a,e1,oa.keep tf (λw e=>by rw[aG (λz:a=p=>h2 (.inr z))]; exact e),h1,h2⟩
theorem EH(h:post c r k)(m:∀ a δ,k a δ->k' a δ):post (c.plus p) r k':=by
 cases r with
 | ok a δ=>exact m a δ h
 | exc x δ=>exact h
 | stuck=>exact h
end
theorem OV{X:Cx}{c:Fc}{k v:Expr}{fk fv:DE}{pos:Pos}(hk:∀ c',SE X c' k fk)(hv:∀ c',SE X c' v fv):SE X c (.Dict [some k] [v] pos) (oK fk fv):=by
 have PK:PE X k (λσ H Q=>∃ c',tD c' fk σ H Q):=λpins s σ H Q I ⟨c',h⟩=>hk c' pins s σ H Q I h
 have PV:PE X v (λσ H Q=>∃ c',tD c' fv σ H Q):=λpins s σ H Q I ⟨c',h⟩=>hv c' pins s σ H Q I h
 refine PE.weak (KW (KS PK PV KR) rfl rfl (by simp) (by simp)) λσ H Q ⟨δ,kk,q⟩=>?_
 intro p hp;show ∃ c',tD c' fk σ (upd H p (.dK [])) λx H1=>∃ c',tD c' fv σ H1 λy H2=>H2 p=some (.dK [])/\∃ kvs:List (Key×V),[(x,y)]=kvs.map (λkv=>(kV kv.1,kv.2))/\kvs.length<=15/\Q (.ref p) (upd H2 p (.dK (mw [] kvs)))
 unfold oK at q;rw[bc] at q;refine⟨c.plus p,δ,kk.plus hp _,EH q λr δ1 q1 x H1 a1 rx=>?_⟩;rw[bc] at q1;refine⟨c.plus p,δ1,a1.ok,EH q1 λs δ2 q2 y H2 a2 ry=>?_⟩;have A:=a1.trans a2;have h0:=kk.kj hp;have nb:¬ c.B p:=λz=>kk.gC hp (.inl z)
 have OW:H2 p=some (.dK []):=A.keep p _ cg λz=>kk.gC hp (.inr z)
 cases r with
 | own d=>exact q2.elim
 | pure dk =>
  cases s with
  | own d=>exact q2.elim
  | pure d =>
   cases hkd:dq dk with
   | none=>simp only[hkd] at q2; exact q2.elim
   | some kd =>
    simp only[hkd] at q2;have ex:x=kV (cT kd):=qI hkd (.inl rx);refine⟨OW,[(cT kd,y)],by rw[ex]; rfl,by simp,?_⟩;have em:mw [] [(cT kd,y)]=[(cT kd,y)]:=rfl;rw[em];have EI:=A.ok.OU h0 (.dK [(cT kd,y)]);have ne:∀ {a w},H a=some w->a≠p:=λe z=>by rw[z,hp] at e; cases e
    refine q2 (.ref p) _ ⟨EI.less,λa w e n=>?_,λa z=>?_,λa w e=>?_⟩ ⟨p,rfl,⟨[(cT kd,y)],cg,rfl,λi u t e1 e2=>?_⟩,nb,h0,EI,hp⟩
    ·rw[aG (ne e)];exact A.keep a w (by rw[aG (ne e)]; exact e) n
    ·by_cases zp:a=p
     ·rw[zp]; exact .inr hp
     ·rcases A.own a z with z | z
      ·exact .inl z
      ·rw[aG zp] at z; exact .inr z
    ·obtain⟨w',e'⟩:=A.there a w (by rw[aG (ne e)]; exact e);exact⟨w',by rw[aG (ne e)]; exact e'⟩
    ·match i with
     | 0 =>
      cases e1
      cases e2;exact Rep.keep (show Rep H2 (Av (c.plus p) σ δ2) y d from ry) λb w e n=>by rw[aG (λz:b=p=>n (.inl (.inr z)))]; exact e
     | i + 1=>cases e1
end DV
namespace L2
open PySem PySem.Spec PyProof.Rows
end L2
namespace DV
open PySem PySem.Spec PyProof.Rows L2
section
variable {X:Cx} {c:Fc} {tg e:Expr} {fe:DE} {pos pp:Pos}
end
section
variable {K:W1} {h:Heap} {mg:Str->Option Value} {x q:Str} {st:Stmt} {f:Addr} {fd:WP}
abbrev dJ(K:W1)(x:Str)(st:Stmt):Prop:=∃ (f:Addr) (oc:Value) (od:Option Addr) (kV dc pm:Value) (an:Option Addr) (cd ct:Value) (sl:Array (Option Value)),
 PySem.W.nsIn K Ws x=some (some (.ref f))/\K.lookup f=some ⟨oc,od,.func (QC x x (kf st) (fJ st) (bo st) .none kV dc pm an cd ct),sl⟩/\PySem.W.codeIn K cd x=true/\QH K (.ref f)=true
theorem dW(X:K.In h)(G:h.Ns Ws mg)(d:dJ K x st):∃ f fd,b7 K x x st f fd/\mg x=some (.ref f):=by
 obtain⟨f,oc,od,kV,dc,pm,an,cd,ct,sl,a,l,c,k⟩:=d;exact⟨f,_,vj l c k,PySem.W.mg_of X G a⟩
abbrev Bd(x q:Str)(st:Stmt)(ps:List Str)(us:List Value):Prop:=∀ (kV doc pm:Value) (an:Option Addr) (aL ct:Value),bindArgs (QC x q (kf st) (fJ st) (bo st) .none kV doc pm an aL ct) ⟨us,[]⟩=pure (ps.zip us)
variable {p1 p2 p3 p4 p5 p6:Str}
theorem kE(F:b7 K x q st f fd)(h:∀ a,Bd x q st [p1] [a]):Binds K fd [p1] []:=F.binds λ_ _ _ _ _ _ us hl=>match us,hl with
 | [a],_=>h a _ _ _ _ _ _
theorem jZ(F:b7 K x q st f fd)(h:∀ a b,Bd x q st [p1,p2] [a,b]):Binds K fd [p1,p2] []:=F.binds λ_ _ _ _ _ _ us hl=>match us,hl with
 | [a,b],_=>h a b _ _ _ _ _ _
theorem qR(F:b7 K x q st f fd)(h:∀ a b c,Bd x q st [p1,p2,p3] [a,b,c]):Binds K fd [p1,p2,p3] []:=F.binds λ_ _ _ _ _ _ us hl=>match us,hl with
 | [a,b,c],_=>h a b c _ _ _ _ _ _
theorem OX(F:b7 K x q st f fd)(h:∀ a b c d,Bd x q st [p1,p2,p3,p4] [a,b,c,d]):Binds K fd [p1,p2,p3,p4] []:=F.binds λ_ _ _ _ _ _ us hl=>match us,hl with
 | [a,b,c,d],_=>h a b c d _ _ _ _ _ _
end
theorem cK{α:Type}{P:α->Prop}{a:α}(x:P a):∀ z ∈ [a],P z:=λ_ h=>by cases h with | head=>exact x | tail _ h=>cases h
end DV
namespace L2
open PySem PySem.Spec PyProof.Rows
section
variable {X:Cx} {tg:Expr}
end
section
variable {X:Cx} {e:Expr} {ta:TE} {f:Str} {pos:Pos}
structure xh(K:W1)(ce:DV.Tx->Nat)(ys:List DV.Tx)(f:Str):Prop where
 k:∀ z ∈ ys,kC K (ce z)
 no:∀ z ∈ ys,PySem.W.findIn K (.ref (ce z)) f=some none
 hd:∀ z ∈ ys,JX K (ce z)=true
theorem OY(T:xh X.K ce ys f)(he:PE X e ta)(hb:Q6 e f X.env (eval e X.env)=eval e X.env) :
  PE X (.Attribute e f pos) (λσ H Q=>ta σ H λx H1=>∃ (a dx:Addr) (z:DV.Tx) (fs:List (Str×V)) (v:V),x = .ref a/\z ∈ ys/\H1 a=some (.ext (DV.excAt (ce z) (.ref dx) a))/\H1 dx=some (.ext (DV.i6 fs dx))/\fs.lookup f=some v/\Q v H1):=by
 intro pins s σ H Q I h;refine IQ hb (aV (he pins s σ H _ I h) λu s1 ⟨x,H1,I1,rx,a,dx,z,fs,v,ex,hz,ea,ed,l,q⟩=>?_);subst ex;obtain rfl:u=Value.ref a:=rx;obtain⟨⟨⟨cls,dd,data,sl⟩,o1,o2,o3,vs,o4⟩,_,_⟩:=(show bG X.prog X.w H1 s1.heap a (.ext (DV.excAt (ce z) (.ref dx) a)) from I1.aw a _ ea)
 obtain⟨⟨mA,ns,rl⟩,_,_⟩:=(show bG X.prog X.w H1 s1.heap dx (.ext (DV.i6 fs dx)) from I1.aw dx _ ed)
 have o5:dd=some dx:=o3 dx rfl;have o6:cls = .ref (ce z):=o2;have o7:data = .fields vs:=o4;subst o5; subst o6; subst o7
 obtain⟨w,hw,aH⟩:=fH.some_of (by rw[<- l]; exact rl f);exact OA I1.cW o1 ns (T.k z hz) (T.no z hz) (T.hd z hz) hw (IM aH) ⟨v,H1,I1.tok _,aH,q⟩
end
end L2
namespace DV
open PySem PySem.Spec PyProof.Rows L2
section
variable {X:Cx} {c:Fc} {tg e:Expr} {fe:DE} {pos pp:Pos}
def oM(ce:Tx->Nat)(ys:List Tx)(f:Tx)(fb:BE):DE:=λδ=>(fb δ).bind λd δ'=>match d with
 | .exc n (.xd fs)=>match ys.find? (λz=>ce z == n),fs.lookup f with
  | some _,some d=>.ok (.pure d) δ'
  | _,_=>.stuck
 | _=>.stuck
theorem EJ:∀ {fs:List (Str×V)} {ds:List (Tx×D)} {d:D},fs.map (·.1)=ds.map (λp=>toS p.1)->(∀ (i:Nat) p q,fs[i]? = some p->ds[i]? = some q->Rep H O p.2 q.2)->ds.lookup f=some d->∃ v,fs.lookup (toS f)=some v/\Rep H O v d
 | _,[],_,_,_,h=>by simp at h
 | [],_ :: _,_,h,_,_=>by simp at h
 | p :: fs,q :: ds,d,h1,h2,h=>by
  obtain⟨n,v⟩:=p;obtain⟨g,e⟩:=q;simp only[Wo,List.cons.injEq] at h1;obtain⟨rfl,h1⟩:=h1;by_cases z:f=g
  ·subst z;simp only[WT,beq_self_eq_true,Wd] at h;subst h;exact⟨v,by simp,h2 0 _ _ rfl rfl⟩
  ·have zs:toS f≠toS g:=λw=>z (pS w)
   rw[WT,beq_eq_false_iff_ne.mpr z] at h;rw[WT,beq_eq_false_iff_ne.mpr zs];exact EJ h1 (λi p q e1 e2=>h2 (i + 1) p q (by simpa using e1) (by simpa using e2)) h
theorem EK(f:Tx)(T:xh X.K ce ys x)(he:SB X c e fb)(hx:x=toS f:=by decide +kernel)(hb:Q6 e x X.env (eval e X.env)=eval e X.env:=by rfl):SE X c (.Attribute e x pos) (oM ce ys f fb) :=
 PE.weak (OY T he hb) λσ H Q ⟨δ,k,q⟩=>by
  unfold oM at q;rw[bc] at q;refine⟨δ,k,aQ q λd δ1 q1 v H1 a1 r1=>?_⟩
  cases d <;> first | exact q1.elim | skip
  rename_i n fl
  cases fl <;> first | exact q1.elim | skip
  rename_i ds;simp only at q1;split at q1
  ·rename_i z d hz hd;have h1:=List.find?_some hz;have h2:=List.mem_of_find?_eq_some hz;have e:ce z=n:=by simpa using h1
   subst e;rcases r1 with r1 | ⟨a,_,o⟩
   ·cases r1 with
    | exc _ ha r2 =>
     cases r2 with
     | xd _ mZ h3 h4 =>
      obtain⟨v,l,rv⟩:=EJ h3 h4 hd;exact⟨_,_,z,_,v,rfl,h2,ha,mZ,by rw[hx]; exact l,q1 _ H1 a1 rv⟩
   ·exact o.elim
  ·exact q1.elim
end
end DV
namespace L2
open PySem PySem.Spec PyProof.Rows
section
variable {X:Cx}
end
end L2
namespace DV
open PySem PySem.Spec PyProof.Rows L2
end DV
namespace L2
open PySem PySem.Spec PyProof.Rows PySem.SeqAt DV
def xi(z:Str):Value->Bool
 | .str x _=>x == z
 | _=>false
theorem OZ(h:Vals xs us):∀ (j:Nat) (u:Value),us[j]? = some u->∃ v,xs[j]? = some v/\RelV v u:=by
 induction h with
 | nil=>intro j u e; simp at e
 | cons r rs ih =>
  intro j u e
  cases j with
  | zero=>simp at e; subst e; exact⟨_,rfl,r⟩
  | succ j=>simpa using ih j u (by simpa using e)
def EL(K:W1):V->List V->Hp->VK->Prop:=λx xs H Q=>∃ (a:Addr) (ts:List Tx) (z:Tx),x = .ref a/\xs=[.str (toS z)]/\bS K H a (ts.map λt=>V.str (toS t))/\z ∈ ts/\ts.length<=1000/\Q (.int (ts.idxOf z:Nat)) H
section
variable {X:Cx}
theorem O0:nR X "list.index" (EL X.K):=by
 intro pins s σ H x xs v us Q I rx rs h;obtain⟨a,ts,z,rfl,rfl,hq,hm,hl,q⟩:=h;obtain⟨u,rfl,ru⟩:=gB rs;obtain⟨tk,rfl⟩:=ru
 cases rx;obtain⟨ag,r',p,_⟩:=I.list hq;obtain⟨⟨cls,dd,data,sl⟩,ho,hc,n,hd⟩:=p.isList;simp only at hc hd;subst hc; subst hd
 have at':∀ j (hj:j < ag.length),∃ t tk,ts[j]? = some t/\ag[j] = .str (toS t) tk:=λj hj=>by
  obtain⟨v,e1,r1⟩:=OZ r' j _ (Wk hj);rw[Ww] at e1;obtain⟨t,e2,e3⟩:=WM.mp e1;subst e3;obtain⟨tk,e4⟩:=r1;exact⟨t,tk,e2,e4⟩
 have hlen:ag.length=ts.length:=by have:=r'.length; simpa using this.symm
 have hj:ts.idxOf z < ts.length:=List.idxOf_lt_length_iff.mpr hm;have EM:ts.idxOf z < ag.length:=by omega
 refine Ja Jn ⟨_,ho,rfl⟩ PySem.F.entry_list_index (PySem.F.args_list_index_2 _ _) (list_indexAt a _ n dd sl (.str (toS z) tk) (xi (toS z)) (ts.idxOf z) (by simpa using EM) (by omega) ?_ ?_) ⟨ho,λy hy=>?_,⟨.int (ts.idxOf z:Nat),H,I.tok _,⟨_,rfl⟩,q⟩⟩
 ·obtain⟨t,eC,e1,e2⟩:=at' _ EM;have e3:ts[ts.idxOf z]=z:=List.getElem_idxOf hj;rw[Wk hj,e3] at e1
  cases e1;simp only[List.getElem_toArray,e2,xi];exact beq_self_eq_true _
 ·intro m m_ bH;have EN:m < ag.length:=by simpa using m_
  obtain⟨t,eC,e1,e2⟩:=at' m EN;have dR:t≠z:=λe=>by
   subst e;have Ey:m < ts.length:=by omega
   have z2:=List.not_of_lt_findIdx (p:=(· == t)) (xs:=ts) (i:=m) bH;rw[Wk Ey] at e1
   cases e1;simp at z2
  simp only[List.getElem_toArray,e2,xi];rw[sE];exact beq_false_of_ne dR
 ·have lG:y ∈ ag:=by simpa using hy
  obtain⟨j,hjj,rfl⟩:=List.getElem_of_mem lG;obtain⟨t,eC,e1,e2⟩:=at' j hjj;rw[e2];exact EqAt.str_str _ _ _ _
end
end L2
namespace DV
open PySem PySem.Spec PyProof.Rows L2
def EO:D->Bool
 | .lst _=>true
 | _=>false
def ng(x y:D):Option S:=match x,y with
 | .lst ds,.str z=>match fz ds with
  | some ts=>if z ∈ ts/\ts.length<=1000 then some (.pure (.int (ts.idxOf z:Nat))) else none
  | none=>none
 | _,_=>none
def j0(i:Nat)(fb:DE):DE:=λδ=>match δ[i]? with
 | some (some s)=>if EO s.d then(fb δ).bind λy δ1=>match δ1[i]? with
  | some (some s)=>p2 ng s.d y.d δ1
  | _=>.stuck else .stuck
 | _=>.stuck
section
variable {X:Cx} {c:Fc} {o e:Expr} {fa fb:DE}
theorem O1{K:W1}:cX (λx y H Q=>EL K x [y] H Q) ng:=by
 intro c σ δ H x y d e s Q k rx ry hp q
 cases d with
 | lst ds =>
  cases e with
  | str z =>
   simp only[ng] at hp;split at hp
   ·rename_i ts ht;split at hp
    ·rename_i hz
     cases hp;obtain⟨a,vs,ea,ha,r⟩:=rx.lst;have ev:=n_ ht r;subst ev;exact⟨a,ts,z,ea,by rw[ry.str],.inl ha,hz.1,hz.2,q _ H (.refl k) (.int _)⟩
    ·cases hp
   ·cases hp
  | _=>simp[ng] at hp
 | _=>simp[ng] at hp
theorem O2(he:PE X o (b_ i))(hx:SE X c e fb)
  (gY:Q6 o "index" X.env (eval o X.env)=eval o X.env:=by rfl)
  (gZ:((WU ba (W7 [e] X.env)).all (λx=>!x.1) && (JL ba (Jc [] X.env)).all (λx=>x.1.isSome)
   && decide ([e].length + ([]:List Keyword).length + (if ([]:List Keyword).isEmpty then 0 else 1) < 30))=true:=by rfl)
  (dZ:(apos.endLine == ba.line)=true:=by rfl) (hs:W7 [e] X.env=(false,eval e X.env) :: W7 [] X.env:=by rfl) :
  SE X c (.Call (.Attribute o "index" apos) [e] [] ba) (j0 i fb):=by
 refine PE.weak (nU Jm Jn PySem.F.type_list_index O0 he (dt hx eU hs) gY gZ dZ hs rfl) λσ H Q h=>?_
 obtain⟨δ,k,q⟩:=h;unfold j0 at q
 cases e0:δ[i]? with
 | none=>rw[e0] at q; exact q.elim
 | some o =>
  cases o with
  | none=>rw[e0] at q; exact q.elim
  | some w =>
   rw[e0] at q;simp only at q;split at q
   case isFalse=>exact q.elim
   rename_i hL;obtain⟨v,ev⟩:=mF k e0;have rb:=qk k e0 ev;have ty:pH X.K "list" v H:=by
    cases hd:w.d <;> rw[hd] at hL <;> try cases hL
    rw[hd] at rb;obtain⟨a,vs,ea,ha,_⟩:=rb.lst;subst ea;exact .inl ⟨rfl,_,.inl ha⟩
   rw[bc] at q;refine⟨v,ev,ty,δ,k,aQ q λy δ1 q1 u H1 a1 r1=>?_⟩
   cases e:δ1[i]? with
   | none=>rw[e] at q1; exact q1.elim
   | some o =>
    cases o with
    | none=>rw[e] at q1; exact q1.elim
    | some w1 =>
     rw[e] at q1;have O3:=qk a1.ok e ev;exact vL O1 a1.ok O3 (.inl r1.rep) (aQ q1 λs δ3 q3 v' H3 a3 r3=>q3 v' H3 (a1.trans a3) (aP.back r3 a1))
end
end DV
namespace L2
open PySem PySem.Spec PyProof.Rows PySem.W DV
section
variable {α β:Type} {n:Nat}
end
section
variable {n:Nat} {p:Array Nat}
end
section
variable {prog:Wm} {w:Wq} {A:Wp} {E:Value->W2->Prop} {s:W2} {vs:List Value} {ks:List Tx}
end
section
variable {X:Cx}
end
end L2
namespace DV
open PySem PySem.Spec PyProof.Rows L2
section
variable {X:Cx} {c:Fc} {e:Expr} {fb:BE} {pp pos:Pos}
end
section
variable {X:Cx} {c:Fc} {e:Expr} {fe:DE} {fb:BE} {pos:Pos}
end
section
variable {X:Cx}
end
section
variable {X:Cx} {c:Fc} {e:Expr} {fb:BE}
end
def nz:D->Bool
 | .aN=>true
 | .int _=>true
 | _=>false
section
variable {X:Cx} {c:Fc} {e:Expr} {fe:DE}
end
section
variable {H H':Hp} {O:Addr->Prop} {v:V} {a:Addr} {us:List V}
end
section
variable {c:Fc} {σ:St} {δ δ1:Dl} {H H1:Hp} {i:Nat} {ds:List D} {g:Xc->Dl->Prop}
end
section
variable {X:Cx} {c:Fc} {e:Expr} {es:List Expr} {as:List Ak} {k n i:Nat} {x:Str} {G:DX} {pp pos:Pos}
end
section
variable {c:Fc} {σ σ':St} {δ δ':Dl} {H H':Hp} {B':Addr->Prop} {g:Xc->Dl->Prop} {i0:Nat} {a:Addr} {ds:List D}
end
end DV
namespace L2
open PySem PySem.Spec PyProof.Rows PySem.W DV
section
variable {prog:Wm} {w:Wq} {A:Wp} {E:Value->W2->Prop} {s:W2} {vs:List Value}
end
section
variable {lt:Nat->Nat->Bool} {r:Nat->Nat} {n:Nat} {α β:Type}
structure Lt(lt:Nat->Nat->Bool)(r:Nat->Nat)(n:Nat):Prop where
 lt:∀ i j,i < n->j < n->lt i j=decide (r i < r j)
 inj:∀ i j,i < n->j < n->i≠j->r i≠r j
end
end L2
namespace DV
open PySem PySem.Spec PyProof.Rows L2
section
variable {X:Cx} {c:Fc} {e:Expr} {fb:BE} {pp pos:Pos}
end
end DV
set_option maxHeartbeats 1000000
namespace SU
open PySem PyProof.Rows
def bt (w:Wq):Bool:=w.params.followText "set-order"
def iM(prog:Wm)(w:Wq)(x:Str×Tok):Int×Value:=((strKind prog w).hash x.1,.str x.1 x.2)
structure c8(prog:Wm)(w:Wq)(h:Heap)(a:Addr)(ks:List Str)(o:Obj)(es:Array (Int×Value))(ep:Nat)(t:SetTable)(xs:List (Str×Tok)):Prop where
 g:h.get? a=some o
 ex:o.ExactSet
 d:o.data = .set es ep t
 e:es.toList=xs.map (iM prog w)
 p:(xs.map (·.1)).Perm ks
 nd:ks.Nodup
 f:t.fits es.size=true
 b:es.size < JS
 l:bt w=false->t.led=true
 q:t.plain=true->ks=[]
def fB(prog:Wm)(w:Wq)(h:Heap)(a:Addr)(ks:List Str):Prop:=∃ o es ep t xs,c8 prog w h a ks o es ep t xs
def dd(σ:List Str)(v:Str):List Str:=if v ∈ σ then σ else σ ++ [v]
def fm(val:Nat->Str)(i:Nat):List Str:=((WJ i).map val).foldl dd []
theorem ER(val:Nat->Str)(i:Nat):fm val (i + 1)=dd (fm val i) (val i):=by
 unfold fm;simp[U8,List.foldl_append]
theorem O4(v:Str)(h:σ.Nodup):(dd σ v).Nodup:=by
 unfold dd;split
 ·exact h
 ·rename_i hv;exact List.nodup_append.mpr ⟨h,by simp,λx hx y hy e=>hv (by simp at hy; rw[<- hy,<- e]; exact hx)⟩
theorem O5(σ:List Str)(v:Str):(dd σ v).length<=σ.length + 1:=by
 unfold dd;split
 ·omega
 ·simp
theorem ES(val:Nat->Str):∀ i,(fm val i).length<=i
 | 0=>Wg _
 | i + 1=>by
  rw[ER];have:=ES val i;have:=O5 (fm val i) (val i);omega
section
variable {prog:Wm} {w:Wq} {A:Wp} {E:Value->W2->Prop} {s:W2}
theorem ET(h:(strKind prog w).is k v=true):∃ t,v = .str k t:=by
 cases v <;> simp[PySem.strKind,Value.isStrOf] at h
 rename_i y t;exact⟨t,by rw[h]⟩
theorem EU(xs:List (Str×Tok)):ElemsOf (strKind prog w) (xs.map (iM prog w)):=λe he=>by
 obtain⟨x,_,rfl⟩:=WV.mp he;exact⟨⟨x.1,strKind_is _ _ _ _,rfl⟩,rfl⟩
theorem EV:∀ (l:List (Int×Value)),ElemsOf (strKind prog w) l->∃ xs:List (Str×Tok),l=xs.map (iM prog w)
 | [],_=>⟨[],rfl⟩
 | e :: l,h=>by
  obtain⟨xs,e1⟩:=EV l h.tail;obtain⟨⟨k,q,r⟩,_⟩:=h.head;obtain⟨t,et⟩:=ET q;obtain⟨e0,ev⟩:=e;simp only at r et;subst r; subst et
  exact⟨(k,t) :: xs,by rw[Wo,<- e1]; rfl⟩
theorem xj{l:List (Int×Value)}{xs:List (Str×Tok)}(p:l.Perm (xs.map (iM prog w))):∃ zs:List (Str×Tok),l=zs.map (iM prog w)/\(zs.map (·.1)).Perm (xs.map (·.1)):=by
 obtain⟨zs,ez⟩:=EV l λe he=>EU xs e (p.mem_iff.mp he)
 refine⟨zs,ez,?_⟩;have q1:=p.map λe:Int×Value=>match e.2 with | .str k _=>k | _=>default
 rw[ez,WB,WB] at q1;exact q1
theorem xk(xs:List (Str×Tok))(k:Str):(∃ e ∈ xs.map (iM prog w),(strKind prog w).is k e.2=true) ↔ k ∈ xs.map (·.1):=by
 constructor
 ·rintro ⟨e,he,q⟩;obtain⟨x,hx,rfl⟩:=WV.mp he;obtain⟨t,et⟩:=ET q;have:x.1=k:=by injection et
  exact WV.mpr ⟨x,hx,this⟩
 ·intro h;obtain⟨x,hx,rfl⟩:=WV.mp h;exact⟨iM prog w x,Qo hx,strKind_is _ _ _ _⟩
section
variable {h:Heap} {a:Addr} {ks:List Str} {o:Obj} {es:Array (Int×Value)} {ep:Nat} {t:SetTable} {xs:List (Str×Tok)}
theorem c8.sz(x:c8 prog w h a ks o es ep t xs):es.size=ks.length:=by
 rw[<- x.p.length_eq,Wy,<- Qm,x.e,Wy]
theorem c8.el(x:c8 prog w h a ks o es ep t xs):ElemsOf (strKind prog w) es.toList:=by
 rw[x.e]; exact EU _
theorem c8.so(x:c8 prog w h a ks o es ep t xs):h.SetOf (strKind prog w) a (λk=>decide (k ∈ ks)) ks.length :=
 ⟨o,es,ep,t,x.g,x.ex,x.d,x.el,λk=>by rw[x.e,xk,x.p.mem_iff]; simp,x.b,x.f,x.sz⟩
theorem fB.so(x:fB prog w h a ks):h.SetOf (strKind prog w) a (λk=>decide (k ∈ ks)) ks.length:=by
 obtain⟨o,es,ep,t,xs,x⟩:=x;exact x.so
theorem fB.at'(x:fB prog w h a ks)(k:∀ o,h.get? a=some o->h'.get? a=some o):fB prog w h' a ks:=by
 obtain⟨o,es,ep,t,xs,x⟩:=x;exact⟨o,es,ep,t,xs,{ x with g:=k o x.g }⟩
end
theorem EW(ho:s.heap.get? a=some o)(hex:o.ExactSet)(hd:o.data = .set es0 ep t0)
  (he:es'.toList=xs.map (iM prog w)) (hp:(xs.map (·.1)).Perm ks) (nd:ks.Nodup) (hf:t'.fits es'.size=true) (hb:es'.size < JS) (hl:bt w=false->t'.led=true) (hq:t'.plain=true->ks=[])
  (h:∀ h',Je a s.heap h'->c8 prog w h' a ks { o with data:=.set es' (ep + 1) t' } es' (ep + 1) t' xs->Q () { s with heap:=h' }) :
  W8 (model prog w) A (storeSet a es' t') Q E s:=by
 refine wpAny_storeSet_of ho hd ?_ (fits_of_scanBound hb);have g2:=Wt (Obj.putSet es' t') ho (by rw[putSet_of _ _ hd]; rfl);rw[putSet_of _ _ hd] at g2;exact h _ (.update _ _ _) ⟨g2,hex,rfl,he,hp,nd,hf,hb,hl,hq⟩
theorem O6(t:SetTable)(es:Array (Int×Value))(h:Int)(x:Value):(layNew t es h x).2.1.led=t.led:=by
 unfold layNew;split
 ·unfold SetTable.orStandIn;simp only;split <;> rfl
 ·rfl
theorem O7(t:SetTable)(es:Array (Int×Value))(n:Nat):(relayAll t es n).2.1.led=t.led/\((relayAll t es n).2.1.plain=true->t.plain=true):=by
 unfold relayAll;split
 ·rename_i t' order e;have hl:t'.led=t.led/\t'.plain=t.plain:=by
   unfold SetTable.relaid SetTable.laid at e
   cases e1:SetTable.layClean (SetTable.sizeAbove n - 1) (es.map (·.1)) with
   | none=>rw[e1] at e; cases e
   | some ow =>
    rw[e1] at e;simp only[Option.bind_eq_bind,WE,Option.pure_def,Wd,Prod.mk.injEq] at e;rw[<- e.1];exact⟨rfl,rfl⟩
  simp only;split
  ·exact⟨hl.1,λz=>hl.2 ▸ z⟩
  ·exact⟨rfl,λz=>by cases z⟩
 ·exact⟨rfl,λz=>by cases z⟩
theorem O8(hS:fB prog w s.heap a ks)(hb:ks.length + 1 < JS)
  (h:∀ h',Je a s.heap h'->fB prog w h' a (dd ks k)->Q (!decide (k ∈ ks)) { s with heap:=h' }) :
  W8 (model prog w) A (setAddHashed a (.str k tk) ((strKind prog w).hash k)) Q E s:=by
 obtain⟨o,es,ep,t,xs,x⟩:=hS;have kk:(strKind prog w).is k (.str k tk)=true:=strKind_is _ _ _ _;have hz:=x.sz;unfold setAddHashed setAddHashedIn;refine WG (W0 (J1 x.g x.d x.f ?_));dsimp only;rw[byScan_of (knd:=strKind prog w) (x:=.str k tk) rfl x.b x.el,if_pos rfl];unfold setAddByScan;refine W0 (W0 (Jq (W0 (wpAny_setScan_of kk x.g x.d x.f x.el ?_))))
 cases hr:List.findIdx? (λe=>(strKind prog w).is k e.2) es.toList with
 | some j =>
  dsimp only;obtain⟨hj,hp,_⟩:=List.findIdx?_eq_some_iff_getElem.mp hr;have hk:k ∈ ks:=x.p.mem_iff.mp ((xk (prog:=prog) (w:=w) xs k).mp ⟨_,by rw[<- x.e]; exact QF hj,hp⟩);have e:dd ks k=ks:=by unfold dd; rw[if_pos hk]
  have:=h s.heap (.refl _ _) (by rw[e]; exact⟨o,es,ep,t,xs,x⟩);rw[decide_eq_true hk] at this;exact W4 (W4 this)
 | none =>
  dsimp only;have hk:k ∉ ks:=λhk=>by
   obtain⟨e,he,q⟩:=(xk (prog:=prog) (w:=w) xs k).mpr (x.p.mem_iff.mpr hk);have:=List.findIdx?_eq_none_iff.mp hr e (by rw[x.e]; exact he);rw[q] at this
   cases this
  have e:dd ks k=ks ++ [k]:=by unfold dd; rw[if_neg hk]
  have nd:=O4 k x.nd;rw[decide_eq_false hk] at h;rw[e] at h nd;have qS:=layNew_perm t es ((strKind prog w).hash k) (.str k tk);have t7:=layNew_fits t es ((strKind prog w).hash k) (.str k tk);have t8:=O6 t es ((strKind prog w).hash k) (.str k tk);generalize layNew t es ((strKind prog w).hash k) (.str k tk)=L at qS t7 t8 ⊢;obtain⟨es1,t1,wd,gave⟩:=L;dsimp only at qS t7 t8 ⊢;rw[Array.toList_push,x.e] at qS;have vc:es1.toList.Perm ((xs ++ [(k,tk)]).map (iM prog w)):=by rw[Jt]; exact qS
  obtain⟨zs,ez,pz⟩:=xj vc;have EX:(zs.map (·.1)).Perm (ks ++ [k]):=pz.trans (by rw[Jt]; exact x.p.append_right _);have EY:es1.size < JS:=by rw[<- Qm,qS.length_eq,WZ,Wy]; have:=x.p.length_eq; simp at this ⊢; omega
  have gw:∀ (b:Bool) (s₁:W2) (Q':Unit->W2->Prop),Q' () s₁->W8 (model prog w) A (match b with | true=>rule "set.scan.the-table-gave-way" | false=>pure ()) Q' E s₁ :=
   λb s₁ Q' hq=>by cases b <;> first | exact W4 hq | exact Jq hq
  refine W0 (gw _ _ _ ?_);have tail:∀ t2:SetTable,t2.fits es1.size=true->t2.led=t1.led->t2.plain=false->W8 (model prog w) A (do
    storeSet a es1 t2
    if (!wd && t2.tooFull)=true then do
      (match (relayAll t2 es1 (SetTable.grown es1.size)).2.2 with | true=>rule "set.scan.the-table-gave-way" | false=>pure ())
      storeSet a (relayAll t2 es1 (SetTable.grown es1.size)).1 (relayAll t2 es1 (SetTable.grown es1.size)).2.1
      pure (some true)
     else pure (some true)) (λr s'=>W8 (model prog w) A (match r with | some added=>pure added | none=>setAddHashedIn a (.str k tk) ((strKind prog w).hash k) 99999) Q E s') E s:=λt2 f2 l2 p2=>by
   refine W0 (EW x.g x.ex x.d ez EX nd f2 EY (λz=>by rw[l2,t8]; exact x.l z) (λz=>by rw[p2] at z; cases z) λh1 EZ x1=>?_);split
   ·have rp:=relayAll_perm t2 es1 (SetTable.grown es1.size);have rf:=relayAll_fits t2 es1 (SetTable.grown es1.size);obtain⟨rl,rq⟩:=O7 t2 es1 (SetTable.grown es1.size);generalize relayAll t2 es1 (SetTable.grown es1.size)=Rl at rp rf rl rq ⊢;obtain⟨es2,t3,gave2⟩:=Rl;dsimp only at rp rf rl rq ⊢;rw[ez] at rp;obtain⟨ys,ey,py⟩:=xj rp;have O9:es2.size < JS:=by rw[<- Qm,rp.length_eq,<- ez,Qm]; exact EY
    refine W0 (gw _ _ _ ?_);refine W0 (EW (s:={ s with heap:=h1 }) x1.g x1.ex x1.d ey (py.trans EX) nd rf O9 (λz=>by rw[rl,l2,t8]; exact x.l z) (λz=>by have:=rq z; rw[p2] at this; cases this) λh2 O_ x2=>?_);exact W4 (W4 (h h2 (EZ.trans O_) ⟨_,_,_,_,_,x2⟩))
   ·exact W4 (W4 (h h1 EZ ⟨_,_,_,_,_,x1⟩))
  split
  ·refine W0 ?_;rw[hashByValue_scannable 8 (x:=.str k tk) rfl];refine W4 ?_;exact tail _ (SetTable.fits_plain_off t7) rfl rfl
  ·rename_i bE;refine W0 (W4 ?_);simp only[if_true];exact tail _ t7 rfl (by simpa using bE)
end
section
variable {prog:Wm} {w:Wq} {A:Wp} {R:Result->W2->Prop} {I:Addr} {fp wr:List Addr} {G:Array GenState->Array GenState->Prop} {n:Nat} {P:Nat->Value->Prop} {St:Nat->W2->Prop}
theorem Pa(W:WalksS prog w A.in1 I fp wr G n P St)(S:Addr)(E1:S ∉ fp)(val:Nat->Str)(t9:∀ i v,P i v->∃ t,v = .str (val i) t)(hb:n + 1 < JS) :
  ∀ (k i:Nat) (s:W2),n - i=k->i<=n->St i s->fB prog w s.heap S (fm val i) ->
   (∀ s',Moved (S :: wr) G s s'->fB prog w s'.heap S (fm val n)->R (.ok (.ret .none)) s') ->
   Qa (model prog w) A (.builtin "set.update.loop" ⟨[.ref S,.ref I],[]⟩) R s:=by
 have nw:S ∉ wr:=λz=>E1 (W.sub _ z)
 have up:∀ b ∈ wr,b ∈ S :: wr:=λb z=>W9 _ z
 intro k;induction k with
 | zero =>
  intro i s e1 e2 st x fin;obtain rfl:i=n:=by omega
  refine Q2 PyProof.Rows.F.entry_set_update_loop ?_;rw[Around.under_plainId PyProof.Rows.F.plain_set_update_loop _];show W8 _ A.in1 (Qb (.ref I) >>= _) _ _ s;refine W0 (W.done s _ _ st λs' mv=>?_);show W8 _ A.in1 (ret Value.none) _ _ s';exact W4 (fin s' (mv.mono up) (x.at' λo e=>mv.heap S _ nw e))
 | succ k ih =>
  intro i s e1 e2 st x fin;have lt:i < n:=by omega
  refine Q2 PyProof.Rows.F.entry_set_update_loop ?_;rw[Around.under_plainId PyProof.Rows.F.plain_set_update_loop _];show W8 _ A.in1 (Qb (.ref I) >>= _) _ _ s;refine W0 (W.item i s _ _ lt st λv s' pv eN mv=>?_);obtain⟨t,rfl⟩:=t9 i v pv;have x':fB prog w s'.heap S (fm val i):=x.at' λo e=>mv.heap S _ nw e
  show W8 _ A.in1 (holding [Value.str (val i) t] (setAdd S (.str (val i) t)) >>= _) _ _ s';refine W0 (WG ?_);unfold setAdd;refine WG ?_;refine W0 ((strKind prog w).pyHash (k:=val i) (strKind_is _ _ _ _) ?_);refine O8 (s:={ s' with toks:=s'.toks + 1 }) x' (by have:=ES val i; omega) λh' sb y=>?_
  rw[<- ER] at y;refine W4 ⟨Qt PyProof.Rows.F.plain_set_update_loop _,ih (i + 1) _ (by omega) lt (W.frame _ s' _ _ eN (U1 _) λb z o e=>?_) y λmn Pb z=>?_⟩
  ·rw[sb.2 b (λq:b=S=>E1 (by rw[<- q]; exact z))]; exact e
  ·refine fin mn (Moved.trans W.gtrans ((mv.mono up).then_heap (U1 _) λb o z e=>?_) Pb) z;rw[sb.2 b (λq:b=S=>z (by rw[q]; exact Wf))]; exact e
end
abbrev lL (w:Wq):Obj:={ cls:=.type "set",dict:=none,data:=.set #[] 0 (.fresh 0 0 (!bt w)) }
section
variable {prog:Wm} {w:Wq} {A:Wp} {E:Value->W2->Prop} {s:W2}
theorem Pc(h:Heap):c8 prog w (h.push (lL w)) h.objs.size [] (lL w) #[] 0 (.fresh 0 0 (!bt w)) [] :=
 ⟨Wj _ rfl,⟨rfl,rfl,rfl⟩,rfl,rfl,.refl _,List.nodup_nil,rfl,by decide,λz=>by rw[z]; rfl,λ_=>rfl⟩
theorem Pd(h:Heap):fB prog w (h.push (lL w)) h.objs.size []:=⟨_,_,_,_,_,Pc h⟩
theorem Pe(a:Value)(h:Q₁ (.ref s.heap.objs.size) { s with heap:=s.heap.push (lL w) }) :
  Qa (model prog w) A (.call (.builtin "set.__new__") ⟨[.type "set",a],[]⟩) (wants Q₁ E) s:=by
 refine codeAny_of_tree ?_;show W8 _ A.in1 (do checkBuiltinCall "set.__new__" ⟨[.type "set",a],[]⟩; again (.builtin "set.__new__" ⟨[.type "set",a],[]⟩)) _ _ s;refine W0 (wpAny_of_eq (PySem.F.newCall_set_1 a) (W4 ⟨Qt PySem.F.plain_set_new _,Q2 PySem.F.entry_set_new ?_⟩));rw[Around.under_plainId PySem.F.plain_set_new _];unfold Builtin.«set.__new__» Builtin.Frozenset.newClass;have e:=sub_set_self;obtain⟨hp,g,d,tk,os⟩:=s;dsimp only;wp_walk
 refine Ji (W4 ?_);dsimp only;simp only[newObj];refine W0 (wpAny_alloc (W4 ?_));exact W4 h
theorem Pf
  (hi:W8 (model prog w) A.in1.in1 (Builtin.«set.__init__» ⟨[.ref s.heap.objs.size,v],[]⟩)
   (λfin s'=>match fin with | .done f=>wants (λr s₂=>r = .none/\Q (.ref s.heap.objs.size) s₂) E (.ok f) s' | .again c'=>c'.quiet=true/\Qa (model prog w) A.in1 c' (wants (λr s₂=>r = .none/\Q (.ref s.heap.objs.size) s₂) E) s')
   (λe s'=>wants (λr s₂=>r = .none/\Q (.ref s.heap.objs.size) s₂) E (.error e) s') { s with heap:=s.heap.push (lL w) }) :
  W8 (model prog w) A (call (.type "set") [v]) Q E s:=by
 obtain⟨c,tl,hmro⟩:=PySem.F.called_set.mro;have g1:=PySem.F.called_set.made;have g2:=PySem.F.called_set.sub;refine wpAny_call (codeAny_of_tree ?_);show W8 _ _ (callAny (.type "set") _) _ _ _;refine W4 ⟨Code.quiet_builtin _ (by decide +kernel),Q2 PySem.F.entry_type_call ?_⟩;rw[Around.under_plain (weight_type_call_type "set" [v] []) rfl];have g3:=PySem.F.called_set.notType;have g4:=PySem.F.called_set.canCreate;have g5:=PySem.F.typeCall_set_1 v;repeat (any_goals (first | assumption | wp_step))
 refine QV (Pe v (E:=E) (Q₁:=λobj s₁=>obj = .ref s.heap.objs.size/\s₁ = { s with heap:=s.heap.push (lL w) }) ⟨rfl,rfl⟩) λr s₁ x=>?_
 cases r with
 | error e=>exact x
 | ok fl =>
  cases fl with
  | ret obj =>
   obtain⟨rfl,rfl⟩:=x;have hT:Shared.TypeIs { s with heap:=s.heap.push (lL w) } (.ref s.heap.objs.size) "set":=⟨_,Wj _ rfl,rfl⟩
   have g6:=PySem.F.called_set.init.lookup;have g7:=PySem.F.called_set.init.bind (.ref s.heap.objs.size);repeat (any_goals (first | assumption | wp_step))
   refine QV (Jb (R:=wants (λr s₂=>r = .none/\Q (.ref s.heap.objs.size) s₂) E) PySem.F.called_set.init.plain PySem.F.entry_set_init (check_set_init_1 hT hi)) λr₂ s₂ y=>?_
   cases r₂ with
   | error e=>exact y
   | ok f2 =>
    cases f2 with
    | ret r =>
     obtain⟨rfl,q⟩:=y;repeat (any_goals (first | assumption | wp_step))
    | _=>exact y.elim
  | _=>exact x.elim
end
section
variable {mask:Nat} {owner:Array (Option Nat)}
end
section
variable {prog:Wm} {w:Wq} {A:Wp} {E:Value->W2->Prop} {s:W2}
theorem xl{α:Type}:∀ (l:List α) (i:Nat) (h:i < l.length),l.Perm (l[i] :: l.eraseIdx i)
 | [],i,h=>by simp at h
 | x :: l,0,h=>.refl _
 | x :: l,i + 1,h=>by
  have:=xl l i (by simpa using h);exact(this.cons x).trans (.swap _ _ _)
theorem E3{α:Type}(next:Nat->Nat)(xs:Array α):(pickOrder next xs).toList.Perm xs.toList:=by
 have go:∀ (f k:Nat) (left:List α) (out:Array α),left.length=f->(pickOrder.go next f k left out).toList.Perm (out.toList ++ left):=by
  intro f;induction f with
  | zero =>
   intro k left out h;rw[QR h];unfold pickOrder.go;simp
  | succ f ih =>
   intro k left out h;unfold pickOrder.go;have hi:next k % left.length < left.length:=Nat.mod_lt _ (by omega);rw[Wk hi];simp only;refine(ih _ _ _ (by rw[List.length_eraseIdx_of_lt hi]; omega)).trans ?_;rw[Array.toList_push,List.append_assoc];exact List.Perm.append_left _ (xl _ _ hi).symm
 have:=go xs.size 0 xs.toList #[] (by simp);simpa[pickOrder] using this
end
section
variable {prog:Wm} {w:Wq} {A:Wp} {E:Value->W2->Prop} {s:W2}
end
theorem Pg:entryFor table "set.__iter__" = some Builtin.«frozenset.__iter__» :=
 entryFor_alias (id':="frozenset.__iter__") (by kernel_rfl) rfl (by decide +kernel) (by kernel_rfl)
theorem slot_next:Slot "set_iterator" "__next__" "set_iterator.__next__" :=
 .of (owner:="set_iterator") (n:="__next__") (by rw[Jr,QI]; kernel_rfl) (by decide +kernel) (by decide +kernel) (by decide +kernel)
  (by first | exact .inl (by decide +kernel) | exact .inr (by decide +kernel)) (by rw[isSubtype_type]; kernel_rfl)
theorem t_:entryFor table "set_iterator.__next__" = some Builtin.«set_iterator.__next__»:=entryFor_of_tree (by kernel_rfl)
theorem ua (a:Value):argsOk "set_iterator.__next__" ⟨[a],[]⟩:=by
 unfold argsOk; rw[signature?_of (id:="set_iterator.__next__") (n:="__txen__".toList) (o:="rotareti_tes".toList) (by kernel_rfl) (show Manifest.owners.lookup (String.ofList "rotareti_tes".toList.reverse)=some Manifest.sig_set_iterator by kernel_rfl)]; kernel_rfl
theorem Ph:JT (.type "set") "__len__" = pure (some (.builtin "set.__len__")):=by rw[Jr,QI]; kernel_rfl
abbrev cJ (f:Value) (i:Nat) (a:Addr) (n ep:Nat):Obj:={ cls:=.type "set_iterator",data:=.fields #[f,.int i 0,.ref a,.int n 0,.int ep 0] }
section
variable {prog:Wm} {w:Wq} {A:Wp} {E:Value->W2->Prop} {s:W2}
theorem Pj(h0:n≠0)(h:∀ i d,i < n->Q i { s with drawn:=d }):W8 (model prog w) A (choose src n) Q E s:=λΓ p hΓ=>by
 show Sem.wp _ Γ (.choose src n .pure) _ _ p s;rw[Sem.wp_choose];refine⟨h0,?_⟩;exact h _ _ (Nat.mod_lt _ (by omega))
theorem E4:∀ (n:Nat) (l:List α) (s:W2) (Q:List α->W2->Prop),l.length=n->(∀ l' d,l'.Perm l->Q l' { s with drawn:=d })->W8 (model prog w) A (drawOrder n l) Q E s
 | 0,l,s,Q,hn,h=>by
  rw[QR hn] at h;exact W4 (h [] s.drawn (.refl _))
 | n + 1,l,s,Q,hn,h=>by
  have e:drawOrder (n + 1) l=(do
    let i <- choose .order l.length
    match l[i]? with
    | some x=>return x :: (<- drawOrder n (l.eraseIdx i))
    | none=>unsupported "internal:drawOrder"):=by
   cases l with
   | nil=>simp at hn
   | cons=>rfl
  rw[e];refine W0 (Pj (by omega) λi d hi=>?_);rw[Wk hi];refine W0 (E4 n (l.eraseIdx i) _ _ (by rw[List.length_eraseIdx_of_lt hi]; omega) λl' d' pl=>?_);exact W4 (h _ d' ((pl.cons _).trans (xl l i hi).symm))
section
variable {a it:Addr} {ks:List Str} {o:Obj} {es:Array (Int×Value)} {ep:Nat} {t:SetTable} {xs:List (Str×Tok)} {i:Nat}
theorem E5{sl nx:Nat}{v:Value}{Q:Option Value->W2->Prop}(x:c8 prog w s.heap a ks o es ep t xs)(hi:s.heap.get? it=some (cJ (.int sl 0) i a es.size ep))
  (hn:∀ E':Value->W2->Prop,W8 (model prog w) A.in1 (setNext a sl i ep) (λr s'=>r=some (v,nx)/\s'=s) E' s)
  (h:∀ h',Je it s.heap h'->h'.get? it=some (cJ (.int nx 0) (i + 1) a es.size ep)->Q (some v) { s with heap:=h' }):W8 (model prog w) A (Qb (.ref it)) Q E s:=by
 have hT:s.TypeIs (.ref it) "set_iterator":=⟨_,hi,rfl⟩
 unfold Qb;refine W0 (Jo (Q5 (name:=Str.ofString "__next__") hT slot_next (Q9 slot_next hT t_ ?_ (ua _))));unfold Builtin.«set_iterator.__next__»;refine W0 (m:=slotArgs "__next__" 0 _) (W4 ?_);refine W0 (wpAny_fieldsOf hi rfl ?_);dsimp only;refine W0 (Jk x.g x.d x.f ?_);rw[if_neg (by simp)];simp only[Qe];refine W0 (WC (hn _) (λr s' ⟨e1,e2⟩=>?_) λ_ _ e=>e);subst e1; subst e2
 dsimp only;refine W0 (QT hi rfl (by simp) ?_);have g1:=Wt (Obj.mapFields (·.setIfInBounds 0 (Q4 (nx:Int)))) hi (by rfl);refine W0 (QT (s:={ s' with heap:=_ }) g1 rfl (by simp) ?_);have g2:=Wt (Obj.mapFields (·.setIfInBounds 1 (Q4 ((i:Int) + 1)))) g1 (by rfl);refine W4 ⟨_,rfl,W4 (h _ ((JF ..).trans (JF ..)) ?_)⟩;rw[g2];rfl
theorem E6{Q:Option Value->W2->Prop}{f:Value}{n' j:Nat}{v:Value}(hh:A.handled=none)(hi:s.heap.get? it=some (cJ f i a n' ep))(hj:j < 5)
  (h:∀ h',Heap.ExtBut it s.heap h'->Q none { s with heap:=h' }) :
  W8 (model prog w) A.in1 (do
   setField (.ref it) j v
   raiseNew (<- newExc (.type "StopIteration") [])) (λ(_:PySem.Fin) _=>False) (λe s'=>W8 (model prog w) A (do
    if <- isInstance e (.type "StopIteration") then pure none else throw e) Q E s') s:=by
 refine W0 (QT hi rfl (by simpa using hj) ?_);refine W0 ?_;simp only[newExc,newTuple];refine W0 (WX ?_ (by size_fits));refine W0 (m:=firstArgMember _ _) (wpAny_of_eq (a:=Value.none) (by first | rfl | (simp only[firstArgMember]; rfl)) ?_);refine WX ?_ (by size_fits);simp only[raiseNew];refine W0 (wpAny_handled ?_);rw[show A.in1.handled=none from hh];refine W0 (W4 (wpAny_throw ?_));refine W0 (wpAny_isInstance (T:="StopIteration") (b:=true) ⟨_,Wj _ rfl,rfl⟩ isSubtype_stop ?_);exact W4 (h _ (((JF ..).extBut.push _).push _))
end
end
section
variable {prog:Wm} {w:Wq} {A:Wp} {E:Value->W2->Prop} {s:W2}
variable {a it:Addr} {ks:List Str} {o:Obj} {es:Array (Int×Value)} {ep:Nat} {t:SetTable} {xs:List (Str×Tok)} {i:Nat}
theorem xm{sl:Nat}{Q:Option Value->W2->Prop}(hh:A.handled=none)(x:c8 prog w s.heap a ks o es ep t xs)(hi:s.heap.get? it=some (cJ (.int sl 0) i a es.size ep))
  (hn:∀ E':Value->W2->Prop,W8 (model prog w) A.in1 (setNext a sl i ep) (λr s'=>r=none/\s'=s) E' s)
  (h:∀ h',Heap.ExtBut it s.heap h'->Q none { s with heap:=h' }):W8 (model prog w) A (Qb (.ref it)) Q E s:=by
 have hT:s.TypeIs (.ref it) "set_iterator":=⟨_,hi,rfl⟩
 unfold Qb;refine W0 (Jo (Q5 (name:=Str.ofString "__next__") hT slot_next (Q9 slot_next hT t_ ?_ (ua _))));unfold Builtin.«set_iterator.__next__»;refine W0 (m:=slotArgs "__next__" 0 _) (W4 ?_);refine W0 (wpAny_fieldsOf hi rfl ?_);dsimp only;refine W0 (Jk x.g x.d x.f ?_);rw[if_neg (by simp)];simp only[Qe];refine W0 (WC (hn _) (λr s' ⟨e1,e2⟩=>?_) λ_ _ e=>e);subst e1; subst e2
 dsimp only;exact WC (E6 hh hi (by decide) h) (λ_ _ e=>e.elim) λ_ _ e=>e
theorem Pk{T:Addr}{ps:List Nat}{oT:Obj}{nT p:Nat}{hv:Int}{v:Value}{Q:Option Value->W2->Prop}(x:c8 prog w s.heap a ks o es ep t xs)(hi:s.heap.get? it=some (cJ (.ref T) i a es.size ep))
  (gT:s.heap.get? T=some oT) (dT:oT.data = .seq (ps.map λj:Nat=>Q4 j).toArray nT) (hp:ps[i]? = some p) (Pl:es[p]? = some (hv,v))
  (h:∀ h',Je it s.heap h'->h'.get? it=some (cJ (.ref T) (i + 1) a es.size ep)->Q (some v) { s with heap:=h' }):W8 (model prog w) A (Qb (.ref it)) Q E s:=by
 have hT:s.TypeIs (.ref it) "set_iterator":=⟨_,hi,rfl⟩
 unfold Qb;refine W0 (Jo (Q5 (name:=Str.ofString "__next__") hT slot_next (Q9 slot_next hT t_ ?_ (ua _))));unfold Builtin.«set_iterator.__next__»;refine W0 (m:=slotArgs "__next__" 0 _) (W4 ?_);refine W0 (wpAny_fieldsOf hi rfl ?_);dsimp only;refine W0 (Jk x.g x.d x.f ?_);rw[if_neg (by simp)];refine W0 (JU gT dT ?_);dsimp only;have e1:(ps.map λj:Nat=>Q4 j).toArray[i]? = some (.int (p:Int) 0):=by simp[hp,Q4]
 rw[Qe,e1];dsimp only;refine W0 ?_;unfold setNextDrawn;refine W0 (J1 x.g x.d x.f ?_);simp only[Qe,bne_self_eq_false,Qh,if_false];rw[Pl];refine W4 ?_;refine W0 (QT hi rfl (by simp) ?_);have g2:=Wt (Obj.mapFields (·.setIfInBounds 1 (Q4 ((i:Int) + 1)))) hi (by rfl);refine W4 ⟨_,rfl,W4 (h _ (JF ..) ?_)⟩;rw[g2];rfl
theorem Pm{T:Addr}{ps:List Nat}{oT:Obj}{nT:Nat}{Q:Option Value->W2->Prop}(hh:A.handled=none)(x:c8 prog w s.heap a ks o es ep t xs)(hi:s.heap.get? it=some (cJ (.ref T) i a es.size ep))
  (gT:s.heap.get? T=some oT) (dT:oT.data = .seq (ps.map λj:Nat=>Q4 j).toArray nT) (hp:ps[i]? = none)
  (h:∀ h',Heap.ExtBut it s.heap h'->Q none { s with heap:=h' }):W8 (model prog w) A (Qb (.ref it)) Q E s:=by
 have hT:s.TypeIs (.ref it) "set_iterator":=⟨_,hi,rfl⟩
 unfold Qb;refine W0 (Jo (Q5 (name:=Str.ofString "__next__") hT slot_next (Q9 slot_next hT t_ ?_ (ua _))));unfold Builtin.«set_iterator.__next__»;refine W0 (m:=slotArgs "__next__" 0 _) (W4 ?_);refine W0 (wpAny_fieldsOf hi rfl ?_);dsimp only;refine W0 (Jk x.g x.d x.f ?_);rw[if_neg (by simp)];refine W0 (JU gT dT ?_);dsimp only;have e1:(ps.map λj:Nat=>Q4 j).toArray[i]? = none:=by simpa using hp
 rw[Qe,e1];dsimp only;refine W0 (QT hi rfl (by simp) ?_);have g1:(s.heap.update it (Obj.mapFields (·.setIfInBounds 0 (Q4 0)))).get? it=some (cJ (Q4 0) i a es.size ep):=by
  rw[Wt (Obj.mapFields (·.setIfInBounds 0 (Q4 0))) hi (by rfl)];rfl
 refine WC (E6 (s:={ s with heap:=s.heap.update it (Obj.mapFields (·.setIfInBounds 0 (Q4 0))) }) (j:=2) hh g1 (by decide) λh' eb=>h h' λb ob hb e=>?_) (λ_ _ e=>e.elim) λ_ _ e=>e
 exact eb b ob hb ((Wu _ _ (Ne.symm hb)).trans e)
theorem E7(hb:bt w=true)(x:c8 prog w s.heap a ks o es ep t xs)(E':Value->W2->Prop) :
  W8 (model prog w) A (setNext a 0 i ep) (λr s'=>r=((pickOrder (w.params.setOrder a ep) es)[i]?).map (λe=>(e.2,0))/\s'=s) E' s:=by
 unfold setNext setsByText;refine W0 (J1 x.g x.d x.f ?_);dsimp only;refine W0 (W0 (Ji (W4 ?_)));have fg:Params.followText w.params "set-order" = true:=hb;show W8 _ _ (if Params.followText w.params "set-order" = true then _ else _) _ _ _;rw[if_pos fg];simp only[bne_self_eq_false,Qh,if_false];refine W0 ?_;unfold setWalk setsByText;refine W0 (J1 x.g x.d x.f ?_);dsimp only;refine W0 (W0 (Ji (W4 ?_)));show W8 _ _ (if Params.followText w.params "set-order" = true then _ else _) _ _ _;rw[if_pos fg];refine W0 (Ji ?_);exact W4 (W4 ⟨rfl,rfl⟩)
theorem xn(hb:bt w=false)(x:c8 prog w s.heap a ks o es ep t xs)(h1:es.size<=1)(sl:Nat)(E':Value->W2->Prop) :
  W8 (model prog w) A (setNext a sl i ep) (λr s'=>r=(match es[SetTable.below t.place sl]?,t.place[SetTable.below t.place sl]? with | some (_,v),some j=>some (v,j + 1) | _,_=>none)/\s'=s) E' s:=by
 unfold setNext setsByText;refine W0 (J1 x.g x.d x.f ?_);dsimp only;refine W0 (W0 (Ji (W4 ?_)));have fg:¬ Params.followText w.params "set-order" = true:=by rw[show Params.followText w.params "set-order" = false from hb]; decide
 show W8 _ _ (if Params.followText w.params "set-order" = true then _ else _) _ _ _;rw[if_neg fg];show W8 _ _ (if (!t.plain && decide (es.size > 1))=true then _ else _) _ _ _;rw[if_neg (by simp; omega)];refine W0 ?_;show W8 _ _ (if (!t.led && !es.isEmpty)=true then _ else _) _ _ _;rw[if_neg (by rw[x.l hb]; simp)];exact W4 (W4 ⟨rfl,rfl⟩)
theorem ub{St:Nat->Heap->Prop}{n:Nat}{val:Nat->Value}{S:Addr}{res:Value}{R:Result->W2->Prop}(dR:S≠it)(hn:n<=1000)
  (fr:∀ i h h',St i h->(∀ b ob,b≠S->h.get? b=some ob->h'.get? b=some ob)->St i h')
  (item:∀ (i:Nat) (s:W2) (Q:Option Value->W2->Prop) (E:Value->W2->Prop),i < n->St i s.heap->(∀ h',(∀ b ob,b≠it->s.heap.get? b=some ob->h'.get? b=some ob)->St (i + 1) h'->Q (some (val i)) { s with heap:=h' })->W8 (model prog w) A.in1 (Qb (.ref it)) Q E s)
  (done:∀ (s:W2) (Q:Option Value->W2->Prop) (E:Value->W2->Prop),St n s.heap->(∀ h',(∀ b ob,b≠it->s.heap.get? b=some ob->h'.get? b=some ob)->Q none { s with heap:=h' })->W8 (model prog w) A.in1 (Qb (.ref it)) Q E s) :
  ∀ (k i:Nat) (s:W2) (acc:Array Value) (c:Nat),n - i=k->i<=n->St i s.heap->s.heap.get? S=some { cls:=.type "list",data:=.seq acc c }->acc.toList=(WJ i).map val ->
   (∀ h' fD c',(∀ b ob,b≠S->b≠it->s.heap.get? b=some ob->h'.get? b=some ob)->h'.get? S=some { cls:=.type "list",data:=.seq fD c' }->fD.toList=(WJ n).map val->R (.ok (.ret res)) { s with heap:=h' }) ->
   Qa (model prog w) A (.builtin "list.extend.loop" ⟨[.ref S,.ref it,res],[]⟩) R s:=by
 intro k;induction k with
 | zero =>
  intro i s acc c e1 e2 st g ea fin;obtain rfl:i=n:=by omega
  refine Q2 PySem.F.entry_extend_loop ?_;rw[Around.under_plainId QK _];show W8 _ A.in1 (Qb (.ref it) >>= _) _ _ _;refine W0 (done s _ _ st λh' kp=>?_);exact W4 (fin h' acc c (λb ob _ hb e=>kp b ob hb e) (kp S _ dR g) ea)
 | succ k ih =>
  intro i s acc c e1 e2 st g ea fin;refine Q2 PySem.F.entry_extend_loop ?_;rw[Around.under_plainId QK _];show W8 _ A.in1 (Qb (.ref it) >>= _) _ _ _;refine W0 (item i s _ _ (by omega) st λh' kp eN=>?_);have g':=kp S _ dR g;have za:acc.size=i:=by rw[<- Qm,ea]; simp
  show W8 _ A.in1 (Jy S (·.push (val i)) >>= _) _ _ _;refine W0 (QB (hz:=by rw[za,Qr]; omega) g' rfl ?_);have g2:=Wt (Obj.mapSeq (·.push (val i))) g' rfl;refine W4 ⟨Qt QK _,ih (i + 1) _ (acc.push (val i)) _ (by omega) (by omega) (fr _ _ _ eN λb ob hb e=>(Wu _ _ (Ne.symm hb)).trans e) g2 (by rw[Array.toList_push,ea,U8,Jt]; rfl) λh2 fD c' we g3 ck=>?_⟩;exact fin h2 fD c' (λb ob hb hi e=>we b ob hb hi ((Wu _ _ (Ne.symm hb)).trans (kp b ob hi e))) g3 ck
end
section
variable {prog:Wm} {w:Wq} {A:Wp} {E:Value->W2->Prop} {s:W2}
variable {a it:Addr} {ks:List Str} {o:Obj} {es:Array (Int×Value)} {ep:Nat} {t:SetTable} {xs:List (Str×Tok)} {i:Nat}
abbrev fE (ps:List Nat):Obj:={ cls:=.type "tuple",data:=.seq (ps.map λj:Nat=>Q4 j).toArray }
theorem Pn(x:c8 prog w s.heap a ks o es ep t xs)(hz:es.size<=1000)
  (hI:(bt w=true\/es.size<=1)->Q (.ref s.heap.objs.size) { s with heap:=s.heap.push (cJ (.int 0 0) 0 a es.size ep) })
  (hD:∀ ps d,ps.Perm (WJ es.size)->Q (.ref (s.heap.push (fE ps)).objs.size) { s with heap:=(s.heap.push (fE ps)).push (cJ (.ref s.heap.objs.size) 0 a es.size ep),drawn:=d }):W8 (model prog w) A (pyIter (.ref a)) Q E s:=by
 refine wpAny_pyIter_slot x.so.typeIs PySem.F.slot_set_iter (Q9 PySem.F.slot_set_iter x.so.typeIs Pg ?_ (PySem.F.args_set_iter_1 _));unfold Builtin.«frozenset.__iter__»;refine W0 (m:=Builtin.Frozenset.slot0 "__iter__" _) (W4 ?_);unfold Builtin.Frozenset.sizeOf;refine W0 (W0 (Jk x.g x.d x.f (W4 ?_)));unfold setDrawn setsByText;refine W0 (W0 (J1 x.g x.d x.f ?_));dsimp only;refine W0 (W0 (Ji (W4 ?_)));refine W4 ?_;show W8 _ _ (if (!bt w && (!t.plain && decide (es.size > 1)))=true then _ else _) _ _ _;by_cases hc:(!bt w && (!t.plain && decide (es.size > 1)))=true
 ·rw[if_pos hc];refine W0 (E4 es.size (WJ es.size) s _ (by simp) λps d pp=>?_);have hl:ps.length=es.size:=by rw[pp.length_eq,JZ]
  unfold newTuple;refine W0 (WX ?_ (by show(ps.map λj:Nat=>Q4 j).toArray.size<=Wb; rw[Wn,Wy,hl,Qr]; omega));have x1:c8 prog w (s.heap.push (fE ps)) a ks o es ep t xs:={ x with g:=W5 _ x.g }
  refine W0 (wpAny_setEpoch_of (s:={ s with heap:=s.heap.push (fE ps),drawn:=d }) x1.g x1.d x1.f ?_);refine W0 (WX (W4 ⟨_,rfl,"set_iterator",_,⟨_,Wj _ rfl,rfl⟩,slot_next.lookup,?_⟩));exact hD ps d pp
 ·rw[if_neg hc];refine W0 (W4 ?_);refine W0 (wpAny_setEpoch_of x.g x.d x.f ?_);refine W0 (WX (W4 ⟨_,rfl,"set_iterator",_,⟨_,Wj _ rfl,rfl⟩,slot_next.lookup,?_⟩));refine hI ?_
  cases hb:bt w with
  | true=>exact .inl rfl
  | false =>
   right
   rw[hb] at hc;refine Nat.le_of_not_lt λPo=>hc ?_
   have hp:t.plain=false:=by
    cases e:t.plain with
    | false=>rfl
    | true =>
     have hs:es.size=0:=by rw[x.sz,x.q e]; rfl
     omega
   rw[hp];simpa using Po
theorem E8(x:fB prog w s.heap a ks)(h:Q false s):W8 (model prog w) A (Builtin.List.listLengthHint (.ref a)) Q E s:=by
 have hT:=x.so.typeIs;unfold Builtin.List.listLengthHint;refine W0 (wpAny_specialOf hT Ph ?_);generalize hid:("set.__len__" : String)=id0;wp_delta
 rw[show splitId id0=some ("set","__len__") from by subst hid; decide +kernel];subst hid;refine W0 (wpAny_isInstance (T:="set") (b:=true) hT (by rw[isSubtype_type]; kernel_rfl) ?_);refine JJ (λmE=>absurd mE (by decide)) (λ_=>?_);refine JJ (λ_=>?_) (λmE=>absurd (by decide +kernel) mE);refine W0 (QN hT ?_);exact W4 h
theorem Pp(hh:A.handled=none)(x:c8 prog w s.heap a ks o es ep t xs)(hz:es.size<=1000)(hS:S≠it)(kF:S≠a)(uc:a≠it)(hc:bt w=true\/es.size<=1)
  (hi:s.heap.get? it=some (cJ (.int 0 0) 0 a es.size ep)) (gS:s.heap.get? S=some { cls:=.type "list",data:=.seq #[] c })
  (fin:∀ h' fD c' (zs:List (Str×Tok)),(∀ b ob,b≠S->b≠it->s.heap.get? b=some ob->h'.get? b=some ob)->h'.get? S=some { cls:=.type "list",data:=.seq fD c' }->fD.toList=zs.map (λz=>Value.str z.1 z.2)->(zs.map (·.1)).Perm ks->R (.ok (.ret res)) { s with heap:=h' }) :
  Qa (model prog w) A (.builtin "list.extend.loop" ⟨[.ref S,.ref it,res],[]⟩) R s:=by
 have fr:∀ (F:Nat->Value) (i:Nat) (h h':Heap),(h.get? it=some (cJ (F i) i a es.size ep)/\c8 prog w h a ks o es ep t xs)->(∀ b ob,b≠S->h.get? b=some ob->h'.get? b=some ob)->(h'.get? it=some (cJ (F i) i a es.size ep)/\c8 prog w h' a ks o es ep t xs) :=
  λF i h h' ⟨q1,q2⟩ k=>⟨k _ _ (Ne.symm hS) q1,{ q2 with g:=k _ _ (Ne.symm kF) q2.g }⟩
 cases hb:bt w with
 | true =>
  have pp:=E3 (w.params.setOrder a ep) es;rw[x.e] at pp;obtain⟨zs,ez,pz⟩:=xj pp;have hl:zs.length=es.size:=by
   have:=congrArg Jv ez;have q:=(E3 (w.params.setOrder a ep) es).length_eq;simp at this q;omega
  have gt:∀ i,(pickOrder (w.params.setOrder a ep) es)[i]? = (zs[i]?).map (iM prog w):=λi=>by
   rw[<- Array.getElem?_toList,ez,Ww]
  refine ub (it:=it) (St:=λi h=>h.get? it=some (cJ (.int 0 0) i a es.size ep)/\c8 prog w h a ks o es ep t xs) (n:=es.size) (val:=λi=>((zs[i]?).map λz=>Value.str z.1 z.2).getD .none) hS hz (fr λ_=>.int 0 0) ?item ?done es.size 0 s #[] c (by omega) (Qs _) ⟨hi,x⟩ gS rfl ?fin
  case item =>
   rintro i s Q E' bH ⟨q1,q2⟩ k;have dD:i < zs.length:=by omega
   refine E5 (A:=A.in1) (sl:=0) (nx:=0) (v:=Value.str zs[i].1 zs[i].2) q2 q1 (λE2=>WC (E7 (i:=i) hb q2 E2) (λr s' ⟨e1,e2⟩=>⟨by rw[e1,gt i,Wk dD]; rfl,e2⟩) λ_ _ e=>e) λh' sb g=>?_
   have:((zs[i]?).map λz=>Value.str z.1 z.2).getD .none=Value.str zs[i].1 zs[i].2:=by rw[Wk dD]; rfl
   rw[<- this];exact k h' (λb ob fg e=>(sb.2 b fg).trans e) ⟨g,{ q2 with g:=(sb.2 a uc).trans q2.g }⟩
  case done =>
   rintro s Q E' ⟨q1,q2⟩ k;refine xm (A:=A.in1) (sl:=0) hh q2 q1 (λE2=>WC (E7 hb q2 E2) (λr s' ⟨e1,e2⟩=>⟨by rw[e1,gt,WQ (by omega)]; rfl,e2⟩) λ_ _ e=>e) λh' eb=>k h' λb ob fg e=>eb b ob fg e
  case fin =>
   intro h' fD c' k g ea;refine fin h' fD c' zs k g ?_ (pz.trans x.p);rw[ea,<- hl];refine List.ext_getElem (by simp) λi h1 h2=>?_
   simp at h1 h2;simp[h2]
 | false =>
  have h1:es.size<=1:=hc.resolve_left (by rw[hb]; decide);have iJ:t.place.size=es.size:=by
   have:=x.f;unfold SetTable.fits at this;simp at this;exact this.1
  have xo:xs.length=es.size:=by
   have:=congrArg Jv x.e;simp at this;omega
  by_cases h0:es.size=0
  ·refine ub (it:=it) (St:=λi h=>h.get? it=some (cJ (.int 0 0) i a es.size ep)/\c8 prog w h a ks o es ep t xs) (n:=0) (val:=λi=>.none) hS (by decide) (fr λ_=>.int 0 0) (λi s Q E' bH=>by omega) ?done 0 0 s #[] c rfl (Wg _) ⟨hi,x⟩ gS rfl ?fin
   case done =>
    rintro s Q E' ⟨q1,q2⟩ k;refine xm (A:=A.in1) (sl:=0) hh q2 q1 (λE2=>WC (xn hb q2 h1 0 E2) (λr s' ⟨e1,e2⟩=>⟨by
     rw[e1,Array.getElem?_eq_none (by omega)],e2⟩) λ_ _ e=>e) λh' eb=>k h' λb ob fg e=>eb b ob fg e
   case fin =>
    intro h' fD c' k g ea;have:xs=[]:=QR (by omega);refine fin h' fD c' xs k g ?_ x.p;rw[ea,this]; rfl
  ·have Vu:es.size=1:=by omega
   obtain⟨z,ez⟩:∃ z,xs=[z]:=by
    match xs,xo with
    | [z],_=>exact⟨z,rfl⟩
    | [],h=>simp at h; omega
    | _ :: _ :: _,h=>simp at h; omega
   obtain⟨j,ej⟩:∃ j,t.place = #[j]:=by
    have:t.place.toList.length=1:=by simp; omega
    match hp:t.place.toList,this with
    | [j],_=>exact⟨j,by rw[<- Array.toArray_toList (xs:=t.place),hp]⟩
   have e0:es[0]? = some (iM prog w z):=by rw[<- Array.getElem?_toList,x.e,ez]; rfl
   have b0:SetTable.below t.place 0=0:=by rw[ej]; simp[SetTable.below,SetTable.below.go]
   have b1:SetTable.below t.place (j + 1)=1:=by rw[ej]; simp[SetTable.below,SetTable.below.go]
   refine ub (it:=it) (St:=λi h=>h.get? it=some (cJ (.int ((if i=0 then 0 else j + 1:Nat):Int) 0) i a es.size ep)/\c8 prog w h a ks o es ep t xs) (n:=1) (val:=λi=>Value.str z.1 z.2) hS (by decide) (fr λi=>.int ((if i=0 then 0 else j + 1:Nat):Int) 0) ?item ?done 1 0 s #[] c rfl (by decide) ⟨hi,x⟩ gS rfl ?fin
   case item =>
    rintro i s Q E' bH ⟨q1,q2⟩ k;obtain rfl:i=0:=by omega
    refine E5 (A:=A.in1) (sl:=0) (nx:=j + 1) (v:=Value.str z.1 z.2) q2 q1 (λE2=>WC (xn (i:=0) hb q2 h1 0 E2) (λr s' ⟨e1,e2⟩=>⟨by
     rw[e1,b0,e0,ej]; rfl,e2⟩) λ_ _ e=>e) λh' sb g=>?_
    exact k h' (λb ob fg e=>(sb.2 b fg).trans e) ⟨g,{ q2 with g:=(sb.2 a uc).trans q2.g }⟩
   case done =>
    rintro s Q E' ⟨q1,q2⟩ k;refine xm (A:=A.in1) (sl:=j + 1) hh q2 q1 (λE2=>WC (xn hb q2 h1 (j + 1) E2) (λr s' ⟨e1,e2⟩=>⟨by
     rw[e1,b1,Array.getElem?_eq_none (by omega)],e2⟩) λ_ _ e=>e) λh' eb=>k h' λb ob fg e=>eb b ob fg e
   case fin =>
    intro h' fD c' k g ea;refine fin h' fD c' xs k g ?_ x.p;rw[ea,ez]; rfl
theorem wz{S T:Addr}{res:Value}{R:Result->W2->Prop}{c:Nat}{ps:List Nat}(hh:A.handled=none)(x:c8 prog w s.heap a ks o es ep t xs)(hz:es.size<=1000)(hS:S≠it)(kF:S≠a)(uc:a≠it)(Pq:S≠T)(Pr:T≠it)(pp:ps.Perm (WJ es.size))
  (hi:s.heap.get? it=some (cJ (.ref T) 0 a es.size ep)) (gT:s.heap.get? T=some (fE ps)) (gS:s.heap.get? S=some { cls:=.type "list",data:=.seq #[] c })
  (fin:∀ h' fD c' (zs:List (Str×Tok)),(∀ b ob,b≠S->b≠it->s.heap.get? b=some ob->h'.get? b=some ob)->h'.get? S=some { cls:=.type "list",data:=.seq fD c' }->fD.toList=zs.map (λz=>Value.str z.1 z.2)->(zs.map (·.1)).Perm ks->R (.ok (.ret res)) { s with heap:=h' }) :
  Qa (model prog w) A (.builtin "list.extend.loop" ⟨[.ref S,.ref it,res],[]⟩) R s:=by
 have hl:ps.length=es.size:=by rw[pp.length_eq,JZ]
 have xo:xs.length=es.size:=by
  have:=congrArg Jv x.e;simp at this;omega
 have jR:∀ i (h:i < ps.length),ps[i] < xs.length:=λi h=>by
  have:=List.mem_range.mp (pp.mem_iff.mp (QF h));omega
 have ge:∀ p (h:p < xs.length),es[p]? = some (iM prog w xs[p]):=λp h=>by
  rw[<- Array.getElem?_toList,x.e,Ww,Wk h]; rfl
 refine ub (it:=it) (St:=λi h=>h.get? it=some (cJ (.ref T) i a es.size ep)/\c8 prog w h a ks o es ep t xs/\h.get? T=some (fE ps)) (n:=es.size) (val:=λi=>((ps[i]?).bind λp=>(xs[p]?).map λz=>Value.str z.1 z.2).getD .none) hS hz (λi h h' ⟨q1,q2,q3⟩ k=>⟨k _ _ (Ne.symm hS) q1,{ q2 with g:=k _ _ (Ne.symm kF) q2.g },k _ _ (Ne.symm Pq) q3⟩) ?item ?done es.size 0 s #[] c (by omega) (Qs _) ⟨hi,x,gT⟩ gS rfl ?fin
 case item =>
  rintro i s Q E' bH ⟨q1,q2,q3⟩ k;have dD:i < ps.length:=by omega
  have hp:=jR i dD;refine Pk (A:=A.in1) (T:=T) (ps:=ps) (p:=ps[i]) q2 q1 q3 rfl (Wk dD) (ge _ hp) λh' sb g=>?_
  have:((ps[i]?).bind λp=>(xs[p]?).map λz=>Value.str z.1 z.2).getD .none=Value.str (xs[ps[i]]).1 (xs[ps[i]]).2:=by
   rw[Wk dD,WE,Wk hp]; rfl
  have k2:=k h' (λb ob fg e=>(sb.2 b fg).trans e) ⟨g,{ q2 with g:=(sb.2 a uc).trans q2.g },(sb.2 T Pr).trans q3⟩;rw[this] at k2;exact k2
 case done =>
  rintro s Q E' ⟨q1,q2,q3⟩ k;exact Pm (A:=A.in1) (T:=T) (ps:=ps) hh q2 q1 q3 rfl (WQ (by omega)) λh' eb=>k h' λb ob fg e=>eb b ob fg e
 case fin =>
  intro h' fD c' k g ea;refine fin h' fD c' (ps.filterMap (xs[·]?)) k g ?_ ?_
  ·rw[ea,<- hl];have all:∀ p ∈ ps,p < xs.length:=λp hp=>by have:=List.mem_range.mp (pp.mem_iff.mp hp); omega
   clear pp fin ea g k hl jR ge hi gT;have:∀ ps:List Nat,(∀ p ∈ ps,p < xs.length)->(WJ ps.length).map (λi=>((ps[i]?).bind λp=>(xs[p]?).map λz=>Value.str z.1 z.2).getD .none)=(ps.filterMap (xs[·]?)).map λz=>Value.str z.1 z.2:=λps=>by
    induction ps with
    | nil=>intro _; rfl
    | cons p ps ih =>
     intro all;have hp:=all p Wf;rw[WD,Jw,Wo,WB];have Pt:=ih λq hq=>all q (W9 _ hq)
     have e1:(p :: ps).filterMap (xs[·]?)=xs[p] :: ps.filterMap (xs[·]?):=List.filterMap_cons_some (Wk hp);rw[e1,Wo,<- Pt];simp[Wk hp,Function.comp_def]
   exact this ps all
  ·have p1:(ps.filterMap (xs[·]?)).Perm xs:=(pp.filterMap _).trans (by rw[<- xo,List.filterMap_getElem?_range_length]);exact(p1.map (·.1)).trans x.p
end
section
variable {prog:Wm} {w:Wq} {A:Wp} {E:Value->W2->Prop} {s:W2}
theorem Pu (hh:A.handled=none) (x:c8 prog w s.heap a ks o es ep t xs) (hz:es.size<=1000) (kF:S≠a) (gS:s.heap.get? S=some { cls:=.type "list",data:=.seq #[] c0 })
  (fin:∀ (h3:Heap) (d:Drawn) (acc:Array Value) (c:Nat) (ys:List (Str×Tok)),(∀ b ob,b≠S->s.heap.get? b=some ob->h3.get? b=some ob)->h3.get? S=some { cls:=.type "list",data:=.seq acc c }->acc.toList=ys.map (λz=>Value.str z.1 z.2)->(ys.map (·.1)).Perm ks->R (.ok (.ret res)) { s with heap:=h3,drawn:=d }) :
  W8 (model prog w) A.in1 (Qi (.ref S) (.ref a) res) (λfin s'=>match fin with | .done f=>R (.ok f) s' | .again c'=>c'.quiet=true/\Qa (model prog w) A c' R s') (λe s'=>R (.error e) s') s:=by
 have lt:=We x.g;have lS:=We gS;unfold Qi;refine W0 (QN (T:="set") x.so.typeIs ?_);have n1:Jj (.ref S) (.ref a)=false:=by simp only[Jj]; exact beq_eq_false_iff_ne.mpr kF
 have n2:(Value.type "set" == Value.type "list")=false:=by decide
 have n3:(Value.type "set" == Value.type "tuple")=false:=by decide
 simp only[n1,n2,n3,Bool.or_false,Qh,if_false];refine W0 (Pn x hz (λhc=>?_) (λps d pp=>?_))
 ·have x2:c8 prog w (s.heap.push (cJ (.int 0 0) 0 a es.size ep)) a ks o es ep t xs:={ x with g:=W5 _ x.g }
  have g1:(s.heap.push (cJ (.int 0 0) 0 a es.size ep)).get? S=some { cls:=.type "list",data:=.seq #[] c0 }:=W5 _ gS;have g2:(s.heap.push (cJ (.int 0 0) 0 a es.size ep)).get? s.heap.objs.size=some (cJ (.int 0 0) 0 a es.size ep):=Wj _ rfl;refine W0 (WG (E8 (s:={ s with heap:=s.heap.push (cJ (.int 0 0) 0 a es.size ep) }) ⟨_,_,_,_,_,x2⟩ ?_));refine JJ (λ_=>?_) (λhn=>absurd (by decide) hn);refine W0 (Jq ?_);refine W0 ?_;show W8 _ _ (Jy S (·.push .none) >>= λ_=>Jy S (·.pop)) _ _ _;refine W0 (QB (s:={ s with heap:=s.heap.push (cJ (.int 0 0) 0 a es.size ep) }) g1 rfl ?_);have g4:=Wt (Obj.mapSeq (·.push Value.none)) g1 rfl;refine QB (hz:=by seq_fits) g4 rfl ?_;have g5:=Wt (Obj.mapSeq (·.pop)) g4 rfl;have k2:∀ b ob,b≠S->(s.heap.push (cJ (.int 0 0) 0 a es.size ep)).get? b=some ob->(((s.heap.push (cJ (.int 0 0) 0 a es.size ep)).update S (Obj.mapSeq (·.push Value.none))).update S (Obj.mapSeq (·.pop))).get? b=some ob:=λb ob hb e =>
   (Wu _ _ (Ne.symm hb)).trans ((Wu _ _ (Ne.symm hb)).trans e)
  refine W4 ⟨Qt QK _,?_⟩;refine Pp (s:={ s with heap:=_ }) hh { x2 with g:=k2 a _ (Ne.symm kF) x2.g } hz (Wi lS) kF (Wi lt) hc (k2 _ _ (WI lS) g2) g5 λh3 acc c' ys k3 g6 ea pp=>fin h3 s.drawn acc c' ys (λb ob hb e=>?_) g6 ea pp
  have lb:=We e;exact k3 b ob hb (Wi lb) (k2 b ob hb (W5 _ e))
 ·have zT:(s.heap.push (fE ps)).objs.size=s.heap.objs.size + 1:=Jd _ _;have x2:c8 prog w ((s.heap.push (fE ps)).push (cJ (.ref s.heap.objs.size) 0 a es.size ep)) a ks o es ep t xs:={ x with g:=W5 _ (W5 _ x.g) }
  have g1:((s.heap.push (fE ps)).push (cJ (.ref s.heap.objs.size) 0 a es.size ep)).get? S=some { cls:=.type "list",data:=.seq #[] c0 }:=W5 _ (W5 _ gS);have g2:((s.heap.push (fE ps)).push (cJ (.ref s.heap.objs.size) 0 a es.size ep)).get? (s.heap.push (fE ps)).objs.size=some (cJ (.ref s.heap.objs.size) 0 a es.size ep):=Wj _ rfl;have gT:((s.heap.push (fE ps)).push (cJ (.ref s.heap.objs.size) 0 a es.size ep)).get? s.heap.objs.size=some (fE ps):=W5 _ (Wj _ rfl);have lI:S < (s.heap.push (fE ps)).objs.size:=by rw[zT]; exact QP lS
  refine W0 (WG (E8 (s:={ s with heap:=(s.heap.push (fE ps)).push (cJ (.ref s.heap.objs.size) 0 a es.size ep),drawn:=d }) ⟨_,_,_,_,_,x2⟩ ?_));refine JJ (λ_=>?_) (λhn=>absurd (by decide) hn);refine W0 (Jq ?_);refine W0 ?_;show W8 _ _ (Jy S (·.push .none) >>= λ_=>Jy S (·.pop)) _ _ _;refine W0 (QB (s:={ s with heap:=(s.heap.push (fE ps)).push (cJ (.ref s.heap.objs.size) 0 a es.size ep),drawn:=d }) g1 rfl ?_);have g4:=Wt (Obj.mapSeq (·.push Value.none)) g1 rfl;refine QB (hz:=by seq_fits) g4 rfl ?_;have g5:=Wt (Obj.mapSeq (·.pop)) g4 rfl;have k2:∀ b ob,b≠S->((s.heap.push (fE ps)).push (cJ (.ref s.heap.objs.size) 0 a es.size ep)).get? b=some ob->((((s.heap.push (fE ps)).push (cJ (.ref s.heap.objs.size) 0 a es.size ep)).update S (Obj.mapSeq (·.push Value.none))).update S (Obj.mapSeq (·.pop))).get? b=some ob:=λb ob hb e =>
   (Wu _ _ (Ne.symm hb)).trans ((Wu _ _ (Ne.symm hb)).trans e)
  refine W4 ⟨Qt QK _,?_⟩;refine wz (s:={ s with heap:=_,drawn:=d }) (T:=s.heap.objs.size) (ps:=ps) hh { x2 with g:=k2 a _ (Ne.symm kF) x2.g } hz (Wi lI) kF (Wi (by rw[zT]; exact QP lt)) (Wi lS) (by rw[zT]; exact Wi (U3 _)) pp (k2 _ _ (WI lI) g2) (k2 _ _ (WI lS) gT) g5 λh3 acc c' ys k3 g6 ea pp=>fin h3 d acc c' ys (λb ob hb e=>?_) g6 ea pp
  have lb:=We e;exact k3 b ob hb (Wi (by rw[zT]; exact QP lb)) (k2 b ob hb (W5 _ (W5 _ e)))
theorem Pw(hh:A.handled=none)(hA:fB prog w s.heap a ks)(hn:ks.length<=1000)
  (h:∀ (h':Heap) (d:Drawn) (zs:List (Str×Tok)),(zs.map (·.1)).Perm ks->(∀ b o,s.heap.get? b=some o->h'.get? b=some o)->s.heap.objs.size < h'.objs.size->Q (zs.map λz=>Value.str z.1 z.2) { s with heap:=h',drawn:=d }):W8 (model prog w) A (collect (.ref a)) Q E s:=by
 obtain⟨o,es,ep,t,xs,x⟩:=hA;have hz:es.size<=1000:=by rw[x.sz]; exact hn
 have lt:=We x.g;unfold collect;refine W0 (wpAny_runValue (Q2 PySem.F.entry_proto_collect ?_));rw[Around.under_plainId PySem.F.plain_proto_collect _];show W8 _ A.in1 (newList [] >>= λl=>again (.builtin "list.__iadd__" ⟨[l,.ref a],[]⟩)) _ _ s;refine W0 (WX ?_);refine W4 ⟨Qt PySem.F.plain_list_iadd _,Q2 PySem.F.entry_list_iadd ?_⟩;rw[Around.under_plainId PySem.F.plain_list_iadd _];generalize hL:({ cls:=.type "list",data:=.seq ([]:List Value).toArray }:Obj)=L0;have g0:(s.heap.push L0).get? s.heap.objs.size=some { cls:=.type "list",data:=.seq #[] }:=by rw[<- hL]; exact Wj _ rfl
 have x1:c8 prog w (s.heap.push L0) a ks o es ep t xs:={ x with g:=W5 _ x.g }
 show W8 _ A.in1 (Qi (.ref s.heap.objs.size) (.ref a) (.ref s.heap.objs.size)) _ _ _;have key:=Pu (A:=A) (s:={ s with heap:=s.heap.push L0 }) (res:=.ref s.heap.objs.size) (R:=λq s'=>∃ (h3:Heap) (d:Drawn) (acc:Array Value) (c:Nat) (ys:List (Str×Tok)),q = .ok (.ret (.ref s.heap.objs.size))/\s' = { s with heap:=h3,drawn:=d }/\(∀ b ob,s.heap.get? b=some ob->h3.get? b=some ob)/\h3.get? s.heap.objs.size=some { cls:=.type "list",data:=.seq acc c }/\acc.toList=ys.map (λz=>Value.str z.1 z.2)/\(ys.map (·.1)).Perm ks) hh x1 hz (WI lt) g0 λh3 d acc c ys k3 g3 ea pp =>
  ⟨h3,d,acc,c,ys,rfl,rfl,λb ob e=>k3 b ob (Wi (We e)) (W5 _ e),g3,ea,pp⟩
 have last:∀ (h3:Heap) (d:Drawn) (acc:Array Value) (c:Nat) (ys:List (Str×Tok)),(∀ b ob,s.heap.get? b=some ob->h3.get? b=some ob)->h3.get? s.heap.objs.size=some { cls:=.type "list",data:=.seq acc c }->acc.toList=ys.map (λz=>Value.str z.1 z.2)->(ys.map (·.1)).Perm ks ->
   W8 (model prog w) A (do
    match (<- load s.heap.objs.size).data with
    | .seq xs _=>pure xs.toList
    | _=>unsupported "internal:collect") Q E { s with heap:=h3,drawn:=d }:=λh3 d acc c ys k3 g3 ea pp=>by
  refine W0 (wpAny_load g3 ?_);refine W4 ?_;show Q acc.toList _;rw[ea];exact h h3 d ys pp k3 (We g3)
 refine WC key (λfin s' z=>?_) λe s' z=>?_
 ·cases fin with
  | done f =>
   obtain⟨h3,d,acc,c,ys,e,rfl,k3,g3,ea,pp⟩:=z
   cases e;exact last h3 d acc c ys k3 g3 ea pp
  | again c₁ =>
   refine⟨z.1,QV z.2 λq s₂ y=>?_⟩;obtain⟨h3,d,acc,c,ys,rfl,rfl,k3,g3,ea,pp⟩:=y;exact last h3 d acc c ys k3 g3 ea pp
 ·obtain⟨_,_,_,_,_,e',_⟩:=z
  cases e'
theorem Px(zs:List (Str×Tok)):StrsAre (zs.map λz=>Value.str z.1 z.2) (zs.map (·.1)):=by
 induction zs with
 | nil=>exact .nil
 | cons z zs ih=>exact .cons _ _ ih
theorem Py(hh:A.handled=none)(hA:fB prog w s.heap a ks)(hn:ks.length < 64)
  (h:∀ (h':Heap) (d:Drawn) (p:Addr) (e:Nat) (out:Array Value) (ss:List Str),StrsAre out.toList ss->ss.Perm ks->sortedS ss=true->(∀ b o,s.heap.get? b=some o->h'.get? b=some o)->s.heap.objs.size<=p->h'.get? p=some (seqObj "list" out e)->Q (.ref p) { s with heap:=h',drawn:=d }) :
  W8 (model prog w) A (call (.builtin "sorted") [.ref a]) Q E s:=by
 refine Calls.call_function_entry kind_sorted plain_sorted entry_sorted (args_sorted1 _) ?_;unfold Builtin.«sorted»;refine W0 (m:=checkCount "sorted" 1 1 _) (W4 (W0 (Pw (A:=A.in1) hh hA (by omega) λh1 d zs pz k1 hz=>?_)));have hl:(zs.map λz=>Value.str z.1 z.2).length < 64:=by have:=pz.length_eq; simp at this ⊢; omega
 refine W0 (wpAny_newList ?_ (by rw[Qr]; omega));have hS:=Px zs;generalize (zs.map λz=>Value.str z.1 z.2)=vs at hl hS ⊢;have ho:(h1.push (seqObj "list" vs.toArray 0)).get? h1.objs.size=some (seqObj "list" vs.toArray 0):=Wj _ rfl;refine W0 (WG (Q9 slot_list_sort ⟨_,ho,rfl⟩ entry_list_sort (list_sort_treeK (s:={ s with heap:=h1.push (seqObj "list" vs.toArray 0),drawn:=d }) strKind_oneLt ho hS.keysOf (λv₁ v₂ rest e=>keyKind_strs (by rw[<- e]; exact hS)) hl λeN hp hs=>⟨_,rfl,?_⟩) (args_list_sort _)));obtain⟨ss',q1,q2,q3⟩:=sorted_out_str hS hp hs;obtain⟨e,he⟩:=sortedHeap_at (out:=(arrOf eN).map (·.2)) ho;refine W4 ⟨_,rfl,h _ d h1.objs.size e _ ss' q1 (q2.trans pz) q3 (λb o q=>?_) (QU hz) he⟩;have r1:=k1 b o q;have lb:=We r1;rw[sortedHeap_old (Wi lb) (by rw[size_push']; exact QP lb)];exact W5 _ r1
end
end SU
set_option maxHeartbeats 400000
namespace L2
open PySem PySem.Spec PyProof.Rows PySem.W DV SU
def lM(X:Cx)(a:Addr)(ks:List Str):HO:=.ext λh=>fB X.prog X.w h a ks
theorem Pz(x:fB X.prog X.w h a ks):bG X.prog X.w H h a (lM X a ks):=by
 refine⟨x,?_,λh1 h2 y k=>y.at' k⟩;obtain⟨o,es,ep,t,xs,z⟩:=x;exact⟨o,z.g⟩
theorem PB(ok:cM X.prog X.w H h)(e:H a=some (lM X a ks)):fB X.prog X.w h a ks :=
 (show bG X.prog X.w H h a (lM X a ks) from ok a _ e).1
section
variable {X:Cx}
theorem Inv.drawn(I:Inv X pins σ H s)(d:Drawn):Inv X pins σ H { s with drawn:=d } :=
 ⟨I.ok,I.os,I.bare,I.base,I.loc,I.cell,I.free,I.dY,I.pin,I.aw,I.len⟩
theorem pV:∀ {vs:List Value} {ss:List Str},StrsAre vs ss->Vals (ss.map V.str) vs
 | _,_,.nil=>.nil
 | _,_,.cons x t h=>.cons ⟨t,rfl⟩ (pV h)
theorem PC (hc:X.calm=true):eE X (.builtin "sorted") (λxs H Q=>∃ (a:Addr) (ts:List Tx),xs=[.ref a]/\H a=some (lM X a (ts.map toS))/\ts.length < 64/\∀ p,H p=none->Q (.ref p) (upd H p (.lst ((eX ts).map λz=>V.str (toS z))))):=by
 intro pins s σ H xs us Q I r h;obtain⟨a,ts,rfl,ha,hz,q⟩:=h;obtain⟨u,rfl,ru⟩:=gB r
 cases ru;refine Py (I.ok.hd hc) (PB I.aw ha) (by simpa using hz) λh' d p e out ss hS hp hs k E9 g=>?_
 have e2:ss=(eX ts).map toS:=by
  have vJ:(ss.map λz:Str=>z.cps.toList).Pairwise g9:=by
   cases ss with
   | nil=>simp
   | cons x r=>exact vH x r hs
  have vK:(ss.map λz:Str=>z.cps.toList).Perm ts:=by
   have:=hp.map λz:Str=>z.cps.toList
   rw[WB] at this;have e2:ts.map ((λz:Str=>z.cps.toList) ∘ toS)=ts:=by
    rw[show((λz:Str=>z.cps.toList) ∘ toS)=id from funext λz=>pR z,List.map_id]
   rw[e2] at this;exact this
  rw[<- CI vK vJ,WB];rw[show(toS ∘ λz:Str=>z.cps.toList)=id from funext λz=>(vA z).symm,List.map_id]
 have rv:Vals ((eX ts).map λz=>V.str (toS z)) out.toList:=by
  have:=pV hS;rw[e2,WB] at this;exact this
 have hl:(eX ts).length=ts.length:=(sL ts).length_eq;have I1:=(I.drawn d).laid (h':=h') (t':=s.toks) (o:=.lst ((eX ts).map λz=>V.str (toS z))) k E9 (show bG X.prog X.w _ _ _ (.lst _) from⟨by rw[Wy,hl,Qr]; omega,out.toList,e,rv,g⟩);exact⟨.ref _,_,I1,rfl,q _ (I.aw.fresh E9)⟩
end
end L2
namespace DV
open PySem PySem.Spec PyProof.Rows L2 SU
section
variable {X:Cx} {c:Fc} {a b:Expr} {f g:DE} {pp pos p1 Vv p3 p4 p5:Pos}
end
end DV
namespace L2
open PySem PySem.Spec PyProof.Rows PySem.W DV
section
variable {X:Cx}
end
end L2
namespace DV
open PySem PySem.Spec PyProof.Rows L2
section
variable {X:Cx} {c:Fc} {e:Expr} {fb:BE} {pp pos:Pos}
end
theorem PF(c:Nat)(z:List Nat):(mU c z 0 z.length).length=z.count c:=by
 have key:∀ (z pre:List Nat),((List.range' pre.length z.length).filter λi=>decide ((pre ++ z)[i]? = some c)).length=z.count c:=λz=>by
  induction z with
  | nil=>intro pre; rfl
  | cons x z ih =>
   intro pre;have h:=ih (pre ++ [x]);rw[WZ,List.length_singleton] at h;rw[WD,U4,List.filter_cons];have e:(pre ++ x :: z)[pre.length]? = some x:=by simp
   have e2:pre ++ [x] ++ z=pre ++ x :: z:=by simp
   rw[e2] at h;rw[e,JK];by_cases hc:x=c
   ·subst hc;simp[h]
   ·have:¬ (some x=some c):=by simpa using hc
    simp[hc,h]
 exact key z []
section
variable {X:Cx}
theorem PH:nR X "str.count" (λx vs H Q=>∃ (z:Tx) (c:Nat),x = .str (toS z)/\vs=[.str (toS [c])]/\Q (.int (z.count c:Nat)) H):=by
 intro pins s σ H x vs v us Q I rx rv h;obtain⟨z,c,rfl,rfl,q⟩:=h;obtain⟨t,rfl⟩:=rx;obtain⟨u,rfl,ru⟩:=rv.one;obtain⟨tu,rfl⟩:=ru;refine call_gives PySem.F.slot_str_count (typeIs_str _ _ _) PySem.F.entry_str_count (PySem.F.args_str_count_2 _ _) (gives_str_count (toS z) (toS [c]) t tu) ?_;have e:(PySem.Builtin.Str.occurrences (toS z) (toS [c]) 0 (toS z).length ((toS z).length + 1)).length=z.count c:=by
  have:=NF c z;have e1:toS z = ⟨z.toArray⟩:=rfl;have e2:toS [c] = ⟨#[c]⟩:=rfl;rw[i4,e1,e2,this,PF]
 rw[e];exact⟨.int (z.count c:Nat),H,I.tok _,⟨_,rfl⟩,q⟩
end
def xp:D->D->Option S
 | .str z,.str [c]=>some (.pure (.int (z.count c:Nat)))
 | _,_=>none
def xq:D->Bool
 | .str _=>true
 | _=>false
def gK(fa fb:DE):DE:=λδ=>(fa δ).bind λx δ1=>if xq x.d=true then(fb δ1).bind λy δ2=>p2 xp x.d y.d δ2 else .stuck
section
variable {X:Cx} {c:Fc} {o e:Expr} {fa fb:DE}
theorem E_(he:SE X c o fa)(hx:SE X c e fb)
  (gY:Q6 o "count" X.env (eval o X.env)=eval o X.env:=by rfl)
  (gZ:((WU ba (W7 [e] X.env)).all (λx=>!x.1) && (JL ba (Jc [] X.env)).all (λx=>x.1.isSome)
   && decide ([e].length + ([]:List Keyword).length + (if ([]:List Keyword).isEmpty then 0 else 1) < 30))=true:=by rfl)
  (dZ:(apos.endLine == ba.line)=true:=by rfl) (hs:W7 [e] X.env=(false,eval e X.env) :: W7 [] X.env:=by rfl) :
  SE X c (.Call (.Attribute o "count" apos) [e] [] ba) (gK fa fb):=by
 refine PE.weak (nU PySem.F.plainAttrs_str PySem.F.slot_str_count PySem.F.type_str_count PH he (dt hx eU hs) gY gZ dZ hs rfl) λσ H Q h=>?_
 obtain⟨δ,k,q⟩:=h;unfold gK at q;rw[bc] at q;refine⟨δ,k,aQ q λr δ1 q1 v H1 a1 r1=>?_⟩;split at q1
 case isFalse=>exact q1.elim
 rename_i hL;obtain⟨z,ez⟩:∃ z,r.d = .str z:=by
  cases hd:r.d <;> first | exact⟨_,rfl⟩ | (rw[hd] at hL; cases hL)
 have xr:cZ c σ δ1 H1 v (.str z):=by rw[<- ez]; exact .inl r1.rep
 have ev:=xr.str;subst ev;rw[bc] at q1;refine⟨rfl,δ1,a1.ok,aQ q1 λy δ2 q2 u H2 a2 r2=>?_⟩;rw[ez] at q2;unfold p2 at q2;have hy:=r2.b;generalize y.d=dy at q2 hy
 cases dy with
 | str w =>
  match w,q2,hy with
  | [n],q2,hy =>
   have eu:=hy.str;subst eu;exact⟨z,n,rfl,rfl,q2 _ H2 (a1.trans a2) (.int _)⟩
  | [],q2,_=>exact q2.elim
  | _ :: _ :: _,q2,_=>exact q2.elim
 | _=>exact q2.elim
end
end DV
set_option maxHeartbeats 3200000
namespace SU
open PySem PyProof.Rows
theorem PJ:isSubtype (.type "str") (.type "set")=pure false:=by rw[isSubtype_type]; kernel_rfl
theorem PM:isSubtype (.type "str") (.type "frozenset")=pure false:=by rw[isSubtype_type]; kernel_rfl
section
variable {prog:Wm} {w:Wq} {A:Wp} {E:Value->W2->Prop} {s:W2}
theorem PN(hh:A.handled=none)(hb:x.cps.size + 1 < JS)
  (h:∀ (h':Heap) (tk:Nat),fB prog w h' s.heap.objs.size (fm (λi=>⟨#[x.cps.getD i 0]⟩) x.cps.size)->(∀ b o,s.heap.get? b=some o->h'.get? b=some o)->Q (.ref s.heap.objs.size) { s with heap:=h',toks:=tk }) :
  W8 (model prog w) A (call (.type "set") [.str x t]) Q E s:=by
 refine Pf ?_;have e1:=PJ;have e2:=PM;have e3:(Value.type "str" == Value.type "dict")=false:=by decide
 unfold Builtin.«set.__init__» noKeywords Builtin.Frozenset.updateFrom;generalize hPI:pyIter=PI;wp_walk
 subst hPI;refine wpAny_pyIter_str λo St W c9=>?_
 refine W0 (wpAny_runValue ?_);have PQ:A.in1.in1.in1.handled=none:=by simp[hh]
 have PR:s.heap.objs.size ∉ [(s.heap.push (lL w)).objs.size]:=by
  rw[Jd,List.mem_singleton];exact Wi (U3 _)
 refine Pa ((W _ PQ).toS) s.heap.objs.size PR (λi=>⟨#[x.cps.getD i 0]⟩) (λi v ⟨c,u,e,ev⟩=>⟨u,by rw[ev,Array.getD_eq_getD_getElem?,e]; rfl⟩) hb (x.cps.size - 0) 0 _ (by omega) (Qs _) c9 ((Pd s.heap).at' λo' e=>W5 _ e) λs' mv z=>?_
 obtain⟨h',g',d',eC,os'⟩:=s';have q1:g'=s.gens:=mv.gens;have q2:d'=s.drawn:=mv.drawn;have q3:os'=s.os:=mv.os;subst q1; subst q2; subst q3
 show W8 _ _ _ _ _ _;refine W4 ?_;show W8 _ _ (ret Value.none) _ _ _;refine W4 ⟨rfl,h h' eC z λb ob e=>?_⟩;have lb:=We e;refine mv.heap b ob ?_ (W5 _ (W5 _ e));rw[Jd];simp only[Wl,List.not_mem_nil,or_false,not_or];exact⟨Wi lb,Wi (QP lb)⟩
end
end SU
set_option maxHeartbeats 1000000
namespace DV
open PySem (sizeLine)
open L2
section
variable {α β:Type}
@[simp] theorem ij (a:α) (δ:Dl) (f:α->Dl->Rs β):(Rs.ok a δ).bind f=f a δ:=id rfl
@[simp] theorem Vw (f:α->Dl->Rs β):(Rs.stuck:Rs α).bind f = .stuck:=id rfl
@[simp] theorem Fb (d:D):(S.pure d).d=d:=id rfl
@[simp] theorem Vx (d:D):(S.own d).d=d:=id rfl
end
section
variable (δ:Dl) (i:Nat) (d e:D) (f g:DE) (fb:BE) (t u:DT) (p:D->D->Option S)
@[simp] theorem xt:eD d δ = .ok (.pure d) δ:=id rfl
@[simp] theorem Fd:ao f δ=(f δ).bind λr δ'=>.ok r.d δ':=id rfl
@[simp] theorem PU:aY p f fb δ=(f δ).bind λx δ1=>(fb δ1).bind λy δ2=>p2 p x.d y δ2:=id rfl
@[simp] theorem Vy:n5 t u δ=(t δ).bind λb δ1=>if b then u δ1 else .ok false δ1:=id rfl
@[simp] theorem Vz:jI t u δ=(t δ).bind λb δ1=>if b then .ok true δ1 else u δ1:=id rfl
@[simp] theorem VA:dF t δ=(t δ).bind λb δ1=>.ok (!b) δ1:=id rfl
@[simp] theorem VB:L9 t f g δ=(t δ).bind λb δ1=>if b then f δ1 else g δ1:=id rfl
@[simp] theorem VC:cH δ = .ok .next δ:=id rfl
@[simp] theorem VD:bq δ = .ok true δ:=id rfl
@[simp] theorem VE:lg f δ=(f δ).bind λ_ δ1=>.ok .next δ1:=id rfl
@[simp] theorem VF:bA f δ=(f δ).bind λr δ1=>.ok (.ret r) δ1:=id rfl
@[simp] theorem VG (a b:DS):cO t a b δ=(t δ).bind λx δ1=>if x then a δ1 else b δ1:=id rfl
@[simp] theorem PX (it:DI) (gg:DG) (b:DS):bY it gg b δ=(it δ).bind λds δ1=>forL gg b ds δ1:=id rfl
@[simp] theorem VH (a:DA):dh a δ=(a δ).bind λds δ'=>.ok (.pure (.tup ds)) δ':=id rfl
@[simp] theorem VI (a:DA):eF a δ=(a δ).bind λds δ'=>.ok (.own (.lst ds)) δ':=id rfl
@[simp] theorem VJ (ds:List D):gJ ds δ = .ok (.own (.lst ds)) δ:=id rfl
@[simp] theorem VL:bU δ = .ok [] δ:=id rfl
@[simp] theorem VM (a:DA):aI f a δ=(f δ).bind λx δ1=>(a δ1).bind λxs δ2=>.ok (x.d :: xs) δ2:=id rfl
@[simp] theorem VN (q:D->Option S):a_ q fb δ=(fb δ).bind λx δ1=>p1 q x δ1:=id rfl
@[simp] theorem VO:sV f g δ=(f δ).bind λx δ1=>(g δ1).bind λy δ2=>p2 vX x.d y.d δ2:=id rfl
@[simp] theorem VP (fl fh:la):Mv f fl fh δ=(f δ).bind λx δ1=>(fl δ1).bind λl δ2=>(fh δ2).bind λh δ3=>p1 (jN l h) x.d δ3:=id rfl
@[simp] theorem VQ:Ms δ = .ok none δ:=id rfl
@[simp] theorem PY (cs:List Nat) (it:DI) (gg:DG) (el:DE):cf cs it gg t el δ=(it δ).bind λds δ1=>if cs.any (bu δ1) then .stuck else
 (cb cs gg t el ds (bB cs δ1) []).bind λacc δ2=>.ok (.own (.lst acc)) (cP cs δ1 δ2):=id rfl
@[simp] theorem VR (np:List Nat) (r:S):ae np i r δ=if np.contains i then none else some (δ.set i (some r)):=id rfl
@[simp] theorem VS (gg:DG) (b:DS):forL gg b [] δ = .ok .next δ:=id rfl
end
section
variable (δ:Dl) (i:Nat) (d e:D) (f g:DE) (fb:BE) (p:D->D->Option S) (s:S)
@[simp] theorem Fe (x y:D):p2 p x y δ=match p x y with | some s=>.ok s δ | none=>.stuck:=id rfl
@[simp] theorem VT (q:D->Option S) (x:D):p1 q x δ=match q x with | some s=>.ok s δ | none=>.stuck:=id rfl
@[simp] theorem VU (a b:DS):au a b δ=(a δ).bind λfl δ1=>match fl with | .next=>b δ1 | .ret r=>.ok (.ret r) δ1 | .brk=>.ok .brk δ1 | .cont=>.ok .cont δ1:=id rfl
@[simp] theorem VW {α β:Type} (c:Prop) [Decidable c] (x y:Rs α) (k:α->Dl->Rs β):(if c then x else y).bind k=if c then x.bind k else y.bind k:=by split <;> rfl
end
theorem dX:Wb=16777216:=rfl
theorem j3(xs:List α)(i:Nat):cS xs (i:Int)=xs[i]?:=by
 unfold cS dQ;by_cases h:i < xs.length
 ·rw[if_pos (by omega),if_pos (by omega)];simp
 ·rw[if_pos (by omega),if_neg (by omega)];simp[WQ (Nat.le_of_not_lt h)]
theorem xu(xs:List α):cS xs 2=xs[2]?:=j3 xs 2
theorem ud(xs:List α):cS xs 0=xs[0]?:=j3 xs 0
theorem xw(xs:List α):cS xs 1=xs[1]?:=j3 xs 1
theorem xx(I:Dl->Prop)(R:D->D->Prop) :
  ∀ (ds:List D) (δ:Dl) (acc:List D),I δ->acc.length + ds.length<=Wb ->
   (∀ d ∈ ds,∀ δ,I δ->∃ δ1 δ2 x δ3,g (.pure d) δ=some δ1/\t δ1 = .ok true δ2/\el δ2 = .ok x δ3/\I (bB cs δ3)/\R d x.d) ->
   ∃ xs δ',cb cs g t el ds δ acc = .ok (acc ++ xs) δ'/\I δ'/\xs.length=ds.length/\∀ (i:Nat) d x,ds[i]? = some d->xs[i]? = some x->R d x
 | [],δ,acc,h,_,_=>⟨[],δ,by simp[cb],h,rfl,λi d x e=>by simp at e⟩
 | d :: r,δ,acc,h,hl,hs=>by
  obtain⟨δ1,δ2,x,δ3,e1,e2,e3,h3,hr⟩:=hs d Wf δ h;have iV:acc.length < Wb:=by simp at hl; omega
  obtain⟨xs,δ',e4,h4,hn,hf⟩:=xx (g:=g) (t:=t) (el:=el) I R r (bB cs δ3) (acc ++ [x.d]) h3 (by simp at hl ⊢; omega) (λd hd=>hs d (W9 _ hd));refine⟨x.d :: xs,δ',?_,h4,by simp[hn],λi d' x' f1 f2=>?_⟩
  ·unfold cb;rw[e1];simp only[e2,ij,if_true,e3,if_pos iV,e4];simp
  ·cases i with
   | zero=>simp at f1 f2; subst f1 f2; exact hr
   | succ i=>exact hf i d' x' (by simpa using f1) (by simpa using f2)
theorem PZ(F:D->D)(δ:Dl) :
  ∀ (ds:List D) (acc:List D),acc.length + ds.length<=Wb ->
   (∀ d ∈ ds,∃ δ1 δ2 x δ3,g (.pure d) δ=some δ1/\t δ1 = .ok true δ2/\el δ2 = .ok x δ3/\bB cs δ3=δ/\x.d=F d) ->
   cb cs g t el ds δ acc = .ok (acc ++ ds.map F) δ:=by
 intro ds acc hl hs;obtain⟨xs,δ',e,h,hn,hf⟩:=xx (cs:=cs) (g:=g) (t:=t) (el:=el) (λδ'=>δ'=δ) (λd x=>x=F d) ds δ acc rfl hl (λd hd δ' h=>by
  subst h;obtain⟨δ1,δ2,x,δ3,a,b,c,d,e⟩:=hs d hd;exact⟨δ1,δ2,x,δ3,a,b,c,d,e⟩)
 subst h;rw[e];congr 2
 apply JY;intro i;by_cases hi:i < ds.length
 ·have:=hf i ds[i] (xs[i]'(by omega)) (by simp[hi]) (by simp[hn,hi]);simp[hn,hi,this]
 ·rw[WQ (by omega),WQ (by simp; omega)]
theorem iN(I:Nat->Dl->Prop) :
  ∀ (ds:List D) (n:Nat) (δ:Dl),I n δ ->
   (∀ (i:Nat) d δ,ds[i]? = some d->I (n + i) δ->∃ δ1 δ2,g (.pure d) δ=some δ1/\b δ1 = .ok .next δ2/\I (n + i + 1) δ2) ->
   ∃ δ',forL g b ds δ = .ok .next δ'/\I (n + ds.length) δ'
 | [],n,δ,h,_=>⟨δ,rfl,h⟩
 | d :: r,n,δ,h,hs=>by
  obtain⟨δ1,δ2,e1,e2,h2⟩:=hs 0 d δ rfl h;obtain⟨δ',e3,h3⟩:=iN (g:=g) (b:=b) I r (n + 1) δ2 h2 (λi d' δ' e hi=>by
   have:=hs (i + 1) d' δ' (by simpa using e) (by rw[show n + (i + 1)=n + 1 + i by omega]; exact hi);rw[show n + (i + 1) + 1=n + 1 + i + 1 by omega] at this;exact this)
  refine⟨δ',?_,by rw[WD,show n + (r.length + 1)=n + 1 + r.length by omega]; exact h3⟩;unfold forL;rw[e1];simp only[e2,ij,e3]
theorem qT(xs:List Tx):fz (xs.map .str)=some xs:=by
 induction xs with
 | nil=>rfl
 | cons x r ih=>simp[fz,ih]
theorem ue:∀ ts:List Tx,ja [] ts=ts.flatten
 | []=>rfl
 | [x]=>by simp[ja]
 | x :: y :: r=>by rw[ja,ue (y :: r)]; simp
theorem P0(xs:List Nat):hZ (xs.map λn=>[n])=xs.length:=by
 unfold hZ;induction xs with
 | nil=>rfl
 | cons x r ih=>simp at ih ⊢; omega
theorem P1(xs:List Nat):(xs.map λn=>[n]).flatten=xs:=by
 induction xs with
 | nil=>rfl
 | cons x r ih=>simp[ih]
theorem P2(xs:List Nat)(h:xs.length<=16777216):cR [] (.lst (xs.map λn=>.str [n]))=some (.pure (.str xs)):=by
 have e:(xs.map λn=>D.str [n])=(xs.map λn=>[n]).map D.str:=by simp
 unfold cR;simp only[e,qT,P0,ue,P1];rw[if_pos (by simpa using h)]
theorem P4(r:Tx)(c:Nat)(h:c < r.length)(hl:r.length<=64):aB (.str r) (.int c)=some (.pure (.str [r.getD c 0])):=by
 unfold aB;have:Wb=16777216:=rfl;simp only;rw[if_pos (by omega),j3];simp[h]
abbrev aW(fl:List Tx):D:=.tup (fl.map .str)
structure VX(w:Nat)(fl:List Tx):Prop where
 h0:0 < fl.length
 h1:fl.length<=64
 w0:0 < w
 w1:w<=64
 all:∀ r ∈ fl,r.length=w
def turn(w:Nat)(fl:List Tx):List Tx:=(WJ w).map λc=>fl.map λr=>r.getD c 0
def back(fl:List Tx):List Tx:=fl.map List.reverse
def jx(r:S)(δ1:Dl):Rs (List D):=match r with
 | .pure (.int j)=>if om j then .ok (cm 0 j.toNat) δ1 else .stuck
 | _=>.stuck
@[simp] theorem Ff (f:DE) (δ:Dl):dw f δ=(f δ).bind λr δ1=>jx r δ1:=id rfl
theorem P5(w:Nat)(hw:w<=1000000):om (w:Int)=true:=by
 have h1 : -(4611686018427387904:Int)<=(w:Int):=by omega
 have h2:(w:Int) < 4611686018427387904:=by omega
 unfold om;rw[Wr];exact⟨decide_eq_true h1,decide_eq_true h2⟩
theorem P6(j:Int)(hs:om j=true)(δ:Dl):jx (.pure (.int j)) δ = .ok (cm 0 j.toNat) δ:=by unfold jx; simp only[hs,if_true]
theorem kG(w:Nat)(hw:w<=1000000)(δ:Dl):jx (.pure (.int w)) δ = .ok (cm 0 w) δ:=by
 have:=P6 (w:Int) (P5 w hw) δ;rwa [Qe] at this
theorem uf(h:(cm 0 n)[i]? = some d):i < n/\d = .int (i:Int):=by
 unfold cm at h;rw[Ww] at h;by_cases hi:i < n
 ·rw[List.getElem?_range hi] at h;simp at h;exact⟨hi,h.symm⟩
 ·rw[WQ (by simpa using hi)] at h
  cases h
theorem Fg(h:d ∈ cm 0 n):∃ i:Nat,i < n/\d = .int (i:Int):=by
 obtain⟨i,hi⟩:=Qu h;exact⟨i,uf hi⟩
@[simp] theorem xy (lo:Int) (n:Nat):(cm lo n).length=n:=by simp[cm]
def iO(x:Nat):List Nat->List Nat
 | []=>[x]
 | y :: r=>if y < x then y :: iO x r else x :: y :: r
def fj:List Nat->List Nat
 | []=>[]
 | x :: r=>iO x (fj r)
theorem Fh(a b:Nat):(([a]:Tx) < [b]) ↔ a < b:=by
 constructor
 ·intro h
  cases h with
  | cons h=>cases h
  | rel h=>exact h
 ·intro h; exact List.Lex.rel h
theorem Fi(x:Nat):∀ xs:List Nat,km [x] (xs.map λn=>[n])=(iO x xs).map λn=>[n]
 | []=>rfl
 | y :: r=>by
  simp only[Wo,km,iO];by_cases h:y < x
  ·rw[if_pos ((Fh y x).mpr h),if_pos h,Fi x r]; rfl
  ·rw[if_neg λz=>h ((Fh y x).mp z),if_neg h]; rfl
theorem xA:∀ xs:List Nat,eX (xs.map λn=>[n])=(fj xs).map λn=>[n]
 | []=>rfl
 | x :: r=>by rw[Wo,eX,xA r,Fi]; rfl
theorem xB:∀ {xs:List Nat},y ∈ iO x xs ↔ y=x\/y ∈ xs
 | []=>by simp[iO]
 | z :: r=>by
  unfold iO;split
  ·simp[xB (xs:=r)]; constructor <;> (rintro (h | h | h) <;> simp[h])
  ·simp
theorem ug:∀ {xs:List Nat},y ∈ fj xs ↔ y ∈ xs
 | []=>by simp[fj]
 | x :: r=>by rw[fj,xB,ug (xs:=r)]; simp
theorem Fj(x:Nat):∀ xs:List Nat,(iO x xs).length=xs.length + 1
 | []=>rfl
 | y :: r=>by unfold iO; split <;> simp[Fj x r]
theorem xC:∀ xs:List Nat,(fj xs).length=xs.length
 | []=>rfl
 | x :: r=>by rw[fj,Fj,xC r]; rfl
theorem Fm:∀ {xs:List Nat},xs.Pairwise (· < ·)->x ∉ xs->(iO x xs).Pairwise (· < ·)
 | [],_,_=>by simp[iO]
 | y :: r,h,hx=>by
  rw[List.pairwise_cons] at h;simp at hx;unfold iO;split
  ·rename_i hl;rw[List.pairwise_cons];refine⟨λz hz=>?_,Fm h.2 hx.2⟩;rcases xB.mp hz with rfl | hz
   ·exact hl
   ·exact h.1 z hz
  ·rename_i hl;rw[List.pairwise_cons];refine⟨λz hz=>?_,JP.mpr h⟩;rcases Wl.mp hz with rfl | hz
   ·omega
   ·have:=h.1 z hz; omega
theorem xD:∀ {xs:List Nat},xs.Nodup->(fj xs).Pairwise (· < ·)
 | [],_=>by simp[fj]
 | x :: r,h=>by
  rw[List.nodup_cons] at h;exact Fm (xD h.2) λz=>h.1 (ug.mp z)
theorem Fn{P:Nat->Prop}:∀ {xs:List D},(∀ x ∈ xs,∃ n,P n/\x = .str [n])->∃ row:List Nat,xs=row.map (λn=>.str [n])/\∀ n ∈ row,P n
 | [],_=>⟨[],rfl,by simp⟩
 | x :: r,h=>by
  obtain⟨n,hn,rfl⟩:=h x Wf;obtain⟨row,rfl,hr⟩:=Fn (xs:=r) λy hy=>h y (W9 _ hy)
  exact⟨n :: row,rfl,by simpa using ⟨hn,hr⟩⟩
theorem P7{R:D->D->Prop}{ds xs:List D}{Q:D->Prop}(hn:xs.length=ds.length)(hf:∀ (i:Nat) d x,ds[i]? = some d->xs[i]? = some x->R d x)(hq:∀ d x,d ∈ ds->R d x->Q x):∀ x ∈ xs,Q x:=λx hx=>by
 obtain⟨i,hi⟩:=Qu hx;have h1:=(W6.mp hi).1;have h2:ds[i]? = some (ds[i]'(by omega)):=by simp[show i < ds.length by omega]
 exact hq _ x (QF _) (hf i _ x h2 hi)
theorem Fo(w:Nat)(hw:w<=100000)(δ:Dl):jx (.pure (.int (1 + (w:Int)))) δ = .ok (cm 0 (1 + w)) δ:=by
 have:=kG (1 + w) (by omega) δ;rwa [show(((1 + w:Nat):Int))=1 + (w:Int) by omega] at this
abbrev cQ(b:Nat×List Tx):D:=.tup [.str [b.1],aW b.2]
abbrev az(h w:Nat)(bs:List (Nat×List Tx)):D:=.tup [.int h,.int w,.tup (bs.map cQ)]
structure cu(h w:Nat)(bs:List (Nat×List Tx)):Prop where
 h0:0 < h
 h1:h<=4
 w0:0 < w
 w1:w<=4
 hw:2 < h + w
 n0:0 < bs.length
 n1:bs.length<=26
 up:(bs.map (·.1)).Pairwise (· < ·)
 P8:∀ b ∈ bs,97<=b.1/\b.1<=122
 cF:∀ b ∈ bs,b.2.length=h/\∀ r ∈ b.2,r.length=w/\∀ n ∈ r,n ∈ bs.map (·.1)
theorem j4(f F:A->D)(δ:Dl):∀ (as:List A) (acc:List D),acc.length + as.length<=Wb ->
  (∀ a ∈ as,∃ δ1 δ2 x δ3,g (.pure (f a)) δ=some δ1/\t δ1 = .ok true δ2/\el δ2 = .ok x δ3/\bB cs δ3=δ/\x.d=F a)->cb cs g t el (as.map f) δ acc = .ok (acc ++ as.map F) δ
 | [],acc,_,_=>by simp[cb]
 | a :: r,acc,hl,hs=>by
  obtain⟨δ1,δ2,x,δ3,e1,e2,e3,e4,e5⟩:=hs a Wf;have iV:acc.length < Wb:=by simp at hl; omega
  have ih:=j4 (cs:=cs) (g:=g) (t:=t) (el:=el) f F δ r (acc ++ [x.d]) (by simp at hl ⊢; omega) (λa ha=>hs a (W9 _ ha));rw[Wo];unfold cb;rw[e1];rw[e5] at ih;simp only[e2,ij,if_true,e3,if_pos iV,e4,e5,ih];simp
end DV
set_option maxHeartbeats 400000
namespace L2
open PySem PySem.Spec PyProof.Rows PySem.W DV SU
section
variable {X:Cx}
theorem P9 (hc:X.calm=true):eE X (.type "set") (λxs H Q=>∃ z:Tx,xs=[.str (toS z)]/\z.length < 1000/\∀ p,H p=none->Q (.ref p) (upd H p (lM X p ((z.map λn=>toS [n]).foldl dd [])))):=by
 intro pins s σ H xs us Q I r h;obtain⟨z,rfl,hz,q⟩:=h;obtain⟨u,rfl,ru⟩:=gB r;obtain⟨t,rfl⟩:=ru;have sz:(toS z).cps.size=z.length:=by simp[toS]
 refine PN (I.ok.hd hc) (by rw[sz]; unfold JS; omega) λh' tk y k=>?_
 have e:fm (λi=>⟨#[(toS z).cps.getD i 0]⟩) (toS z).cps.size=(z.map λn=>toS [n]).foldl dd []:=by
  unfold fm;congr 1
  rw[sz];refine List.ext_getElem (by simp) λi h1 h2=>?_
  simp at h1 h2;simp[toS,h2]
 rw[e] at y;exact⟨.ref _,_,I.laid (t':=tk) k (Wg _) (Pz y),rfl,q _ (I.aw.fresh (Wg _))⟩
end
end L2
namespace DV
open PySem PySem.Spec PyProof.Rows L2 SU
def dM:List Nat->List Nat->List Nat
 | σ,[]=>σ
 | σ,n :: r=>if n ∈ σ then dM σ r else dM (σ ++ [n]) r
theorem xE:∀ (z σ:List Nat),(z.map λn=>toS [n]).foldl dd (σ.map λn=>toS [n])=(dM σ z).map λn=>toS [n]
 | [],σ=>rfl
 | n :: z,σ=>by
  rw[Wo,QO];unfold dM;by_cases h:n ∈ σ
  ·rw[if_pos h];have e:dd (σ.map λn=>toS [n]) (toS [n])=σ.map λn=>toS [n]:=by
    unfold dd;rw[if_pos (Qo h)]
   rw[e];exact xE z σ
  ·rw[if_neg h];have e:dd (σ.map λn=>toS [n]) (toS [n])=(σ ++ [n]).map λn=>toS [n]:=by
    unfold dd;rw[if_neg (λy=>by
     obtain⟨m,hm,e⟩:=WV.mp y;have:=pS e;simp at this;exact h (this ▸ hm)),Jt]
    rfl
   rw[e];exact xE z (σ ++ [n])
theorem uh:∀ (z σ:List Nat),(dM σ z).length<=σ.length + z.length
 | [],σ=>by simp[dM]
 | n :: z,σ=>by
  unfold dM;split
  ·have:=uh z σ; simp; omega
  ·have:=uh z (σ ++ [n]); simp at this ⊢; omega
def lN:D->Option S
 | .str z=>if z.length < 64 then some (.own (.lst ((fj (dM [] z)).map λn=>.str [n]))) else none
 | _=>none
section
variable {X:Cx} {c:Fc} {e:Expr} {fb:BE} {pp pos xF xG:Pos}
theorem P_ (hc:X.calm=true) (hg:Gl X "sorted") (hm:X.mg "sorted" = none) (nY:Gl X "set") (m_:X.mg "set" = none) (he:SB X c e fb)
  (h1:W7 [e] X.env=(false,eval e X.env) :: W7 [] X.env:=by rfl)
  (h3:W7 [.Call (.Name "set" xF) [e] [] xG] X.env=(false,eval (.Call (.Name "set" xF) [e] [] xG) X.env) :: W7 [] X.env:=by rfl) :
  SE X c (.Call (.Name "sorted" pp) [.Call (.Name "set" xF) [e] [] xG] [] pos) (a_ lN fb) :=
 PE.weak (nP (PC hc) hg hm PyProof.Rows.boot_sorted (dt (Bu (P9 hc) nY m_ PyProof.Rows.boot_set (dt he eU h1) (by decide) (by decide) h1) eU h3) (by decide) (by decide) h3) λσ H Q ⟨δ,k,q⟩=>by
  unfold a_ at q;rw[bc] at q;refine⟨δ,k,aQ q λx δ1 q1 v H1 a1 r1=>?_⟩;unfold p1 at q1
  cases ex:lN x with
  | none=>rw[ex] at q1; exact q1.elim
  | some s =>
   rw[ex] at q1
   cases x with
   | str z =>
    simp only[lN] at ex;split at ex
    ·rename_i hz
     cases ex;have ev:=r1.str;subst ev;refine⟨z,rfl,by omega,λp hp=>?_⟩;have e0:=xE z [];rw[List.map_nil] at e0;rw[e0];have b1:=aD.alloc a1.ok hp (lM X p ((dM [] z).map λn=>toS [n]));have l1:=uh z [];simp at l1;refine⟨p,(dM [] z).map λn=>[n],rfl,by rw[WB]; exact cg,by simp; omega,λp4 Fp=>?_⟩;have e5:(eX ((dM [] z).map λn=>[n])).map (λz=>V.str (toS z))=(fj (dM [] z)).map λn=>V.str (toS [n]):=by
      rw[xA,WB]; rfl
     rw[e5];have e6:aA (upd H1 p (lM X p ((dM [] z).map λn=>toS [n]))) (Av c σ δ1) ((fj (dM [] z)).map λn=>V.str (toS [n])) ((fj (dM [] z)).map λn=>D.str [n]):=by
      have:=vW (H:=upd H1 p (lM X p ((dM [] z).map λn=>toS [n]))) (O:=Av c σ δ1) ((fj (dM [] z)).map λn=>[n]);rw[WB,WB] at this;exact this
     exact q1 _ _ (a1.trans (b1.trans (.alloc b1.ok Fp _))) (aP.back (aP.my b1.ok e6 Fp) (a1.trans b1))
    ·cases ex
   | _=>cases ex
end
end DV
namespace PySem
theorem Q_:entryFor table "dict_itemiterator.__iter__" = some Builtin.«dict_keyiterator.__iter__» :=
 entryFor_alias (id':="dict_keyiterator.__iter__") (by kernel_rfl) rfl (by decide +kernel) (by kernel_rfl)
theorem Ra(hit:IsItemIter s.heap it d i n ep ok ov)(h:Q (.ref it) s):W8 (model prog w) A (pyIter (.ref it)) Q E s:=by
 have hT:s.TypeIs (.ref it) "dict_itemiterator":=⟨_,hit,rfl⟩
 refine wpAny_pyIter_slot hT F.slot_dict_itemiterator_iter (Q9 F.slot_dict_itemiterator_iter hT Q_ ?_ (F.args_dict_itemiterator_iter_1 _));show W8 _ _ (ret (.ref it)) _ _ s;exact W4 ⟨_,rfl,"dict_itemiterator",_,hT,F.slot_dict_itemiterator_next.lookup,h⟩
end PySem
namespace L2
open PySem PySem.Spec PyProof.Rows
theorem Rb(h:(dO P w).is k u=true):RelV (kV k) u:=by
 rw[Hv] at h;rcases jw h with ⟨i,t,rfl,rfl⟩ | ⟨x,t,rfl,rfl⟩
 ·exact⟨t,rfl⟩
 ·exact⟨t,rfl⟩
def Fq(a:Addr)(ob:Obj)(kvs:List (Key×V)):It :=
 ⟨λi H=>H a=some (.frz ob (.dK kvs))/\i < kvs.length,
  λi H v H'=>∃ p k x,H p=none/\kvs[i]? = some (k,x)/\H'=upd H p (.tup [kV k,x])/\v = .ref p,
  λi H=>H a=some (.frz ob (.dK kvs))/\i=kvs.length⟩
theorem KV.get{κ:Type}{kvs:List (κ×V)}{vs:List (κ×Value)}(r:KV kvs vs):∀ {i:Nat} {k:κ} {x:V},kvs[i]? = some (k,x)->∃ u,vs[i]? = some (k,u)/\RelV x u:=by
 unfold KV at r;induction r with
 | nil=>intro i k x e; simp at e
 | cons h t ih =>
  intro i k x e
  cases i with
  | zero =>
   simp at e;subst e;rename_i q _ _;obtain⟨q1,q2⟩:=q;obtain⟨h1,h2⟩:=h;simp at h1 h2;subst h1;exact⟨q2,by simp,h2⟩
  | succ i=>exact ih (by simpa using e)
theorem Rc{P:Wm}{w:Wq}{K:W1}{elts:List Expr}{ctx}{pos:Pos}(a it:Addr)(ob:Obj)(kvs:List (Key×V))(es:Array DictEntry)(ep:Nat)(he:ob.data = .dict es ep) :
  Turn P w K (.Tuple elts ctx pos) (Fq a ob kvs) [it] it (λi h=>∃ ok ov,IsItemIter h it a i kvs.length ep ok ov):=by
 have at_:∀ {X:Cx} {pins s σ H},X.prog=P->X.w=w->Inv X pins σ H s->H a=some (.frz ob (.dK kvs))->∃ vs,KV kvs vs/\s.heap.DictAt (dO P w) a vs ep:=by
  intro X pins s σ H hP hw I e;subst hP hw;obtain⟨h1,h2⟩:s.heap.get? a=some ob/\bG X.prog X.w H s.heap a (.dK kvs):=I.aw a _ e;obtain⟨_,_,vs,r,o,es',ep',q1,q2,q3,q4⟩:=h2;rw[h1] at q1
  cases q1;rw[he] at q3
  cases q3;exact⟨vs,r,ob,es,h1,q2,he,q4⟩
 refine⟨by simp,?_,?_,?_,?_,?_⟩
 ·rintro i h ⟨ok,ov,q⟩ b hb;have e:b=it:=by simpa using hb
  subst e;exact⟨_,q,λv z=>by
   have z':Data.fields _=Data.cell v:=z
   cases z'⟩
 ·rintro i h h' ⟨ok,ov,q⟩ k;exact⟨ok,ov,k it (by simp) _ q⟩
 ·intro X hP hw hK hc i pins s σ H E I hf ⟨ok,ov,st⟩ ⟨hg,hi⟩;obtain⟨vs,r,hd⟩:=at_ hP hw I hg;subst hP hw hK;have hl:=r.length;have hx:kvs[i]? = some (kvs[i].1,kvs[i].2):=by simp[hi]
  obtain⟨u,hu,ru⟩:=KV.get r hx;have oq:it < s.heap.objs.size:=We st;rw[hl] at st;refine wpAny_pyNext_items_item st hd hu λkey h' hk hit hT hsz kp=>⟨_,rfl,wpAny_letOwnedTupleGo_items hit λh2 Rf sb=>?_⟩
  have nz:s.heap.objs.size≠it:=WI oq;have bH:∀ b ∈ [it],b < s.heap.objs.size:=λb hb=>by
   have e:b=it:=by simpa using hb
   subst e;exact oq
  have I2:Inv X pins σ (upd H s.heap.objs.size (.tup [kV kvs[i].1,kvs[i].2])) { s with heap:=h2,toks:=s.toks } :=
   Inv.EA (t':=s.toks) [it] I hf bH (Rb hk) ru ((sb.2 _ nz).trans hT) λb o hb e=>by
    have g:b≠it:=λz=>hb (by simp[z])
    exact(sb.2 b g).trans (kp b o g e)
  refine⟨.ref s.heap.objs.size,_,I2,rfl,⟨s.heap.objs.size,_,_,I.aw.fresh (Wg _),hx,rfl,rfl⟩,⟨_,_,by rw[hl]; exact Rf⟩,λb hb=>?_⟩;have e:b=it:=by simpa using hb
  subst e;rw[aG (Ne.symm nz)];exact(hf _ hb).1
 ·intro X hP hw hK hc i pins s σ H E I hf ⟨ok,ov,st⟩ ⟨hg,hi⟩;obtain⟨vs,r,hd⟩:=at_ hP hw I hg;subst hP hw hK;have hl:=r.length;rw[hl] at st;refine wpAny_pyNext_items_end (I.ok.hd hc) st hd (by simp; omega) λh' eb=>⟨rfl,Inv.wL (t':=s.toks) [it] I (λb o hb e=>eb b o (λz=>hb (by simp[z])) e) hf⟩
 ·intro A i s Q E ⟨ok,ov,st⟩ h;exact Ra st h
section
variable {X:Cx} {o:Expr} {apos ba:Pos} {elts:List Expr} {ctx:Nat} {tp:Pos} {td:TE}
def Rg(td:TE):TI:=λσ H R=>td σ H λv H1=>∃ a kvs,v = .ref a/\H1 a=some (.dK kvs)/\∀ ob,R (Fq a ob kvs) (upd H1 a (.frz ob (.dK kvs)))
theorem Rh (ho:PE X o td) (hb:Q6 o "items" X.env (eval o X.env)=eval o X.env:=by rfl) (hl:(apos.endLine == ba.line)=true:=by rfl) :
  PI X (.Tuple elts ctx tp) (.Call (.Attribute o "items" apos) [] [] ba) (Rg td):=by
 intro pins s σ H R I h;refine wpAny_Call_method (T:="dict") (id:="dict.items") hb rfl hl F.plainAttrs_dict F.slot_dict_items F.type_dict_items (aV (ho pins s σ H _ I h) λu s1 ⟨x,H1,I1,rx,a,kvs,ex,ea,q⟩=>?_);subst ex;obtain rfl:u=Value.ref a:=rx;obtain⟨z,hS,vs,r,hm⟩:=pJ I1.aw ea;refine⟨hm.typeIs,hm.mapOf.noDict,?_⟩;refine method_meetsIn F.slot_dict_items F.entry_dict_items rfl (PySem.evalArgs_none ⟨rfl,hm.typeIs,F.args_dict_items_1 _,_,meets_dict_items (dO X.prog X.w) a hS,⟨vs,hm⟩,?_⟩);obtain⟨ob,es,ep,g1,g2,g3,g4⟩:=id hm;have Ri:s1.heap.DictAt (dO X.prog X.w) a vs ep:=⟨ob,es,g1,g2,g3,g4⟩
 refine wpAny_pyIter_items (knd:=dO X.prog X.w) (d:=a) (kvs:=vs) (ep:=ep) ⟨_,Wj _ rfl,rfl,rfl⟩ (Ri.push _) ?_;generalize hh1:s1.heap.push { cls:=.type "dict_items",data:=.fields #[.ref a] } = h1;have up1:∀ b u,s1.heap.get? b=some u->h1.get? b=some u:=λb u e=>by rw[<- hh1]; exact W5 _ e
 have xH:s1.heap.objs.size<=h1.objs.size:=by rw[<- hh1,Jd]; exact U1 _
 generalize hh2:h1.push { cls:=.type "dict_itemiterator",data:=.fields #[.none,.bool false,.ref a,.int 0 0,.int vs.length 0,.int ep 0,.none,.none] } = h2;have ui:∀ b u,s1.heap.get? b=some u->h2.get? b=some u:=λb u e=>by rw[<- hh2]; exact W5 _ (up1 b u e)
 have hit:IsItemIter h2 h1.objs.size a 0 kvs.length ep .none .none:=by rw[r.length,<- hh2]; exact Wj _ rfl
 have I2:Inv X pins σ (upd H1 a (.frz ob (.dK kvs))) { s1 with heap:=h2,toks:=s1.toks } :=
  I1.write (x:=a) (e:=a) (o:=.frz ob (.dK kvs)) (t':=s1.toks) (by rw[ea]; trivial) (.inl rfl) (λb u _ e=>ui b u e) ⟨ob,ui a ob g1⟩
   ⟨ui a ob g1,z,hS,vs,r,ob,es,ep,ui a ob g1,g2,g3,g4⟩
 refine⟨h1.objs.size,[h1.objs.size],_,_,_,rfl,I2,Rc a h1.objs.size ob kvs es ep g3,⟨_,_,hit⟩,λb hb=>?_,q ob⟩;have e:b=h1.objs.size:=by simpa using hb
 subst e;refine I1.jB xH ?_;rw[aG (WI (Wv (We g1) xH))];exact I1.aw.fresh xH
end
end L2
namespace DV
open PySem PySem.Spec PyProof.Rows L2
def Fs:aU->D
 | .inl i=>.int i
 | .inr x=>.str x
theorem Rj(k:aU):Rep H O (kV (cT k)) (Fs k):=by
 cases k with
 | inl i=>exact .int i
 | inr x=>exact .str x
def nh(ds:List (aU×D)):List D:=ds.map λp=>D.tup [Fs p.1,p.2]
section
variable {X:Cx} {c:Fc} {o:Expr} {i:Nat} {apos ba:Pos} {elts:List Expr} {ctx:Nat} {tp:Pos}
def oN(i:Nat):DI:=λδ=>match δ[i]? with
 | some (some (.own (.ay ds)))=>.ok (nh ds) (δ.set i none)
 | _=>.stuck
theorem Ok.freeze(k:Ok c σ δ H)(e:δ[i]? = some (some (.own (.ay ds))))(ea:σ[i]? = some (some (.ref a))) :
  aD c σ δ H σ (δ.set i none) (upd H a u):=by
 obtain⟨a',ck,oa,hI,nB⟩:=k.own i _ e;rw[ea] at ck
 cases ck;have hO:Own σ δ a:=⟨i,_,e,ea⟩
 have hi:i < δ.length:=(W6.mp e).1;have sub:∀ b,Own σ (δ.set i none) b->Own σ δ b:=λb ⟨j,d,f1,f2⟩=>by
  by_cases hj:i=j
  ·subst hj;rw[Wc hi] at f1
   cases f1
  ·rw[W3 hj] at f1;exact⟨j,d,f1,f2⟩
 have jQ:∀ b,Av c σ (δ.set i none) b->Av c σ δ b:=λb z=>z.elim .inl λz=>.inr (sub b z)
 have kp:∀ b o,H b=some o->¬ Av c σ δ b->upd H a u b=some o:=λb o h n=>by
  rw[aG λz=>n (.inr (by rw[z]; exact hO))];exact h
 have th:∀ b o,H b=some o->∃ o',upd H a u b=some o':=λb o h=>by
  by_cases hb:b=a
  ·subst hb; exact⟨u,cg⟩
  ·exact⟨o,by rw[aG hb]; exact h⟩
 have up:∀ {v d},Rep H (Av c σ δ) v d->Rep (upd H a u) (Av c σ (δ.set i none)) v d:=λr=>(r.keep kp).aJ λb z=>.inl (jQ b z)
 refine⟨⟨λb o h n=>?_,λb h=>?_,λb h=>?_,by rw[WS]; exact k.len,λj d f=>?_,λj d f=>?_,λj l b d1 d2 f1 f2 g1 g2=>?_,k.pinned⟩,λb o h n=>?_,λb z=>.inl (sub b z),th⟩
 ·have hb:b≠a:=λz=>by
   subst z;rcases hI with q | q
   ·exact n q
   ·rw[q] at h; cases h
  rw[aG hb];exact k.keep b o h n
 ·obtain⟨o,h'⟩:=k.bd b h;exact th b o h'
 ·obtain⟨o,h'⟩:=k.cN b h;exact th b o h'
 ·have hj:i≠j:=λz=>by subst z; rw[Wc hi] at f; cases f
  rw[W3 hj] at f;obtain⟨v,g1,g2⟩:=k.slot j d f;exact⟨v,g1,up g2⟩
 ·have hj:i≠j:=λz=>by subst z; rw[Wc hi] at f; cases f
  rw[W3 hj] at f;obtain⟨b,g1,g2,g3⟩:=k.own j d f;have hb:b≠a:=λz=>by subst z; exact hj (k.inj i j b _ _ e f ea g1)
  exact⟨b,g1,(g2.keep kp λo h=>by rw[aG hb]; exact h).aJ λb z=>.inl (jQ b z),g3⟩
 ·have h1:i≠j:=λz=>by subst z; rw[Wc hi] at f1; cases f1
  have h2:i≠l:=λz=>by subst z; rw[Wc hi] at f2; cases f2
  rw[W3 h1] at f1;rw[W3 h2] at f2;exact k.inj j l b d1 d2 f1 f2 g1 g2
 ·rw[aG λz=>n (by rw[z]; exact hO)];exact h
theorem Rk (ho:PE X o (b_ i)) (hb:Q6 o "items" X.env (eval o X.env)=eval o X.env:=by rfl) (hl:(apos.endLine == ba.line)=true:=by rfl) :
  SI X c (.Tuple elts ctx tp) (.Call (.Attribute o "items" apos) [] [] ba) (oN i) :=
 PI.weak (Rh ho hb hl) λσ H R ⟨δ,k,q⟩=>by
  unfold oN at q;split at q
  case h_2=>exact q.elim
  rename_i ds e;obtain⟨a,ea,⟨ws,hw,hk,hr⟩,hI,nB⟩:=k.own i _ e;refine⟨.ref a,ea,a,ws,rfl,hw,λob=>?_⟩;have af:=k.freeze (u:=.frz ob (.dK ws)) e ea;refine q _ _ af λH2 kp=>?_
  have hi:i < δ.length:=(W6.mp e).1;have na:¬ Own σ (δ.set i none) a:=λ⟨j,d,f1,f2⟩=>by
   by_cases hj:i=j
   ·subst hj;rw[Wc hi] at f1
    cases f1
   ·rw[W3 hj] at f1;exact hj (k.inj i j a _ _ e f1 ea f2)
  have h2:H2 a=some (.frz ob (.dK ws)):=kp a _ cg na;have hlen:ws.length=ds.length:=by simpa using congrArg Jv hk
  refine⟨⟨h2,by simp[nh,hlen]⟩,λj d f=>?_⟩;unfold nh at f;rw[Ww] at f
  cases ej:ds[j]? with
  | none=>rw[ej] at f; cases f
  | some qd =>
   rw[ej] at f
   cases f;have hj:j < ws.length:=by rw[hlen]; exact(W6.mp ej).1
   refine⟨⟨h2,hj⟩,λx H3 ⟨p,kk,xv,hp,hkv,e3,ex⟩=>.inr ⟨p,_,_,hp,e3,ex,rfl,?_⟩⟩;have uW:kk=cT qd.1:=by
    have:=congrArg (λl=>l[j]?) hk;simp only[Ww,hkv,ej,WA] at this;exact Wx this
   subst uW;have rv:Rep H (Av c σ δ) xv qd.2:=hr j _ _ hkv ej;have hO:Own σ δ a:=⟨i,_,e,ea⟩
   have Rm:Rep (upd H a (.frz ob (.dK ws))) (Av c σ (δ.set i none)) xv qd.2:=(rv.keep λb o h n=>by
    rw[aG λz=>n (.inr (by rw[z]; exact hO))];exact h).aJ λb z=>.inl (z.elim .inl λ⟨j,d,f1,f2⟩=>.inr (by
     by_cases hj:i=j
     ·subst hj;rw[Wc hi] at f1
      cases f1
     ·rw[W3 hj] at f1;exact⟨j,d,f1,f2⟩))
   exact aA.two (Rj _) Rm
end
end DV
namespace L2
open PySem PySem.Spec PyProof.Rows
section
variable {X:Cx}
def Ft(K:W1):R2:=λx y H Q=>∃ l k xs,x = .ref l/\y = .int k/\bS K H l xs/\xs≠[]/\0<=k/\k<=1000/\xs.length<=1000/\∀ p,H p=none->Q (.ref p) (upd H p (.lst (Wa k.toNat xs).flatten))
theorem Fu:bT X (Qn .Mult) (Ft X.K):=by
 intro pins s σ H x y v u Q I rx ry h;obtain⟨l,k,xs,rfl,rfl,hH,dR,h1,h2,hz,q⟩:=h
 cases rx;obtain⟨t,rfl⟩:=ry;obtain⟨ag,r,pl,hl⟩:=I.list hH;obtain⟨⟨cls,dd,data,sl⟩,ho,hc,n,hd⟩:=pl.isList;simp only at hc hd;subst hc hd;have hlen:ag.toArray.size=xs.length:=by rw[Wn]; exact r.length.symm
 have tM:ag.toArray.isEmpty=false:=by
  cases ag with
  | nil=>exact absurd (r.pE.mp rfl) dR
  | cons a b=>rfl
 have dZ:Wb=16777216:=rfl;have VY:xs.length * k.toNat<=1000000:=by
  have:xs.length * k.toNat<=1000 * 1000:=JV hz (by omega);omega
 have tN:List.foldl (λx1 x2=>x1 ++ x2) #[] (Wa k.toNat ag.toArray)=(Wa k.toNat ag).flatten.toArray:=by
  have:=u_ ag k.toNat [];rw[Q1] at this;exact this
 refine wpAny_binaryOp_repeat_ref (T:="list") (U:="int") (by decide) ⟨_,ho,rfl⟩ (λs'=>typeIs_int s' k t) noFill_list_mul F.fills_int_mul F.slot_int_rmul repeat_list F.slot_int_index.lookup
  (Ja F.slot_int_rmul (typeIs_int s k t) F.entry_int_rmul (F.args_int_rmul_2 _ _) (lm_int_rmul_list_any k t l ag.toArray n dd sl)
   ⟨ho,rfl,⟨_,ho,rfl⟩,Ja F.slot_list_mul ⟨_,ho,rfl⟩ F.entry_list_mul (F.args_list_mul_2 _ _) (lm_list_mul_any l ag.toArray n dd sl k t ?_ ?_ ?_) ⟨ho,?_⟩⟩)
 ·unfold Builtin.List.listFitsIndex;simp;omega
 ·rw[hlen]; omega
 ·rw[hlen];unfold Builtin.List.listTooLong;simp only[dZ,decide_eq_true_eq];omega
 ·rw[if_neg (by rw[tM]; exact Q7),tN];have I1:Inv X pins σ (upd H s.heap.objs.size (.lst (Wa k.toNat xs).flatten)) { s with heap:=s.heap.push { cls:=.type "list",data:=.seq (Wa k.toNat ag).flatten.toArray } } :=
   I.laid (t':=s.toks) (λb o e=>W5 _ e) (Wg _) (show bG X.prog X.w _ _ _ (.lst (Wa k.toNat xs).flatten) from⟨by rw[sf,U7]; omega,(Wa k.toNat ag).flatten,0,r.rep k.toNat,Wj _ rfl⟩)
  exact⟨.ref _,_,I1,rfl,q _ (I.aw.fresh (Wg _))⟩
end
end L2
namespace DV
open PySem PySem.Spec PyProof.Rows L2
def gL:D->D->Option S
 | .lst xs,.int k=>if 0<=k/\k<=1000/\0 < xs.length/\xs.length<=1000 then some (.own (.lst (Wa k.toNat xs).flatten)) else none
 | _,_=>none
theorem Fv{K:W1}:cX (Ft K) gL:=by
 intro c σ δ H x y d e s Q k rx ry hp q
 cases d <;> cases e <;> first | (simp[gL] at hp; done) | skip
 rename_i ds n;simp only[gL] at hp;split at hp
 ·rename_i h
  cases hp;obtain⟨a,vs,ex,ha,r⟩:=rx.lst;refine⟨a,n,vs,ex,ry.int,.inl ha,?_,h.1,h.2.1,by rw[r.1]; exact h.2.2.2,λp qF=>?_⟩
  ·intro z;rw[z] at r;have:=r.1;simp at this;omega
  ·exact q _ _ (.alloc k qF _) (aP.my k (aA.rep r _) qF)
 ·cases hp
end DV
namespace L2
open PySem PySem.Spec PyProof.Rows
theorem Inv.adopt(I:Inv X pins σ H s)(hf:ft X pins H b)(new:bG X.prog X.w (upd H b o) s.heap b o):Inv X pins σ (upd H b o) s:=by
 obtain⟨hn,f1,f2,f3,f4,f5⟩:=hf;have ne:∀ {c u},H c=some u->c≠b:=λe=>fP e hn
 refine I.step (g':=s.gens) (d':=s.drawn) (t':=s.toks) (h':=s.heap) (ch:=[b]) (λc hc=>?_) (λc u _ _ _ e _=>e) (λc u _ _ _ e _=>⟨u.slots,e⟩) (λc u hc _ e=>?_) (λc u _ e=>⟨u,e⟩) (λc xs e=>by rw[aG (ne e)]; exact e) (λc u xs e=>by rw[aG (ne e)]; exact e)
  (λc ps e=>⟨#[],by rw[aG (ne e),e]; simp⟩) (λm h=>h) (λc u e=>?_) I.bare
 ·have z:c=b:=by simpa using hc
  subst z;exact⟨f3,f1,f4,f5⟩
 ·rw[aG λz=>hc (by simp[z])];exact e
 ·by_cases hb:c=b
  ·subst hb;rw[cg] at e
   cases e;exact new
  ·rw[aG hb] at e;exact(I.aw c u e).jy (λ_ _ _ q=>q) (λ_ q=>by rw[aG (ne q)]; exact q) λ_ _ q=>by rw[aG (ne q)]; exact q
def jf(H:Hp):List Addr->List V->List V->Hp
 | a :: as,x :: xs,y :: ys=>jf (upd H a (.tup [x,y])) as xs ys
 | _,_,_=>H
theorem xI:∀ {as:List Addr} {xs ys:List V} {H:Hp},b ∉ as->jf H as xs ys b=H b
 | [],_,_,_,_=>rfl
 | _ :: _,[],_,_,_=>rfl
 | _ :: _,_ :: _,[],_,_=>rfl
 | a :: as,x :: xs,y :: ys,H,h=>by
  have h1:b≠a:=λz=>h (by simp[z])
  have h2:b ∉ as:=λz=>h (by simp[z])
  unfold jf;rw[xI h2,aG h1]
theorem Fw(hf:∀ (H':Hp) b,n<=b->H' b=none->ft X pins H' b):∀ (as:List Addr) (xs ys:List V) (H:Hp),Inv X pins σ H s->as.Nodup->(∀ a ∈ as,n<=a/\H a=none) ->
  (∀ (j:Nat) a,as[j]? = some a->∃ x y u v,xs[j]? = some x/\ys[j]? = some y/\RelV x u/\RelV y v/\IsPair s.heap a u v)->Inv X pins σ (jf H as xs ys) s
 | [],xs,ys,H,I,_,_,_=>I
 | a :: as,xs,ys,H,I,nd,hn,hp=>by
  obtain⟨x,y,u,v,e1,e2,r1,r2,t⟩:=hp 0 a rfl
  cases xs with
  | nil=>simp at e1
  | cons x' xs =>
   cases ys with
   | nil=>simp at e2
   | cons y' ys =>
    simp at e1 e2;subst e1 e2;unfold jf;obtain⟨h1,h2⟩:=hn a Wf;refine Fw hf as xs ys _ (I.adopt (hf H a h1 h2) ⟨by simp only[WD,Jp]; rw[Qr]; decide,[u,v],.cons r1 (.cons r2 .nil),⟨0,t⟩⟩) (WR.mp nd).2 (λb hb=>?_) λj b e=>hp (j + 1) b (by simpa using e)
    obtain⟨q1,q2⟩:=hn b (W9 _ hb);refine⟨q1,?_⟩;rw[aG λz=>(WR.mp nd).1 (by rw[<- z]; exact hb)];exact q2
section
variable {X:Cx} {a b:Expr} {ta:TA} {pp pos qU qV:Pos}
theorem Fx:∀ as:List Addr,Vals (as.map V.ref) (as.map Value.ref)
 | []=>.nil
 | a :: as=>.cons rfl (Fx as)
end
end L2
namespace DV
open PySem PySem.Spec PyProof.Rows L2
theorem Fy:∀ {as:List Addr} {xs ys:List V} {ds es:List D} {H:Hp},Ok c σ δ H->as.Nodup->(∀ a ∈ as,H a=none)->as.length=xs.length->aA H (Av c σ δ) xs ds->aA H (Av c σ δ) ys es->xs.length=ys.length ->
  aD c σ δ H σ δ (jf H as xs ys)/\aA (jf H as xs ys) (Av c σ δ) (as.map V.ref) (gf ds es)
 | [],xs,ys,ds,es,H,k,_,_,hl,r1,r2,_=>by
  cases xs with
  | cons x xs=>simp at hl
  | nil =>
   have:ds=[]:=by
    have:=r1.1;simp at this;exact List.length_eq_zero_iff.mp this.symm
   subst this;exact⟨.refl k,aA.nil⟩
 | a :: as,xs,ys,ds,es,H,k,nd,hn,hl,r1,r2,kl=>by
  cases xs with
  | nil=>simp at hl
  | cons x xs =>
   cases ys with
   | nil=>simp at kl
   | cons y ys =>
    cases ds with
    | nil=>have:=r1.1; simp at this
    | cons d ds =>
     cases es with
     | nil=>have:=r2.1; simp at this
     | cons e es =>
      unfold jf;have ha:=hn a Wf;have al:aD c σ δ H σ δ (upd H a (.tup [x,y])):=.alloc k ha _;have t:Rep (upd H a (.tup [x,y])) (Av c σ δ) (.ref a) (.tup [d,e]):=aP.mz k (aA.two r1.head r2.head) ha;have up:∀ b o,H b=some o->¬ Av c σ δ b->upd H a (.tup [x,y]) b=some o:=λb o h _=>by rw[aG (fP h ha)]; exact h
      obtain⟨h1,h2⟩:=Fy (as:=as) (xs:=xs) (ys:=ys) (ds:=ds) (es:=es) al.ok (WR.mp nd).2 (λb hb=>by
       rw[aG λz=>(WR.mp nd).1 (by rw[<- z]; exact hb)];exact hn b (W9 _ hb)) (by simpa using hl) (aA.keep r1.tail up) (aA.keep r2.tail up) (by simpa using kl)
      exact⟨al.trans h1,.cons (Rep.cU t h1) h2⟩
section
variable {X:Cx} {c:Fc} {a b:Expr} {f g:DE} {pp pos qU qV:Pos}
end
section
variable {c:Fc} {σ σ':St} {δ δ':Dl} {H H':Hp} {i:Nat} {a p d:Addr} {dd:D}
theorem Fz(e:δ[i]? = some (some (.own dd)))(ea:σ[i]? = some (some (.ref a)))(b:Addr)(z:Av (c.br i a) σ (δ.set i none) b):Av c σ δ b:=by
 rcases z with (z | z) | z
 ·exact .inl z
 ·subst z; exact .inr ⟨i,_,e,ea⟩
 ·exact .inr z.unset
theorem Ok.Rn(k:Ok c σ δ H)(e:δ[i]? = some (some (.own dd)))(ea:σ[i]? = some (some (.ref a))):Ok (c.br i a) σ (δ.set i none) H:=by
 have sub:=Fz (c:=c) e ea;have ne:∀ j d,(δ.set i none)[j]? = some (some d)->i≠j/\δ[j]? = some (some d):=λj d q=>by
  by_cases hj:i=j
  ·subst hj;rw[Wc (W6.mp e).1] at q; cases q
  ·rw[W3 hj] at q; exact⟨hj,q⟩
 refine⟨λb o h n=>k.keep b o h λ⟨j,z⟩=>n ⟨j,W9 _ z⟩,λb z=>?_,λb ⟨j,z⟩=>?_,by rw[WS]; exact k.len,λj d q=>?_,λj d q=>?_,λj l b d d' q1 q2=>?_,λp hp=>?_⟩
 ·rcases z with z | z
  ·exact k.bd b z
  ·subst z; exact k.ki ⟨i,_,e,ea⟩
 ·rcases Wl.mp z with z | z
  ·cases z; exact k.ki ⟨i,_,e,ea⟩
  ·exact k.cN b ⟨j,z⟩
 ·obtain⟨_,q⟩:=ne j _ q;obtain⟨v,g1,g2⟩:=k.slot j d q;exact⟨v,g1,g2.aJ λb z=>.inl (sub b z)⟩
 ·obtain⟨hj,q⟩:=ne j _ q;obtain⟨b,g1,g2,g3,g4⟩:=k.own j d q;refine⟨b,g1,g2.aJ λb z=>.inl (sub b z),g3.imp (λ⟨l,z⟩=>⟨l,W9 _ z⟩) id,λz=>?_⟩;rcases z with z | z
  ·exact g4 z
  ·subst z; exact hj (k.inj i j b _ _ e q ea g1)
 ·exact k.inj j l b d d' (ne j _ q1).2 (ne l _ q2).2
 ·rcases Wl.mp hp with z | z
  ·subst z; exact ea
  ·exact k.pinned p z
theorem xJ{O:Addr->Prop}{u:HO}(hO:O a):∀ b o,H b=some o->¬ O b->upd H a u b=some o:=λb o h n=>by
 rw[aG λz=>n (by rw[z]; exact hO)];exact h
theorem Ok.uj(k:Ok c σ δ H)(hB:c.B a)(h0:c.I a\/c.H₀ a=none):Ok c σ δ (upd H a u):=by
 have kp:∀ b o,H b=some o->¬ Av c σ δ b->upd H a u b=some o:=xJ (.inl hB);have th:∀ b o,H b=some o->∃ o',upd H a u b=some o':=λb o h=>by
  by_cases hb:b=a
  ·subst hb; exact⟨u,cg⟩
  ·exact⟨o,by rw[aG hb]; exact h⟩
 refine⟨λb o h n=>?_,λb z=>(k.bd b z).elim λo h=>th b o h,λb z=>(k.cN b z).elim λo h=>th b o h,k.len,λj d q=>?_,λj d q=>?_,k.inj,k.pinned⟩
 ·have hb:b≠a:=λz=>by
   subst z;rcases h0 with z | z
   ·exact n z
   ·rw[z] at h; cases h
  rw[aG hb];exact k.keep b o h n
 ·obtain⟨v,g1,g2⟩:=k.slot j d q;exact⟨v,g1,g2.keep kp⟩
 ·obtain⟨b,g1,g2,g3,g4⟩:=k.own j d q;have hb:b≠a:=λz=>g4 (by rw[z]; exact hB)
  exact⟨b,g1,g2.keep kp λo h=>by rw[aG hb]; exact h,g3,g4⟩
end
structure Gh(c:Fc)(i:Nat)(p d:Addr)(σ0:St)(δ0:Dl)(H0:Hp)(ws:List (Key×V))(ds:List (aU×D))(t:Tx)(σ:St)(δ:Dl)(H:Hp)(vs:List V)(xs:List D):Prop where
 ok:Ok ((c.plus p).br i d) σ δ H
 hd:H d=some (.dK (putK ws (.inr (toS t)) (.ref p)))
 hp:H p=some (.lst vs)
 rv:aA H (Av ((c.plus p).br i d) σ δ) vs xs
 dr:DR H (Av ((c.plus p).br i d) σ δ) ws ds
 keep:∀ a o,H0 a=some o->¬ Own σ0 δ0 a->H a=some o
 own:∀ a,Own σ δ a->Own σ0 δ0 a\/H0 a=none
 there:∀ a o,H0 a=some o->∃ o',H a=some o'
section
variable {c:Fc} {i:Nat} {p d:Addr} {σ0 σ σ':St} {δ0 δ δ':Dl} {H0 H H':Hp} {ws:List (Key×V)} {ds:List (aU×D)} {t:Tx} {vs fL:List V} {xs jg:List D}
theorem xK(k:Ok c σ δ H)(h:c.B a):¬ Own σ δ a:=λ⟨j,e,f1,f2⟩=>by
 obtain⟨b,g1,_,_,g4⟩:=k.own j e f1;rw[f2] at g1
 cases g1;exact g4 h
theorem Gh.cU(g:Gh c i p d σ0 δ0 H0 ws ds t σ δ H vs xs)(x:aD ((c.plus p).br i d) σ δ H σ' δ' H'):Gh c i p d σ0 δ0 H0 ws ds t σ' δ' H' vs xs:=by
 have nd:¬ Own σ δ d:=xK g.ok (.inr rfl);have np:¬ Own σ δ p:=xK g.ok (.inl (.inr rfl));refine⟨x.ok,x.keep _ _ g.hd nd,x.keep _ _ g.hp np,aA.cU g.rv x,g.dr.map λv d h=>Rep.cU h x,λa o e n=>x.keep a o (g.keep a o e n) λz=>?_,λa z=>?_,λa o e=>?_⟩
 ·rcases g.own a z with q | q
  ·exact n q
  ·rw[q] at e; cases e
 ·rcases x.own a z with q | q
  ·exact g.own a q
  ·refine .inr ?_
   cases h:H0 a with
   | none=>rfl
   | some o =>
    obtain⟨o',e⟩:=g.there a o h;rw[q] at e; cases e
 ·obtain⟨o',e'⟩:=g.there a o e;exact x.there a o' e'
theorem Gh.uj(g:Gh c i p d σ0 δ0 H0 ws ds t σ δ H vs xs)(h0:H0 p=none)(h1:c.H₀ p=none)(nj:d≠p)(r:aA H (Av ((c.plus p).br i d) σ δ) fL jg):Gh c i p d σ0 δ0 H0 ws ds t σ δ (upd H p (.lst fL)) fL jg:=by
 have hB:((c.plus p).br i d).B p:=.inl (.inr rfl);have kp:∀ b o,H b=some o->¬ Av ((c.plus p).br i d) σ δ b->upd H p (.lst fL) b=some o:=xJ (.inl hB);refine⟨g.ok.uj hB (.inr h1),by rw[aG nj]; exact g.hd,cg,aA.keep r kp,g.dr.map λv d h=>h.keep kp,λa o e n=>?_,g.own,λa o e=>?_⟩
 ·rw[aG λz=>by rw[z,h0] at e; cases e];exact g.keep a o e n
 ·by_cases ha:a=p
  ·subst ha; exact⟨_,cg⟩
  ·rw[aG ha]; exact g.there a o e
theorem Gh.done(g:Gh c i p d σ0 δ0 H0 ws ds t σ δ H vs xs)(hI:c.I d\/c.H₀ d=none)(nB:¬ c.B d)(hO:Own σ0 δ0 d)(xM:¬ c.B p)(nj:d≠p) :
  aD c σ0 δ0 H0 σ (δ.set i (some (.own (.ay (putD ds (.inr t) (.lst xs)))))) H:=by
 have k':=g.ok;have ck:σ[i]? = some (some (.ref d)):=k'.pinned (i,d) Wf;have dD:i < δ.length:=by rw[k'.len]; exact(W6.mp ck).1
 generalize hD:putD ds (.inr t) (.lst xs)=dz;have ne:∀ j e,(δ.set i (some (.own (.ay dz))))[j]? = some (some e)->(j=i/\e = .own (.ay dz))\/(i≠j/\δ[j]? = some (some e)):=λj e q=>by
  by_cases hj:i=j
  ·subst hj;rw[Wc dD] at q
   cases q; exact .inl ⟨rfl,rfl⟩
  ·rw[W3 hj] at q; exact .inr ⟨hj,q⟩
 have own:∀ b,Own σ (δ.set i (some (.own (.ay dz)))) b->b=d\/Own σ δ b:=λb ⟨j,e,q1,q2⟩=>by
  rcases ne j _ q1 with ⟨z,_⟩ | ⟨_,z⟩
  ·subst z; rw[ck] at q2; cases q2; exact .inl rfl
  ·exact .inr ⟨j,e,z,q2⟩
 have sub:∀ b,Av c σ (δ.set i (some (.own (.ay dz)))) b->Av ((c.plus p).br i d) σ δ b:=λb z=>by
  rcases z with z | z
  ·exact .inl (.inl (.inl z))
  ·rcases own b z with z | z
   ·exact .inl (.inr z)
   ·exact .inr z
 have FA:∀ (j:Nat) (e:D) (b:Addr),δ[j]? = some (some (.own e))->σ[j]? = some (some (.ref b))->b≠d:=λj e b q1 q2 z=>by
  obtain⟨b',g1,_,_,g4⟩:=k'.own j e q1;rw[q2] at g1; cases g1
  exact g4 (.inr z)
 have np:¬ Av c σ (δ.set i (some (.own (.ay dz)))) p:=λz=>by
  rcases z with z | z
  ·exact xM z
  ·rcases own p z with z | z
   ·exact nj z.symm
   ·exact xK k' (.inl (.inr rfl)) z
 have an:∀ {v e},Rep H (Av ((c.plus p).br i d) σ δ) v e->Rep H (Av c σ (δ.set i (some (.own (.ay dz))))) v e:=λr=>r.aJ λb z=>.inl (sub b z)
 refine⟨⟨λb o h n=>?_,λb z=>k'.bd b (.inl (.inl z)),λb ⟨j,z⟩=>k'.cN b ⟨j,W9 _ z⟩,by rw[WS]; exact k'.len,λj e q=>?_,λj e q=>?_,λj l b e e' q1 q2 s1 s2=>?_,λp hp=>k'.pinned p (W9 _ hp)⟩,g.keep,λb z=>?_,g.there⟩
 ·refine k'.keep b o h λ⟨j,z⟩=>?_
  rcases Wl.mp z with z | z
  ·cases z;rcases hI with f3 | f3
   ·exact n f3
   ·rw[show c.H₀ d=some o from h] at f3; cases f3
  ·exact n ⟨j,z⟩
 ·rcases ne j _ q with ⟨_,z⟩ | ⟨_,q⟩
  ·cases z
  ·obtain⟨v,g1,g2⟩:=k'.slot j e q;exact⟨v,g1,an g2⟩
 ·rcases ne j _ q with ⟨z,z'⟩ | ⟨hj,q⟩
  ·subst z; cases z'
   have rl:Rep H (Av c σ (δ.set j (some (.own (.ay dz))))) (.ref p) (.lst xs):=.lst np (.inl g.hp) g.rv.1 λn v e e1 e2=>an (g.rv.2 n v e e1 e2)
   have dr:=(g.dr.map λv e h=>an h).put (k:=.inr t) rl;rw[hD] at dr;exact⟨d,ck,⟨_,g.hd,dr.keys,dr.vals⟩,hI,nB⟩
  ·obtain⟨b,g1,g2,g3,g4⟩:=k'.own j e q;refine⟨b,g1,g2.aJ λb z=>.inl (sub b z),g3.imp (λ⟨l,z⟩=>?_) id,λz=>g4 (.inl (.inl z))⟩;rcases Wl.mp z with z | z
   ·cases z; exact absurd (.inr rfl) g4
   ·exact⟨l,z⟩
 ·rcases ne j _ q1 with ⟨z,_⟩ | ⟨hj,z1⟩ <;> rcases ne l _ q2 with ⟨z',_⟩ | ⟨hl,z2⟩
  ·rw[z,z']
  ·subst z; rw[ck] at s1; cases s1; exact absurd rfl (FA l _ _ z2 s2)
  ·subst z'; rw[ck] at s2; cases s2; exact absurd rfl (FA j _ _ z1 s1)
  ·exact k'.inj j l b e e' z1 z2 s1 s2
 ·rcases own b z with z | z
  ·subst z; exact .inl hO
  ·exact g.own b z
end
def kH(j m:Nat)(t:Tx)(g:DG)(b:DS):Tx->List D->Dl->Rs (List D)
 | [],xs,δ=>.ok xs δ
 | ch :: r,xs,δ=>match g (.pure (.str [ch])) δ with
  | none=>.stuck
  | some δ1=>(b δ1).bind λfl δ2=>match fl,δ2[j]?,δ2[m]? with
   | .next,some (some (.pure (.str t'))),some (some (.pure (.int n)))=>if t'=t/\0<=n then match xs[n.toNat]? with
    | some (.int q)=>kH j m t g b r (xs.set n.toNat (.int (q + 1))) δ2
    | _=>.stuck else .stuck
   | _,_,_=>.stuck
def nk(i j m:Nat)(f1 fi:DE)(g:DG)(b:DS):DS:=λδ=>if jT δ i then(f1 δ).bind λr δ1=>match r,δ1[i]?,δ1[j]? with
 | .own (.lst xs),some (some (.own (.ay ds))),some (some (.pure (.str t)))=>if ds.length < Wb then
   (fi (δ1.set i none)).bind λz δ2=>match z with
    | .pure (.str tx)=>(kH j m t g b tx xs δ2).bind λjg δ3=>.ok .next (δ3.set i (some (.own (.ay (putD ds (.inr t) (.lst jg))))))
    | _=>.stuck
   else .stuck
 | _,_,_=>.stuck else .stuck
section
variable {X:Cx} {c:Fc}
def Ro(K:W1)(i j m:Nat):TS :=
 px (iX (iz λi j=>.int (i + j)) (iX (pG K) (iX qJ (b_ i) (b_ j)) (b_ m)) (tC (.int 1))) (AZ (iX qJ (b_ i) (b_ j)) (b_ m) BG)
theorem Rp{i j m:Nat}{o1 o2 o3 x1 x2 x3 y2 y3 e1 iter tg:Expr}{st:Stmt}{rest:List Stmt}{f1 fi:DE}{g:DG}{b fr:DS}{p1 p2 p3 p4 p5 p6 p7 p8 p9 gh:Pos}{jj}
  (hu:X.A.units + 64 < Qp) (hp:PassesOwn (model X.prog X.w) X.A X.env X.xe) (hc:X.calm=true)
  (Rq:PE X o1 (b_ i)) (t5:PE X x1 (b_ j)) (he:SE X c e1 f1)
  (kb:PE X o2 (b_ i)) (mZ:PE X x2 (b_ j)) (Rr:PE X y2 (b_ m)) (Rt:PE X o3 (b_ i)) (Ru:PE X x3 (b_ j)) (Rv:PE X y3 (b_ m))
  (hi:∀ p d,SE X ((c.plus p).br i d) iter fi) (hg:∀ p d,SG X ((c.plus p).br i d) tg g) (hb:∀ p d,SS X ((c.plus p).br i d) st b) (hr:fV X c rest fr)
  (n2:nQ x2) (n3:nQ x3) (m2:nQ y2)
  (lC:QQ e1 (some (.Subscript o1 x1 p1)) p2.line X.env=pure false:=by rfl)
  (mI:∀ x,Qw iter X.env x=pure x:=by intro _; rfl)
  (ha:∀ v,assign (.Subscript (.Subscript o3 x3 p7) y3 p8) X.env v=(do
   let ov <- holding [v] (eval (.Subscript o3 x3 p7) X.env)
   let iv <- holding [v,ov] (eval y3 X.env)
   standAt p8
   holding [v,ov,iv] (setItem ov iv v)
   release [v,ov,iv] []):=by intro _; rfl)
  (vx:swapsWithSole [.Subscript (.Subscript o3 x3 p7) y3 p8] (.BinOp (.Subscript (.Subscript o2 x2 p3) y2 p4) .Add (.Constant (.int 1) jj p5) p6) p9.line X.env=pure false:=by rfl)
  (Rw:swappedStores [.Subscript (.Subscript o3 x3 p7) y3 p8] (.BinOp (.Subscript (.Subscript o2 x2 p3) y2 p4) .Add (.Constant (.int 1) jj p5) p6) X.env=pure none:=by rfl)
  (h1:(Qc [.Subscript (.Subscript o3 x3 p7) y3 p8] X.env).map (·.2)=[assign (.Subscript (.Subscript o3 x3 p7) y3 p8) X.env]:=by rfl) :
  fV X c (.Assign [.Subscript o1 x1 p1] e1 p2 :: .For tg iter [st,.Assign [.Subscript (.Subscript o3 x3 p7) y3 p8] (.BinOp (.Subscript (.Subscript o2 x2 p3) y2 p4) .Add (.Constant (.int 1) jj p5) p6) p9] [] gh :: rest) (au (nk i j m f1 fi g b) fr):=by
 have Rx:PS X (.Assign [.Subscript (.Subscript o3 x3 p7) y3 p8] (.BinOp (.Subscript (.Subscript o2 x2 p3) y2 p4) .Add (.Constant (.int 1) jj p5) p6) p9) (Ro X.K i j m) :=
  uO (uS Ba (pF cx (pF (wJ hu) kb mZ n2) Rr m2) AM) (A0 (pF (wJ hu) Rt Ru n3) Rv BH ha) vx Rw h1
 refine dC.weak (rS (BS (by omega) Rq t5 he lC) (rS (A7 hp hc (wB (tl:=λσ H Q=>∃ p d,tD ((c.plus p).br i d) fi σ H Q) λpins s σ H Q I ⟨p,d,q⟩=>hi p d pins s σ H Q I q)
  (g:=λv σ H Q=>∃ p d,sW ((c.plus p).br i d) g v σ H Q) (λpins s σ H v u Q I r ⟨p,d,q⟩=>hg p d pins s σ H v u Q I r q)
  (rS (t:=λD σ H=>∃ p d,kq ((c.plus p).br i d) b D σ H) (λpins s σ H D I ⟨p,d,q⟩=>hb p d pins s σ H D I q) (uM Rx)) mI) hr)) λD σ H ⟨δ,k,q⟩=>?_
 unfold au nk ei at q;rw[bc] at q;split at q
 case isFalse=>exact q.elim
 rename_i hown;obtain⟨ds0,e0⟩:=Eb hown;obtain⟨d,ed,_,hI,nB⟩:=k.own i _ e0;have hO:Own σ δ d:=⟨i,_,e0,ed⟩
 rw[bc] at q;refine⟨δ,k,aQ q λr δ1 q1 v H1 a1 r1=>?_⟩;split at q1
 case h_2=>exact q1.elim
 rename_i xs ds t eI eJ;split at q1
 case isFalse=>exact q1.elim
 rename_i hlen;obtain⟨p,ev,⟨vs,jb,rvs⟩,xM,hp0,kp1,hHp⟩:=r1;subst ev;obtain⟨d',ed',⟨ws,hws,hkeys,hvals⟩,hI',nB'⟩:=kp1.own i _ eI;rw[ed] at ed'
 cases ed';obtain⟨vt,et,rt⟩:=a1.ok.slot j _ eJ
 cases rt;have nj:d≠p:=λz=>by
  obtain⟨o,e⟩:=k.ki hO;rw[z,hHp] at e
  cases e
 have wQ:DR H1 (Av (c.plus p) σ δ1) ws ds:=DR.of hkeys hvals;have pM:ws.length < Wb:=by
  have:ws.length=ds.length:=by simpa using congrArg Jv hkeys
  omega
 refine⟨.ref d,ed,.str (toS t),et,d,_,rfl,nW.k (k:=.inr (toS t)) hws pM,?_⟩;have av:=Fz (c:=c.plus p) eI ed;have FC:((c.plus p).br i d).B d:=.inr rfl;have Ry:∀ b o,H1 b=some o->¬ Av ((c.plus p).br i d) σ (δ1.set i none) b->upd H1 d (.dK (putK ws (.inr (toS t)) (.ref p))) b=some o:=xJ (.inl FC);have up:∀ {v e},Rep H1 (Av (c.plus p) σ δ1) v e->Rep (upd H1 d (.dK (putK ws (.inr (toS t)) (.ref p)))) (Av ((c.plus p).br i d) σ (δ1.set i none)) v e:=λr=>(r.aJ λb z=>.inl (av b z)).keep Ry
 have G0:Gh c i p d σ δ H ws ds t σ (δ1.set i none) (upd H1 d (.dK (putK ws (.inr (toS t)) (.ref p)))) vs xs:=by
  refine⟨(kp1.Rn eI ed).uj FC (.inl ⟨i,Wf⟩),cg,by rw[aG nj.symm]; exact jb,⟨rvs.1,λn v e e1 e2=>up (rvs.2 n v e e1 e2)⟩,wQ.map λv e h=>up h,λa o e n=>?_,λa z=>?_,λa o e=>?_⟩
  ·rw[aG λz=>n (by rw[z]; exact hO)];exact a1.keep a o e n
  ·exact a1.own a z.unset
  ·obtain⟨o',e'⟩:=a1.there a o e;by_cases ha:a=d
   ·subst ha; exact⟨_,cg⟩
   ·exact⟨o',by rw[aG ha]; exact e'⟩
 rw[bc] at q1;refine⟨p,d,δ1.set i none,G0.ok,?_⟩;have vM:post ((c.plus p).br i d) (fi (δ1.set i none)) _:=q1;refine aQ vM λz δ2 q2 u H2 a2 r2=>?_
 split at q2
 case h_2=>exact q2.elim
 rename_i tx
 cases r2;have G2:=G0.cU a2;rw[bc] at q2;refine .inr (.inr ⟨toS tx,rfl,?_⟩);have hsz:(toS tx).cps.size=tx.length:=by simp[toS]
 refine⟨λn mm σ2 H2=>∃ δ2 vs2 xs2,mm=tx.length - n/\n<=tx.length/\Gh c i p d σ δ H ws ds t σ2 δ2 H2 vs2 xs2/\post c (kH j m t g b (tx.drop n) xs2 δ2) (λjg δ3=>post c (Rs.ok (α:=Fl) .next (δ3.set i (some (.own (.ay (putD ds (.inr t) (.lst jg))))))) λfl δ4=>post c (match fl with | .next=>fr δ4 | fl=>.ok fl δ4) λfl δ'=>∀ σ' H',aD c σ δ H σ' δ' H'->fin c D σ' δ' H' fl),⟨tx.length,δ2,vs,xs,by simp,Qs _,G2,by rw[List.drop_zero]; exact q2⟩,?_⟩;rintro n mm σ2 H2 ⟨δ2,vs2,xs2,rfl,hn,G,q3⟩;by_cases bH:n < tx.length
 ·right
  refine⟨by show n < (toS tx).cps.size; rw[hsz]; exact bH,λσ4 H4=>∃ δ4 vs4 xs4,Gh c i p d σ δ H ws ds t σ4 δ4 H4 vs4 xs4/\post c (kH j m t g b (tx.drop (n + 1)) xs4 δ4) (λjg δ3=>post c (Rs.ok (α:=Fl) .next (δ3.set i (some (.own (.ay (putD ds (.inr t) (.lst jg))))))) λfl δ4=>post c (match fl with | .next=>fr δ4 | fl=>.ok fl δ4) λfl δ'=>∀ σ' H',aD c σ δ H σ' δ' H'->fin c D σ' δ' H' fl),
   λσ4 H4 ⟨δ4,vs4,xs4,G4,q4⟩=>⟨tx.length - (n + 1),by omega,δ4,vs4,xs4,rfl,bH,G4,q4⟩,λx H3 ⟨eH,ch,ec,ex⟩=>?_⟩
  subst eH ex;have Rz:tx[n]=ch:=by
   have:(toS tx).cps[n]? = some tx[n]:=by simp[toS,bH]
   rw[this] at ec;exact Wx ec
  rw[QJ bH,Rz] at q3;unfold kH at q3
  cases eg:g (.pure (.str [ch])) δ2 with
  | none=>rw[eg] at q3; exact q3.elim
  | some δ3 =>
   rw[eg] at q3;refine⟨p,d,σ2,δ2,H3,δ2,.pure (.str [ch]),δ3,.refl G.ok,.str [ch],eg,λσ3 a3=>?_⟩;have G3:=G.cU a3;dsimp only at q3;rw[bc] at q3;refine⟨p,d,δ3,G3.ok,?_⟩;have RA:post ((c.plus p).br i d) (b δ3) _:=q3;refine aQ RA λfl δ4 q4 σ4 H4 a4=>?_
   have G4:=G3.cU a4;split at q4
   case h_2=>exact q4.elim
   rename_i t' nn eJ4 eM4;split at q4
   case isFalse=>exact q4.elim
   rename_i hcond;obtain⟨rfl,h0⟩:=hcond;split at q4
   case h_2=>exact q4.elim
   rename_i qv eq;have FD:σ4[i]? = some (some (.ref d)):=G4.ok.pinned (i,d) Wf;obtain⟨v1,f1',xr⟩:=G4.ok.slot j _ eJ4
   cases xr;obtain⟨v2,f2',r2'⟩:=G4.ok.slot m _ eM4
   cases r2';obtain⟨v3,ev3,r3'⟩:=G4.rv.get eq
   cases r3';have qP:nn.toNat < vs2.length:=(W6.mp ev3).1;have FE:dQ vs2.length nn=some nn.toNat:=by
    unfold dQ;rw[if_pos h0,if_pos (by omega)]
   have oy:cS vs2 nn=some (.int qv):=by
    unfold cS;rw[FE];exact ev3
   have t9:de (putK ws (Sum.inr (toS t')) (.ref p)) (Sum.inr (toS t'))=some (.ref p):=by rw[KG,if_pos rfl]
   refine⟨.ref d,FD,.str (toS t'),f1',d,_,.inr (toS t'),.ref p,rfl,G4.hd,rfl,t9,.int nn,f2',.inl ⟨p,vs2,nn,.int qv,rfl,rfl,.inl (.inl G4.hp),oy,qv,1,rfl,rfl,?_⟩⟩;refine⟨.ref d,FD,.str (toS t'),f1',d,_,.inr (toS t'),.ref p,rfl,G4.hd,rfl,t9,.int nn,f2',p,vs2,nn,nn.toNat,rfl,rfl,G4.hp,FE,?_⟩;exact⟨δ4,_,_,G4.uj hHp hp0 nj (G4.rv.set (.int (qv + 1)) nn.toNat),q4⟩
 ·left
  have jA:n=tx.length:=by omega
  subst jA;rw[List.drop_length] at q3;refine⟨hsz.symm,?_⟩;have aF:=G.done hI nB hO xM nj;exact⟨_,aF.ok,aQ q3 λfl δ' q5 σ' H' a5=>q5 σ' H' (aF.trans a5)⟩
end
section
variable {X:Cx} {c:Fc} {σ:St} {δ:Dl} {H:Hp} {x y:Nat} {a:Addr} {d:D}
theorem Ok.move(k:Ok c σ δ H)(aq:Np c np)(hx:np.contains x=false)(vI:x≠y)(e:δ[y]? = some (some (.own d)))(ea:σ[y]? = some (some (.ref a)))(hl:x < δ.length) :
  aD c σ δ H (σ.set x (some (.ref a))) ((δ.set y none).set x (some (.own d))) H:=by
 have RB:y < δ.length:=(W6.mp e).1;have RC:x < σ.length:=by rw[<- k.len]; exact hl
 have at_:∀ j r,((δ.set y none).set x (some (.own d)))[j]? = some (some r)->(j=x/\r = .own d)\/(j≠x/\j≠y/\δ[j]? = some (some r)):=λj r q=>by
  by_cases hj:x=j
  ·subst hj;rw[Wc (by rw[WS]; exact hl)] at q
   cases q;exact .inl ⟨rfl,rfl⟩
  ·rw[W3 hj] at q;by_cases hy:y=j
   ·subst hy;rw[Wc RB] at q
    cases q
   ·rw[W3 hy] at q;exact .inr ⟨Ne.symm hj,Ne.symm hy,q⟩
 have sx:(σ.set x (some (.ref a)))[x]? = some (some (.ref a)):=Wc RC;have so:∀ j,j≠x->(σ.set x (some (.ref a)))[j]? = σ[j]?:=λj hj=>W3 (Ne.symm hj)
 have own:∀ b,Own (σ.set x (some (.ref a))) ((δ.set y none).set x (some (.own d))) b->Own σ δ b:=λb ⟨j,r,q1,q2⟩=>by
  rcases at_ j _ q1 with ⟨z,z'⟩ | ⟨h1,h2,q⟩
  ·subst z
   cases z';rw[sx] at q2
   cases q2;exact⟨y,d,e,ea⟩
  ·rw[so j h1] at q2;exact⟨j,r,q,q2⟩
 have av:∀ b,Av c (σ.set x (some (.ref a))) ((δ.set y none).set x (some (.own d))) b->Av c σ δ b:=λb z=>z.elim .inl λz=>.inr (own b z)
 obtain⟨a',ck,oa,hI,nB⟩:=k.own y _ e;rw[ea] at ck
 cases ck;refine⟨⟨k.keep,k.bd,k.cN,by simp only[WS]; exact k.len,λj r q=>?_,λj r q=>?_,λj l b d1 d2 q1 q2 s1 s2=>?_,λp hp=>?_⟩,λ_ _ h _=>h,λb z=>.inl (own b z),λ_ o h=>⟨o,h⟩⟩
 ·rcases at_ j _ q with ⟨_,z⟩ | ⟨h1,h2,q⟩
  ·cases z
  ·obtain⟨v,g1,g2⟩:=k.slot j r q;exact⟨v,by rw[so j h1]; exact g1,g2.aJ λb z=>.inl (av b z)⟩
 ·rcases at_ j _ q with ⟨z,z'⟩ | ⟨h1,h2,q⟩
  ·subst z
   cases z';exact⟨a,sx,oa.aJ λb z=>.inl (av b z),hI,nB⟩
  ·obtain⟨b,g1,g2,g3⟩:=k.own j r q;exact⟨b,by rw[so j h1]; exact g1,g2.aJ λb z=>.inl (av b z),g3⟩
 ·rcases at_ j _ q1 with ⟨z,_⟩ | ⟨h1,h2,p1⟩ <;> rcases at_ l _ q2 with ⟨z',_⟩ | ⟨h1',h2',p2⟩
  ·rw[z,z']
  ·subst z;rw[sx] at s1
   cases s1;rw[so l h1'] at s2;exact absurd (k.inj y l a _ _ e p2 ea s2).symm h2'
  ·subst z';rw[sx] at s2
   cases s2;rw[so j h1] at s1;exact absurd (k.inj y j a _ _ e p1 ea s1).symm h2
  ·rw[so j h1] at s1;rw[so l h1'] at s2;exact k.inj j l b _ _ p1 p2 s1 s2
 ·have h:=aq p hp;have dR:p.1≠x:=λz=>by rw[z,hx] at h; cases h
  rw[so p.1 dR];exact k.pinned p hp
def oO(np:List Nat)(x y:Nat):DS:=λδ=>if np.contains x || x == y || !decide (x < δ.length) then .stuck else match δ[y]? with
 | some (some (.own d))=>.ok .next ((δ.set y none).set x (some (.own d)))
 | _=>.stuck
theorem RD(aq:Np c np)(hN:X.N.Nodup)(hi:X.N[x]? = some nm)(hx:Loc X.env.scope nm)(he:PE X e (b_ y))(hs:QQ e (some (.Name nm pos')) pos.line X.env=pure false:=by rfl)
  (hf:X.fn nm=true\/X.env.scope.names.lookup nm=some .local:=by first | exact .inl rfl | exact .inr rfl | assumption):SS X c (.Assign [.Name nm pos'] e pos) (oO np x y) :=
 PS.weak (A5 hN hi hx he hs hf) λD σ H ⟨δ,k,q⟩=>by
  unfold oO ei at q;split at q
  case isTrue=>exact q.elim
  rename_i hc;simp only[Bool.or_eq_true,not_or,Bool.not_eq_true,beq_eq_false_iff_ne,Bool.not_eq_false',decide_eq_true_eq] at hc;obtain⟨⟨h1,h2⟩,h3⟩:=hc;split at q
  case h_2=>exact q.elim
  rename_i d e';obtain⟨a,ea,_⟩:=k.own y _ e';exact⟨.ref a,ea,q _ H (k.move aq h1 h2 e' ea h3)⟩
end
end DV
namespace PySem.ZW
open Sem (wp)
theorem FF(l1 l2 n:Addr)(h1:l1 < n)(h2:l2 < n):ZipApart (n + 4) (n + 2) (n + 3) n (n + 1) l1 l2:=by
 have ne:∀ (i j:Nat),i≠j->n + i≠n + j:=λi j h e=>h (Nat.add_left_cancel e)
 have n1:∀ i:Nat,l1≠n + i:=λi=>Wi (Wv h1 (JC n i))
 have n2:∀ i:Nat,l2≠n + i:=λi=>Wi (Wv h2 (JC n i))
 exact⟨ne 2 4 (by decide),ne 3 4 (by decide),ne 0 4 (by decide),ne 1 4 (by decide),ne 2 3 (by decide),ne 2 0 (by decide),ne 2 1 (by decide),ne 3 0 (by decide),ne 3 1 (by decide),ne 0 1 (by decide),n1 4,n1 3,n1 0,n1 1,n2 4,n2 3,n2 0,n2 1⟩
abbrev nq(h:Heap)(z TI TO a:Addr)(f:Bool):Prop :=
 h.get? z=some { cls:=.type "zip",dict:=none,data:=.fields #[Q4 a,.bool f,.bool false,.ref TI,.ref TO],slots:=#[] }
structure ZS(i1 i2 l1 l2:Addr)(xs ys:Array Value)(k:Nat)(h:Heap):Prop where
 i1:h.IsListIter i1 l1 k
 i2:h.IsListIter i2 l2 k
 l1:h.IsList l1 xs
 l2:h.IsList l2 ys
section
variable {prog:Wm} {w:Wq} {A:Wp} {E:Value->W2->Prop} {s:W2} {z TI TO i1 i2 l1 l2 a:Addr} {f:Bool} {oa:Obj} {k:Nat} {xs ys:Array Value} {x y:Value}
theorem RE(ho:s.heap.get? a=some o)(h:Q (some o) s):W8 (model prog w) A (loadIfAlive a) Q E s:=by
 have h':Q (s.heap.get? a) s:=by rw[ho]; exact h
 exactλ_ _ _=>h'
theorem FG(hz:nq s.heap z TI TO a f)(ha:s.heap.get? a=some oa)
  (h:∀ h',nq h' z TI TO a true->Je z s.heap h'->Q false { s with heap:=h' }):W8 (model prog w) A (Qv (.ref z)) Q E s:=by
 unfold Qv;refine W0 (Qg hz rfl (x:=Q4 a) rfl ?_);show W8 _ _ (loadIfAlive ((a:Int).toNat) >>= _) _ _ _;rw[Qe];refine W0 (RE ha ?_);simp only[Option.isNone_some,Qh,if_false];refine W0 (Qg hz rfl (x:=.bool f) rfl ?_)
 cases f with
 | true =>
  rw[if_neg (show ¬ ((Value.bool true != Value.bool true)=true) from Q7)];exact W4 (h s.heap hz (Heap.SameBut.refl _ _))
 | false =>
  rw[if_pos (show(Value.bool false != Value.bool true)=true from rfl)];exact W0 (wpAny_setField_rec hz (by simp) λh₃ RF RG=>W4 (h h₃ RF RG))
theorem ZS.at{h h':Heap}(g:ZS i1 i2 l1 l2 xs ys k h)(e:∀ b o,b=i1\/b=i2\/b=l1\/b=l2->h.get? b=some o->h'.get? b=some o):ZS i1 i2 l1 l2 xs ys k h' :=
 ⟨g.i1.at λo q=>e _ o (.inl rfl) q,g.i2.at λo q=>e _ o (.inr (.inl rfl)) q,let ⟨o,q,r⟩:=g.l1; ⟨o,e _ o (.inr (.inr (.inl rfl))) q,r⟩,let ⟨o,q,r⟩:=g.l2; ⟨o,e _ o (.inr (.inr (.inr rfl))) q,r⟩⟩
theorem RH{Q:Option Value->W2->Prop}(hh:A.handled=none)(D:ZipApart z TI TO i1 i2 l1 l2)(hz:nq s.heap z TI TO a f)(ha:s.heap.get? a=some oa)(hI:IsPair s.heap TI (.ref i1) (.ref i2))(g:ZS i1 i2 l1 l2 xs ys k s.heap)(hx:xs[k]? = some x)(hy:ys[k]? = some y)
  (q:∀ h' tk,nq h' z TI TO a true->ZS i1 i2 l1 l2 xs ys (k + 1) h'->IsPair h' s.heap.objs.size x y ->
   (∀ c o,c≠z->c≠i1->c≠i2->s.heap.get? c=some o->h'.get? c=some o)->Q (some (.ref s.heap.objs.size)) { s with heap:=h',toks:=tk }):W8 (model prog w) A (Qb (.ref z)) Q E s:=by
 have ty:s.TypeIs (.ref z) "zip":=⟨_,hz,rfl⟩
 have D1:=Draws.list (prog:=prog) (w:=w) (A:=A.in1) hh i1 l1 D.l1i1 xs;have D2:=Draws.list (prog:=prog) (w:=w) (A:=A.in1) hh i2 l2 D.l2i2 ys;have lx:k < xs.size:=(Qk.mp hx).1;have ly:k < ys.size:=(Qk.mp hy).1;unfold Qb;refine W0 (Jo (Q5 (name:=Str.ofString "__next__") ty F.slot_zip_next (Q9 F.slot_zip_next ty F.entry_zip_next ?_ (F.args_zip_next_1 _))));show W8 _ _ (field (.ref z) 2 >>= _) _ _ _; refine W0 (Qg hz rfl (x:=.bool false) rfl ?_)
 show W8 _ _ (field (.ref z) 3 >>= _) _ _ _; refine W0 (Qg hz rfl (x:=.ref TI) rfl (W0 (JU hI rfl ?_)))
 show W8 _ _ (Qv (.ref z) >>= _) _ _ _;refine W0 (FG hz ha λh1 lO s1=>?_);simp only[Qh,if_false];refine W0 ?_;simp only[List.forIn_toArray,U6,List.forIn_nil];have g1:ZS i1 i2 l1 l2 xs ys k h1:=g.at λb o hb e=>s1.extBut _ _ (by
  rcases hb with r | r | r | r
  ·rw[r]; exact D.i1z
  ·rw[r]; exact D.i2z
  ·rw[r]; exact D.l1z
  ·rw[r]; exact D.l2z) e
 refine W0 (W0 (WG ?_)); show W8 _ _ (Builtin.SmallTypes.nextOf (.ref i1) >>= _) _ _ _
 refine W0 (D1.item k _ _ _ lx ⟨g1.i1,g1.l1⟩ λx' h2 VZ p1 e2 s2=>W4 ?_);refine W4 (W0 (W0 (WG ?_))); show W8 _ _ (Builtin.SmallTypes.nextOf (.ref i2) >>= _) _ _ _
 have e3:h2.IsListIter i2 l2 k/\h2.IsList l2 ys:=⟨g1.i2.at λo e=>s2.extBut _ _ D.i12.symm e,let ⟨o,q,r⟩:=g1.l2; ⟨o,s2.extBut _ _ D.l2i1 q,r⟩⟩
 refine W0 (D2.item k _ _ _ ly e3 λy' h4 V0 p2 e4 s4=>W4 ?_);refine W4 (W4 (W0 (wpAny_newTuple ?_ (by show 2<=Wb; decide))));have ex:x'=x:=by
  have p1:xs[k]? = some x':=p1;rw[hx] at p1; cases p1; rfl
 have ey:y'=y:=by
  have p2:ys[k]? = some y':=p2;rw[hy] at p2; cases p2; rfl
 subst ex ey;have hsz:h4.objs.size=s.heap.objs.size:=by rw[s4.1,s2.1,s1.1]
 have up:∀ {b o},h4.get? b=some o->(h4.push { cls:=.type "tuple",data:=.seq #[x',y'] }).get? b=some o:=λe=>W5 _ e
 refine W4 ⟨_,rfl,W4 ?_⟩;show Q (some (.ref h4.objs.size)) _; rw[hsz]
 refine q _ _ (up (s4.extBut _ _ D.i2z.symm (s2.extBut _ _ D.i1z.symm lO))) ⟨e2.1.at λo e=>up (s4.extBut _ _ D.i12 e),e4.1.at λo e=>up e,let ⟨o,q,r⟩:=e2.2; ⟨o,up (s4.extBut _ _ D.l1i2 q),r⟩,let ⟨o,q,r⟩:=e4.2; ⟨o,up q,r⟩⟩ ?_ λc o c1 c3 c4 e=>up (s4.extBut _ _ c4 (s2.extBut _ _ c3 (s1.extBut _ _ c1 e)))
 rw[<- hsz]; exact Wj _ rfl
theorem RI(hh:A.handled=none)(D:ZipApart z TI TO i1 i2 l1 l2)(hz:nq s.heap z TI TO a f)(ha:s.heap.get? a=some oa)(hI:IsPair s.heap TI (.ref i1) (.ref i2))(g:ZS i1 i2 l1 l2 xs ys xs.size s.heap)
  (q:∀ h' tk,(∀ c o,c≠z->c≠i1->c≠i2->s.heap.get? c=some o->h'.get? c=some o)->Q none { s with heap:=h',toks:=tk }):W8 (model prog w) A (Qb (.ref z)) Q E s:=by
 have ty:s.TypeIs (.ref z) "zip":=⟨_,hz,rfl⟩
 have D1:=Draws.list (prog:=prog) (w:=w) (A:=A.in1) hh i1 l1 D.l1i1 xs;unfold Qb;refine W0 (Jo (Q5 (name:=Str.ofString "__next__") ty F.slot_zip_next (Q9 F.slot_zip_next ty F.entry_zip_next ?_ (F.args_zip_next_1 _))));show W8 _ _ (field (.ref z) 2 >>= _) _ _ _; refine W0 (Qg hz rfl (x:=.bool false) rfl ?_)
 show W8 _ _ (field (.ref z) 3 >>= _) _ _ _; refine W0 (Qg hz rfl (x:=.ref TI) rfl (W0 (JU hI rfl ?_)))
 show W8 _ _ (Qv (.ref z) >>= _) _ _ _;refine W0 (FG hz ha λh1 lO s1=>?_);simp only[Qh,if_false];refine W0 ?_;simp only[List.forIn_toArray,U6,List.forIn_nil];refine W0 (W0 (WG ?_)); show W8 _ _ (Builtin.SmallTypes.nextOf (.ref i1) >>= _) _ _ _
 refine W0 (D1.done _ _ _ ⟨g.i1.at λo e=>s1.extBut _ _ D.i1z e,let ⟨o,q,r⟩:=g.l1; ⟨o,s1.extBut _ _ D.l1z q,r⟩⟩ λh2 e s2 ⟨o,ho,hc⟩=>?_);exact W0 (wpAny_isInstance (T:="StopIteration") (b:=true) ⟨o,ho,hc⟩ isSubtype_stop (W4 (q _ _ λc o c1 c3 _ x=>s2 _ _ c3 (s1.extBut _ _ c1 x))))
end
end PySem.ZW
namespace PySem.ZW
open Sem (wp)
structure ZG(xs ys:Array Value)(lo:Addr)(h:Heap)(as:List Addr):Prop where
 rise:as.Pairwise (· < ·)
 above:∀ a ∈ as,lo < a
 pairs:∀ (j:Nat) a,as[j]? = some a->∃ x y,xs[j]? = some x/\ys[j]? = some y/\IsPair h a x y
theorem ZG.keep(g:ZG xs ys lo h as)(k:∀ a o,lo < a->h.get? a=some o->h'.get? a=some o):ZG xs ys lo h' as :=
 ⟨g.rise,g.above,λj a e=>let ⟨x,y,p1,p2,q⟩:=g.pairs j a e; ⟨x,y,p1,p2,k a _ (g.above a (WF e)) q⟩⟩
theorem ZG.snoc(g:ZG xs ys lo h as)(hl:∀ a ∈ as,a < n)(hn:lo < n)(p1:xs[as.length]? = some x)(p2:ys[as.length]? = some y)(q:IsPair h n x y):ZG xs ys lo h (as ++ [n]):=by
 refine⟨List.pairwise_append.mpr ⟨g.rise,List.pairwise_singleton _ _,λa ha b hb=>by rw[List.mem_singleton.mp hb]; exact hl a ha⟩,λa ha=>?_,λj a e=>?_⟩
 ·rcases QX.mp ha with ha | ha
  ·exact g.above a ha
  ·rw[List.mem_singleton.mp ha]; exact hn
 ·rcases Nat.lt_trichotomy j as.length with h1 | h1 | h1
  ·rw[J5 h1] at e;exact g.pairs j a e
  ·subst h1;have hb:n=a:=by simpa using e
   subst hb;exact⟨x,y,p1,p2,q⟩
  ·have RJ:(as ++ [n])[j]? = none:=WQ (by rw[WZ,List.length_singleton]; omega);rw[RJ] at e; cases e
structure ZL(z TI TO i1 i2 l1 l2 S:Addr)(xs ys:Array Value)(h0:Heap)(h:Heap)(acc:Array Value)(c:Nat)(as:List Addr):Prop where
 keep:∀ b o,b≠S->b≠z->b≠TO->b≠i1->b≠i2->h0.get? b=some o->h.get? b=some o
 lst:h.get? S=some { cls:=.type "list",dict:=none,data:=.seq acc c,slots:=#[] }
 items:acc.toList=as.map Value.ref
 G:ZG xs ys S h as
section
variable {prog:Wm} {w:Wq} {A:Wp} {E:Value->W2->Prop} {s:W2} {z TI TO i1 i2 l1 l2 S:Addr} {xs ys:Array Value} {R:Result->W2->Prop} {res:Value}
theorem RK(hh:A.handled=none)(D:ZipApart z TI TO i1 i2 l1 l2)(hn:xs.size=ys.size)(lP:xs.size<=Wb)(lz:z < S)(RL:TI < S)(uk:TO < S)(lQ:i1 < S)(lR:i2 < S)(um:l1 < S)(uo:l2 < S)(h0:Heap)
  (hR:∀ h' tk acc c as,ZL z TI TO i1 i2 l1 l2 S xs ys h0 h' acc c as->as.length=xs.size->R (.ok (.ret res)) { s with heap:=h',toks:=tk }) :
  ∀ (k j:Nat) (h:Heap) (tk c:Nat) (acc:Array Value) (as:List Addr),xs.size - j=k->j<=xs.size->ZS i1 i2 l1 l2 xs ys j h->IsPair h TI (.ref i1) (.ref i2)->((as=[]/\IsZip h z TI TO .none/\∃ a b,IsPair h TO a b)\/∃ a f,nq h z TI TO a f/\a ∈ as) ->
   ZL z TI TO i1 i2 l1 l2 S xs ys h0 h acc c as->as.length=j->Qa (model prog w) A (.builtin "list.extend.loop" ⟨[.ref S,.ref z,res],[]⟩) R { s with heap:=h,toks:=tk }:=by
 have lT:∀ {b x:Addr},x < S->S < b->b≠x:=λh1 h2=>WI (Nat.lt_trans h1 h2)
 intro k;induction k with
 | zero =>
  intro j h tk c acc as hk hj g hI st Z el;have uq:j=xs.size:=by omega
  subst uq;refine Q2 F.entry_extend_loop ?_;rw[Around.under_plainId JG _];show W8 _ A.in1 (Qb (.ref z) >>= _) _ _ _;refine W0 ?_;have fin:∀ h' eC,(∀ b o,b≠z->b≠TO->b≠i1->b≠i2->h.get? b=some o->h'.get? b=some o)->R (.ok (.ret res)) { s with heap:=h',toks:=eC }:=λh' eC k2 =>
   hR h' eC acc c as ⟨λb o q1 q2 q3 q4 q5 e=>k2 b o q2 q3 q4 q5 (Z.keep b o q1 q2 q3 q4 q5 e),k2 S _ (WI lz) (WI uk) (WI lQ) (WI lR) Z.lst,Z.items,Z.G.keep λb o hb e=>k2 b o (lT lz hb) (lT uk hb) (lT lQ hb) (lT lR hb) e⟩ el
  rcases st with ⟨_,hz,a,b,hO⟩ | ⟨a,f,hz,ha⟩
  ·exact wpAny_pyNext_zip_end hh D hz hI hO g.i1 g.i2 g.l1 g.l2 (.inl (by simp)) λh' k2=>W4 (fin h' tk k2)
  ·obtain⟨m,hm⟩:=Qu ha;obtain⟨_,_,_,_,ht⟩:=Z.G.pairs m a hm;exact RI hh D hz ht hI g λh' eC k2=>W4 (fin h' eC λb o q1 _ q3 q4 e=>k2 b o q1 q3 q4 e)
 | succ k ih =>
  intro j h tk c acc as hk hj g hI st Z el;have uq:j < xs.size:=by omega
  have hx:xs[j]? = some xs[j]:=by simp[uq]
  have hy:ys[j]? = some (ys[j]'(by omega)):=by simp[show j < ys.size by omega]
  refine Q2 F.entry_extend_loop ?_;rw[Around.under_plainId JG _];show W8 _ A.in1 (Qb (.ref z) >>= _) _ _ _;refine W0 ?_;have lS:S < h.objs.size:=We Z.lst;have xO:acc.size=j:=by rw[<- el,<- Wy (f:=Value.ref),<- Z.items]; simp
  have next:∀ (h':Heap) (eC:Nat) (f:Bool) (a:Addr),nq h' z TI TO a f->a ∈ as ++ [h.objs.size]->ZS i1 i2 l1 l2 xs ys (j + 1) h'->IsPair h' h.objs.size xs[j] (ys[j]'(by omega)) ->
    (∀ b o,b≠z->b≠TO->b≠i1->b≠i2->h.get? b=some o->h'.get? b=some o) ->
    W8 (model prog w) A.in1 (Jy S (·.push (.ref h.objs.size)) >>= λ_=>again (.builtin "list.extend.loop" ⟨[.ref S,.ref z,res],[]⟩)) (λfin s'=>match fin with | .done f=>R (.ok f) s' | .again c'=>c'.quiet=true/\Qa (model prog w) A c' R s') (λe s'=>R (.error e) s') { s with heap:=h',toks:=eC }:=by
   intro h' eC f a hz ha g' hT k2;have qW:=k2 S _ (WI lz) (WI uk) (WI lQ) (WI lR) Z.lst;refine W0 (QB qW rfl ?_ (by rw[xO]; omega) (by show(acc.push _).size<=Wb + 1; rw[Array.size_push,xO]; omega));have up:∀ b o,b≠S->h'.get? b=some o->(h'.update S (Obj.mapSeq (·.push (Value.ref h.objs.size)))).get? b=some o:=λb o hb e=>(Wu _ _ (Ne.symm hb)).trans e
   refine W4 ⟨Qt JG _,ih (j + 1) _ eC _ (acc.push (.ref h.objs.size)) (as ++ [h.objs.size]) (by omega) uq (g'.at λb o hb e=>up b o ?_ e) (up TI _ (Wi RL) (k2 TI _ D.TIz D.TITO D.TIi1 D.TIi2 hI)) (.inr ⟨a,f,up z _ (Wi lz) hz,ha⟩) ⟨?_,Wt _ qW rfl,by simp[Z.items],?_⟩ (by simp[el])⟩
   ·rcases hb with r | r | r | r
    ·rw[r]; exact Wi lQ
    ·rw[r]; exact Wi lR
    ·rw[r]; exact Wi um
    ·rw[r]; exact Wi uo
   ·exactλb o q1 q2 q3 q4 q5 e=>up b o q1 (k2 b o q2 q3 q4 q5 (Z.keep b o q1 q2 q3 q4 q5 e))
   ·refine ZG.snoc (Z.G.keep λb o hb e=>up b o (WI hb) (k2 b o (lT lz hb) (lT uk hb) (lT lQ hb) (lT lR hb) e)) (λb hb=>?_) lS (by rw[el]; exact hx) (by rw[el]; exact hy) (up _ _ (WI lS) hT);obtain⟨m,hm⟩:=Qu hb;obtain⟨_,_,_,_,ht⟩:=Z.G.pairs m b hm;exact We ht
  rcases st with ⟨_,hz,a,b,hO⟩ | ⟨a,f,hz,ha⟩
  ·refine wpAny_pyNext_zip_item D hz hI hO g.i1 g.i2 g.l1 g.l2 hx hy λh' lP _ g1 g2 hT _ k2=>?_
   refine next h' tk false h.objs.size lP (by simp) ⟨g1,g2,?_,?_⟩ hT k2
   ·obtain⟨o,e,r⟩:=g.l1;exact⟨o,k2 _ o D.l1z D.l1TO D.l1i1 D.l1i2 e,r⟩
   ·obtain⟨o,e,r⟩:=g.l2;exact⟨o,k2 _ o D.l2z D.l2TO D.l2i1 D.l2i2 e,r⟩
  ·obtain⟨m,hm⟩:=Qu ha;obtain⟨_,_,_,_,ht⟩:=Z.G.pairs m a hm;exact RH hh D hz ht hI g hx hy λh' eC lP g' hT k2=>next h' eC true a lP (J4 _ ha) g' hT λb o q1 _ q3 q4 e=>k2 b o q1 q3 q4 e
end
end PySem.ZW
namespace PySem.ZW
open Sem (wp)
theorem RM:JT (.type "zip") "__len__" = pure none:=by rw[Jr,QI]; kernel_rfl
theorem RN:JT (.type "zip") "__length_hint__" = pure none:=by rw[Jr,QI]; kernel_rfl
section
variable {prog:Wm} {w:Wq} {A:Wp} {E:Value->W2->Prop} {s:W2} {z TI TO i1 i2 l1 l2:Addr} {xs ys:Array Value}
theorem RO(hh:A.handled=none)(D:ZipApart z TI TO i1 i2 l1 l2)(hn:xs.size=ys.size)(lP:xs.size<=Wb)
  (hz:IsZip s.heap z TI TO .none) (hI:IsPair s.heap TI (.ref i1) (.ref i2)) (hO:∃ a b,IsPair s.heap TO a b) (g:ZS i1 i2 l1 l2 xs ys 0 s.heap)
  (hQ:∀ h' tk acc c as,ZL z TI TO i1 i2 l1 l2 s.heap.objs.size xs ys s.heap h' acc c as->as.length=xs.size->Q (.ref s.heap.objs.size) { s with heap:=h',toks:=tk }) :
  W8 (model prog w) A (call (.type "list") [.ref z]) Q E s:=by
 refine callType_codes (Q₁:=λobj s₁=>obj = .ref s.heap.objs.size/\s₁ = { s with heap:=s.heap.push { cls:=.type "list",data:=.seq #[] } }) F.called_list (F.typeCall_list_1 _) F.entry_list_init
  (code_list_new _ ⟨rfl,rfl⟩) λobj s₁ h₁=>?_
 obtain⟨rfl,rfl⟩:=h₁;have hS:(s.heap.push { cls:=.type "list",data:=.seq #[] }).get? s.heap.objs.size=some { cls:=.type "list",data:=.seq #[] }:=Wj _ rfl;obtain⟨a,b,hO⟩:=hO;have lt:∀ {b o},s.heap.get? b=some o->b < s.heap.objs.size:=λe=>We e
 have lQ:i1 < s.heap.objs.size:=let ⟨_,e,_⟩:=g.i1; lt e
 have lR:i2 < s.heap.objs.size:=let ⟨_,e,_⟩:=g.i2; lt e
 have um:l1 < s.heap.objs.size:=let ⟨_,e,_⟩:=g.l1; lt e
 have uo:l2 < s.heap.objs.size:=let ⟨_,e,_⟩:=g.l2; lt e
 refine⟨⟨_,hS,rfl⟩,F.args_list_init_2 _ _,?_⟩;generalize FH:s.heap.objs.size=S at *;generalize hh0:s.heap.push { cls:=.type "list",data:=.seq #[] } = h0 at *;have RP:∀ {b o},s.heap.get? b=some o->h0.get? b=some o:=λe=>by rw[<- hh0]; exact W5 _ e
 show W8 _ _ (do let old <- Builtin.List.listItems (.ref S); Builtin.List.listUpdate (.ref S) (λ_=>#[]); letGo old.toList.reverse; Qi (.ref S) (.ref z) .none) _ _ _;refine W0 ?_;unfold Builtin.List.listItems;refine W0 (JU hS rfl (W4 ?_));show W8 _ _ (Jy S (λ_=>#[]) >>= λ_=>letGo (#[]:Array Value).toList.reverse >>= λ_=>Qi (.ref S) (.ref z) .none) _ _ _;refine W0 (QB hS rfl ?_);have FI:=Wt (Obj.mapSeq (λ_=>(#[]:Array Value))) hS rfl;refine W0 (wpAny_letGo ?_);have up1:∀ {b o},b≠S->s.heap.get? b=some o->(h0.update S (Obj.mapSeq (λ_=>(#[]:Array Value)))).get? b=some o:=λhb e=>(Wu _ _ (Ne.symm hb)).trans (RP e)
 generalize h0.update S (Obj.mapSeq (λ_=>(#[]:Array Value)))=h1 at *;have lO:IsZip h1 z TI TO .none:=up1 (Wi (lt hz)) hz;unfold Qi;have hT:Shared.TypeIs { s with heap:=h1 } (.ref z) "zip":=⟨_,lO,rfl⟩
 refine W0 (QN (T:="zip") hT ?_);have q1:Jj (.ref S) (.ref z)=false:=by simp[Jj,WI (lt hz)]
 have q2:(Value.type "zip" == Value.type "list")=false:=by decide
 have q3:(Value.type "zip" == Value.type "tuple")=false:=by decide
 simp only[q1,q2,q3,Bool.or_false,Qh,if_false];refine W0 (wpAny_pyIter_zip lO ?_);refine W0 (WG ?_);unfold Builtin.List.listLengthHint;refine W0 (wpAny_specialOf hT RM ?_);show W8 _ _ (specialOf (Value.ref z) (Str.ofString "__length_hint__") >>= _) _ _ _;refine W0 (wpAny_specialOf hT RN (W4 ?_));show W8 _ _ (rule "list.extend.makes-room" >>= λ_=>Builtin.List.listTouch (.ref S) >>= λ_=>again (.builtin "list.extend.loop" ⟨[.ref S,.ref z,.none],[]⟩)) _ _ _;refine W0 (Jq (W0 ?_));show W8 _ _ (Jy S (·.push .none) >>= λ_=>Jy S (·.pop)) _ _ _;refine W0 (QB FI rfl ?_);have FJ:=Wt (Obj.mapSeq (·.push Value.none)) FI rfl;refine QB (hz:=by seq_fits) FJ rfl ?_;have RQ:=Wt (Obj.mapSeq (·.pop)) FJ rfl;have up:∀ b o,b≠S->s.heap.get? b=some o->((h1.update S (Obj.mapSeq (·.push Value.none))).update S (Obj.mapSeq (·.pop))).get? b=some o :=
  λb o hb e=>(Wu _ _ (Ne.symm hb)).trans ((Wu _ _ (Ne.symm hb)).trans (up1 hb e))
 refine W4 ⟨Qt JG _,RK (A:=A.in1) (s:=s) hh D hn lP (lt hz) (lt hI) (lt hO) lQ lR um uo s.heap (λh' tk acc c as Z el=>⟨rfl,hQ h' tk acc c as Z el⟩) xs.size 0 _ s.toks _ _ [] (Nat.sub_zero _) (Qs _) (g.at λb o hb e=>up b o ?_ e)
  (up _ _ (Wi (lt hI)) hI) (.inl ⟨rfl,up _ _ (Wi (lt hz)) hz,a,b,up _ _ (Wi (lt hO)) hO⟩) ⟨λb o q _ _ _ _ e=>up b o q e,RQ,rfl,List.Pairwise.nil,(λ_ ha=>nomatch ha),(λj a hj=>by simp at hj)⟩ rfl⟩
 rcases hb with r | r | r | r
 ·rw[r]; exact Wi lQ
 ·rw[r]; exact Wi lR
 ·rw[r]; exact Wi um
 ·rw[r]; exact Wi uo
end
end PySem.ZW
namespace L2
open PySem PySem.Spec PyProof.Rows
def FK(K:W1)(a1 a2:Addr):It :=
 ⟨λi H=>∃ xs ys x y,bS K H a1 xs/\bS K H a2 ys/\xs[i]? = some x/\ys[i]? = some y,
  λi H v H'=>∃ p x y,H p=none/\(∀ xs,bS K H a1 xs->xs[i]? = some x)/\(∀ ys,bS K H a2 ys->ys[i]? = some y)/\H'=upd H p (.tup [x,y])/\v = .ref p,
  λi H=>∃ xs ys,bS K H a1 xs/\bS K H a2 ys/\(xs.length<=i\/ys.length<=i)⟩
theorem RS{P:Wm}{w:Wq}{K:W1}{elts:List Expr}{ctx}{pos:Pos}(a1 a2 n:Addr)(h1:a1 < n)(h2:a2 < n) :
  Turn P w K (.Tuple elts ctx pos) (FK K a1 a2) [n + 4,n + 2,n + 3,n,n + 1] (n + 4) (λi h=>IsZip h (n + 4) (n + 2) (n + 3) .none/\IsPair h (n + 2) (.ref n) (.ref (n + 1))/\(∃ a b,IsPair h (n + 3) a b)/\h.IsListIter n a1 i/\h.IsListIter (n + 1) a2 i):=by
 have D:=ZW.FF a1 a2 n h1 h2;have mm:∀ {b:Addr},b ∈ [n + 4,n + 2,n + 3,n,n + 1]->b=n + 4\/b=n + 2\/b=n + 3\/b=n\/b=n + 1:=λh=>by simpa using h
 have FL:∀ {h:Heap} {it a:Addr} {i:Nat},h.IsListIter it a i->∃ o,h.get? it=some o/\∀ v,o.data≠.cell v:=λq=>by
  obtain⟨o,e,c,d⟩:=q;exact⟨o,e,λv z=>by rw[d] at z; cases z⟩
 refine⟨by simp,?_,?_,?_,?_,?_⟩
 ·rintro i h ⟨hz,hI,⟨a,b,hO⟩,q1,q2⟩ c hc;rcases mm hc with e | e | e | e | e <;> subst e
  ·exact⟨_,hz,λv z=>by
    have z':Data.fields _=Data.cell v:=z
    cases z'⟩
  ·exact⟨_,hI,λv z=>by
    have z':Data.seq _ _=Data.cell v:=z
    cases z'⟩
  ·exact⟨_,hO,λv z=>by
    have z':Data.seq _ _=Data.cell v:=z
    cases z'⟩
  ·exact FL q1
  ·exact FL q2
 ·rintro i h h' ⟨hz,hI,⟨a,b,hO⟩,q1,q2⟩ k;exact⟨k _ (by simp) _ hz,k _ (by simp) _ hI,⟨a,b,k _ (by simp) _ hO⟩,q1.at λo e=>k _ (by simp) o e,q2.at λo e=>k _ (by simp) o e⟩
 ·intro X hP hw hK hc i pins s σ H E I hf ⟨hz,hI,⟨a,b,hO⟩,q1,q2⟩ ⟨xs,ys,x,y,c1,c2,hx,hy⟩;subst hP hw hK;obtain⟨is,rv1,p1,_⟩:=I.list c1;obtain⟨js,rv2,p2,_⟩:=I.list c2;obtain⟨u,hu,ru⟩:=rv1.get hx;obtain⟨v,hv,rv⟩:=rv2.get hy;have bH:∀ c ∈ [n + 4,n + 2,n + 3,n,n + 1],c < s.heap.objs.size:=λc hc=>by
   have z:=We hz;have le:∀ k:Nat,k<=4->n + k < s.heap.objs.size:=λk hk=>Nat.lt_of_le_of_lt (Nat.add_le_add_left hk n) z
   rcases mm hc with e | e | e | e | e <;> subst e
   ·exact z
   ·exact le 2 (by decide)
   ·exact le 3 (by decide)
   ·exact le 0 (by decide)
   ·exact le 1 (by decide)
  refine wpAny_pyNext_zip_item D hz hI hO q1 q2 p1.isList p2.isList (x:=u) (y:=v) (by simpa using hu) (by simpa using hv) λh' lP RT s1 s2 hT _ k=>⟨_,rfl,wpAny_letOwnedTupleGo_zip lP λh2 FN sb=>?_⟩
  have nz:s.heap.objs.size≠n + 4:=WI (bH (n + 4) (by simp));have k2:∀ c o,c ∉ [n + 4,n + 2,n + 3,n,n + 1]->s.heap.get? c=some o->h2.get? c=some o:=λc o hc e=>by
   have g1:c≠n + 4:=λz=>hc (by simp[z])
   exact(sb.2 c g1).trans (k c o g1 (λz=>hc (by simp[z])) (λz=>hc (by simp[z])) (λz=>hc (by simp[z])) e)
  have I2:Inv X pins σ (upd H s.heap.objs.size (.tup [x,y])) { s with heap:=h2,toks:=s.toks }:=Inv.EA (t':=s.toks) _ I hf bH ru rv ((sb.2 _ nz).trans hT) k2;refine⟨.ref s.heap.objs.size,_,I2,rfl,⟨s.heap.objs.size,x,y,I.aw.fresh (Wg _),λzs xP=>by rw[I.uL xP c1]; exact hx,λzs xP=>by rw[I.uL xP c2]; exact hy,rfl,rfl⟩,⟨FN,(sb.2 _ D.TIz).trans (k _ _ D.TIz D.TITO D.TIi1 D.TIi2 hI),⟨_,_,(sb.2 _ D.TOz).trans RT⟩,s1.at λo e=>(sb.2 _ D.i1z).trans e,s2.at λo e=>(sb.2 _ D.i2z).trans e⟩,λc hc=>?_⟩;rw[aG (Wi (bH c hc))];exact(hf c hc).1
 ·intro X hP hw hK hc i pins s σ H E I hf ⟨hz,hI,⟨a,b,hO⟩,q1,q2⟩ ⟨xs,ys,c1,c2,hl⟩;subst hP hw hK;obtain⟨is,rv1,p1,_⟩:=I.list c1;obtain⟨js,rv2,p2,_⟩:=I.list c2;have r1:=rv1.length;have r2:=rv2.length;refine wpAny_pyNext_zip_end (I.ok.hd hc) D hz hI hO q1 q2 p1.isList p2.isList (by simp; omega) λh' k=>⟨rfl,Inv.wL (t':=s.toks) [n + 4,n + 2,n + 3,n,n + 1] I (λc o hc e=>?_) hf⟩
  exact k c o (λz=>hc (by simp[z])) (λz=>hc (by simp[z])) (λz=>hc (by simp[z])) (λz=>hc (by simp[z])) e
 ·intro A i s Q E st h;exact wpAny_pyIter_zip st.1 h
section
variable {X:Cx} {a b:Expr} {ta:TA} {pp pos qU qV:Pos} {elts:List Expr} {ctx:Nat} {tp:Pos}
theorem FO{a1 a2:Addr}{us:List Value}(r:Vals [V.ref a1,.ref a2] us):us=[.ref a1,.ref a2]:=by
 cases r with
 | cons r rr =>
  cases rr with
  | cons r' rr =>
   cases rr
   cases r
   cases r';rfl
def RV(K:W1)(ta:TA):TI:=λσ H R=>ta σ H λvs H1=>∃ a1 a2,vs=[.ref a1,.ref a2]/\(∃ xs,bS K H1 a1 xs)/\(∃ ys,bS K H1 a2 ys)/\R (FK K a1 a2) H1
theorem RW (hg:Gl X "zip") (hm:X.mg "zip" = none) (ha:PA X [a,b] ta) (hs:W7 [a,b] X.env=(false,eval a X.env) :: W7 [b] X.env:=by rfl) (bE:(WU pos (W7 [b] X.env)).any (·.1)=false:=by rfl):PI X (.Tuple elts ctx tp) (.Call (.Name "zip" pp) [a,b] [] pos) (RV X.K ta):=by
 intro pins s σ H R I h;refine Call_ (mj I hg hm boot_zip (Qx (aV (ha pos pins s σ H _ I h) λus s1 ⟨vs,H1,I1,r1,q1⟩=>?_) hs bE));obtain⟨a1,a2,ev,⟨xs,hx⟩,⟨ys,hy⟩,q⟩:=q1;subst ev;obtain rfl:=FO r1;obtain⟨is,rv1,p1,_⟩:=I1.list hx;obtain⟨js,rv2,p2,_⟩:=I1.list hy;have l1:a1 < s1.heap.objs.size:=let ⟨_,e,_⟩:=p1.isList; We e
 have l2:a2 < s1.heap.objs.size:=let ⟨_,e,_⟩:=p2.isList; We e
 refine call_zip_2 p1.isList p2.isList λh' hz hI hO q1 q2 _ kp=>wpAny_pyIter_zip hz ?_
 refine⟨s1.heap.objs.size + 4,_,_,_,H1,rfl,I1.kept (t':=s1.toks) kp,RS a1 a2 s1.heap.objs.size l1 l2,⟨hz,hI,⟨_,_,hO⟩,q1,q2⟩,λb hb=>?_,q⟩;have hb:b=s1.heap.objs.size + 4\/b=s1.heap.objs.size + 2\/b=s1.heap.objs.size + 3\/b=s1.heap.objs.size\/b=s1.heap.objs.size + 1:=by simpa using hb
 have hle:s1.heap.objs.size<=b:=by rcases hb with z | z | z | z | z <;> subst z <;> first | exact Wg _ | exact JC _ _
 exact I1.jB hle (I1.aw.fresh hle)
def RX(K:W1)(ta:TA):TE:=λσ H Q=>ta σ H λvs H1=>∃ a1 a2 xs ys,vs=[.ref a1,.ref a2]/\bS K H1 a1 xs/\bS K H1 a2 ys/\xs.length=ys.length/\xs.length<=Wb /\
 ∀ S as,H1 S=none->(∀ c ∈ as,H1 c=none)->as.Nodup->S ∉ as->as.length=xs.length->Q (.ref S) (upd (jf H1 as xs ys) S (.lst (as.map V.ref)))
theorem RY (hc:X.calm=true) (lK:Gl X "list") (xQ:X.mg "list" = none) (hg:Gl X "zip") (hm:X.mg "zip" = none) (ha:PA X [a,b] ta) (hs:W7 [a,b] X.env=(false,eval a X.env) :: W7 [b] X.env:=by rfl) (bE:(WU pos (W7 [b] X.env)).any (·.1)=false:=by rfl)
  (lC:W7 [.Call (.Name "zip" pp) [a,b] [] pos] X.env=(false,eval (.Call (.Name "zip" pp) [a,b] [] pos) X.env) :: W7 [] X.env:=by rfl) :
  PE X (.Call (.Name "list" qU) [.Call (.Name "zip" pp) [a,b] [] pos] [] qV) (RX X.K ta):=by
 intro pins s σ H Q I h;refine Call_ (mj I lK xQ PyProof.Rows.boot_list (Qx ?_ lC rfl));rw[lC];show W8 _ _ (spliced ((false,eval (.Call (.Name "zip" pp) [a,b] [] pos) X.env) :: [])) _ _ s;refine Calls.spliced_cons ?_;refine Call_ (mj I hg hm boot_zip (Qx (aV (ha pos pins s σ H _ I h) λus s1 ⟨vs,H1,I1,r1,q1⟩=>?_) hs bE));obtain⟨a1,a2,xs,ys,ev,hx,hy,hlen,hsz,q⟩:=q1;subst ev;obtain rfl:=FO r1;obtain⟨is,rv1,p1,_⟩:=I1.list hx;obtain⟨js,rv2,p2,_⟩:=I1.list hy;have FP:a1 < s1.heap.objs.size:=let ⟨_,e,_⟩:=p1.isList; We e
 have FQ:a2 < s1.heap.objs.size:=let ⟨_,e,_⟩:=p2.isList; We e
 refine call_zip_2 p1.isList p2.isList λh' hz hI hO q1 q2 _ kp=>Calls.spliced_nil ?_
 generalize hN:s1.heap.objs.size=n at hz hI hO q1 q2 FP FQ;have D:=ZW.FF a1 a2 n FP FQ;have zl:n + 4 < h'.objs.size:=We hz;have z1:is.toArray.size=xs.length:=by rw[Wn]; exact rv1.length.symm
 have z2:js.toArray.size=xs.length:=by rw[Wn,hlen]; exact rv2.length.symm
 refine ZW.RO (s:={ s1 with heap:=h' }) (I.ok.hd hc) D (by rw[z1,z2]) (by rw[z1]; exact hsz) hz hI ⟨_,_,hO⟩ ⟨q1,q2,let ⟨o,e,r⟩:=p1.isList; ⟨o,kp _ _ e,r⟩,let ⟨o,e,r⟩:=p2.isList; ⟨o,kp _ _ e,r⟩⟩ λh2 tk acc c as Z hl=>?_
 rw[z1] at hl;have vq:∀ c o,s1.heap.get? c=some o->h2.get? c=some o:=λc o e=>by
  have hb:=We e;have fg:=Nat.lt_trans (We (kp c o e)) (U3 _);rw[hN] at hb;have ne:∀ i:Nat,c≠n + i:=λi=>Wi (Wv hb (JC n i))
  exact Z.keep c o (Wi (We (kp c o e))) (ne 4) (ne 3) (ne 0) (ne 1) (kp c o e)
 have I3:Inv X pins σ H1 { s1 with heap:=h2,toks:=tk }:=I1.kept (t':=tk) vq;have hf:∀ (H':Hp) c,n<=c->H' c=none->ft X pins H' c:=λH' c hc e=>I1.jB (by rw[hN]; exact hc) e
 have nS:n<=h'.objs.size:=QU (Nat.lt_of_le_of_lt (JC n 4) zl);have fr:∀ c,n<=c->H1 c=none:=λc hc=>I1.aw.fresh (by rw[hN]; exact hc)
 have nd:as.Nodup:=Z.G.rise.imp λh=>Wi h
 have ur:h'.objs.size ∉ as:=λz=>Qf _ (Z.G.above _ z)
 have ge:∀ c ∈ as,n<=c:=λc hc=>WK nS (QU (Z.G.above c hc))
 have I4:=Fw hf as xs ys H1 I3 nd (λc hc=>⟨ge c hc,fr c (ge c hc)⟩) λj c e=>by
  obtain⟨u,v,g1,g2,t⟩:=Z.G.pairs j c e;have hj:j < xs.length:=by rw[<- hl]; exact(W6.mp e).1
  have lB:xs[j]? = some xs[j]:=by simp[hj]
  have lG:ys[j]? = some (ys[j]'(by omega)):=by simp[show j < ys.length by omega]
  obtain⟨u',hu,ru⟩:=rv1.get lB;obtain⟨v',hv,rv⟩:=rv2.get lG;rw[List.getElem?_toArray,hu] at g1;rw[List.getElem?_toArray,hv] at g2
  cases g1
  cases g2;exact⟨_,_,_,_,lB,lG,ru,rv,t⟩
 have FH:jf H1 as xs ys h'.objs.size=none:=by rw[xI ur]; exact fr _ nS
 have I5:=I4.adopt (b:=h'.objs.size) (o:=.lst (as.map V.ref)) (hf _ _ nS FH) ⟨by rw[Wy,hl]; exact hsz,as.map Value.ref,c,Fx as,by rw[<- Z.items,Array.toArray_toList]; exact Z.lst⟩;exact⟨.ref h'.objs.size,_,I5,rfl,q _ as (fr _ nS) (λc hc=>fr c (ge c hc)) nd ur hl⟩
end
end L2
namespace DV
open PySem PySem.Spec PyProof.Rows L2
def iP:D->Option (List D)
 | .lst ds=>some ds
 | _=>none
theorem Rep.ls{H:Hp}{O:Addr->Prop}{v:V}{d:D}{ds:List D}(r:Rep H O v d)(e:iP d=some ds):∃ a vs,v = .ref a/\Rd H a (.lst vs)/\¬ O a/\aA H O vs ds:=by
 cases d <;> first | (simp[iP] at e; done) | skip
 cases r with
 | lst h1 h2 h3 h4 =>
  simp only[iP,Wd] at e;subst e;exact⟨_,_,rfl,h2,h1,h3,h4⟩
def ik(f g:DE):DI:=λδ=>(f δ).bind λx δ1=>(g δ1).bind λy δ2=>match iP x.d,iP y.d with
 | some xs,some ys=>.ok (gf xs ys) δ2
 | _,_=>.stuck
def oP(f g:DE):DE:=λδ=>(f δ).bind λx δ1=>(g δ1).bind λy δ2=>match iP x.d,iP y.d with
 | some xs,some ys=>if xs.length=ys.length/\xs.length<=1000 then .ok (.own (.lst (gf xs ys))) δ2 else .stuck
 | _,_=>.stuck
section
variable {X:Cx} {c:Fc} {a b:Expr} {f g:DE} {pp pos qU qV:Pos} {elts:List Expr} {ctx:Nat} {tp:Pos}
theorem FR (hg:Gl X "zip") (hm:X.mg "zip" = none) (ha:SE X c a f) (hb:SE X c b g) (hs:W7 [a,b] X.env=(false,eval a X.env) :: W7 [b] X.env:=by rfl)
  (mI:W7 [b] X.env=(false,eval b X.env) :: W7 [] X.env:=by rfl) (bE:(WU pos (W7 [b] X.env)).any (·.1)=false:=by rfl):SI X c (.Tuple elts ctx tp) (.Call (.Name "zip" pp) [a,b] [] pos) (ik f g) :=
 PI.weak (RW hg hm (dt ha (dt hb eU mI) hs) hs bE) λσ H R ⟨δ,k,q⟩=>by
  unfold ik at q;rw[bc] at q;refine⟨δ,k,aQ q λx δ1 q1 v H1 a1 r1=>⟨δ1,a1.ok,?_⟩⟩;rw[bc] at q1;refine aQ q1 λy δ2 q2 u H2 a2 r2=>?_
  have hx:Rep H2 (Av c σ δ2) v x.d:=Rep.cU r1.rep a2;have hy:Rep H2 (Av c σ δ2) u y.d:=r2.rep;split at q2
  case h_2=>exact q2.elim
  rename_i xs ys e1 e2;obtain⟨p1,vs,ev,s1,n1,w1⟩:=hx.ls e1;obtain⟨p2,us,eu,s2,n2,w2⟩:=hy.ls e2;subst ev eu;refine⟨p1,p2,rfl,⟨vs,.inl s1⟩,⟨us,.inl s2⟩,q2 _ H2 (a1.trans a2) λH3 kp=>?_⟩;have t1:bS X.K H3 p1 vs:=.inl (Rd.keep s1 λo e=>kp _ o e λz=>n1 (.inr z));have t2:bS X.K H3 p2 us:=.inl (Rd.keep s2 λo e=>kp _ o e λz=>n2 (.inr z));refine⟨⟨vs,us,t1,t2,?_⟩,λi d e=>?_⟩
  ·rw[w1.1,w2.1];simp only[gf,List.length_zipWith];omega
  ·obtain⟨x,y,ex,ey,rfl⟩:=Om e;obtain⟨v,ev,rv⟩:=w1.get ex;obtain⟨u,eu,ru⟩:=w2.get ey;refine⟨⟨vs,us,v,u,t1,t2,ev,eu⟩,λz H4 ⟨p,v',u',hp,hv,hu,e3,ez⟩=>.inr ⟨p,_,_,hp,e3,ez,rfl,?_⟩⟩;have h1:=hv vs t1;have h2:=hu us t2;rw[ev] at h1;rw[eu] at h2
   cases h1
   cases h2;exact aA.two rv ru
theorem RZ (hc:X.calm=true) (lK:Gl X "list") (xQ:X.mg "list" = none) (hg:Gl X "zip") (hm:X.mg "zip" = none) (ha:SE X c a f) (hb:SE X c b g) (hs:W7 [a,b] X.env=(false,eval a X.env) :: W7 [b] X.env:=by rfl)
  (mI:W7 [b] X.env=(false,eval b X.env) :: W7 [] X.env:=by rfl) (bE:(WU pos (W7 [b] X.env)).any (·.1)=false:=by rfl)
  (lC:W7 [.Call (.Name "zip" pp) [a,b] [] pos] X.env=(false,eval (.Call (.Name "zip" pp) [a,b] [] pos) X.env) :: W7 [] X.env:=by rfl) :
  SE X c (.Call (.Name "list" qU) [.Call (.Name "zip" pp) [a,b] [] pos] [] qV) (oP f g) :=
 PE.weak (RY hc lK xQ hg hm (dt ha (dt hb eU mI) hs) hs bE lC) λσ H Q ⟨δ,k,q⟩=>by
  unfold oP at q;rw[bc] at q;refine⟨δ,k,aQ q λx δ1 q1 v H1 a1 r1=>⟨δ1,a1.ok,?_⟩⟩;rw[bc] at q1;refine aQ q1 λy δ2 q2 u H2 a2 r2=>?_
  have hx:Rep H2 (Av c σ δ2) v x.d:=Rep.cU r1.rep a2;have hy:Rep H2 (Av c σ δ2) u y.d:=r2.rep;split at q2
  case h_2=>exact q2.elim
  rename_i xs ys e1 e2;obtain⟨p1,vs,ev,s1,_,w1⟩:=hx.ls e1;obtain⟨p2,us,eu,s2,_,w2⟩:=hy.ls e2;subst ev eu;split at q2
  case isFalse=>exact q2.elim
  rename_i hl;have l1:=w1.1;have l2:=w2.1;refine⟨p1,p2,vs,us,rfl,.inl s1,.inl s2,by omega,by rw[l1,Qr]; omega,λS as hS hn nd ur hlen=>?_⟩;obtain⟨h1,h2⟩:=Fy a2.ok nd hn hlen w1 w2 (by omega);have qW:jf H2 as vs us S=none:=by rw[xI ur]; exact hS
  have FT:=a1.trans a2;exact q2 _ _ (FT.trans (h1.trans (.alloc h1.ok qW _))) ((aP.my h1.ok h2 qW).back (FT.trans h1))
end
end DV
namespace K17
open PySem.W (nsIn keepIn codeIn findIn mroIn kitOne mg_of)
open PySem PySem.Spec PyProof.Rows L2 DV
theorem ak{a b:Prop}(h:a\/b:=by first|exact Or.inl rfl|exact Or.inr rfl):a\/b:=h
def top(i:Nat):Stmt:=PySem.Challenge.pw_tilegrow_k17_tiles_of_far_floors.main.body.getD i (.Pass ⟨0,0,0,0⟩)
abbrev xR:Stmt:=top 20
abbrev xS:Stmt:=top 22
abbrev xT:Stmt:=top 21
abbrev xU:Stmt:=top 23
abbrev xV:Stmt:=top 26
abbrev xW:Stmt:=top 25
abbrev xX:Stmt:=top 27
abbrev xY:Stmt:=top 31
abbrev xZ:Stmt:=top 32
abbrev x4:Stmt:=top 12
abbrev x5:Stmt:=top 16
abbrev x6:Stmt:=top 13
abbrev x8:Stmt:=top 15
abbrev x9:Stmt:=top 17
abbrev uu:Stmt:=top 24
abbrev x_:Stmt:=top 33
abbrev ya:Stmt:=top 19
abbrev yb:Stmt:=top 29
abbrev yc:Stmt:=top 30
abbrev yd:Stmt:=top 35
abbrev ye:Stmt:=top 36
abbrev yf:Stmt:=top 28
abbrev yg:Stmt:=top 34
abbrev kI:Stmt:=top 37
abbrev qX:Stmt:=(OT (top 7)).getD 0 (.Pass ⟨0,0,0,0⟩)
theorem R1:cA ["self","tile"] ["self","tile"] (bo qX):=scc
abbrev ys:List Tx:=[[78,111,84,105,108,101]]
section
variable (ce:Tx->Nat)
structure Txt(K:W1)(mg:Str->Option Value):Prop where
 qY:mg "ValueError" = none
 qZ:mg "all" = none
 oQ:mg "bool" = none
 q0:mg "dict" = none
 lU:mg "int" = none
 eG:mg "isinstance" = none
 jh:mg "len" = none
 oR:mg "list" = none
 q_:mg "max" = none
 gM:mg "range" = none
 rg:mg "set" = none
 oS:mg "sorted" = none
 rh:mg "str" = none
 lV:mg "tuple" = none
 nt:mg "zip" = none
 ty_bool:hV K "bool"
 ty_int:hV K "int"
 ty_list:hV K "list"
 ty_str:hV K "str"
 ty_tuple:hV K "tuple"
 R3:mg "FloorError" = some (.ref (ce [70,108,111,111,114,69,114,114,111,114]))
 R4:mg "NoFloor" = some (.ref (ce [78,111,70,108,111,111,114]))
 R5:mg "NoPlace" = some (.ref (ce [78,111,80,108,97,99,101]))
 R6:mg "NoNumber" = some (.ref (ce [78,111,78,117,109,98,101,114]))
 R7:mg "NoRow" = some (.ref (ce [78,111,82,111,119]))
 R8:mg "Unlike" = some (.ref (ce [85,110,108,105,107,101]))
 FU:mg "NoTile" = some (.ref (ce [78,111,84,105,108,101]))
 R9:mg "NoRule" = some (.ref (ce [78,111,82,117,108,101]))
 R_:mg "NoText" = some (.ref (ce [78,111,84,101,120,116]))
 Sa:mg "TooGreat" = some (.ref (ce [84,111,111,71,114,101,97,116]))
 Sb:mV K (ce [70,108,111,111,114,69,114,114,111,114])
 Sd:IsT K ce ys (.ref (ce [78,111,70,108,111,111,114])) (λz=>z == [78,111,70,108,111,111,114])
 Se:IsT K ce ys (.ref (ce [78,111,80,108,97,99,101])) (λz=>z == [78,111,80,108,97,99,101])
 Sf:IsT K ce ys (.ref (ce [78,111,78,117,109,98,101,114])) (λz=>z == [78,111,78,117,109,98,101,114])
 Sg:IsT K ce ys (.ref (ce [78,111,82,111,119])) (λz=>z == [78,111,82,111,119])
 Sh:IsT K ce ys (.ref (ce [85,110,108,105,107,101])) (λz=>z == [85,110,108,105,107,101])
 Si:IsT K ce ys (.ref (ce [78,111,84,105,108,101])) (λz=>z == [78,111,84,105,108,101])
 Sj:IsT K ce ys (.ref (ce [78,111,82,117,108,101])) (λz=>z == [78,111,82,117,108,101])
 Sk:IsT K ce ys (.ref (ce [78,111,84,101,120,116])) (λz=>z == [78,111,84,101,120,116])
 Sl:IsT K ce ys (.ref (ce [84,111,111,71,114,101,97,116])) (λz=>z == [84,111,111,71,114,101,97,116])
 FV:xh K ce ys "tile"
 Sm:IsT K ce ys (.type "ValueError") (λ_=>true)
 Sn:∀ y ∈ ys,mg (toS y)=some (.ref (ce y))/\mroIn K (ce y) (.ref (ce [70,108,111,111,114,69,114,114,111,114]))=some true
end
def yh:DS:=(au (cO (aO (aj sS 1 (ao (a_ cy (ah 0))))) (bA (aj aB 0 (ah 1))) cH) (bA (eD (.int 0))))
def nu:DF:=cz [] 2 yh
theorem So:di nu:=en
theorem Sq:cA ["script","k"] ["script","k"] (bo xR):=scc
theorem Sr {K:W1} (F:b7 K "_law_cell_at" "_law_cell_at" xR f fd) (hm:mg "_law_cell_at" = some (.ref f)) (hb:Binds K fd ["script","k"] []) (T:Txt ce K mg):bV P w K mg base 1 "_law_cell_at" 2 nu :=
 eR (np:=[]) (fb:=yh) F hm hb Sq (λc aL A outer s H E hr aq=>by
  have hq:=dU hr;refine(aZ ?_ ?_)
  ·refine(fW ?_ ?_ ?_)
   ·exact(n4 Md Me (pv 1) (aT (mH rfl T.jh (bD (pv 0)) (by rfl))) (fu _))
   ·refine(bp ?_);refine(cE ?_);exact(cC cx cD (pv 0) (bD (pv 1)) (λ_ _=>rfl))
   ·exact fM
  refine(bp ?_);refine(cE ?_);exact aR) λss y h=>dH h
def yi:DS:=(au (ar (sV (aa 0) (aY n9 (eD (.int 0)) (ah 0))) (ae [] 1)) (bA (eF (aI (aa 1) (aI (a_ gm (ao (aj CV 1 (ao (aY vR (eD (.int 10)) (ao (eD (.int 18)))))))) (aI (aj fU 1 (ao (eD (.int 1000003)))) bU))))))
def ny:DF:=cz [] 2 yi
theorem Ss:di ny:=en
theorem FW:cA ["cell","left"] ["cell"] (bo xS):=scc
theorem Su {K:W1} (F:b7 K "_law_pen_of" "_law_pen_of" xS f fd) (hm:mg "_law_pen_of" = some (.ref f)) (hb:Binds K fd ["cell"] []) (T:Txt ce K mg):bV P w K mg base 1 "_law_pen_of" 1 ny :=
 eR (np:=[]) (fb:=yi) F hm hb FW (λc aL A outer s H E hr aq=>by
  have hq:=dU hr;refine(aZ ?_ ?_)
  ·exact(@cj _ _ _ _ _ _ ([]) (1) _ aq FW.nd rfl ak (Mo rfl rfl T.q_ (aK (pv 0)) (dE Bb CP aR (bD (pv 0))) (by rfl) (by rfl) (by rfl)) rfl ak)
  refine(bp ?_);refine(cE ?_);exact(i_ (cq (aK (pv 1)) (cq (C1 rfl T.lU (aT (vN Mf qb (pv 1) (aT (dE IC Mc aR (aT aR))) (fu _))) (by rfl)) (cq (g_ ml mG (pv 1) (aT aR)) eQ (by rfl)) (by rfl)) (by rfl)) (by decide))) λss y h=>dH h
def yj:DS:=(au (ar (aY fU (aj bz 0 (ao (eD (.int 7919)))) (ao (eD (.int 2147483647)))) (ae [] 0)) (bA (aY fU (aY bz (aY bz (aj cI 0 (ah 0)) (ao (aY cI (eD (.int 48271)) (ah 0)))) (ao (eD (.int 12345)))) (ao (eD (.int 2147483629))))))
def nA:DF:=cz [] 1 yj
theorem FX:di nA:=en
theorem FY:cA ["seed"] ["seed"] (bo xT):=scc
theorem Sv {K:W1} (F:b7 K "_law_next" "_law_next" xT f fd) (hm:mg "_law_next" = some (.ref f)) (hb:Binds K fd ["seed"] []) (T:Txt ce K mg):bV P w K mg base 1 "_law_next" 1 nA :=
 eR (np:=[]) (fb:=yj) F hm hb FY (λc aL A outer s H E hr aq=>by
  have hq:=dU hr;refine(aZ ?_ ?_)
  ·exact(@cj _ _ _ _ _ _ ([]) (0) _ aq FY.nd rfl ak (dE ml mG (g_ fR fS (pv 0) (aT aR)) (aT aR)) rfl ak)
  refine(bp ?_);refine(cE ?_);exact(dE ml mG (dE fR fS (dE fR fS (g_ mO mP (pv 0) (bD (pv 0))) (aT (dE mO mP aR (bD (pv 0))))) (aT aR)) (aT aR))) λss y h=>dH h
def yk:DS:=(au (cO (aO (aY bP (aj aB 0 (ao (eD (.int 1)))) (ao (eD (.int 1))))) (au (ar (aY fU (aj aB 0 (ao (eD (.int 0)))) (ah 1)) (ae [0] 2)) (au (oj 0 (eD (.int 0)) (aY p_ (aj aB 0 (ao (eD (.int 0)))) (ah 1))) (bA (aa 2)))) cH) (au (oj 0 (eD (.int 2)) (ax nA [.val (aY bz (ax nA [.val (aj aB 0 (ao (eD (.int 2))))]) (ao (eD (.int 7))))])) (bA (aY fU (aY p_ (aj aB 0 (ao (eD (.int 2)))) (ao (eD (.int 64)))) (ah 1)))))
def cL:DF:=cz [0] 3 yk
theorem gi:di cL:=en
theorem FZ:cA ["pen","many","found"] ["pen","many"] (bo xU):=scc
theorem Sw {K:W1} (F:b7 K "_law_draw" "_law_draw" xU f fd) (hm:mg "_law_draw" = some (.ref f)) (hb:Binds K fd ["pen","many"] []) (T:Txt ce K mg) (uv:bV P w K mg base 1 "_law_next" 1 nA):bV P w K mg base 2 "_law_draw" 2 cL :=
 eR (np:=[0]) (fb:=yk) F hm hb FZ (λc aL A outer s H E hr aq=>by
  have hq:=dU hr;refine(aZ ?_ ?_)
  ·refine(fW ?_ ?_ ?_)
   ·exact(kn (i7 hq) i9 (cC cx cD (pv 0) (aT aR) (λ_ _=>rfl)) (aT aR) (fu _))
   ·refine(aZ ?_ ?_)
    ·exact(@cj _ _ _ _ _ _ ([0]) (2) _ aq FZ.nd rfl ak (dE ml mG (cC cx cD (pv 0) (aT aR) (λ_ _=>rfl)) (bD (pv 1))) rfl ak)
    refine(aZ ?_ ?_)
    ·exact(C_ (pv 0) aR (dE Bc CQ (cC cx cD (pv 0) (aT aR) (λ_ _=>rfl)) (bD (pv 1))) (by intro _; rfl) (by rfl) (by rfl) (by rfl))
    refine(bp ?_);refine(cE ?_);exact(aK (pv 2))
   ·exact fM
  refine(aZ ?_ ?_)
  ·exact(C_ (pv 0) aR (@cw _ _ _ _ _ (1) _ _ _ _ _ uv FX (hr.mono (by decide)) rfl (bj (dE fR fS (@cw _ _ _ _ _ (1) _ _ _ _ _ uv FX (hr.mono (by decide)) rfl (bj (cC cx cD (pv 0) (aT aR) (λ_ _=>rfl)) bZ (by rfl)) rfl (by decide) (by rfl) (by rfl)) (aT aR)) bZ (by rfl)) rfl (by decide) (by rfl) (by rfl)) (by intro _; rfl) (by rfl) (by rfl) (by rfl))
  refine(bp ?_);refine(cE ?_);exact(dE ml mG (dE Bc CQ (cC cx cD (pv 0) (aT aR) (λ_ _=>rfl)) (aT aR)) (bD (pv 1)))) λss y h=>dH h
def yl:DS:=(au (ar (aY bz (eD (.int 1)) (ao (ax cL [.io 0,.val (eD (.int 3))]))) (ae [0] 1)) (au (ar (aY bz (eD (.int 1)) (ao (ax cL [.io 0,.val (eD (.int 3))]))) (ae [0] 2)) (au (cO (aO (aY bP (ax cL [.io 0,.val (eD (.int 8))]) (ao (eD (.int 0))))) (ar (aY aB (gJ [.tup [.int 4,.int 1],.tup [.int 1,.int 4],.tup [.int 4,.int 4],.tup [.int 4,.int 3],.tup [.int 1,.int 2],.tup [.int 2,.int 1]]) (ao (ax cL [.io 0,.val (eD (.int 6))]))) (bM 2 (aM (ae [0] 1) (aM (ae [0] 2) bQ)))) cH) (au (cO (aO (aY bP (aj bz 1 (ah 2)) (ao (eD (.int 2))))) (ar (eD (.int 2)) (ae [0] 2)) cH) (bA (dh (aI (aa 1) (aI (aa 2) bU))))))))
def oU:DF:=cz [0] 3 yl
theorem Sx:di oU:=en
theorem oV:cA ["pen","high","wide"] ["pen"] (bo xV):=scc
theorem Sy {K:W1} (F:b7 K "_law_sizes_by" "_law_sizes_by" xV f fd) (hm:mg "_law_sizes_by" = some (.ref f)) (hb:Binds K fd ["pen"] []) (T:Txt ce K mg) (dN:bV P w K mg base 2 "_law_draw" 2 cL):bV P w K mg base 3 "_law_sizes_by" 1 oU :=
 eR (np:=[0]) (fb:=yl) F hm hb oV (λc aL A outer s H E hr aq=>by
  have hq:=dU hr;refine(@aZ _ _ _ _ _ _ ?_ ?_)
  ·exact(@cj _ _ _ _ _ _ ([0]) (1) _ aq oV.nd rfl ak (@dE _ _ _ _ _ _ _ _ _ _ fR fS (@aR _ _ _ _ _) (@aT _ _ _ _ (@cw _ _ _ _ _ (2) _ _ _ _ _ dN gi (hr.mono (by decide)) rfl (@eS _ _ _ _ _ _ (pv 0) (@bj _ _ _ _ _ _ (@aR _ _ _ _ _) (@bZ _ _) (by rfl)) (by rfl)) rfl (by decide) (by rfl) (by rfl)))) rfl ak)
  refine(@aZ _ _ _ _ _ _ ?_ ?_)
  ·exact(@cj _ _ _ _ _ _ ([0]) (2) _ aq oV.nd rfl ak (@dE _ _ _ _ _ _ _ _ _ _ fR fS (@aR _ _ _ _ _) (@aT _ _ _ _ (@cw _ _ _ _ _ (2) _ _ _ _ _ dN gi (hr.mono (by decide)) rfl (@eS _ _ _ _ _ _ (pv 0) (@bj _ _ _ _ _ _ (@aR _ _ _ _ _) (@bZ _ _) (by rfl)) (by rfl)) rfl (by decide) (by rfl) (by rfl)))) rfl ak)
  refine(@aZ _ _ _ _ _ _ ?_ ?_)
  ·refine(@fW _ _ _ _ _ _ _ _ _ ?_ ?_ ?_)
   ·exact(@kn _ _ _ _ _ _ _ _ _ _ (i7 hq) i9 (@cw _ _ _ _ _ (2) _ _ _ _ _ dN gi (hr.mono (by decide)) rfl (@eS _ _ _ _ _ _ (pv 0) (@bj _ _ _ _ _ _ (@aR _ _ _ _ _) (@bZ _ _) (by rfl)) (by rfl)) rfl (by decide) (by rfl) (by rfl)) (@aT _ _ _ _ (@aR _ _ _ _ _)) (fu _))
   ·refine(@bp _ _ _ _ ?_);refine(@C6 _ _ _ _ _ _ _ ?_ ?_ (by rfl) (by rfl) (by rfl))
    ·exact(@CK _ _ _ _ _ _ _ _ _ cx cD (@tL _ _ _ _ _ (by rfl) (by decide)) (@aT _ _ _ _ (@cw _ _ _ _ _ (2) _ _ _ _ _ dN gi (hr.mono (by decide)) rfl (@eS _ _ _ _ _ _ (pv 0) (@bj _ _ _ _ _ _ (@aR _ _ _ _ _) (@bZ _ _) (by rfl)) (by rfl)) rfl (by decide) (by rfl) (by rfl))) (λ_ _=>rfl))
    ·exact(@lj _ _ _ _ _ _ _ rfl (@fX _ _ _ _ _ _ (@cY _ _ _ ([0]) (1) _ aq oV.nd rfl ak ak) (@fX _ _ _ _ _ _ (@cY _ _ _ ([0]) (2) _ aq oV.nd rfl ak ak) (@lh _ _) (by rfl)) (by rfl)) (by rfl) (by rfl))
   ·exact fM
  refine(@aZ _ _ _ _ _ _ ?_ ?_)
  ·refine(@fW _ _ _ _ _ _ _ _ _ ?_ ?_ ?_)
   ·exact(@kn _ _ _ _ _ _ _ _ _ _ (i7 hq) i9 (@g_ _ _ _ _ _ _ _ _ _ _ fR fS (pv 1) (@bD _ _ _ _ (pv 2))) (@aT _ _ _ _ (@aR _ _ _ _ _)) (fu _))
   ·refine(@bp _ _ _ _ ?_);exact(@cj _ _ _ _ _ _ ([0]) (2) _ aq oV.nd rfl ak (@aR _ _ _ _ _) rfl ak)
   ·exact fM
  refine(@bp _ _ _ _ ?_);refine(@cE _ _ _ _ _ ?_);exact(@ko _ _ _ _ _ _ (@cq _ _ _ _ _ _ (@aK _ _ _ _ (pv 1)) (@cq _ _ _ _ _ _ (@aK _ _ _ _ (pv 2)) (@eQ _ _) (by rfl)) (by rfl)) (by decide))) λss y h=>dH h
def ym:DS:=(au (cO (aO (aj bP 3 (ao (eD (.int 1))))) (bA (aj aB 1 (ao (ax cL [.io 0,.val (aj bz 2 (ao (eD (.int 1))))])))) cH) (au (cO (aO (aj bP 3 (ao (eD (.int 2))))) (bA (aj aB 1 (ao (aY fU (aj bz 2 (ao (eD (.int 1)))) (ao (a_ cy (ah 1))))))) cH) (au (cO (n5 (aO (aj bP 3 (ao (eD (.int 3))))) (aO (aY k_ (ax cL [.io 0,.val (eD (.int 4))]) (ao (eD (.int 0)))))) (bA (aj aB 1 (ah 2))) cH) (bA (aj aB 1 (ao (ax cL [.io 0,.val (a_ cy (ah 1))])))))))
def iQ:DF:=cz [0] 4 ym
theorem Sz:di iQ:=en
theorem SD:cA ["pen","tiles","place","way"] ["pen","tiles","place","way"] (bo xW):=scc
theorem SH {K:W1} (F:b7 K "_law_pick" "_law_pick" xW f fd) (hm:mg "_law_pick" = some (.ref f)) (hb:Binds K fd ["pen","tiles","place","way"] []) (T:Txt ce K mg) (dN:bV P w K mg base 2 "_law_draw" 2 cL):bV P w K mg base 3 "_law_pick" 4 iQ :=
 eR (np:=[0]) (fb:=ym) F hm hb SD (λc aL A outer s H E hr aq=>by
  have hq:=dU hr;refine(aZ ?_ ?_)
  ·refine(fW ?_ ?_ ?_)
   ·exact(n4 (i7 hq) i9 (pv 3) (aT aR) (fu _))
   ·refine(bp ?_);refine(cE ?_);exact(cC cx cD (pv 1) (aT (@cw _ _ _ _ _ (2) _ _ _ _ _ dN gi (hr.mono (by decide)) rfl (eS (pv 0) (bj (g_ fR fS (pv 2) (aT aR)) bZ (by rfl)) (by rfl)) rfl (by decide) (by rfl) (by rfl))) (λ_ _=>rfl))
   ·exact fM
  refine(aZ ?_ ?_)
  ·refine(fW ?_ ?_ ?_)
   ·exact(n4 (i7 hq) i9 (pv 3) (aT aR) (fu _))
   ·refine(bp ?_);refine(cE ?_);exact(cC cx cD (pv 1) (aT (dE ml mG (g_ fR fS (pv 2) (aT aR)) (aT (mH rfl T.jh (bD (pv 1)) (by rfl))))) (λ_ _=>rfl))
   ·exact fM
  refine(aZ ?_ ?_)
  ·refine(fW ?_ ?_ ?_)
   ·exact(n8 (CM (n4 (i7 hq) i9 (pv 3) (aT aR) (fu _)) (CL (kn vS qb (@cw _ _ _ _ _ (2) _ _ _ _ _ dN gi (hr.mono (by decide)) rfl (eS (pv 0) (bj aR bZ (by rfl)) (by rfl)) rfl (by decide) (by rfl) (by rfl)) (aT aR) (fu _)))))
   ·refine(bp ?_);refine(cE ?_);exact(cC cx cD (pv 1) (bD (pv 2)) (λ_ _=>rfl))
   ·exact fM
  refine(bp ?_);refine(cE ?_);exact(cC cx cD (pv 1) (aT (@cw _ _ _ _ _ (2) _ _ _ _ _ dN gi (hr.mono (by decide)) rfl (eS (pv 0) (bj (mH rfl T.jh (bD (pv 1)) (by rfl)) bZ (by rfl)) (by rfl)) rfl (by decide) (by rfl) (by rfl))) (λ_ _=>rfl))) λss y h=>dH h
def yn:DS:=(au (ar (ax oU [.io 0]) (bM 2 (aM (ae [0] 2) (aM (ae [0] 3) bQ)))) (au (ar (aY bz (eD (.int 1)) (ao (ax cL [.io 0,.val (aa 1)]))) (ae [0] 4)) (au (ar (ax cL [.io 0,.val (eD (.int 26))]) (ae [0] 5)) (au (ar (eD (.str [97,98,99,100,101,102,103,104,105,106,107,108,109,110,111,112,113,114,115,116,117,118,119,120,121,122])) (ae [0] 6)) (au (ar (a_ oh (ao (cf [13] (dw (aa 4)) (ae [0] 13) bq (aj aB 6 (ao (aY fU (aj bz 5 (ao (aY cI (eD (.int 5)) (ah 13)))) (ao (eD (.int 26))))))))) (ae [0] 7)) (au (ar (ax cL [.io 0,.val (eD (.int 5))]) (ae [0] 8)) (au (ar (eF bU) (ae [0] 9)) (au (bY (dw (aa 4)) (ae [0] 10) (au (ar (eF bU) (ae [0] 11)) (au (bY (dw (aa 2)) (ae [0] 12) (dG 11 (a_ (cR []) (ao (cf [14] (dw (aa 3)) (ae [0] 14) bq (ax iQ [.io 0,.val (aa 7),.val (aa 10),.val (aa 8)])))))) (dG 9 (dh (aI (aj aB 7 (ah 10)) (aI (a_ hU (ah 11)) bU))))))) (bA (dh (aI (aa 2) (aI (aa 3) (aI (a_ hU (ah 9)) bU)))))))))))))
def lW:DF:=cz [0] 15 yn
theorem SJ:di lW:=en
theorem gN:cA ["pen","most","high","wide","size","first","letters","tiles","way","blocks","place","block","row","k","column"] ["pen","most"] (bo xX):=scc
theorem SK {K:W1} (F:b7 K "_law_rule_by" "_law_rule_by" xX f fd) (hm:mg "_law_rule_by" = some (.ref f)) (hb:Binds K fd ["pen","most"] []) (T:Txt ce K mg) (dN:bV P w K mg base 2 "_law_draw" 2 cL) (yo:bV P w K mg base 3 "_law_sizes_by" 1 oU) (yp:bV P w K mg base 3 "_law_pick" 4 iQ):bV P w K mg base 4 "_law_rule_by" 2 lW :=
 eR (np:=[0]) (fb:=yn) F hm hb gN (λc aL A outer s H E hr aq=>by
  have hq:=dU hr;refine(@aZ _ _ _ _ _ _ ?_ ?_)
  ·refine(@C6 _ _ _ _ _ _ _ ?_ ?_ (by rfl) (by rfl) (by rfl))
   ·exact(@cw _ _ _ _ _ (3) _ _ _ _ _ yo Sx (hr.mono (by decide)) rfl (@eS _ _ _ _ _ _ (pv 0) (@bZ _ _) (by rfl)) rfl (by decide) (by rfl) (by rfl))
   ·exact(@lj _ _ _ _ _ _ _ rfl (@fX _ _ _ _ _ _ (@cY _ _ _ ([0]) (2) _ aq gN.nd rfl ak ak) (@fX _ _ _ _ _ _ (@cY _ _ _ ([0]) (3) _ aq gN.nd rfl ak ak) (@lh _ _) (by rfl)) (by rfl)) (by rfl) (by rfl))
  refine(@aZ _ _ _ _ _ _ ?_ ?_)
  ·exact(@cj _ _ _ _ _ _ ([0]) (4) _ aq gN.nd rfl ak (@dE _ _ _ _ _ _ _ _ _ _ fR fS (@aR _ _ _ _ _) (@aT _ _ _ _ (@cw _ _ _ _ _ (2) _ _ _ _ _ dN gi (hr.mono (by decide)) rfl (@eS _ _ _ _ _ _ (pv 0) (@bj _ _ _ _ _ _ (@aK _ _ _ _ (pv 1)) (@bZ _ _) (by rfl)) (by rfl)) rfl (by decide) (by rfl) (by rfl)))) rfl ak)
  refine(@aZ _ _ _ _ _ _ ?_ ?_)
  ·exact(@cj _ _ _ _ _ _ ([0]) (5) _ aq gN.nd rfl ak (@cw _ _ _ _ _ (2) _ _ _ _ _ dN gi (hr.mono (by decide)) rfl (@eS _ _ _ _ _ _ (pv 0) (@bj _ _ _ _ _ _ (@aR _ _ _ _ _) (@bZ _ _) (by rfl)) (by rfl)) rfl (by decide) (by rfl) (by rfl)) rfl ak)
  refine(@aZ _ _ _ _ _ _ ?_ ?_)
  ·exact(@cj _ _ _ _ _ _ ([0]) (6) _ aq gN.nd rfl ak (@mB _ _ _ _ _ [97,98,99,100,101,102,103,104,105,106,107,108,109,110,111,112,113,114,115,116,117,118,119,120,121,122] (by decide +kernel)) rfl ak)
  refine(@aZ _ _ _ _ _ _ ?_ ?_)
  ·exact(@cj _ _ _ _ _ _ ([0]) (7) _ aq gN.nd rfl ak (@Mn _ _ _ _ _ _ rfl T.oS (@aT _ _ _ _ (@lq _ _ ([13]) _ _ _ _ _ _ _ _ _ _ rfl (@gI _ _ _ rfl rfl) (@jP _ _ _ _ _ _ _ rfl T.gM (@aK _ _ _ _ (pv 4)) (by rfl)) (λl s0 H0 ex=>(@fY _ _ _ _ ([0]) (13) _ aq gN.nd rfl ak ak (by decide))) (λl s0 H0 ex=>(@ib _ _)) (λl s0 H0 ex=>(@cC _ _ _ _ _ _ _ _ _ cx cD (pv 6) (@aT _ _ _ _ (@dE _ _ _ _ _ _ _ _ _ _ ml mG (@g_ _ _ _ _ _ _ _ _ _ _ fR fS (pv 5) (@aT _ _ _ _ (@dE _ _ _ _ _ _ _ _ _ _ mO mP (@aR _ _ _ _ _) (@bD _ _ _ _ (pv 13))))) (@aT _ _ _ _ (@aR _ _ _ _ _)))) (λ_ _=>rfl))) (gH aq rfl) (by intro _; rfl))) (by rfl)) rfl ak)
  refine(@aZ _ _ _ _ _ _ ?_ ?_)
  ·exact(@cj _ _ _ _ _ _ ([0]) (8) _ aq gN.nd rfl ak (@cw _ _ _ _ _ (2) _ _ _ _ _ dN gi (hr.mono (by decide)) rfl (@eS _ _ _ _ _ _ (pv 0) (@bj _ _ _ _ _ _ (@aR _ _ _ _ _) (@bZ _ _) (by rfl)) (by rfl)) rfl (by decide) (by rfl) (by rfl)) rfl ak)
  refine(@aZ _ _ _ _ _ _ ?_ ?_)
  ·exact(@cj _ _ _ _ _ _ ([0]) (9) _ aq gN.nd rfl ak (@i_ _ _ _ _ _ (@eQ _ _) (by decide)) rfl ak)
  refine(@aZ _ _ _ _ _ _ ?_ ?_)
  ·refine(@eZ _ _ _ _ _ _ _ _ _ PassesOwn.never rfl ?_ ?_ ?_ (by intro _; rfl))
   ·exact(@jP _ _ _ _ _ _ _ rfl T.gM (@aK _ _ _ _ (pv 4)) (by rfl))
   ·exact(@cY _ _ _ ([0]) (10) _ aq gN.nd rfl ak ak)
   ·refine(@aZ _ _ _ _ _ _ ?_ ?_)
    ·exact(@cj _ _ _ _ _ _ ([0]) (11) _ aq gN.nd rfl ak (@i_ _ _ _ _ _ (@eQ _ _) (by decide)) rfl ak)
    refine(@aZ _ _ _ _ _ _ ?_ ?_)
    ·refine(@eZ _ _ _ _ _ _ _ _ _ PassesOwn.never rfl ?_ ?_ ?_ (by intro _; rfl))
     ·exact(@jP _ _ _ _ _ _ _ rfl T.gM (@aK _ _ _ _ (pv 2)) (by rfl))
     ·exact(@cY _ _ _ ([0]) (12) _ aq gN.nd rfl ak ak)
     ·refine(@bp _ _ _ _ ?_);exact(@qE _ _ _ _ _ _ _ _ _ (pv 11) (@ql _ _ _ _ _ _ _ _ _ [] (@aT _ _ _ _ (@lq _ _ ([14]) _ _ _ _ _ _ _ _ _ _ rfl (@gI _ _ _ rfl rfl) (@jP _ _ _ _ _ _ _ rfl T.gM (@aK _ _ _ _ (pv 3)) (by rfl)) (λl s0 H0 ex=>(@fY _ _ _ _ ([0]) (14) _ aq gN.nd rfl ak ak (by decide))) (λl s0 H0 ex=>(@ib _ _)) (λl s0 H0 ex=>(@cw _ _ _ _ _ (3) _ _ _ _ _ yp Sz (hr.mono (by decide)) rfl (@eS _ _ _ _ _ _ (pv 0) (@bj _ _ _ _ _ _ (@aK _ _ _ _ (pv 7)) (@bj _ _ _ _ _ _ (@aK _ _ _ _ (pv 10)) (@bj _ _ _ _ _ _ (@aK _ _ _ _ (pv 8)) (@bZ _ _) (by rfl)) (by rfl)) (by rfl)) (by rfl)) rfl (by decide) (by rfl) (by rfl))) (gH aq rfl) (by intro _; rfl))) (by decide +kernel) (by rfl) (by rfl) (by rfl) (by rfl)) (by rfl) (by rfl) (by rfl) (by rfl) (by rfl))
    refine(@bp _ _ _ _ ?_);exact(@qE _ _ _ _ _ _ _ _ _ (pv 9) (@ko _ _ _ _ _ _ (@cq _ _ _ _ _ _ (@cC _ _ _ _ _ _ _ _ _ cx cD (pv 7) (@bD _ _ _ _ (pv 10)) (λ_ _=>rfl)) (@cq _ _ _ _ _ _ (@vV _ _ _ _ _ _ rfl T.lV (@bD _ _ _ _ (pv 11)) (by rfl)) (@eQ _ _) (by rfl)) (by rfl)) (by decide)) (by rfl) (by rfl) (by rfl) (by rfl) (by rfl))
  refine(@bp _ _ _ _ ?_);refine(@cE _ _ _ _ _ ?_);exact(@ko _ _ _ _ _ _ (@cq _ _ _ _ _ _ (@aK _ _ _ _ (pv 2)) (@cq _ _ _ _ _ _ (@aK _ _ _ _ (pv 3)) (@cq _ _ _ _ _ _ (@vV _ _ _ _ _ _ rfl T.lV (@bD _ _ _ _ (pv 9)) (by rfl)) (@eQ _ _) (by rfl)) (by rfl)) (by rfl)) (by decide))) λss y h=>dH h
def yq:DS:=(au (ar (cf [7] (bR (aj aB 0 (ao (eD (.int 2))))) (ae [] 7) bq (aj aB 7 (ao (eD (.int 0))))) (ae [] 1)) (au (ar jd (ae [] 2)) (au (bY (bR (aj aB 0 (ao (eD (.int 2))))) (bM 2 (aM (ae [] 3) (aM (ae [] 4) bQ))) (au (nk 2 3 6 (aY gL (gJ [.int 0]) (ao (a_ cy (ah 1)))) (a_ (cR []) (ah 4)) (ae [2] 5) (ar (j0 1 (aa 5)) (ae [2] 6))) cH)) (oE [] 2))))
def nC:DF:=cz [] 8 yq
theorem SM:di nC:=en
theorem lX:cA ["rule","tiles","found","tile","block","sign","place","pair"] ["rule"] (bo xY):=scc
theorem SN {K:W1} (F:b7 K "_law_table" "_law_table" xY f fd) (hm:mg "_law_table" = some (.ref f)) (hb:Binds K fd ["rule"] []) (T:Txt ce K mg):bV P w K mg base 1 "_law_table" 1 nC :=
 eR (np:=[]) (fb:=yq) F hm hb lX (λc aL A outer s H E hr aq=>by
  have hq:=dU hr;refine(aZ ?_ ?_)
  ·exact(@qu _ _ ([7]) _ _ _ _ _ _ _ _ _ _ ([]) (1) _ _ _ aq rfl (gI rfl rfl) lX.nd rfl rfl (fc (cC cx cD (pv 0) (aT aR) (λ_ _=>rfl))) (λl s0 H0 ex=>(@fY _ _ _ _ ([]) (7) _ aq lX.nd rfl ak ak (by decide))) (λl s0 H0 ex=>ib) (λl s0 H0 ex=>(cC cx cD (pv 7) (aT aR) (λ_ _=>rfl))) (gH aq rfl) (by rfl) (by intro _; rfl))
  refine(aZ ?_ ?_)
  ·exact(@cj _ _ _ _ _ _ ([]) (2) _ aq lX.nd rfl ak tO rfl ak)
  refine(aZ ?_ ?_)
  ·refine(eZ PassesOwn.never rfl ?_ ?_ ?_ (by intro _; rfl))
   ·exact(fc (cC cx cD (pv 0) (aT aR) (λ_ _=>rfl)))
   ·exact(lj rfl (fX (@cY _ _ _ ([]) (3) _ aq lX.nd rfl ak ak) (fX (@cY _ _ _ ([]) (4) _ aq lX.nd rfl ak ak) lh (by rfl)) (by rfl)) (by rfl) (by rfl))
   ·refine(Rp (i:=2) (j:=3) (m:=6) hq PassesOwn.never rfl (pv 2) (pv 3) ?_ (pv 2) (pv 3) (pv 6) (pv 2) (pv 3) (pv 6) ?_ ?_ ?_ ?_ (λ_ _=>rfl) (λ_ _=>rfl) (λ_ _=>rfl))
    ·exact(dE Fu Fv (tL (by rfl) (by decide)) (aT (mH rfl T.jh (bD (pv 1)) (by rfl))))
    ·intro pp pa; have aq:=Np.br (c:=c.plus pp) (i:=2) (a:=pa) aq; exact(ql [] (bD (pv 4)) (by decide +kernel) (by rfl) (by rfl) (by rfl) (by rfl))
    ·intro pp pa; have aq:=Np.br (c:=c.plus pp) (i:=2) (a:=pa) aq; exact(@cY _ _ _ ([2]) (5) _ aq lX.nd rfl ak ak)
    ·intro pp pa; have aq:=Np.br (c:=c.plus pp) (i:=2) (a:=pa) aq; exact(@cj _ _ _ _ _ _ ([2]) (6) _ aq lX.nd rfl ak (O2 (pv 1) (aK (pv 5)) (by rfl) (by rfl) (by rfl) (by rfl)) rfl ak)
    exact fM
  refine(bp ?_);exact(Ea aq (pv 2))) λss y h=>dH h
def yr:DS:=(au (ar (cf [11] (bR (aj aB 0 (ao (eD (.int 2))))) (ae [] 11) bq (aj aB 11 (ao (eD (.int 0))))) (ae [] 3)) (au (ar (ax nC [.val (aa 0)]) (ae [] 4)) (au (ar (cf [12] (bR (aa 3)) (ae [] 12) bq (a_ gm (ao (aj bP 12 (ah 1))))) (ae [] 5)) (au (bY (dw (aa 2)) (ae [] 6) (au (ar (aY gL (gJ [.int 0]) (ao (a_ cy (ah 3)))) (ae [] 7)) (au (bY (ik (aa 5) (aa 3)) (bM 2 (aM (ae [] 8) (aM (ae [] 9) bQ))) (au (ar (aj dI 4 (ah 9)) (ae [] 10)) (ar (cf [13,12] (ik (aa 7) (aa 10)) (bM 2 (aM (ae [] 13) (aM (ae [] 12) bQ))) bq (aj bz 13 (ao (aj cI 8 (ah 12))))) (ae [] 7)))) (ar (aa 7) (ae [] 5))))) (bA (oP (aa 3) (aa 5)))))))
def nD:DF:=cz [] 14 yr
theorem SQ:di nD:=en
theorem gx:cA ["rule","tile","growings","tiles","table","now","turn","later","many","tile_here","row","pair","other","one"] ["rule","tile","growings"] (bo xZ):=scc
theorem SR {K:W1} (F:b7 K "_law_counts" "_law_counts" xZ f fd) (hm:mg "_law_counts" = some (.ref f)) (hb:Binds K fd ["rule","tile","growings"] []) (T:Txt ce K mg) (yt:bV P w K mg base 1 "_law_table" 1 nC):bV P w K mg base 2 "_law_counts" 3 nD :=
 eR (np:=[]) (fb:=yr) F hm hb gx (λc aL A outer s H E hr aq=>by
  have hq:=dU hr;refine(aZ ?_ ?_)
  ·exact(@qu _ _ ([11]) _ _ _ _ _ _ _ _ _ _ ([]) (3) _ _ _ aq rfl (gI rfl rfl) gx.nd rfl rfl (fc (cC cx cD (pv 0) (aT aR) (λ_ _=>rfl))) (λl s0 H0 ex=>(@fY _ _ _ _ ([]) (11) _ aq gx.nd rfl ak ak (by decide))) (λl s0 H0 ex=>ib) (λl s0 H0 ex=>(cC cx cD (pv 11) (aT aR) (λ_ _=>rfl))) (gH aq rfl) (by rfl) (by intro _; rfl))
  refine(aZ ?_ ?_)
  ·exact(@cj _ _ _ _ _ _ ([]) (4) _ aq gx.nd rfl ak (@cw _ _ _ _ _ (1) _ _ _ _ _ yt SM (hr.mono (by decide)) rfl (bj (aK (pv 0)) bZ (by rfl)) rfl (by decide) (by rfl) (by rfl)) rfl ak)
  refine(aZ ?_ ?_)
  ·exact(@qu _ _ ([12]) _ _ _ _ _ _ _ _ _ _ ([]) (5) _ _ _ aq rfl (gI rfl rfl) gx.nd rfl rfl (fc (aK (pv 3))) (λl s0 H0 ex=>(@fY _ _ _ _ ([]) (12) _ aq gx.nd rfl ak ak (by decide))) (λl s0 H0 ex=>ib) (λl s0 H0 ex=>(C1 rfl T.lU (aT (vN (i7 hq) i9 (pv 12) (bD (pv 1)) (fu _))) (by rfl))) (gH aq rfl) (by rfl) (by intro _; rfl))
  refine(aZ ?_ ?_)
  ·refine(eZ PassesOwn.never rfl ?_ ?_ ?_ (by intro _; rfl))
   ·exact(jP rfl T.gM (aK (pv 2)) (by rfl))
   ·exact(@cY _ _ _ ([]) (6) _ aq gx.nd rfl ak ak)
   ·refine(aZ ?_ ?_)
    ·exact(@cj _ _ _ _ _ _ ([]) (7) _ aq gx.nd rfl ak (dE Fu Fv (tL (by rfl) (by decide)) (aT (mH rfl T.jh (bD (pv 3)) (by rfl)))) rfl ak)
    refine(aZ ?_ ?_)
    ·refine(eZ PassesOwn.never rfl ?_ ?_ ?_ (by intro _; rfl))
     ·exact(FR rfl T.nt (aK (pv 5)) (aK (pv 3)))
     ·exact(lj rfl (fX (@cY _ _ _ ([]) (8) _ aq gx.nd rfl ak ak) (fX (@cY _ _ _ ([]) (9) _ aq gx.nd rfl ak ak) lh (by rfl)) (by rfl)) (by rfl) (by rfl))
     ·refine(aZ ?_ ?_)
      ·exact(@cj _ _ _ _ _ _ ([]) (10) _ aq gx.nd rfl ak (cC (wN hq) wK (pv 4) (bD (pv 9)) (λ_ _=>rfl)) rfl ak)
      refine(bp ?_);exact(@qu _ _ ([13,12]) _ _ _ _ _ _ _ _ _ _ ([]) (7) _ _ _ aq rfl (gI rfl rfl) gx.nd rfl rfl (FR rfl T.nt (aK (pv 7)) (aK (pv 10))) (λl s0 H0 ex=>(Dg rfl (s_ (@fY _ _ _ _ ([]) (13) _ aq gx.nd rfl ak ak (by decide)) (s_ (@fY _ _ _ _ ([]) (12) _ aq gx.nd rfl ak ak (by decide)) Df (by rfl)) (by rfl)) (by rfl) (by rfl))) (λl s0 H0 ex=>ib) (λl s0 H0 ex=>(g_ fR fS (pv 13) (aT (g_ mO mP (pv 8) (bD (pv 12)))))) (gH aq rfl) (by rfl) (by intro _; rfl))
    refine(bp ?_);exact(@cj _ _ _ _ _ _ ([]) (5) _ aq gx.nd rfl ak (aK (pv 7)) rfl ak)
  refine(bp ?_);refine(cE ?_);exact(RZ rfl rfl T.oR rfl T.nt (aK (pv 3)) (aK (pv 5)))) λss y h=>dH h
def uw:DS:=(cO (jI (dF (aO (eY "str" (ah 1)))) (aO (aY (gv true) (aa 1) (ao (a_ mT (ao (aj aB 0 (ao (eD (.int 2)))))))))) (oJ [78,111,84,105,108,101] [[116,105,108,101]] (aI (aa 1) bU)) cH)
def kJ:DX:=jX [] 2 uw
theorem SV:mX kJ:=Ej
theorem SY:cA ["rule","thing"] ["rule","thing"] (bo x4):=scc
theorem S0 {K:W1} (F:b7 K "refuse_no_tile" "refuse_no_tile" x4 f fd) (hm:mg "refuse_no_tile" = some (.ref f)) (hb:Binds K fd ["rule","thing"] []) (T:Txt ce K mg) (yu:xg P w K mg base (ce [78,111,84,105,108,101]) ["tile"]):lF P w K mg base 3 "refuse_no_tile" 2 kJ :=
 Ei (np:=[]) (fb:=uw) F hm hb SY (λc aL A outer s H E hr aq rj=>by
  have hq:=dU hr;refine(bp ?_);refine(fW ?_ ?_ ?_)
  ·exact(n8 (sP (k9 (k8 (mJ T.ty_str rfl T.eG rfl T.rh boot_str (bD (pv 1)) (by decide) (by decide) (by rfl) (by rfl)) (by intro _; rfl))) (sO (kn (D7 hq) (D_ true) (aK (pv 1)) (aT (Nv rfl rfl T.q0 (aT (cC cx cD (pv 0) (aT aR) (λ_ _=>rfl))) (by rfl))) rfl))))
  ·refine(bp ?_);exact(OR [78,111,84,105,108,101] [[116,105,108,101]] yu (hr.mono (by decide)) rfl rfl T.FU (cq (aK (pv 1)) eQ (by rfl)) rj (by decide) (by decide +kernel) (by decide) (by decide +kernel) (by decide) (by rfl) (by rfl) (by rfl))
  ·exact fM) λss y h=>w4 h
def yv:DS:=(au (ar jd (ae [] 1)) (au (bY (bR (aj aB 0 (ao (eD (.int 2))))) (bM 2 (aM (ae [] 2) (aM (ae [] 3) bQ))) (au (ar (a_ (cR []) (ah 3)) (ae [] 4)) (fO 1 (aa 2) (cf [5] (bR (a_ lN (ah 4))) (ae [] 5) bq (dh (aI (aa 5) (aI (gK (aa 4) (aa 5)) bU))))))) (oE [] 1)))
def nE:DF:=cz [] 6 yv
theorem S1:di nE:=en
theorem oW:cA ["rule","parts_of","tile","block","text","part"] ["rule"] (bo x5):=scc
theorem S2 {K:W1} (F:b7 K "parts_of_blocks" "parts_of_blocks" x5 f fd) (hm:mg "parts_of_blocks" = some (.ref f)) (hb:Binds K fd ["rule"] []) (T:Txt ce K mg):bV P w K mg base 1 "parts_of_blocks" 1 nE :=
 eR (np:=[]) (fb:=yv) F hm hb oW (λc aL A outer s H E hr aq=>by
  have hq:=dU hr;refine(aZ ?_ ?_)
  ·exact(@cj _ _ _ _ _ _ ([]) (1) _ aq oW.nd rfl ak tO rfl ak)
  refine(aZ ?_ ?_)
  ·refine(eZ PassesOwn.never rfl ?_ ?_ ?_ (by intro _; rfl))
   ·exact(fc (cC cx cD (pv 0) (aT aR) (λ_ _=>rfl)))
   ·exact(lj rfl (fX (@cY _ _ _ ([]) (2) _ aq oW.nd rfl ak ak) (fX (@cY _ _ _ ([]) (3) _ aq oW.nd rfl ak ak) lh (by rfl)) (by rfl)) (by rfl) (by rfl))
   ·refine(aZ ?_ ?_)
    ·exact(@cj _ _ _ _ _ _ ([]) (4) _ aq oW.nd rfl ak (ql [] (bD (pv 3)) (by decide +kernel) (by rfl) (by rfl) (by rfl) (by rfl)) rfl ak)
    refine(bp ?_);exact(wO hq (pv 1) (aK (pv 2)) (@lq _ _ ([5]) _ _ _ _ _ _ _ _ _ _ rfl (gI rfl rfl) (fc (P_ rfl rfl T.oS rfl T.rg (bD (pv 4)))) (λl s0 H0 ex=>(@fY _ _ _ _ ([]) (5) _ aq oW.nd rfl ak ak (by decide))) (λl s0 H0 ex=>ib) (λl s0 H0 ex=>(ko (cq (aK (pv 5)) (cq (E_ (aK (pv 4)) (aK (pv 5))) eQ (by rfl)) (by rfl)) (by decide))) (gH aq rfl) (by intro _; rfl)) (by rfl))
  refine(bp ?_);exact(Ea aq (pv 1))) λss y h=>dH h
def yw:DS:=(bA (cf [1,2] (bR (aj aB 0 (ao (eD (.int 2))))) (bM 2 (aM (ae [] 1) (aM (ae [] 2) bQ))) bq (aa 1)))
def oX:DF:=cz [] 3 yw
theorem S3:di oX:=en
theorem yx:cA ["rule","tile","block"] ["rule"] (bo x6):=scc
theorem S4 {K:W1} (F:b7 K "rule_tiles" "rule_tiles" x6 f fd) (hm:mg "rule_tiles" = some (.ref f)) (hb:Binds K fd ["rule"] []) (T:Txt ce K mg):bV P w K mg base 1 "rule_tiles" 1 oX :=
 eR (np:=[]) (fb:=yw) F hm hb yx (λc aL A outer s H E hr aq=>by
  have hq:=dU hr;refine(bp ?_);refine(cE ?_);exact(@lq _ _ ([1,2]) _ _ _ _ _ _ _ _ _ _ rfl (gI rfl rfl) (fc (cC cx cD (pv 0) (aT aR) (λ_ _=>rfl))) (λl s0 H0 ex=>(Dg rfl (s_ (@fY _ _ _ _ ([]) (1) _ aq yx.nd rfl ak ak (by decide)) (s_ (@fY _ _ _ _ ([]) (2) _ aq yx.nd rfl ak ak (by decide)) Df (by rfl)) (by rfl)) (by rfl) (by rfl))) (λl s0 H0 ex=>ib) (λl s0 H0 ex=>(aK (pv 1))) (gH aq rfl) (by intro _; rfl))) λss y h=>dH h
def yy:DS:=(bA (cf [2] (bR (ax oX [.val (aa 0)])) (ae [] 2) bq (dh (aI (aa 2) (aI (ie 1 (aa 2) (eD (.int 0))) bU)))))
def nF:DF:=cz [] 3 yy
theorem S5:di nF:=en
theorem F_:cA ["rule","many_of","tile"] ["rule","many_of"] (bo x8):=scc
theorem S6 {K:W1} (F:b7 K "counts_listed" "counts_listed" x8 f fd) (hm:mg "counts_listed" = some (.ref f)) (hb:Binds K fd ["rule","many_of"] []) (T:Txt ce K mg) (yz:bV P w K mg base 1 "rule_tiles" 1 oX):bV P w K mg base 2 "counts_listed" 2 nF :=
 eR (np:=[]) (fb:=yy) F hm hb F_ (λc aL A outer s H E hr aq=>by
  have hq:=dU hr;refine(bp ?_);refine(cE ?_);exact(@lq _ _ ([2]) _ _ _ _ _ _ _ _ _ _ rfl (gI rfl rfl) (fc (@cw _ _ _ _ _ (1) _ _ _ _ _ yz S3 (hr.mono (by decide)) rfl (bj (aK (pv 0)) bZ (by rfl)) rfl (by decide) (by rfl) (by rfl))) (λl s0 H0 ex=>(@fY _ _ _ _ ([]) (2) _ aq F_.nd rfl ak ak (by decide))) (λl s0 H0 ex=>ib) (λl s0 H0 ex=>(ko (cq (aK (pv 2)) (cq (Ec hq (pv 1) (aK (pv 2)) aR (by rfl) (by rfl) (by rfl) (by rfl)) eQ (by rfl)) (by rfl)) (by decide))) (gH aq rfl) (by intro _; rfl))) λss y h=>dH h
def ux:DS:=(au (lg (jY kJ [.val (aa 0),.val (aa 1)])) (au (ar (ax nE [.val (aa 0)]) (ae [] 3)) (au (ar (oK (aa 1) (eD (.int 1))) (ae [] 4)) (au (bY (dw (aa 2)) (ae [] 5) (au (ar jd (ae [] 6)) (au (bY (oN 4) (bM 2 (aM (ae [] 7) (aM (ae [] 8) bQ))) (bY (bR (aj dI 3 (ah 7))) (bM 2 (aM (ae [] 9) (aM (ae [] 10) bQ))) (fO 6 (aa 9) (aY bz (ie 6 (aa 9) (eD (.int 0))) (ao (aj cI 8 (ah 10))))))) (oO [] 4 6)))) (bA (ax nF [.val (aa 0),.val (aa 4)]))))))
def ji:DX:=jX [] 11 ux
theorem Ga:mX ji:=Ej
theorem j5:cA ["rule","tile","growings","parts_of","many_of","growing","grown","ahead","many","part","often"] ["rule","tile","growings"] (bo x9):=scc
theorem S7 {K:W1} (F:b7 K "tile_counts" "tile_counts" x9 f fd) (hm:mg "tile_counts" = some (.ref f)) (hb:Binds K fd ["rule","tile","growings"] []) (T:Txt ce K mg) (yA:lF P w K mg base 3 "refuse_no_tile" 2 kJ) (yB:bV P w K mg base 1 "parts_of_blocks" 1 nE) (yC:bV P w K mg base 2 "counts_listed" 2 nF):lF P w K mg base 4 "tile_counts" 3 ji :=
 Ei (np:=[]) (fb:=ux) F hm hb j5 (λc aL A outer s H E hr aq rj=>by
  have hq:=dU hr;refine(aZ ?_ ?_)
  ·exact(DJ (@Ek _ _ _ _ _ (3) _ _ _ _ _ yA SV (hr.mono (by decide)) rfl rj rfl (bj (aK (pv 0)) (bj (aK (pv 1)) bZ (by rfl)) (by rfl)) rfl (by decide) (by rfl) (by rfl)) (by rfl))
  refine(aZ ?_ ?_)
  ·exact(@cj _ _ _ _ _ _ ([]) (3) _ aq j5.nd rfl ak (@cw _ _ _ _ _ (1) _ _ _ _ _ yB S1 (hr.mono (by decide)) rfl (bj (aK (pv 0)) bZ (by rfl)) rfl (by decide) (by rfl) (by rfl)) rfl ak)
  refine(aZ ?_ ?_)
  ·exact(@cj _ _ _ _ _ _ ([]) (4) _ aq j5.nd rfl ak (OV (λc=>(aK (pv 1))) (λc=>aR)) rfl ak)
  refine(aZ ?_ ?_)
  ·refine SS.iy ?_;refine(eZ PassesOwn.never rfl ?_ ?_ ?_ (by intro _; rfl))
   ·exact(jP rfl T.gM (aK (pv 2)) (by rfl))
   ·exact(@cY _ _ _ ([]) (5) _ aq j5.nd rfl ak ak)
   ·refine(aZ ?_ ?_)
    ·exact(@cj _ _ _ _ _ _ ([]) (6) _ aq j5.nd rfl ak tO rfl ak)
    refine(aZ ?_ ?_)
    ·refine SS.iy ?_;refine(eZ PassesOwn.never rfl ?_ ?_ ?_ (by intro _; rfl))
     ·exact(Rk (pv 4))
     ·exact(lj rfl (fX (@cY _ _ _ ([]) (7) _ aq j5.nd rfl ak ak) (fX (@cY _ _ _ ([]) (8) _ aq j5.nd rfl ak ak) lh (by rfl)) (by rfl)) (by rfl) (by rfl))
     ·refine(bp ?_);refine SS.iy ?_;refine(eZ PassesOwn.never rfl ?_ ?_ ?_ (by intro _; rfl))
      ·exact(fc (cC (wN hq) wK (pv 3) (bD (pv 7)) (λ_ _=>rfl)))
      ·exact(lj rfl (fX (@cY _ _ _ ([]) (9) _ aq j5.nd rfl ak ak) (fX (@cY _ _ _ ([]) (10) _ aq j5.nd rfl ak ak) lh (by rfl)) (by rfl)) (by rfl) (by rfl))
      ·refine(bp ?_);exact(wO hq (pv 6) (aK (pv 9)) (dE fR fS (Ec hq (pv 6) (aK (pv 9)) aR (by rfl) (by rfl) (by rfl) (by rfl)) (aT (g_ mO mP (pv 8) (bD (pv 10))))) (by rfl))
    refine(bp ?_);exact(RD (np:=[]) (x:=4) aq j5.nd rfl ak (pv 6) rfl ak)
  refine(bp ?_);refine(cE ?_);exact(@cw _ _ _ _ _ (2) _ _ _ _ _ yC S5 (hr.mono (by decide)) rfl (bj (aK (pv 0)) (bj (aK (pv 4)) bZ (by rfl)) (by rfl)) rfl (by decide) (by rfl) (by rfl))) λss y h=>w4 h
def uy:DS:=(bA (hJ (eY "int" (ah 0)) (pW (eY "bool" (ah 0)))))
def il:DF:=cz [] 1 uy
theorem Gb:di il:=en
theorem Gd:cA ["found"] ["found"] (bo uu):=scc
theorem S8 {K:W1} (F:b7 K "_law_whole" "_law_whole" uu f fd) (hm:mg "_law_whole" = some (.ref f)) (hb:Binds K fd ["found"] []) (T:Txt ce K mg):bV P w K mg base 1 "_law_whole" 1 il :=
 eR (np:=[]) (fb:=uy) F hm hb Gd (λc aL A outer s H E hr aq=>by
  have hq:=dU hr;refine(bp ?_);refine(cE ?_);exact(pX (mJ T.ty_int rfl T.eG rfl T.lU boot_int (bD (pv 0)) (by decide) (by decide) (by rfl) (by rfl)) (sQ (vP (mJ T.ty_bool rfl T.eG rfl T.oQ boot_bool (bD (pv 0)) (by decide) (by decide) (by rfl) (by rfl)))))) λss y h=>dH h
theorem S9 {K:W1} (F:b7 K "_law_whole" "_law_whole" uu f fd) (hm:mg "_law_whole" = some (.ref f)) (hb:Binds K fd ["found"] []) (T:Txt ce K mg):oG P w K mg base 1 "_law_whole" 1 il :=
 Es (np:=[]) (fb:=uy) F hm hb Gd (λc aL A outer s H E hr aq=>by
  have hq:=Er hr;refine(bp ?_);refine(cE ?_);exact(pX (mJ T.ty_int rfl T.eG rfl T.lU boot_int (bD (pv 0)) (by decide) (by decide) (by rfl) (by rfl)) (sQ (vP (mJ T.ty_bool rfl T.eG rfl T.oQ boot_bool (bD (pv 0)) (by decide) (by decide) (by rfl) (by rfl)))))) λss y h=>dH h
def yD:DS:=(au (cO (jI (dF (aO (eY "list" (ah 0)))) (aO (aj jK 0 (ah 1)))) (bA (eD (.bl false))) cH) (bA (a_ og (ao (oF [2] 0 (ae [0,0] 2) bq (hJ (eY "tuple" (ah 2)) (ax il [.val (aj aB 2 (ao (eD (.int 1))))])))))))
def nG:DF:=cz [0] 3 yD
theorem S_:di nG:=en
theorem Ge:cA ["found","due","one"] ["found","due"] (bo x_):=scc
theorem Ta {K:W1} (F:b7 K "_law_counts_are" "_law_counts_are" x_ f fd) (hm:mg "_law_counts_are" = some (.ref f)) (hb:Binds K fd ["found","due"] []) (T:Txt ce K mg) (yE:bV P w K mg base 1 "_law_whole" 1 il):bV P w K mg base 2 "_law_counts_are" 2 nG :=
 eR (np:=[0]) (fb:=yD) F hm hb Ge (λc aL A outer s H E hr aq=>by
  have hq:=dU hr;refine(aZ ?_ ?_)
  ·refine(fW ?_ ?_ ?_)
   ·exact(n8 (sP (k9 (k8 (mJ T.ty_list rfl T.eG rfl T.oR boot_list (bD (pv 0)) (by decide) (by decide) (by rfl) (by rfl)) (by intro _; rfl))) (sO (n4 (Cu hq) CS (pv 0) (bD (pv 1)) (fu _)))))
   ·refine(bp ?_);refine(cE ?_);exact jH
   ·exact fM
  refine(bp ?_);refine(cE ?_);exact(Mm rfl rfl T.qZ (aT (@NA _ _ ([2]) _ _ _ _ _ _ _ _ _ _ rfl (gI rfl rfl) (pv 0) (λa l s0 H0 ex=>(@fY _ _ _ _ ([0,0]) (2) _ (Np.br aq) Ge.nd rfl ak ak (by decide))) (λa l s0 H0 ex=>ib) (λa l s0 H0 ex=>(pX (mJ T.ty_tuple rfl T.eG rfl T.lV boot_tuple (bD (pv 2)) (by decide) (by decide) (by rfl) (by rfl)) (sQ (@cw _ _ _ _ _ (1) _ _ _ _ _ yE Gb (hr.mono (by decide)) rfl (bj (cC cx cD (pv 2) (aT aR) (λ_ _=>rfl)) bZ (by rfl)) rfl (by decide) (by rfl) (by rfl))))) (gH aq rfl) (by decide) (by intro _; rfl))) (by rfl))) λss y h=>dH h
def yF:DS:=(au (ar (eD (.int 1)) (ae [] 2)) (au (bY (dw (aa 1)) (ae [] 3) (ar (aj cI 2 (ah 0)) (ae [] 2))) (bA (aa 2))))
def nH:DF:=cz [] 4 yF
theorem Tb:di nH:=en
theorem uz:cA ["base","often","found","turn"] ["base","often"] (bo ya):=scc
theorem Tc {K:W1} (F:b7 K "_law_power" "_law_power" ya f fd) (hm:mg "_law_power" = some (.ref f)) (hb:Binds K fd ["base","often"] []) (T:Txt ce K mg):bV P w K mg base 1 "_law_power" 2 nH :=
 eR (np:=[]) (fb:=yF) F hm hb uz (λc aL A outer s H E hr aq=>by
  have hq:=dU hr;refine(aZ ?_ ?_)
  ·exact(@cj _ _ _ _ _ _ ([]) (2) _ aq uz.nd rfl ak aR rfl ak)
  refine(aZ ?_ ?_)
  ·refine(eZ PassesOwn.never rfl ?_ ?_ ?_ (by intro _; rfl))
   ·exact(jP rfl T.gM (aK (pv 1)) (by rfl))
   ·exact(@cY _ _ _ ([]) (3) _ aq uz.nd rfl ak ak)
   ·refine(bp ?_);exact(@cj _ _ _ _ _ _ ([]) (2) _ aq uz.nd rfl ak (g_ mO mP (pv 2) (bD (pv 0))) rfl ak)
  refine(bp ?_);refine(cE ?_);exact(aK (pv 2))) λss y h=>dH h
abbrev yG :DS:=(au (ar jd (ae [] 2)) (au (bY (bR (aj aB 0 (ao (eD (.int 2))))) (bM 2 (aM (ae [] 3) (aM (ae [] 4) bQ))) (fO 2 (aa 3) (aa 4))) (au (ar (eF bU) (ae [] 5)) (au (bY (bR (aa 1)) (ae [] 6) (bY (dw (aj aB 0 (ao (eD (.int 0))))) (ae [] 7) (dG 5 (a_ (cR []) (ao (cf [3] (bR (aa 6)) (ae [] 3) bq (aY aB (aj dI 2 (ah 3)) (ah 7)))))))) (bA (a_ hU (ah 5)))))))
def yH:DS:=yG
def j6:DF:=cz [] 8 yH
theorem Td:di j6:=en
theorem lY:cA ["rule","floor","blocks","tile","block","rows","row","line"] ["rule","floor"] (bo yb):=scc
theorem Te {K:W1} (F:b7 K "_law_grow" "_law_grow" yb f fd) (hm:mg "_law_grow" = some (.ref f)) (hb:Binds K fd ["rule","floor"] []) (T:Txt ce K mg):bV P w K mg base 1 "_law_grow" 2 j6 :=
 eR (np:=[]) (fb:=yH) F hm hb lY (λc aL A outer s H E hr aq=>by
  have hq:=dU hr;refine(aZ ?_ ?_)
  ·exact(@cj _ _ _ _ _ _ ([]) (2) _ aq lY.nd rfl ak tO rfl ak)
  refine(aZ ?_ ?_)
  ·refine(eZ PassesOwn.never rfl ?_ ?_ ?_ (by intro _; rfl))
   ·exact(fc (cC cx cD (pv 0) (aT aR) (λ_ _=>rfl)))
   ·exact(lj rfl (fX (@cY _ _ _ ([]) (3) _ aq lY.nd rfl ak ak) (fX (@cY _ _ _ ([]) (4) _ aq lY.nd rfl ak ak) lh (by rfl)) (by rfl)) (by rfl) (by rfl))
   ·refine(bp ?_);exact(wO hq (pv 2) (aK (pv 3)) (aK (pv 4)) (by rfl))
  refine(aZ ?_ ?_)
  ·exact(@cj _ _ _ _ _ _ ([]) (5) _ aq lY.nd rfl ak (i_ eQ (by decide)) rfl ak)
  refine(aZ ?_ ?_)
  ·refine(eZ PassesOwn.never rfl ?_ ?_ ?_ (by intro _; rfl))
   ·exact(fc (aK (pv 1)))
   ·exact(@cY _ _ _ ([]) (6) _ aq lY.nd rfl ak ak)
   ·refine(bp ?_);refine(eZ PassesOwn.never rfl ?_ ?_ ?_ (by intro _; rfl))
    ·exact(jP rfl T.gM (cC cx cD (pv 0) (aT aR) (λ_ _=>rfl)) (by rfl))
    ·exact(@cY _ _ _ ([]) (7) _ aq lY.nd rfl ak ak)
    ·refine(bp ?_);exact(qE (pv 5) (ql [] (aT (@lq _ _ ([3]) _ _ _ _ _ _ _ _ _ _ rfl (gI rfl rfl) (fc (aK (pv 6))) (λl s0 H0 ex=>(@fY _ _ _ _ ([]) (3) _ aq lY.nd rfl ak ak (by decide))) (λl s0 H0 ex=>ib) (λl s0 H0 ex=>(CK cx cD (cC (wN hq) wK (pv 2) (bD (pv 3)) (λ_ _=>rfl)) (bD (pv 7)) (λ_ _=>rfl))) (gH aq rfl) (by intro _; rfl))) (by decide +kernel) (by rfl) (by rfl) (by rfl) (by rfl)) (by rfl) (by rfl) (by rfl) (by rfl) (by rfl))
  refine(bp ?_);refine(cE ?_);exact(vV rfl T.lV (bD (pv 5)) (by rfl))) λss y h=>dH h
def yI:DS:=(au (bY (dw (aa 2)) (ae [] 3) (ar (ax j6 [.val (aa 0),.val (aa 1)]) (ae [] 1))) (bA (aa 1)))
def nJ:DF:=cz [] 4 yI
theorem Tf:di nJ:=en
theorem yJ:cA ["rule","floor","often","turn"] ["rule","floor","often"] (bo yc):=scc
theorem Tg {K:W1} (F:b7 K "_law_grow_often" "_law_grow_often" yc f fd) (hm:mg "_law_grow_often" = some (.ref f)) (hb:Binds K fd ["rule","floor","often"] []) (T:Txt ce K mg) (yK:bV P w K mg base 1 "_law_grow" 2 j6):bV P w K mg base 2 "_law_grow_often" 3 nJ :=
 eR (np:=[]) (fb:=yI) F hm hb yJ (λc aL A outer s H E hr aq=>by
  have hq:=dU hr;refine(aZ ?_ ?_)
  ·refine(eZ PassesOwn.never rfl ?_ ?_ ?_ (by intro _; rfl))
   ·exact(jP rfl T.gM (aK (pv 2)) (by rfl))
   ·exact(@cY _ _ _ ([]) (3) _ aq yJ.nd rfl ak ak)
   ·refine(bp ?_);exact(@cj _ _ _ _ _ _ ([]) (1) _ aq yJ.nd rfl ak (@cw _ _ _ _ _ (1) _ _ _ _ _ yK Td (hr.mono (by decide)) rfl (bj (aK (pv 0)) (bj (aK (pv 1)) bZ (by rfl)) (by rfl)) rfl (by decide) (by rfl) (by rfl)) rfl ak)
  refine(bp ?_);refine(cE ?_);exact(aK (pv 1))) λss y h=>dH h
def yL:DS:=(au (ar (a_ (cR []) (ao (ax nJ [.val (aa 0),.val (dh (aI (aa 1) bU)),.val (aa 2)]))) (ae [] 3)) (bA (cf [4] (bR (aj aB 0 (ao (eD (.int 2))))) (ae [] 4) bq (dh (aI (aj aB 4 (ao (eD (.int 0)))) (aI (gK (aa 3) (aj aB 4 (ao (eD (.int 0))))) bU))))))
def nK:DF:=cz [] 5 yL
theorem Th:di nK:=en
theorem yM:cA ["rule","tile","growings","signs","pair"] ["rule","tile","growings"] (bo yd):=scc
theorem Ti {K:W1} (F:b7 K "_law_laid" "_law_laid" yd f fd) (hm:mg "_law_laid" = some (.ref f)) (hb:Binds K fd ["rule","tile","growings"] []) (T:Txt ce K mg) (yN:bV P w K mg base 2 "_law_grow_often" 3 nJ):bV P w K mg base 3 "_law_laid" 3 nK :=
 eR (np:=[]) (fb:=yL) F hm hb yM (λc aL A outer s H E hr aq=>by
  have hq:=dU hr;refine(aZ ?_ ?_)
  ·exact(@cj _ _ _ _ _ _ ([]) (3) _ aq yM.nd rfl ak (ql [] (aT (@cw _ _ _ _ _ (2) _ _ _ _ _ yN Tf (hr.mono (by decide)) rfl (bj (aK (pv 0)) (bj (ko (cq (aK (pv 1)) eQ (by rfl)) (by decide)) (bj (aK (pv 2)) bZ (by rfl)) (by rfl)) (by rfl)) rfl (by decide) (by rfl) (by rfl))) (by decide +kernel) (by rfl) (by rfl) (by rfl) (by rfl)) rfl ak)
  refine(bp ?_);refine(cE ?_);exact(@lq _ _ ([4]) _ _ _ _ _ _ _ _ _ _ rfl (gI rfl rfl) (fc (cC cx cD (pv 0) (aT aR) (λ_ _=>rfl))) (λl s0 H0 ex=>(@fY _ _ _ _ ([]) (4) _ aq yM.nd rfl ak ak (by decide))) (λl s0 H0 ex=>ib) (λl s0 H0 ex=>(ko (cq (cC cx cD (pv 4) (aT aR) (λ_ _=>rfl)) (cq (E_ (aK (pv 3)) (cC cx cD (pv 4) (aT aR) (λ_ _=>rfl))) eQ (by rfl)) (by rfl)) (by decide))) (gH aq rfl) (by intro _; rfl))) λss y h=>dH h
def yO:DS:=(au (ar (ax nD [.val (aa 0),.val (aa 1),.val (aa 2)]) (ae [] 3)) (au (bY (dw (eD (.int 2))) (ae [] 4) (au (ar (nc ji [.val (aa 0),.val (aa 1),.val (aa 2)]) (ae [] 5)) (au (cO (dF (aO (ax nG [.io 5,.val (aa 3)]))) (bA (eD (.bl false))) cH) (dG 5 (eD (.tup [.str [97],.int 0])))))) (au (cO (jI (aO (aj k_ 2 (ao (eD (.int 9))))) (aO (aY k_ (ax nH [.val (aY cI (aj aB 0 (ao (eD (.int 0)))) (ao (aj aB 0 (ao (eD (.int 1)))))),.val (aa 2)]) (ao (eD (.int 3000)))))) (bA (eD (.bl true))) cH) (bA (aj bP 3 (ao (ax nK [.val (aa 0),.val (aa 1),.val (aa 2)])))))))
def ip:DF:=cz [] 6 yO
theorem yP:di ip:=en
theorem uA:cA ["rule","tile","growings","due","turn","found"] ["rule","tile","growings"] (bo ye):=scc
theorem Tj {K:W1} (F:b7 K "_law_right" "_law_right" ye f fd) (hm:mg "_law_right" = some (.ref f)) (hb:Binds K fd ["rule","tile","growings"] []) (T:Txt ce K mg) (yQ:bV P w K mg base 2 "_law_counts" 3 nD) (oY:lF P w K mg base 4 "tile_counts" 3 ji) (yR:bV P w K mg base 2 "_law_counts_are" 2 nG) (yS:bV P w K mg base 1 "_law_power" 2 nH) (yT:bV P w K mg base 3 "_law_laid" 3 nK):bV P w K mg base 5 "_law_right" 3 ip :=
 eR (np:=[]) (fb:=yO) F hm hb uA (λc aL A outer s H E hr aq=>by
  have hq:=dU hr;refine(aZ ?_ ?_)
  ·exact(@cj _ _ _ _ _ _ ([]) (3) _ aq uA.nd rfl ak (@cw _ _ _ _ _ (2) _ _ _ _ _ yQ SQ (hr.mono (by decide)) rfl (bj (aK (pv 0)) (bj (aK (pv 1)) (bj (aK (pv 2)) bZ (by rfl)) (by rfl)) (by rfl)) rfl (by decide) (by rfl) (by rfl)) rfl ak)
  refine(aZ ?_ ?_)
  ·refine(eZ PassesOwn.never rfl ?_ ?_ ?_ (by intro _; rfl))
   ·exact(jP rfl T.gM aR (by rfl))
   ·exact(@cY _ _ _ ([]) (4) _ aq uA.nd rfl ak ak)
   ·refine(aZ ?_ ?_)
    ·exact(@cj _ _ _ _ _ _ ([]) (5) _ aq uA.nd rfl ak (@Oq _ _ _ _ _ (4) _ _ _ _ _ oY Ga (hr.mono (by decide)) rfl rfl (bj (aK (pv 0)) (bj (aK (pv 1)) (bj (aK (pv 2)) bZ (by rfl)) (by rfl)) (by rfl)) rfl (by decide) (by rfl) (by rfl)) rfl ak)
    refine(aZ ?_ ?_)
    ·refine(fW ?_ ?_ ?_)
     ·exact(k9 (k8 (@cw _ _ _ _ _ (2) _ _ _ _ _ yR S_ (hr.mono (by decide)) rfl (eS (pv 5) (bj (aK (pv 3)) bZ (by rfl)) (by rfl)) rfl (by decide) (by rfl) (by rfl)) (by intro _; rfl)))
     ·refine(bp ?_);refine(cE ?_);exact jH
     ·exact fM
    refine(bp ?_);exact(qE (pv 5) (M7 (by rfl)) (by rfl) (by rfl) (by rfl) (by rfl) (by rfl))
  refine(aZ ?_ ?_)
  ·refine(fW ?_ ?_ ?_)
   ·exact(n8 (sP (n4 vS qb (pv 2) (aT aR) (fu _)) (sO (kn vS qb (@cw _ _ _ _ _ (1) _ _ _ _ _ yS Tb (hr.mono (by decide)) rfl (bj (dE mO mP (cC cx cD (pv 0) (aT aR) (λ_ _=>rfl)) (aT (cC cx cD (pv 0) (aT aR) (λ_ _=>rfl)))) (bj (aK (pv 2)) bZ (by rfl)) (by rfl)) rfl (by decide) (by rfl) (by rfl)) (aT aR) (fu _)))))
   ·refine(bp ?_);refine(cE ?_);exact jH
   ·exact fM
  refine(bp ?_);refine(cE ?_);exact(vN (i7 hq) i9 (pv 3) (aT (@cw _ _ _ _ _ (3) _ _ _ _ _ yT Th (hr.mono (by decide)) rfl (bj (aK (pv 0)) (bj (aK (pv 1)) (bj (aK (pv 2)) bZ (by rfl)) (by rfl)) (by rfl)) rfl (by decide) (by rfl) (by rfl))) (fu _))) λss y h=>dH h
def yU(ce:Tx->Nat):DS:=(au (ar (eF (aI (gb ce ys (λz=>z == [78,111,70,108,111,111,114]) (ah 0)) (aI (gb ce ys (λz=>z == [78,111,80,108,97,99,101]) (ah 0)) (aI (gb ce ys (λz=>z == [78,111,78,117,109,98,101,114]) (ah 0)) (aI (gb ce ys (λz=>z == [78,111,82,111,119]) (ah 0)) bU))))) (ae [] 1)) (au (ar (aj bz 1 (ao (eF (aI (gb ce ys (λz=>z == [85,110,108,105,107,101]) (ah 0)) (aI (gb ce ys (λz=>z == [78,111,84,105,108,101]) (ah 0)) (aI (gb ce ys (λz=>z == [78,111,82,117,108,101]) (ah 0)) (aI (gb ce ys (λz=>z == [78,111,84,101,120,116]) (ah 0)) bU))))))) (ae [] 1)) (au (dG 1 (gb ce ys (λz=>z == [84,111,111,71,114,101,97,116]) (ah 0))) (au (cO (jI (dF (aO (gb ce ys (λ_=>true) (ah 0)))) (aO (aY jK (a_ oH (ah 1)) (ao (eD (.int 1)))))) (bA (eD (.str [111,116,104,101,114]))) cH) (au (ar (gJ [.str [102,108,111,111,114],.str [112,108,97,99,101],.str [110,117,109,98,101,114],.str [114,111,119],.str [117,110,108,105,107,101],.str [116,105,108,101],.str [114,117,108,101],.str [116,101,120,116],.str [103,114,101,97,116]]) (ae [] 2)) (bA (aj aB 2 (ao (a_ oI (ah 1))))))))))
def oZ(ce:Tx->Nat):DF:=cz [] 3 (yU ce)
theorem Tn{ce:Tx->Nat}:di (oZ ce):=en
theorem uB:cA ["e","marks","words"] ["e"] (bo yf):=scc
theorem To {K:W1} (F:b7 K "_law_kind_of" "_law_kind_of" yf f fd) (hm:mg "_law_kind_of" = some (.ref f)) (hb:Binds K fd ["e"] []) (T:Txt ce K mg):oG P w K mg base 1 "_law_kind_of" 1 (oZ ce) :=
 Es (np:=[]) (fb:=(yU ce)) F hm hb uB (λc aL A outer s H E hr aq=>by
  have hq:=Er hr;refine(aZ ?_ ?_)
  ·exact(@cj _ _ _ _ _ _ ([]) (1) _ aq uB.nd rfl ak (i_ (cq (kD T.Sd rfl T.eG rfl T.R4 (bD (pv 0)) (by decide) (by rfl) (by rfl)) (cq (kD T.Se rfl T.eG rfl T.R5 (bD (pv 0)) (by decide) (by rfl) (by rfl)) (cq (kD T.Sf rfl T.eG rfl T.R6 (bD (pv 0)) (by decide) (by rfl) (by rfl)) (cq (kD T.Sg rfl T.eG rfl T.R7 (bD (pv 0)) (by decide) (by rfl) (by rfl)) eQ (by rfl)) (by rfl)) (by rfl)) (by rfl)) (by decide)) rfl ak)
  refine(aZ ?_ ?_)
  ·exact(@cj _ _ _ _ _ _ ([]) (1) _ aq uB.nd rfl ak (g_ fR fS (pv 1) (aT (i_ (cq (kD T.Sh rfl T.eG rfl T.R8 (bD (pv 0)) (by decide) (by rfl) (by rfl)) (cq (kD T.Si rfl T.eG rfl T.FU (bD (pv 0)) (by decide) (by rfl) (by rfl)) (cq (kD T.Sj rfl T.eG rfl T.R9 (bD (pv 0)) (by decide) (by rfl) (by rfl)) (cq (kD T.Sk rfl T.eG rfl T.R_ (bD (pv 0)) (by decide) (by rfl) (by rfl)) eQ (by rfl)) (by rfl)) (by rfl)) (by rfl)) (by decide)))) rfl ak)
  refine(aZ ?_ ?_)
  ·exact(qE (pv 1) (kD T.Sl rfl T.eG rfl T.Sa (bD (pv 0)) (by decide) (by rfl) (by rfl)) (by rfl) (by rfl) (by rfl) (by rfl) (by rfl))
  refine(aZ ?_ ?_)
  ·refine(fW ?_ ?_ ?_)
   ·exact(n8 (sP (k9 (k8 (Od T.Sm rfl T.eG rfl T.qY Ol (bD (pv 0)) (by decide) (by decide) (by rfl) (by rfl)) (by intro _; rfl))) (sO (kn (Cu hq) CS (Oi (bD (pv 1)) (by rfl) (by rfl) (by rfl) (by rfl)) (aT aR) (fu _)))))
   ·refine(bp ?_);refine(cE ?_);exact(mB [111,116,104,101,114] (by decide +kernel))
   ·exact fM
  refine(aZ ?_ ?_)
  ·exact(@cj _ _ _ _ _ _ ([]) (2) _ aq uB.nd rfl ak (tL (by rfl) (by decide)) rfl ak)
  refine(bp ?_);refine(cE ?_);exact(cC cx cD (pv 2) (aT (Oj (bD (pv 1)) (by rfl) (by rfl) (by rfl) (by rfl))) (λ_ _=>rfl))) λss y h=>dH h
def yV(ce:Tx->Nat):DS:=(au (tW ce ys 2 (lg (jY ji [.val (aa 0),.val (aa 1),.val (eD (.int 3))])) (bA (hJ (aY bP (ax (oZ ce) [.val (aa 2)]) (ao (eD (.str [116,105,108,101])))) (hJ (aY bP (oM ce ys [116,105,108,101] (ah 2)) (ah 1)) (pW (ax il [.val (oM ce ys [116,105,108,101] (ah 2))])))))) (bA (eD (.bl false))))
def lZ(ce:Tx->Nat):DF:=cz [] 3 (yV ce)
theorem Tp{ce:Tx->Nat}:di (lZ ce):=en
theorem Gf:cA ["rule","thing","e"] ["rule","thing"] (bo yg):=scc
theorem Tq {K:W1} (F:b7 K "_law_no_tile" "_law_no_tile" yg f fd) (hm:mg "_law_no_tile" = some (.ref f)) (hb:Binds K fd ["rule","thing"] []) (T:Txt ce K mg) (oY:lF P w K mg base 4 "tile_counts" 3 ji) (yW:oG P w K mg base 1 "_law_whole" 1 il) (yX:oG P w K mg base 1 "_law_kind_of" 1 (oZ ce)):bV P w K mg base 5 "_law_no_tile" 2 (lZ ce) :=
 eR (np:=[]) (fb:=(yV ce)) F hm hb Gf (λc aL A outer s H E hr aq=>by
  have hq:=dU hr;refine(aZ ?_ ?_)
  ·refine N1 (ce:=ce) (ys:=ys) (i:=2) rfl aq rfl rfl Gf.nd rfl rfl rfl T.R3 T.Sb (λy hy=>T.Sn y hy) ?_ ?_
   ·intro c pn xe aq rj;refine(bp ?_);exact(DJ (@Ek _ _ _ _ _ (4) _ _ _ _ _ oY Ga (hr.mono (by decide)) rfl rj rfl (bj (aK (pv 0)) (bj (aK (pv 1)) (bj aR bZ (by rfl)) (by rfl)) (by rfl)) rfl (by decide) (by rfl) (by rfl)) (by rfl))
   ·intro ea;refine(bp ?_);refine(cE ?_);exact(pX (CJ (i7 hq) i9 (@Et _ _ _ _ _ (1) _ _ _ _ _ yX Tn ((hr.h.mono (by decide)).mark _) rfl (bj (aK (pv 2)) bZ (by rfl)) rfl (by decide) (by rfl) (by rfl)) (aT (mB [116,105,108,101] (by decide +kernel))) (fu _)) (pX (CJ (i7 hq) i9 (EK [116,105,108,101] T.FV (bD (pv 2)) (by decide +kernel) (by rfl)) (bD (pv 1)) (fu _)) (sQ (vP (@Et _ _ _ _ _ (1) _ _ _ _ _ yW Gb ((hr.h.mono (by decide)).mark _) rfl (bj (EK [116,105,108,101] T.FV (bD (pv 2)) (by decide +kernel) (by rfl)) bZ (by rfl)) rfl (by decide) (by rfl) (by rfl))))))
  refine(bp ?_);refine(cE ?_);exact jH) λss y h=>dH h
def yY(ce:Tx->Nat):DS:=(au (bY (bR (aY bz (eF (aI (ax nu [.val (aa 0),.val (eD (.int 0))]) bU)) (ao (qj 0 (mK (eD (.int 1))) (mK (eD (.int 4))))))) (ae [] 1) (au (ar (ax ny [.val (aa 1)]) (ae [] 2)) (au (ar (ax lW [.io 2,.val (eD (.int 6))]) (ae [] 3)) (au (ar (cf [9] (bR (aj aB 3 (ao (eD (.int 2))))) (ae [] 9) bq (aj aB 9 (ao (eD (.int 0))))) (ae [] 4)) (au (bY (bR (aa 4)) (ae [] 5) (cO (dF (aO (ax ip [.val (aa 3),.val (aa 5),.val (ax cL [.io 2,.val (eD (.int 5))])]))) (bA (eD (.bl false))) cH)) (au (ar (aj aB 4 (ao (ax cL [.io 2,.val (a_ cy (ah 4))]))) (ae [] 5)) (au (bY (bR (eF (aI (eD (.int 0)) (aI (eD (.int 1)) (aI (ax cL [.io 2,.val (eD (.int 61))]) bU))))) (ae [] 6) (cO (dF (aO (ax ip [.val (aa 3),.val (aa 5),.val (aa 6)]))) (bA (eD (.bl false))) cH)) (au (cO (n5 (aO (aY bP (ax cL [.io 2,.val (eD (.int 8))]) (ao (eD (.int 0))))) (dF (aO (ax ip [.val (aa 3),.val (aa 5),.val (aY n9 (eD (.int 1000)) (ao (ax cL [.io 2,.val (eD (.int 3))])))])))) (bA (eD (.bl false))) cH) (au (ar (cf [10] (bR (eD (.str [97,98,99,100,101,102,103,104,105,106,107,108,109,110,111,112,113,114,115,116,117,118,119,120,121,122]))) (ae [] 10) (aO (aY (gv true) (aa 10) (ah 4))) (aa 10)) (ae [] 7)) (bY (bR (eF (aI (eD (.str [65])) (aI (eD (.str [])) (aI (aj bz 5 (ah 5)) (aI (eD .aN) (aI (eF (aI (aa 5) bU)) (aI (dh (aI (aa 5) bU)) (aI (aj aB 7 (ao (ax cL [.io 2,.val (a_ cy (ah 7))]))) bU))))))))) (ae [] 8) (cO (dF (aO (ax (lZ ce) [.val (aa 3),.val (aa 8)]))) (bA (eD (.bl false))) cH))))))))))) (bA (eD (.bl true))))
def o_(ce:Tx->Nat):DF:=cz [] 11 (yY ce)
theorem V1{ce:Tx->Nat}:di (o_ ce):=en
theorem iR:cA ["script","cell","pen","rule","tiles","tile","growings","odd","thing","pair","sign"] ["script"] (bo kI):=scc
theorem Tr {K:W1} (F:b7 K "law" "law" kI f fd) (T:Txt ce K mg) (yZ:bV P w K mg base 1 "_law_cell_at" 2 nu) (y0:bV P w K mg base 1 "_law_pen_of" 1 ny) (dN:bV P w K mg base 2 "_law_draw" 2 cL) (y4:bV P w K mg base 4 "_law_rule_by" 2 lW) (rm:bV P w K mg base 5 "_law_right" 3 ip) (y6:bV P w K mg base 5 "_law_no_tile" 2 (lZ ce)) {Gt:DF} (y8:∀ ss y,Gt ss=some y->o_ ce ss=some y):eV P w K mg base d_ 6 f fd ["script"] (ku 1 Gt) :=
 Dt (np:=[]) (fb:=(yY ce)) F iR (λc aL A outer s H E hr aq=>by
  have hq:=dU hr;refine(@aZ _ _ _ _ _ _ ?_ ?_)
  ·refine(@eZ _ _ _ _ _ _ _ _ _ PassesOwn.never rfl ?_ ?_ ?_ (by intro _; rfl))
   ·exact(@fc _ _ _ _ _ (@dE _ _ _ _ _ _ _ _ _ _ fR fS (@i_ _ _ _ _ _ (@cq _ _ _ _ _ _ (@cw _ _ _ _ _ (1) _ _ _ _ _ yZ So (hr.mono (by decide)) rfl (@bj _ _ _ _ _ _ (@aK _ _ _ _ (pv 0)) (@bj _ _ _ _ _ _ (@aR _ _ _ _ _) (@bZ _ _) (by rfl)) (by rfl)) rfl (by decide) (by rfl) (by rfl)) (@eQ _ _) (by rfl)) (by decide)) (@aT _ _ _ _ (@Mx _ _ _ _ _ _ _ _ _ _ (pv 0) (@C2 _ _ _ _ (@aR _ _ _ _ _)) (@C2 _ _ _ _ (@aR _ _ _ _ _))))))
   ·exact(@cY _ _ _ ([]) (1) _ aq iR.nd rfl ak ak)
   ·refine(@aZ _ _ _ _ _ _ ?_ ?_)
    ·exact(@cj _ _ _ _ _ _ ([]) (2) _ aq iR.nd rfl ak (@cw _ _ _ _ _ (1) _ _ _ _ _ y0 Ss (hr.mono (by decide)) rfl (@bj _ _ _ _ _ _ (@aK _ _ _ _ (pv 1)) (@bZ _ _) (by rfl)) rfl (by decide) (by rfl) (by rfl)) rfl ak)
    refine(@aZ _ _ _ _ _ _ ?_ ?_)
    ·exact(@cj _ _ _ _ _ _ ([]) (3) _ aq iR.nd rfl ak (@cw _ _ _ _ _ (4) _ _ _ _ _ y4 SJ (hr.mono (by decide)) rfl (@eS _ _ _ _ _ _ (pv 2) (@bj _ _ _ _ _ _ (@aR _ _ _ _ _) (@bZ _ _) (by rfl)) (by rfl)) rfl (by decide) (by rfl) (by rfl)) rfl ak)
    refine(@aZ _ _ _ _ _ _ ?_ ?_)
    ·exact(@cj _ _ _ _ _ _ ([]) (4) _ aq iR.nd rfl ak (@lq _ _ ([9]) _ _ _ _ _ _ _ _ _ _ rfl (@gI _ _ _ rfl rfl) (@fc _ _ _ _ _ (@cC _ _ _ _ _ _ _ _ _ cx cD (pv 3) (@aT _ _ _ _ (@aR _ _ _ _ _)) (λ_ _=>rfl))) (λl s0 H0 ex=>(@fY _ _ _ _ ([]) (9) _ aq iR.nd rfl ak ak (by decide))) (λl s0 H0 ex=>(@ib _ _)) (λl s0 H0 ex=>(@cC _ _ _ _ _ _ _ _ _ cx cD (pv 9) (@aT _ _ _ _ (@aR _ _ _ _ _)) (λ_ _=>rfl))) (gH aq rfl) (by intro _; rfl)) rfl ak)
    refine(@aZ _ _ _ _ _ _ ?_ ?_)
    ·refine(@eZ _ _ _ _ _ _ _ _ _ PassesOwn.never rfl ?_ ?_ ?_ (by intro _; rfl))
     ·exact(@fc _ _ _ _ _ (@aK _ _ _ _ (pv 4)))
     ·exact(@cY _ _ _ ([]) (5) _ aq iR.nd rfl ak ak)
     ·refine(@bp _ _ _ _ ?_);refine(@fW _ _ _ _ _ _ _ _ _ ?_ ?_ ?_)
      ·exact(@k9 _ _ _ _ _ (@k8 _ _ _ _ (@cw _ _ _ _ _ (5) _ _ _ _ _ rm yP (hr.mono (by decide)) rfl (@bj _ _ _ _ _ _ (@aK _ _ _ _ (pv 3)) (@bj _ _ _ _ _ _ (@aK _ _ _ _ (pv 5)) (@bj _ _ _ _ _ _ (@cw _ _ _ _ _ (2) _ _ _ _ _ dN gi (hr.mono (by decide)) rfl (@eS _ _ _ _ _ _ (pv 2) (@bj _ _ _ _ _ _ (@aR _ _ _ _ _) (@bZ _ _) (by rfl)) (by rfl)) rfl (by decide) (by rfl) (by rfl)) (@bZ _ _) (by rfl)) (by rfl)) (by rfl)) rfl (by decide) (by rfl) (by rfl)) (by intro _; rfl)))
      ·refine(@bp _ _ _ _ ?_);refine(@cE _ _ _ _ _ ?_);exact(@jH _ _ _ _ _)
      ·exact fM
    refine(@aZ _ _ _ _ _ _ ?_ ?_)
    ·exact(@cj _ _ _ _ _ _ ([]) (5) _ aq iR.nd rfl ak (@cC _ _ _ _ _ _ _ _ _ cx cD (pv 4) (@aT _ _ _ _ (@cw _ _ _ _ _ (2) _ _ _ _ _ dN gi (hr.mono (by decide)) rfl (@eS _ _ _ _ _ _ (pv 2) (@bj _ _ _ _ _ _ (@mH _ _ _ _ _ _ rfl T.jh (@bD _ _ _ _ (pv 4)) (by rfl)) (@bZ _ _) (by rfl)) (by rfl)) rfl (by decide) (by rfl) (by rfl))) (λ_ _=>rfl)) rfl ak)
    refine(@aZ _ _ _ _ _ _ ?_ ?_)
    ·refine(@eZ _ _ _ _ _ _ _ _ _ PassesOwn.never rfl ?_ ?_ ?_ (by intro _; rfl))
     ·exact(@fc _ _ _ _ _ (@i_ _ _ _ _ _ (@cq _ _ _ _ _ _ (@aR _ _ _ _ _) (@cq _ _ _ _ _ _ (@aR _ _ _ _ _) (@cq _ _ _ _ _ _ (@cw _ _ _ _ _ (2) _ _ _ _ _ dN gi (hr.mono (by decide)) rfl (@eS _ _ _ _ _ _ (pv 2) (@bj _ _ _ _ _ _ (@aR _ _ _ _ _) (@bZ _ _) (by rfl)) (by rfl)) rfl (by decide) (by rfl) (by rfl)) (@eQ _ _) (by rfl)) (by rfl)) (by rfl)) (by decide)))
     ·exact(@cY _ _ _ ([]) (6) _ aq iR.nd rfl ak ak)
     ·refine(@bp _ _ _ _ ?_);refine(@fW _ _ _ _ _ _ _ _ _ ?_ ?_ ?_)
      ·exact(@k9 _ _ _ _ _ (@k8 _ _ _ _ (@cw _ _ _ _ _ (5) _ _ _ _ _ rm yP (hr.mono (by decide)) rfl (@bj _ _ _ _ _ _ (@aK _ _ _ _ (pv 3)) (@bj _ _ _ _ _ _ (@aK _ _ _ _ (pv 5)) (@bj _ _ _ _ _ _ (@aK _ _ _ _ (pv 6)) (@bZ _ _) (by rfl)) (by rfl)) (by rfl)) rfl (by decide) (by rfl) (by rfl)) (by intro _; rfl)))
      ·refine(@bp _ _ _ _ ?_);refine(@cE _ _ _ _ _ ?_);exact(@jH _ _ _ _ _)
      ·exact fM
    refine(@aZ _ _ _ _ _ _ ?_ ?_)
    ·refine(@fW _ _ _ _ _ _ _ _ _ ?_ ?_ ?_)
     ·exact(@n8 _ _ _ _ (@CM _ _ _ _ _ _ _ _ (@kn _ _ _ _ _ _ _ _ _ _ (i7 hq) i9 (@cw _ _ _ _ _ (2) _ _ _ _ _ dN gi (hr.mono (by decide)) rfl (@eS _ _ _ _ _ _ (pv 2) (@bj _ _ _ _ _ _ (@aR _ _ _ _ _) (@bZ _ _) (by rfl)) (by rfl)) rfl (by decide) (by rfl) (by rfl)) (@aT _ _ _ _ (@aR _ _ _ _ _)) (fu _)) (@CL _ _ _ _ _ (@k9 _ _ _ _ _ (@k8 _ _ _ _ (@cw _ _ _ _ _ (5) _ _ _ _ _ rm yP (hr.mono (by decide)) rfl (@bj _ _ _ _ _ _ (@aK _ _ _ _ (pv 3)) (@bj _ _ _ _ _ _ (@aK _ _ _ _ (pv 5)) (@bj _ _ _ _ _ _ (@dE _ _ _ _ _ _ _ _ _ _ Bb CP (@aR _ _ _ _ _) (@aT _ _ _ _ (@cw _ _ _ _ _ (2) _ _ _ _ _ dN gi (hr.mono (by decide)) rfl (@eS _ _ _ _ _ _ (pv 2) (@bj _ _ _ _ _ _ (@aR _ _ _ _ _) (@bZ _ _) (by rfl)) (by rfl)) rfl (by decide) (by rfl) (by rfl)))) (@bZ _ _) (by rfl)) (by rfl)) (by rfl)) rfl (by decide) (by rfl) (by rfl)) (by intro _; rfl))))))
     ·refine(@bp _ _ _ _ ?_);refine(@cE _ _ _ _ _ ?_);exact(@jH _ _ _ _ _)
     ·exact fM
    refine(@aZ _ _ _ _ _ _ ?_ ?_)
    ·exact(@qu _ _ ([10]) _ _ _ _ _ _ _ _ _ _ ([]) (7) _ _ _ aq rfl (@gI _ _ _ rfl rfl) iR.nd rfl rfl (@fc _ _ _ _ _ (@mB _ _ _ _ _ [97,98,99,100,101,102,103,104,105,106,107,108,109,110,111,112,113,114,115,116,117,118,119,120,121,122] (by decide +kernel))) (λl s0 H0 ex=>(@fY _ _ _ _ ([]) (10) _ aq iR.nd rfl ak ak (by decide))) (λl s0 H0 ex=>(@MK _ _ _ _ (@kn _ _ _ _ _ _ _ _ _ _ (@D7 _ hq) (@D_ _ true) (@aK _ _ _ _ (pv 10)) (@bD _ _ _ _ (pv 4)) rfl))) (λl s0 H0 ex=>(@aK _ _ _ _ (pv 10))) (gH aq rfl) (by rfl) (by intro _; rfl))
    refine(@bp _ _ _ _ ?_);refine(@eZ _ _ _ _ _ _ _ _ _ PassesOwn.never rfl ?_ ?_ ?_ (by intro _; rfl))
    ·exact(@fc _ _ _ _ _ (@i_ _ _ _ _ _ (@cq _ _ _ _ _ _ (@mB _ _ _ _ _ [65] (by decide +kernel)) (@cq _ _ _ _ _ _ (@mB _ _ _ _ _ [] (by decide +kernel)) (@cq _ _ _ _ _ _ (@g_ _ _ _ _ _ _ _ _ _ _ fR fS (pv 5) (@bD _ _ _ _ (pv 5))) (@cq _ _ _ _ _ _ (@Cn _ _ _ _) (@cq _ _ _ _ _ _ (@i_ _ _ _ _ _ (@cq _ _ _ _ _ _ (@aK _ _ _ _ (pv 5)) (@eQ _ _) (by rfl)) (by decide)) (@cq _ _ _ _ _ _ (@ko _ _ _ _ _ _ (@cq _ _ _ _ _ _ (@aK _ _ _ _ (pv 5)) (@eQ _ _) (by rfl)) (by decide)) (@cq _ _ _ _ _ _ (@cC _ _ _ _ _ _ _ _ _ cx cD (pv 7) (@aT _ _ _ _ (@cw _ _ _ _ _ (2) _ _ _ _ _ dN gi (hr.mono (by decide)) rfl (@eS _ _ _ _ _ _ (pv 2) (@bj _ _ _ _ _ _ (@mH _ _ _ _ _ _ rfl T.jh (@bD _ _ _ _ (pv 7)) (by rfl)) (@bZ _ _) (by rfl)) (by rfl)) rfl (by decide) (by rfl) (by rfl))) (λ_ _=>rfl)) (@eQ _ _) (by rfl)) (by rfl)) (by rfl)) (by rfl)) (by rfl)) (by rfl)) (by rfl)) (by decide)))
    ·exact(@cY _ _ _ ([]) (8) _ aq iR.nd rfl ak ak)
    ·refine(@bp _ _ _ _ ?_);refine(@fW _ _ _ _ _ _ _ _ _ ?_ ?_ ?_)
     ·exact(@k9 _ _ _ _ _ (@k8 _ _ _ _ (@cw _ _ _ _ _ (5) _ _ _ _ _ y6 Tp (hr.mono (by decide)) rfl (@bj _ _ _ _ _ _ (@aK _ _ _ _ (pv 3)) (@bj _ _ _ _ _ _ (@aK _ _ _ _ (pv 8)) (@bZ _ _) (by rfl)) (by rfl)) rfl (by decide) (by rfl) (by rfl)) (by intro _; rfl)))
     ·refine(@bp _ _ _ _ ?_);refine(@cE _ _ _ _ _ ?_);exact(@jH _ _ _ _ _)
     ·exact fM
  refine(@bp _ _ _ _ ?_);refine(@cE _ _ _ _ _ ?_);exact(@jH _ _ _ _ _)) λss y h=>dH (y8 ss y h)
theorem all_mk {l:PySem.W.OpenLaw} {w:Wq} {K:W1} {h:Heap} {mg:Str->Option Value} {fa:Addr} {Gt:DF} (y8:∀ ce ss y,Gt ss=some y->o_ ce ss=some y) (X:K.In h) (G:h.Ns Ws mg) (Ts:mg "law" = some (.ref fa))
  (d0:dJ K "_law_cell_at" xR)
  (d1:dJ K "_law_pen_of" xS)
  (d2:dJ K "_law_next" xT)
  (d3:dJ K "_law_draw" xU)
  (d4:dJ K "_law_sizes_by" xV)
  (d5:dJ K "_law_pick" xW)
  (d6:dJ K "_law_rule_by" xX)
  (d7:dJ K "_law_table" xY)
  (d8:dJ K "_law_counts" xZ)
  (d9:dJ K "refuse_no_tile" x4)
  (jk:dJ K "parts_of_blocks" x5)
  (jl:dJ K "rule_tiles" x6)
  (y9:dJ K "counts_listed" x8)
  (y_:dJ K "tile_counts" x9)
  (zb:dJ K "_law_whole" uu)
  (zc:dJ K "_law_counts_are" x_)
  (zd:dJ K "_law_power" ya)
  (ze:dJ K "_law_grow" yb)
  (zf:dJ K "_law_grow_often" yc)
  (zg:dJ K "_law_laid" yd)
  (zh:dJ K "_law_right" ye)
  (zi:dJ K "_law_kind_of" yf)
  (zj:dJ K "_law_no_tile" yg)
  (qr:nsIn K Ws "law" = some (some (.ref f23)))
  (zk:K.lookup f23=some ⟨oc23,od23,.func (QC "law" "law" (kf kI) (fJ kI) (bo kI) .none kV23 dc23 pm23 an23 cd23 ct23),sl23⟩)
  (zm:codeIn K cd23 "law" = true)
  (zo:keepIn K (.ref f23)=true)
  (qY:nsIn K Ws "ValueError" = some none)
  (qZ:nsIn K Ws "all" = some none)
  (oQ:nsIn K Ws "bool" = some none)
  (q0:nsIn K Ws "dict" = some none)
  (lU:nsIn K Ws "int" = some none)
  (eG:nsIn K Ws "isinstance" = some none)
  (jh:nsIn K Ws "len" = some none)
  (oR:nsIn K Ws "list" = some none)
  (q_:nsIn K Ws "max" = some none)
  (gM:nsIn K Ws "range" = some none)
  (rg:nsIn K Ws "set" = some none)
  (oS:nsIn K Ws "sorted" = some none)
  (rh:nsIn K Ws "str" = some none)
  (lV:nsIn K Ws "tuple" = some none)
  (nt:nsIn K Ws "zip" = some none)
  (zq:nsIn K Ws "FloorError" = some (some (.ref C_j)))
  (zr:nsIn K Ws "NoFloor" = some (some (.ref C_a)))
  (zt:nsIn K Ws "NoPlace" = some (some (.ref C_b)))
  (zu:nsIn K Ws "NoNumber" = some (some (.ref C_c)))
  (zv:nsIn K Ws "NoRow" = some (some (.ref C_d)))
  (zw:nsIn K Ws "Unlike" = some (some (.ref C_e)))
  (uC:nsIn K Ws "NoTile" = some (some (.ref C_f)))
  (zy:nsIn K Ws "NoRule" = some (some (.ref C_g)))
  (zA:nsIn K Ws "NoText" = some (some (.ref C_h)))
  (zB:nsIn K Ws "TooGreat" = some (some (.ref C_i)))
  (Gg:JD K (.ref C_f) "__init__" = some (some (.ref fi_f)))
  (zC:K.lookup fi_f=some ⟨oci_f,odi_f,.func (QC "__init__" "NoTile.__init__" (kf qX) (fJ qX) (bo qX) .none kVi_f dci_f pmi_f ani_f cdi_f cti_f),sli_f⟩)
  (zD:codeIn K cdi_f "NoTile.__init__" = true)
  (zE:keepIn K (.ref fi_f)=true)
  (zF:lJ K C_f fi_f=true)
  (zG:PySem.W.isFn K (.ref fi_f)=true)
  (zH:keepIn K (.ref C_f)=true)
  (zI:JD K (.ref C_f) "__setattr__" = some (some (.builtin "object.__setattr__")))
  (zJ:t4 K C_f=true)
  (zK:JX K C_f=true)
  (zL:PySem.W.takerIn K C_f "tile" = some none)
  (zM:PySem.W.excIn K C_j jV "ValueError.__new__" = true)
  (zN:PySem.W.specialIn K (.builtin "object.__class__") "__get__" = some (some (.builtin "getset_descriptor.__get__")))
  (zO:PySem.W.takesIn K (.builtin "object.__class__")=some true)
  (zP:JD K (.ref C_f) "__getattribute__" = some (some (.builtin "BaseException.__getattribute__")))
  (zQ:JD K (.ref C_f) "__getattr__" = some none)
  (zR:JD K (.ref C_f) "__class__" = some (some (.builtin "object.__class__")))
  (zS:mroIn K C_f (.type "object")=some true)
  (zU:mroIn K C_f (.type "BaseException")=some true)
  (iS:PySem.W.isClsIn K C_f=true)
  (zV:kitOne K (.ref C_f) (.type "ValueError")=some true)
  (zW:JD K (.ref C_f) "tile" = some none)
  (zX:JX K C_f=true)
  (zY:kitOne K (.ref C_f) (.ref C_a)=some false)
  (zZ:kitOne K (.ref C_f) (.ref C_b)=some false)
  (z9:kitOne K (.ref C_f) (.ref C_c)=some false)
  (z_:kitOne K (.ref C_f) (.ref C_d)=some false)
  (Aa:kitOne K (.ref C_f) (.ref C_e)=some false)
  (Ab:kitOne K (.ref C_f) (.ref C_f)=some true)
  (Ac:kitOne K (.ref C_f) (.ref C_g)=some false)
  (Ad:kitOne K (.ref C_f) (.ref C_h)=some false)
  (Ae:kitOne K (.ref C_f) (.ref C_i)=some false)
  (Af:mroIn K C_f (.ref C_j)=some true)
  : ∃ fd:WP,(∀ (s:W2) (v:Value),BindsTo s fd ⟨[v],[]⟩ [("script",v)])/\∀ base:Heap,K.In base->base.Ns Ws mg->eV l.prog w K mg base d_ 6 fa fd ["script"] (ku 1 Gt):=by
 have e:=Ts.symm.trans (mg_of X G qr)
 cases e;have jm:kC K C_f:=⟨zP,zQ,zR,zN,zO,zS,zU⟩
 have T:Txt (Ez [([70,108,111,111,114,69,114,114,111,114],C_j),([78,111,70,108,111,111,114],C_a),([78,111,80,108,97,99,101],C_b),([78,111,78,117,109,98,101,114],C_c),([78,111,82,111,119],C_d),([85,110,108,105,107,101],C_e),([78,111,84,105,108,101],C_f),([78,111,82,117,108,101],C_g),([78,111,84,101,120,116],C_h),([84,111,111,71,114,101,97,116],C_i)]) K mg:=⟨WH X G qY,WH X G qZ,WH X G oQ,WH X G q0,WH X G lU,WH X G eG,WH X G jh,WH X G oR,WH X G q_,WH X G gM,WH X G rg,WH X G oS,WH X G rh,WH X G lV,WH X G nt,M1,M0,M5,M3,M4,mg_of X G zq,mg_of X G zr,mg_of X G zt,mg_of X G zu,mg_of X G zv,mg_of X G zw,mg_of X G uC,mg_of X G zy,mg_of X G zA,mg_of X G zB,zM,⟨(cK jm),(cK iS),(cK zY)⟩,⟨(cK jm),(cK iS),(cK zZ)⟩,⟨(cK jm),(cK iS),(cK z9)⟩,⟨(cK jm),(cK iS),(cK z_)⟩,⟨(cK jm),(cK iS),(cK Aa)⟩,⟨(cK jm),(cK iS),(cK Ab)⟩,⟨(cK jm),(cK iS),(cK Ac)⟩,⟨(cK jm),(cK iS),(cK Ad)⟩,⟨(cK jm),(cK iS),(cK Ae)⟩,⟨(cK jm),(cK zW),(cK zX)⟩,⟨(cK jm),(cK iS),(cK zV)⟩,(cK ⟨(by rw[show toS [78,111,84,105,108,101]=("NoTile" : Str) from by decide +kernel]; exact mg_of X G uC),Af⟩)⟩
 obtain⟨f0,fd0,F0,m0⟩:=dW X G d0;obtain⟨f1,fd1,F1,m1⟩:=dW X G d1;obtain⟨f2,fd2,F2,m2⟩:=dW X G d2;obtain⟨f3,fd3,F3,m3⟩:=dW X G d3;obtain⟨f4,fd4,F4,m4⟩:=dW X G d4;obtain⟨f5,fd5,F5,m5⟩:=dW X G d5;obtain⟨f6,fd6,F6,m6⟩:=dW X G d6;obtain⟨f7,fd7,F7,m7⟩:=dW X G d7;obtain⟨f8,fd8,F8,m8⟩:=dW X G d8;obtain⟨f9,fd9,F9,m9⟩:=dW X G d9;obtain⟨f10,fd10,F10,m10⟩:=dW X G jk;obtain⟨f11,fd11,F11,m11⟩:=dW X G jl;obtain⟨f12,fd12,F12,m12⟩:=dW X G y9;obtain⟨f13,fd13,F13,m13⟩:=dW X G y_;obtain⟨f14,fd14,F14,m14⟩:=dW X G zb;obtain⟨f15,fd15,F15,m15⟩:=dW X G zc;obtain⟨f16,fd16,F16,m16⟩:=dW X G zd;obtain⟨f17,fd17,F17,m17⟩:=dW X G ze;obtain⟨f18,fd18,F18,m18⟩:=dW X G zf;obtain⟨f19,fd19,F19,m19⟩:=dW X G zg;obtain⟨f20,fd20,F20,m20⟩:=dW X G zh;obtain⟨f21,fd21,F21,m21⟩:=dW X G zi;obtain⟨f22,fd22,F22,m22⟩:=dW X G zj;have Tt:=vj (st:=kI) zk zm zo;have Gi:=vj (st:=qX) zC zD zE;have Tu:Binds K _ ["self","tile"] []:=jZ Gi λ_ _ _ _ _ _ _ _=>rfl
 refine⟨QC "law" "law" (kf kI) (fJ kI) (bo kI) .none kV23 dc23 pm23 an23 cd23 ct23,λs v=>.of_eq rfl,λbase _ _=>?_⟩;have yu:xg l.prog w K mg base C_f ["tile"]:=⟨fi_f,_,["self","tile"],zF,zG,zH,(List.forall_mem_cons.mpr ⟨⟨zI,zJ,zK,zL⟩,(λ_ h=>nomatch h)⟩),Tu,OK Gi R1 rfl (λvs h=>by unfold L2.start; simp[h]) λaL A outer s H E hr=>uM (OF rfl (pv 0) (pv 1) rfl)⟩
 have yZ:=Sr (P:=l.prog) (w:=w) (base:=base) F0 m0 (jZ F0 λ_ _ _ _ _ _ _ _=>rfl) T;have y0:=Su (P:=l.prog) (w:=w) (base:=base) F1 m1 (kE F1 λ_ _ _ _ _ _ _=>rfl) T;have uv:=Sv (P:=l.prog) (w:=w) (base:=base) F2 m2 (kE F2 λ_ _ _ _ _ _ _=>rfl) T;have dN:=Sw F3 m3 (jZ F3 λ_ _ _ _ _ _ _ _=>rfl) T uv;have yo:=Sy F4 m4 (kE F4 λ_ _ _ _ _ _ _=>rfl) T dN;have yp:=SH F5 m5 (OX F5 λ_ _ _ _ _ _ _ _ _ _=>rfl) T dN;have y4:=SK F6 m6 (jZ F6 λ_ _ _ _ _ _ _ _=>rfl) T dN yo yp;have yt:=SN (P:=l.prog) (w:=w) (base:=base) F7 m7 (kE F7 λ_ _ _ _ _ _ _=>rfl) T;have yQ:=SR F8 m8 (qR F8 λ_ _ _ _ _ _ _ _ _=>rfl) T yt;have yA:=S0 F9 m9 (jZ F9 λ_ _ _ _ _ _ _ _=>rfl) T yu;have yB:=S2 (P:=l.prog) (w:=w) (base:=base) F10 m10 (kE F10 λ_ _ _ _ _ _ _=>rfl) T;have yz:=S4 (P:=l.prog) (w:=w) (base:=base) F11 m11 (kE F11 λ_ _ _ _ _ _ _=>rfl) T;have yC:=S6 F12 m12 (jZ F12 λ_ _ _ _ _ _ _ _=>rfl) T yz;have oY:=S7 F13 m13 (qR F13 λ_ _ _ _ _ _ _ _ _=>rfl) T yA yB yC;have yE:=S8 (P:=l.prog) (w:=w) (base:=base) F14 m14 (kE F14 λ_ _ _ _ _ _ _=>rfl) T;have yW:=S9 (P:=l.prog) (w:=w) (base:=base) F14 m14 (kE F14 λ_ _ _ _ _ _ _=>rfl) T;have yR:=Ta F15 m15 (jZ F15 λ_ _ _ _ _ _ _ _=>rfl) T yE;have yS:=Tc (P:=l.prog) (w:=w) (base:=base) F16 m16 (jZ F16 λ_ _ _ _ _ _ _ _=>rfl) T;have yK:=Te (P:=l.prog) (w:=w) (base:=base) F17 m17 (jZ F17 λ_ _ _ _ _ _ _ _=>rfl) T;have yN:=Tg F18 m18 (qR F18 λ_ _ _ _ _ _ _ _ _=>rfl) T yK;have yT:=Ti F19 m19 (qR F19 λ_ _ _ _ _ _ _ _ _=>rfl) T yN;have rm:=Tj F20 m20 (qR F20 λ_ _ _ _ _ _ _ _ _=>rfl) T yQ oY yR yS yT;have yX:=To (P:=l.prog) (w:=w) (base:=base) F21 m21 (kE F21 λ_ _ _ _ _ _ _=>rfl) T;have y6:=Tq F22 m22 (jZ F22 λ_ _ _ _ _ _ _ _=>rfl) T oY yW yX;exact Tr Tt T yZ y0 dN y4 rm y6 (y8 _)
open PySem (sizeLine)
def cF(bs:List (Nat×List Tx))(n:Nat):List Tx:=((bs.find? λb=>decide (b.1=n)).map (·.2)).getD []
theorem kK(h:n ∈ bs.map (·.1)):∃ b ∈ bs,b.1=n/\(bs.find? λb=>decide (b.1=n))=some b/\cF bs n=b.2:=by
 cases e:bs.find? λb=>decide (b.1=n) with
 | none =>
  obtain⟨b,hb,rfl⟩:=WV.mp h;have:=List.find?_eq_none.mp e b hb;simp at this
 | some b =>
  have h1:=List.mem_of_find?_eq_some e;have h2:=List.find?_some e;refine⟨b,h1,by simpa using h2,rfl,?_⟩;unfold cF;rw[e];rfl
def iq(bs:List (Nat×List Tx))(l:Nat)(row:Tx):Tx:=(row.map λn=>(cF bs n).getD l []).flatten
def layR(h:Nat)(bs:List (Nat×List Tx))(row:Tx):List Tx:=(WJ h).map λl=>iq bs l row
def lay(h:Nat)(bs:List (Nat×List Tx))(fl:List Tx):List Tx:=fl.flatMap (layR h bs)
structure jn(bs:List (Nat×List Tx))(R C:Nat)(fl:List Tx):Prop where
 rows:fl.length=R
 cols:∀ r ∈ fl,r.length=C
 tl:∀ r ∈ fl,∀ n ∈ r,n ∈ bs.map (·.1)
theorem Ag(R:cu h w bs)(hn:n ∈ bs.map (·.1))(hl:l < h):((cF bs n).getD l []).length=w/\(∀ k ∈ (cF bs n).getD l [],k ∈ bs.map (·.1))/\aB (aW (cF bs n)) (.int l)=some (.pure (.str ((cF bs n).getD l []))):=by
 obtain⟨b,hb,_,_,e2⟩:=kK hn;have hB:=R.cF b hb;have dD:l < b.2.length:=by omega
 have hm:b.2.getD l [] ∈ b.2:=by
  rw[QE,Wk dD];exact QF dD
 have hr:=hB.2 _ hm;rw[e2];exact⟨hr.1,hr.2,by simp[aB,j3,dD]⟩
theorem Ah(R:cu h w bs)(hl:l < h):∀ row:Tx,(∀ n ∈ row,n ∈ bs.map (·.1))->(iq bs l row).length=row.length * w/\∀ k ∈ iq bs l row,k ∈ bs.map (·.1)
 | [],_=>by simp[iq]
 | n :: r,h'=>by
  have ih:=Ah R hl r λk hk=>h' k (W9 _ hk)
  have h1:=Ag R (h' n Wf) hl;have e:iq bs l (n :: r)=(cF bs n).getD l [] ++ iq bs l r:=rfl;rw[e];refine⟨by rw[WZ,h1.1,ih.1,WD,Nat.succ_mul,Nat.add_comm],λk hk=>?_⟩;rcases QX.mp hk with hk | hk
  ·exact h1.2.1 k hk
  ·exact ih.2 k hk
theorem Gj(R:cu h w bs)(F:jn bs A C fl):jn bs (A * h) (C * w) (lay h bs fl):=by
 refine⟨?_,λr hr=>?_,λr hr=>?_⟩
 ·rw[<- F.rows];clear F;induction fl with
  | nil=>simp[lay]
  | cons x q ih =>
   have e:lay h bs (x :: q)=layR h bs x ++ lay h bs q:=rfl;rw[e,WZ,ih,WD,Nat.succ_mul];simp[layR,Nat.add_comm]
 ·simp only[lay,List.mem_flatMap,layR,List.mem_map,List.mem_range] at hr;obtain⟨x,hx,l,hl,rfl⟩:=hr;rw[(Ah R hl x (F.tl x hx)).1,F.cols x hx]
 ·simp only[lay,List.mem_flatMap,layR,List.mem_map,List.mem_range] at hr;obtain⟨x,hx,l,hl,rfl⟩:=hr;exact(Ah R hl x (F.tl x hx)).2
def sm:List Nat->(Nat->Nat)->Nat
 | [],_=>0
 | t :: r,f=>f t + sm r f
theorem rn(f:Nat->Nat):sm [] f=0:=rfl
theorem jo(t:Nat)(r:List Nat)(f:Nat->Nat):sm (t :: r) f=f t + sm r f:=rfl
theorem l9:∀ {ts:List Nat} {f g:Nat->Nat},(∀ t ∈ ts,f t=g t)->sm ts f=sm ts g
 | [],_,_,_=>rfl
 | t :: r,f,g,h=>by
  rw[jo,jo,h t Wf,l9 λx hx=>h x (W9 _ hx)]
theorem rA(f g:Nat->Nat):∀ ts:List Nat,sm ts (λt=>f t + g t)=sm ts f + sm ts g
 | []=>rfl
 | t :: r=>by
  rw[jo,jo,jo,rA f g r];show f t + g t + _=_;omega
theorem pb:∀ {ts:List Nat} {f:Nat->Nat},(∀ t ∈ ts,f t=0)->sm ts f=0
 | [],_,_=>rfl
 | t :: r,f,h=>by
  rw[jo,h t Wf,pb λx hx=>h x (W9 _ hx)]
theorem Ai(f:Nat->Nat):∀ a b:List Nat,sm (a ++ b) f=sm a f + sm b f
 | [],b=>by rw[Q1,rn,WN]
 | t :: r,b=>by
  rw[JB,jo,jo,Ai f r b];omega
theorem Aj(f:Nat->Nat)(n:Nat):∀ ts:List Nat,ts.Nodup->n ∈ ts->sm ts (λt=>(if t=n then 1 else 0) * f t)=f n
 | [],_,h=>by simp at h
 | t :: r,nd,h=>by
  obtain⟨n1,n2⟩:=WR.mp nd;rw[jo];rcases Wl.mp h with e | h
  ·subst e;rw[pb λt ht=>by rw[if_neg (λe=>n1 (by rw[<- e]; exact ht)),Nat.zero_mul]];simp
  ·have:t≠n:=λe=>n1 (by rw[e]; exact h)
   rw[Aj f n r n2 h];simp[this]
theorem Gk(f:Nat->Nat)(nd:ts.Nodup):∀ row:List Nat,(∀ n ∈ row,n ∈ ts)->sm row f=sm ts λt=>row.count t * f t
 | [],_=>by
  rw[rn,pb λt _=>by rw[List.count_nil,Nat.zero_mul]]
 | n :: r,h=>by
  have ih:=Gk f nd r λk hk=>h k (W9 _ hk)
  have e:sm ts (λt=>(n :: r).count t * f t)=sm ts (λt=>r.count t * f t + (if t=n then 1 else 0) * f t):=l9 λt _=>by
   rw[JK];by_cases q:n=t
   ·subst q;simp[Nat.add_mul]
   ·simp[q,Ne.symm q]
  rw[e,rA,Aj f n ts nd (h n Wf),<- ih,jo];omega
def M(bs:List (Nat×List Tx))(t s:Nat):Nat:=(cF bs t).flatten.count s
def Al(bs:List (Nat×List Tx))(v:Nat->Nat):Nat->Nat:=λs=>sm (bs.map (·.1)) λt=>v t * M bs t s
def vec(bs:List (Nat×List Tx))(t0:Nat):Nat->Nat->Nat
 | 0=>λs=>if s=t0 then 1 else 0
 | k + 1=>Al bs (vec bs t0 k)
theorem Gm(bs:List (Nat×List Tx))(l s:Nat):∀ row:Tx,(iq bs l row).count s=sm row λn=>((cF bs n).getD l []).count s
 | []=>rfl
 | n :: r=>by
  have e:iq bs l (n :: r)=(cF bs n).getD l [] ++ iq bs l r:=rfl;rw[e,Jx,Gm bs l s r];rfl
theorem Tv(s:Nat):∀ (k:Nat) (b:List Tx),b.length=k->sm (WJ k) (λl=>(b.getD l []).count s)=b.flatten.count s:=by
 intro k;induction k with
 | zero =>
  intro b hb;have:b=[]:=List.length_eq_zero_iff.mp hb;subst this;rfl
 | succ k ih =>
  intro b hb;have hk:k < b.length:=by omega
  have e1:b=b.take k ++ [b[k]]:=by
   have:=List.take_append_drop k b;rw[QJ hk,List.drop_eq_nil_of_le (by omega)] at this;exact this.symm
  rw[U8,Ai];have e2:sm (WJ k) (λl=>(b.getD l []).count s)=sm (WJ k) λl=>((b.take k).getD l []).count s:=l9 λl hl=>by
   have hl:l < k:=List.mem_range.mp hl;simp[QE,List.getElem?_take,hl]
  rw[e2,ih (b.take k) (by simp; omega)];have e3:b.flatten.count s=(b.take k).flatten.count s + (b[k]).count s:=by
   have:=congrArg (λz:List Tx=>z.flatten.count s) e1;simpa only[List.flatten_append,Jx,Qd,List.flatten_nil,Q0] using this
  rw[e3,jo,rn];simp[QE,hk]
theorem Gn(f:Nat->Nat->Nat)(b:List Nat):∀ a:List Nat,sm a (λx=>sm b λy=>f x y)=sm b λy=>sm a λx=>f x y
 | []=>by
  rw[rn,pb λt _=>rn _]
 | x :: r=>by
  show sm b (λy=>f x y) + sm r (λx=>sm b λy=>f x y)=_;rw[Gn f b r,<- rA];rfl
theorem Tw(R:cu h w bs)(s:Nat)(row:Tx)(hr:∀ n ∈ row,n ∈ bs.map (·.1)):(layR h bs row).flatten.count s=sm row λn=>M bs n s:=by
 have e:∀ ls:List Nat,((ls.map λl=>iq bs l row).flatten).count s=sm ls λl=>sm row λn=>((cF bs n).getD l []).count s:=by
  intro ls;induction ls with
  | nil=>rfl
  | cons l q ih =>
   rw[Wo,Qd,Jx,ih,Gm];rfl
 unfold layR;rw[e,Gn];refine l9 λn hn=>?_
 obtain⟨b,hb,_,_,e2⟩:=kK (hr n hn);unfold M;rw[e2];exact Tv s h b.2 (R.cF b hb).1
theorem Am(R:cu h w bs):(bs.map (·.1)).Nodup:=R.up.imp λh=>Wi h
theorem Gp(R:cu h w bs)(s:Nat):∀ fl:List Tx,(∀ r ∈ fl,∀ n ∈ r,n ∈ bs.map (·.1))->(lay h bs fl).flatten.count s=sm (bs.map (·.1)) λt=>fl.flatten.count t * M bs t s
 | [],_=>by
  rw[pb λt _=>by rw[List.flatten_nil,List.count_nil,Nat.zero_mul]];rfl
 | x :: q,hf=>by
  have e:lay h bs (x :: q)=layR h bs x ++ lay h bs q:=rfl;rw[e,List.flatten_append,Jx,Tw R s x (hf x Wf),Gp R s q λr hr=>hf r (W9 _ hr),Gk _ (Am R) x (hf x Wf),<- rA];refine l9 λt _=>?_
  rw[Qd,Jx,Nat.add_mul]
def eT(h:Nat)(bs:List (Nat×List Tx))(fl:List Tx):Nat->List Tx
 | 0=>fl
 | k + 1=>lay h bs (eT h bs fl k)
theorem uD(R:cu h w bs)(F:jn bs A C fl):∀ k,jn bs (A * h ^ k) (C * w ^ k) (eT h bs fl k)
 | 0=>by simpa[eT] using F
 | k + 1=>by
  have:=Gj R (uD R F k);rw[Nat.pow_succ,Nat.pow_succ,<- Nat.mul_assoc,<- Nat.mul_assoc];exact this
theorem Tz(R:cu h w bs)(ht:t0 ∈ bs.map (·.1))(s:Nat):∀ k,(eT h bs [[t0]] k).flatten.count s=vec bs t0 k s:=by
 have F0:jn bs 1 1 [[t0]]:=⟨rfl,by simp,by simpa using ht⟩
 intro k;induction k generalizing s with
 | zero =>
  show([[t0]]:List Tx).flatten.count s=if s=t0 then 1 else 0
  by_cases h:s=t0
  ·subst h; simp
  ·simp[h,JK,Ne.symm h]
 | succ k ih =>
  show(lay h bs (eT h bs [[t0]] k)).flatten.count s=_;rw[Gp R s _ (uD R F0 k).tl];exact l9 λt _=>by rw[ih]
def val(dm:List (Nat×Nat))(s:Nat):Nat:=((dm.find? λp=>decide (p.1=s)).map (·.2)).getD 0
def put(dm:List (Nat×Nat))(s m:Nat):List (Nat×Nat):=if (dm.any λp=>decide (p.1=s))=true then dm.map (λp=>if p.1=s then(p.1,m) else p) else dm ++ [(s,m)]
theorem uE(h:s ∉ dm.map (·.1)):val dm s=0:=by
 have:dm.find? (λp=>decide (p.1=s))=none:=List.find?_eq_none.mpr λp hp e=>h (WV.mpr ⟨p,hp,by simpa using e⟩)
 unfold val;rw[this];rfl
theorem kL(k m s:Nat)(r:List (Nat×Nat)):val ((k,m) :: r) s=if k=s then m else val r s:=by
 unfold val;rw[Qz];by_cases h:k=s
 ·simp[h]
 ·simp[h]
theorem TB(s m x:Nat):∀ dm:List (Nat×Nat),val (put dm s m) x=if s=x then m else val dm x:=by
 intro dm;have key:∀ r:List (Nat×Nat),val (r.map λp=>if p.1=s then(p.1,m) else p) x=if s=x/\s ∈ r.map (·.1) then m else val r x:=by
  intro r;induction r with
  | nil=>simp[val]
  | cons p r ih =>
   obtain⟨k,q⟩:=p;rw[Wo];by_cases hk:k=s
   ·subst hk;rw[if_pos rfl,kL,kL];by_cases hx:k=x
    ·simp[hx]
    ·simp[hx,ih]
   ·rw[if_neg hk,kL,kL,ih];by_cases hx:s=x
    ·subst hx;rw[if_neg hk,if_neg hk];have:(s ∈ ((k,q) :: r).map (·.1)) ↔ s ∈ r.map (·.1):=by
      rw[Wo,Wl];exact⟨λz=>z.elim (λe=>absurd e.symm hk) id,.inr⟩
     simp only[this,true_and]
    ·simp[hx]
 unfold put;split
 ·rename_i h;rw[key dm];have:s ∈ dm.map (·.1):=by
   obtain⟨p,hp,e⟩:=List.any_eq_true.mp h;exact WV.mpr ⟨p,hp,by simpa using e⟩
  simp[this]
 ·rename_i h;have hs:s ∉ dm.map (·.1):=λhm=>by
   obtain⟨p,hp,e⟩:=WV.mp hm;exact h (List.any_eq_true.mpr ⟨p,hp,by simpa using e⟩)
  have app:∀ r:List (Nat×Nat),s ∉ r.map (·.1)->val (r ++ [(s,m)]) x=if s=x then m else val r x:=by
   intro r;induction r with
   | nil=>intro _; rw[Q1,kL]
   | cons p r ih =>
    obtain⟨k,q⟩:=p;intro hr;have hk:k≠s:=λe=>hr (by simp[e])
    rw[JB,kL,kL,ih λz=>hr (by simp; right; simpa using z)];by_cases hx:s=x
    ·subst hx;simp[hk]
    ·simp[hx]
  exact app dm hs
theorem Gq(s m:Nat)(dm:List (Nat×Nat)):(put dm s m).map (·.1)=if s ∈ dm.map (·.1) then dm.map (·.1) else dm.map (·.1) ++ [s]:=by
 have Gr:(dm.any λp=>decide (p.1=s))=true ↔ s ∈ dm.map (·.1):=by
  rw[List.any_eq_true,List.mem_map];simp
 unfold put;by_cases h:s ∈ dm.map (·.1)
 ·rw[if_pos (Gr.mpr h),if_pos h,WB];refine Q3 λp _=>?_
  show(if p.1=s then(p.1,m) else p).1=p.1;split <;> rfl
 ·rw[if_neg λz=>h (Gr.mp z),if_neg h];simp
structure Dm(ts:List Nat)(dm:List (Nat×Nat)):Prop where
 nd:(dm.map (·.1)).Nodup
 sub:∀ k ∈ dm.map (·.1),k ∈ ts
theorem Dm.put(D:Dm ts dm)(m:Nat)(hs:s ∈ ts):Dm ts (put dm s m):=by
 constructor
 ·rw[Gq];split
  ·exact D.nd
  ·rename_i h;refine List.nodup_append.mpr ⟨D.nd,by simp,λa ha b hb e=>h ?_⟩;have hb:b=s:=by simpa using hb
   rw[<- hb,<- e]; exact ha
 ·rw[Gq];intro k hk;split at hk
  ·exact D.sub k hk
  ·rcases QX.mp hk with hk | hk
   ·exact D.sub k hk
   ·have:k=s:=by simpa using hk
    rw[this]; exact hs
def jq(f:Nat->Nat)(m:Nat):List Nat->List (Nat×Nat)->List (Nat×Nat)
 | [],dm=>dm
 | p :: r,dm=>jq f m r (put dm p (val dm p + m * f p))
theorem An(f:Nat->Nat)(m:Nat):∀ (ps:List Nat) (dm:List (Nat×Nat)),Dm ts dm->ps.Nodup->(∀ p ∈ ps,p ∈ ts)->Dm ts (jq f m ps dm)/\∀ s,val (jq f m ps dm) s=val dm s + if s ∈ ps then m * f s else 0
 | [],dm,D,_,_=>⟨D,λs=>by simp[jq]⟩
 | p :: r,dm,D,nd,hp=>by
  obtain⟨n1,n2⟩:=WR.mp nd;obtain⟨h1,h2⟩:=An f m r (put dm p (val dm p + m * f p)) (D.put _ (hp p Wf)) n2 λq hq=>hp q (W9 _ hq)
  refine⟨h1,λs=>?_⟩;show val (jq f m r (put dm p (val dm p + m * f p))) s=_;rw[h2,TB];by_cases hs:p=s
  ·subst hs;simp[n1]
  ·simp[hs,Ne.symm hs]
def rB(bs:List (Nat×List Tx))(ps:Nat->List Nat):List (Nat×Nat)->List (Nat×Nat)->List (Nat×Nat)
 | [],dm=>dm
 | p :: r,dm=>rB bs ps r (jq (M bs p.1) p.2 (ps p.1) dm)
theorem Gs(Gu:(bs.map (·.1)).Nodup)(h1:∀ t ∈ bs.map (·.1),(ps t).Nodup/\(∀ p ∈ ps t,p ∈ bs.map (·.1))/\∀ s,s ∉ ps t->M bs t s=0):∀ (ag dm:List (Nat×Nat)),(∀ k ∈ ag.map (·.1),k ∈ bs.map (·.1))->(ag.map (·.1)).Nodup->Dm (bs.map (·.1)) dm ->
  Dm (bs.map (·.1)) (rB bs ps ag dm)/\∀ s,val (rB bs ps ag dm) s=val dm s + sm (bs.map (·.1)) λt=>val ag t * M bs t s
 | [],dm,_,_,D=>⟨D,λs=>by
   rw[pb λt _=>by rw[uE (by simp),Nat.zero_mul]];rfl⟩
 | (k,m) :: r,dm,hk,nd,D=>by
  have pe:k ∈ bs.map (·.1):=hk k (by simp);obtain⟨p1,p2,p3⟩:=h1 k pe;obtain⟨D1,v1⟩:=An (M bs k) m (ps k) dm D p1 p2;rw[Wo] at nd;obtain⟨n1,n2⟩:=WR.mp nd;obtain⟨D2,v2⟩:=Gs Gu h1 r (jq (M bs k) m (ps k) dm) (λq hq=>hk q (by rw[Wo]; exact W9 _ hq)) n2 D1;refine⟨D2,λs=>?_⟩;show val (rB bs ps r (jq (M bs k) m (ps k) dm)) s=_;have e:sm (bs.map (·.1)) (λt=>val ((k,m) :: r) t * M bs t s)=sm (bs.map (·.1)) (λt=>val r t * M bs t s) + m * M bs k s:=by
   have e0:sm (bs.map (·.1)) (λt=>val ((k,m) :: r) t * M bs t s)=sm (bs.map (·.1)) (λt=>val r t * M bs t s + (if t=k then 1 else 0) * (m * M bs t s)):=l9 λt _=>by
    rw[kL];by_cases q:k=t
    ·subst q;rw[uE n1];simp
    ·simp[q,Ne.symm q]
   rw[e0,rA,Aj (λt=>m * M bs t s) k _ Gu pe]
  rw[v2,v1,e];by_cases hs:s ∈ ps k
  ·simp[hs];omega
  ·simp[hs,p3 s hs]
theorem fF(f:DE)(δ:Dl):bR f δ=(f δ).bind λr δ1=>match r.d with
 | .lst ds=>.ok ds δ1
 | .tup ds=>.ok ds δ1
 | .str x=>.ok (x.map λn=>.str [n]) δ1
 | _=>.stuck:=id rfl
theorem Ao(f F:A->D)(p:A->Bool)(δ:Dl):∀ (as:List A) (acc:List D),acc.length + as.length<=Wb ->
  (∀ a ∈ as,∃ δ1 δ2 x δ3,g (.pure (f a)) δ=some δ1/\t δ1 = .ok (p a) δ2/\bB cs δ2=δ/\el δ2 = .ok x δ3/\bB cs δ3=δ/\x.d=F a)->cb cs g t el (as.map f) δ acc = .ok (acc ++ (as.filter p).map F) δ
 | [],acc,_,_=>by simp[cb]
 | a :: r,acc,hl,hs=>by
  obtain⟨δ1,δ2,x,δ3,e1,e2,e2',e3,e4,e5⟩:=hs a Wf;have iV:acc.length < Wb:=by simp at hl; omega
  rw[Wo];unfold cb;rw[e1]
  cases hp:p a with
  | true =>
   have ih:=Ao (cs:=cs) (g:=g) (t:=t) (el:=el) f F p δ r (acc ++ [x.d]) (by simp at hl ⊢; omega) (λa ha=>hs a (W9 _ ha));rw[e5] at ih;rw[hp] at e2;simp only[e2,ij,if_true,e3,if_pos iV,e4,e5,ih,List.filter_cons,hp];simp
  | false =>
   have ih:=Ao (cs:=cs) (g:=g) (t:=t) (el:=el) f F p δ r acc (by simp at hl ⊢; omega) (λa ha=>hs a (W9 _ ha));rw[hp] at e2;simp only[e2,ij,e2',ih,List.filter_cons,hp];simp
def nx(s:Int):Int:=(((s + 7919) % 2147483647) * ((s + 7919) % 2147483647) + 48271 * ((s + 7919) % 2147483647) + 12345) % 2147483629
theorem TC(s:Int):nA [.pure (.int s)]=some (.pure (.int (nx s)),[.pure (.int s)]):=by
 unfold nA cz yj fZ;have h1:=Int.emod_nonneg (s + 7919) (b:=2147483647) (by decide);have h2:=Int.emod_lt_of_pos (s + 7919) (b:=2147483647) (by decide);have c1:jJ ((s + 7919) % 2147483647) ((s + 7919) % 2147483647)=true:=by unfold jJ; simp; omega
 have c2:jJ 48271 ((s + 7919) % 2147483647)=true:=by unfold jJ; simp
 simp[bW,bC,ar,aj,bI,ah,bz,fU,fw,cI,pY,c1,c2,cp,bF];rfl
def eK(d:D):Prop:=∃ l f s:Int,d = .lst [.int l,.int f,.int s]/\0<=l
theorem uF(hp:eK d)(m:Nat)(h0:0 < m)(h1:m < 1073741824):∃ (r:Nat) (d':D),cL [.own d,.pure (.int m)]=some (.pure (.int r),[.own d',.pure (.int m)])/\r < m/\eK d':=by
 obtain⟨l,f,s,rfl,hl⟩:=hp;have hm:(0:Int) < (m:Int):=by omega
 have hd:pZ l m=true:=by unfold pZ; simp; omega
 unfold cL cz yk fZ;by_cases hf:f=1
 ·subst hf;have e1:=Int.emod_nonneg l (b:=(m:Int)) (by omega);have e2:=Int.emod_lt_of_pos l hm;refine⟨(l % (m:Int)).toNat,.lst [.int (l / m),.int 1,.int s],?_,by omega,⟨_,_,_,rfl,Int.ediv_nonneg hl (by omega)⟩⟩;simp[bW,bC,ar,aj,bI,ah,aa,aB,bP,aC,flat,ud,xw,xu,aO,fU,p_,fw,h0,hd,oj,h_,putL,cp,bF,dQ];omega
 ·have e1:=Int.emod_nonneg (nx (nx s + 7) / 64) (b:=(m:Int)) (by omega);have e2:=Int.emod_lt_of_pos (nx (nx s + 7) / 64) hm;refine⟨(nx (nx s + 7) / 64 % (m:Int)).toNat,.lst [.int l,.int f,.int (nx (nx s + 7))],?_,by omega,⟨_,_,_,rfl,hl⟩⟩;simp[bW,bC,ar,aj,bI,ah,aa,aB,bP,aC,flat,ud,xw,xu,aO,fU,p_,fw,h0,hd,oj,h_,putL,cp,bF,dQ,hf,ax,bf,bu,bN,bL,bw,TC,bz,aS,pZ];omega
theorem TF(c:Int):∃ d,ny [.pure (.int c)]=some (.own d,[.pure (.int c)])/\eK d:=by
 unfold ny cz yi fZ;refine⟨.lst [.int (if 0 - c > c then 0 - c else c),.int (if decide (1000000000000000000<=(if 0 - c > c then 0 - c else c)) then 1 else 0),.int ((if 0 - c > c then 0 - c else c) % 1000003)],?_,⟨_,_,_,rfl,by split <;> omega⟩⟩;simp[bW,bC,ar,aj,bI,ah,aa,vX,n9,fw,gm,CV,iG,vR,vQ,fU,cp,bF]
theorem TH(ns:List Int):∃ c:Int,nu [.pure (.lst (ns.map .int)),.pure (.int 0)]=some (.pure (.int c),[.pure (.lst (ns.map .int)),.pure (.int 0)]):=by
 unfold nu cz yh fZ
 cases ns with
 | nil=>exact⟨0,by simp[bW,bC,aj,bI,ah,sS,iG,aO,cy,cp,bF]⟩
 | cons n r=>exact⟨n,by
   have:(0:Int) < (r.length:Int) + 1:=by omega
   simp[bW,bC,aj,bI,ah,sS,iG,aO,cy,cp,bF,aB,ud,this]⟩
theorem gO(hp:eK d)(m:Nat)(i:Int)(hi:i=m)(h0:0 < m)(h1:m < 1073741824):∃ (r:Nat) (d':D),cL [.own d,.pure (.int i)]=some (.pure (.int r),[.own d',.pure (.int i)])/\r < m/\eK d':=by
 subst hi;exact uF hp m h0 h1
def fo:Tx:=[97,98,99,100,101,102,103,104,105,106,107,108,109,110,111,112,113,114,115,116,117,118,119,120,121,122]
theorem TJ(hp:eK d):∃ (h w:Nat) (d':D),oU [.own d]=some (.pure (.tup [.int h,.int w]),[.own d'])/\0 < h/\h<=4/\0 < w/\w<=4/\2 < h + w/\eK d':=by
 obtain⟨r1,d1,e1,l1,p1⟩:=gO hp 3 3 rfl (by decide) (by decide);obtain⟨r2,d2,e2,l2,p2⟩:=gO p1 3 3 rfl (by decide) (by decide);obtain⟨r3,d3,e3,l3,p3⟩:=gO p2 8 8 rfl (by decide) (by decide);obtain⟨r4,d4,e4,l4,p4⟩:=gO p3 6 6 rfl (by decide) (by decide);unfold oU cz yl fZ;by_cases h3:r3=0
 ·subst h3;have:r4=0\/r4=1\/r4=2\/r4=3\/r4=4\/r4=5:=by omega
  rcases this with rfl | rfl | rfl | rfl | rfl | rfl
  ·exact⟨4,1,d4,by simp[bW,bC,ar,ax,bf,bN,bu,bL,bw,e1,e2,e3,e4,aS,bz,bP,aC,flat,aO,aB,cS,dQ,bM,aM,bQ,aj,bI,ah,aa,cp,bF],by decide,by decide,by decide,by decide,by decide,p4⟩
  ·exact⟨1,4,d4,by simp[bW,bC,ar,ax,bf,bN,bu,bL,bw,e1,e2,e3,e4,aS,bz,bP,aC,flat,aO,aB,cS,dQ,bM,aM,bQ,aj,bI,ah,aa,cp,bF],by decide,by decide,by decide,by decide,by decide,p4⟩
  ·exact⟨4,4,d4,by simp[bW,bC,ar,ax,bf,bN,bu,bL,bw,e1,e2,e3,e4,aS,bz,bP,aC,flat,aO,aB,cS,dQ,bM,aM,bQ,aj,bI,ah,aa,cp,bF],by decide,by decide,by decide,by decide,by decide,p4⟩
  ·exact⟨4,3,d4,by simp[bW,bC,ar,ax,bf,bN,bu,bL,bw,e1,e2,e3,e4,aS,bz,bP,aC,flat,aO,aB,cS,dQ,bM,aM,bQ,aj,bI,ah,aa,cp,bF],by decide,by decide,by decide,by decide,by decide,p4⟩
  ·exact⟨1,2,d4,by simp[bW,bC,ar,ax,bf,bN,bu,bL,bw,e1,e2,e3,e4,aS,bz,bP,aC,flat,aO,aB,cS,dQ,bM,aM,bQ,aj,bI,ah,aa,cp,bF],by decide,by decide,by decide,by decide,by decide,p4⟩
  ·exact⟨2,1,d4,by simp[bW,bC,ar,ax,bf,bN,bu,bL,bw,e1,e2,e3,e4,aS,bz,bP,aC,flat,aO,aB,cS,dQ,bM,aM,bQ,aj,bI,ah,aa,cp,bF],by decide,by decide,by decide,by decide,by decide,p4⟩
 ·by_cases hs:r1=0/\r2=0
  ·obtain⟨rfl,rfl⟩:=hs;refine⟨1,2,d3,?_,by decide,by decide,by decide,by decide,by decide,p3⟩;simp[bW,bC,ar,ax,bf,bN,bu,bL,bw,e1,e2,e3,aS,bz,bP,aC,flat,aO,h3,aj,bI,ah,aa,cp,bF]
  ·have hn:¬ (1 + (r1:Int) + (1 + (r2:Int))=2):=by omega
   refine⟨1 + r1,1 + r2,d3,?_,by omega,by omega,by omega,by omega,by omega,p3⟩;simp[bW,bC,ar,ax,bf,bN,bu,bL,bw,e1,e2,e3,aS,bz,bP,aC,flat,aO,h3,hn,aj,bI,ah,aa,cp,bF]
theorem uG(ts:List Nat)(r:Nat)(h:r < ts.length):aB (.lst (ts.map λn=>.str [n])) (.int r)=some (.pure (.str [ts.getD r 0])):=by
 simp[aB,j3,h]
theorem TK(hp:eK d)(ts:List Nat)(place way:Nat)(h1:place < ts.length)(h2:ts.length<=64):∃ (n:Nat) (d':D),
  iQ [.own d,.pure (.lst (ts.map λn=>.str [n])),.pure (.int place),.pure (.int way)]=some (.pure (.str [n]),[.own d',.pure (.lst (ts.map λn=>.str [n])),.pure (.int place),.pure (.int way)])/\n ∈ ts/\eK d':=by
 have mem:∀ r,r < ts.length->ts.getD r 0 ∈ ts:=λr h=>by simp[h]
 unfold iQ cz ym fZ;by_cases w1:way=1
 ·subst w1;obtain⟨r,d1,e1,l1,p1⟩:=gO hp (place + 1) ((place:Int) + 1) (by omega) (by omega) (by omega);refine⟨ts.getD r 0,d1,?_,mem r (by omega),p1⟩;simp[bW,bC,aj,bI,ah,bP,aC,flat,aO,ax,bf,bN,bu,bL,bz,bw,e1,aS,aB,j3,cp,bF,show r < ts.length by omega]
 ·by_cases w2:way=2
  ·subst w2;have hr:(place + 1) % ts.length < ts.length:=Nat.mod_lt _ (by omega);refine⟨ts.getD ((place + 1) % ts.length) 0,d,?_,mem _ hr,hp⟩;have hm:fU (.int ((place:Int) + 1)) (.int ts.length)=some (.pure (.int (((place + 1) % ts.length:Nat):Int))):=by
    simp only[fU,fw];rw[if_pos (by simp; omega)];simp
   simp[bW,bC,aj,bI,ah,bP,aC,flat,aO,bz,cy,hm,cp,bF];have hx:=uG ts ((place + 1) % ts.length) hr;simp at hx;simp[hx]
  ·by_cases w3:way=3
   ·subst w3;obtain⟨r,d1,e1,l1,p1⟩:=gO hp 4 4 rfl (by decide) (by decide);by_cases hr:0 < r
    ·refine⟨ts.getD place 0,d1,?_,mem place h1,p1⟩;simp[bW,bC,aj,bI,ah,bP,aC,flat,aO,ax,bf,bN,bu,bL,bw,e1,aS,k_,iG,hr,aB,j3,h1,cp,bF]
    ·obtain⟨r',d2,e2,l2,p2⟩:=uF p1 ts.length (by omega) (by omega);refine⟨ts.getD r' 0,d2,?_,mem r' l2,p2⟩;simp[bW,bC,aj,bI,ah,bP,aC,flat,aO,ax,bf,bN,bu,bL,bw,e1,aS,k_,iG,hr,cy,e2,aB,j3,l2,cp,bF]
   ·obtain⟨r',d2,e2,l2,p2⟩:=uF hp ts.length (by omega) (by omega);refine⟨ts.getD r' 0,d2,?_,mem r' l2,p2⟩;have c1:¬ (way:Int)=1:=by omega
    have c2:¬ (way:Int)=2:=by omega
    have c3:¬ (way:Int)=3:=by omega
    simp[bW,bC,aj,bI,ah,bP,aC,flat,aO,ax,bf,bN,bu,bL,bw,aS,c1,c2,c3,cy,e2,aB,j3,l2,cp,bF]
theorem TL:∀ k,k < 26->fo.getD k 0=97 + k:=by decide
theorem TM(xs:List Nat)(h:xs.length < 64):oh (.lst (xs.map λn=>.str [n]))=some (.own (.lst ((fj xs).map λn=>.str [n]))):=by
 have e:(xs.map λn=>D.str [n])=(xs.map λn=>[n]).map D.str:=by simp
 unfold oh;simp only[e,qT];rw[if_pos (by simpa using h),xA];simp
def jr(f n:Nat):List Nat:=(WJ n).map λk=>97 + (f + 5 * k) % 26
theorem TN(f n:Nat)(hn:n<=26):(jr f n).Nodup:=by
 unfold jr;rw[List.nodup_iff_pairwise_ne,List.pairwise_map];refine(List.pairwise_lt_range (n:=n)).imp_of_mem ?_;intro a b ha hb mE e;simp at ha hb;omega
def rb(pd:D)(m h w n f:Nat)(s7:S)(wy:Nat)(blocks:List D)(a b c:Option S):Dl :=
 [some (.own pd),some (.pure (.int m)),some (.pure (.int h)),some (.pure (.int w)),some (.pure (.int (1 + (n:Int)))),some (.pure (.int f)),some (.pure (.str fo)),some s7,some (.pure (.int wy)),some (.own (.lst blocks)),a,b,c,none,none]
def tD(ts:List Nat):D:=.lst (ts.map λn=>.str [n])
def sT(ts:List Nat)(s:S):Prop:=s = .own (tD ts)\/s = .pure (tD ts)
theorem TQ(dB:ts.length<=64)(hw:w<=4)(jt:eK pd)(h7:sT ts s7)(blocks:List D)(place:Nat)(bE:place < ts.length)(block:List D)(row:Nat) :
  ∃ (x:Tx) (gy:D) (gz:S),cb [14] (ae [0] 14) bq (ax iQ [.io 0,.val (aa 7),.val (aa 10),.val (aa 8)]) (cm 0 w) (rb pd m h w n f s7 wy blocks (some (.pure (.int place))) (some (.own (.lst block))) (some (.pure (.int row)))) []
   = .ok (x.map λn=>.str [n]) (rb gy m h w n f gz wy blocks (some (.pure (.int place))) (some (.own (.lst block))) (some (.pure (.int row))))/\x.length=w/\(∀ n ∈ x,n ∈ ts)/\eK gy/\sT ts gz:=by
 obtain⟨xs,δ',e,⟨gy,gz,hpd',h7',rfl⟩,hn,hf⟩:=xx (cs:=[14]) (g:=ae [0] 14) (t:=bq) (el:=ax iQ [.io 0,.val (aa 7),.val (aa 10),.val (aa 8)]) (λδ=>∃ pd s7,eK pd/\sT ts s7/\δ=rb pd m h w n f s7 wy blocks (some (.pure (.int place))) (some (.own (.lst block))) (some (.pure (.int row))))
  (λ_ x=>∃ n,n ∈ ts/\x = .str [n]) (cm 0 w) _ [] ⟨pd,s7,jt,h7,rfl⟩ (by rw[dX]; simp; omega) (λd hd δ ⟨pd,s7,jt,h7,e⟩=>by
   subst e;obtain⟨i,hi,rfl⟩:=Fg hd;obtain⟨k,d',e,hk,p⟩:=TK jt ts place wy bE dB;have e':iQ [.own pd,.pure (tD ts),.pure (.int place),.pure (.int wy)]=some (.pure (.str [k]),[.own d',.pure (tD ts),.pure (.int place),.pure (.int wy)]):=e;refine⟨_,_,.pure (.str [k]),(rb d' m h w n f (.pure (tD ts)) wy blocks (some (.pure (.int place))) (some (.own (.lst block))) (some (.pure (.int row)))).set 14 (some (.pure (.int i))),rfl,rfl,?_,⟨d',_,p,.inr rfl,rfl⟩,⟨_,hk,rfl⟩⟩;rcases h7 with rfl | rfl
   ·simp[rb,ax,bf,bN,bu,bL,aa,bw,e',aS]
   ·simp[rb,ax,bf,bN,bu,bL,aa,bw,e',aS])
 obtain⟨x,rfl,hx⟩:=Fn (P:=λn=>n ∈ ts) (P7 hn hf λd x _ h=>h);exact⟨x,gy,gz,by simpa using e,by simpa using hn,hx,hpd',h7'⟩
theorem TR(dB:ts.length<=64)(hw:w<=4)(hh:h<=4)(jt:eK pd)(h7:sT ts s7)(blocks:List D)(place:Nat)(bE:place < ts.length)(rs:Option S) :
  ∃ (fl:List Tx) (gy:D) (gz:S) (rC:Option S),forL (ae [0] 12) (dG 11 (a_ (cR []) (ao (cf [14] (dw (aa 3)) (ae [0] 14) bq (ax iQ [.io 0,.val (aa 7),.val (aa 10),.val (aa 8)]))))) (cm 0 h) (rb pd m h w n f s7 wy blocks (some (.pure (.int place))) (some (.own (.lst []))) rs)
   = .ok .next (rb gy m h w n f gz wy blocks (some (.pure (.int place))) (some (.own (.lst (fl.map .str)))) rC)/\fl.length=h/\(∀ r ∈ fl,r.length=w/\∀ n ∈ r,n ∈ ts)/\eK gy/\sT ts gz:=by
 obtain⟨δ',e3,gy,gz,fl,rC,hpd',h7',iZ,g8,rfl⟩:=iN (g:=ae [0] 12) (b:=dG 11 (a_ (cR []) (ao (cf [14] (dw (aa 3)) (ae [0] 14) bq (ax iQ [.io 0,.val (aa 7),.val (aa 10),.val (aa 8)]))))) (λk δ=>∃ (pd:D) (s7:S) (fl:List Tx) (rs:Option S),eK pd/\sT ts s7/\fl.length=k/\(∀ r ∈ fl,r.length=w/\∀ n ∈ r,n ∈ ts)/\δ=rb pd m h w n f s7 wy blocks (some (.pure (.int place))) (some (.own (.lst (fl.map .str)))) rs)
  (cm 0 h) 0 _ ⟨pd,s7,[],rs,jt,h7,rfl,by simp,rfl⟩ (λi d δ hd ⟨pd,s7,fl,rs,jt,h7,iZ,g8,e⟩=>by
   subst e;obtain⟨hi,rfl⟩:=uf hd;obtain⟨x,gy,gz,e,hx,hxt,hpd',h7'⟩:=TQ (m:=m) (h:=h) (n:=n) (f:=f) (wy:=wy) dB hw jt h7 blocks place bE (fl.map .str) i;have hz:fl.length < Wb:=by rw[dX]; omega
   have ej:=P2 x (by omega);refine⟨_,rb gy m h w n f gz wy blocks (some (.pure (.int place))) (some (.own (.lst ((fl ++ [x]).map .str)))) (some (.pure (.int i))),rfl,?_,⟨gy,gz,fl ++ [x],_,hpd',h7',by simp[iZ],?_,rfl⟩⟩
   ·unfold rb at e ⊢;simp[dG,h_,aa,kG w (by omega),bu,bB];rw[e];simp[ej,cP,putL,hz]
   ·intro r hr;rcases QX.mp hr with hr | hr
    ·exact g8 r hr
    ·simp at hr; subst hr; exact⟨hx,hxt⟩)
 exact⟨fl,gy,gz,rC,e3,by simpa using iZ,g8,hpd',h7'⟩
theorem TU(hp:eK d)(m:Nat)(TV:0 < m)(EN:m<=26):∃ (h w:Nat) (bs:List (Nat×List Tx)) (d':D),
  lW [.own d,.pure (.int m)]=some (.pure (az h w bs),[.own d',.pure (.int m)])/\cu h w bs/\bs.length<=m/\eK d':=by
 obtain⟨h,w,d1,e1,h0,h1,w0,w1,hw,p1⟩:=TJ hp;obtain⟨r,d2,e2,l2,p2⟩:=uF p1 m TV (by omega);obtain⟨f,d3,e3,l3,p3⟩:=gO p2 26 26 rfl (by decide) (by decide);obtain⟨wy,d4,e4,l4,p4⟩:=gO p3 5 5 rfl (by decide) (by decide);-- the tiles
 have ec:=PZ (cs:=[13]) (g:=ae [0] 13) (t:=bq) (el:=aj aB 6 (ao (aY fU (aj bz 5 (ao (aY cI (eD (.int 5)) (ah 13)))) (ao (eD (.int 26)))))) (λd=>match d with | .int k=>.str [97 + (f + 5 * k.toNat) % 26] | _=>.aN)
  [some (.own d3),some (.pure (.int m)),some (.pure (.int h)),some (.pure (.int w)),some (.pure (.int (1 + (r:Int)))),some (.pure (.int f)),some (.pure (.str fo)),none,none,none,none,none,none,none,none] (cm 0 (1 + r)) [] (by rw[dX]; simp; omega) (λd hd=>by
   obtain⟨i,hi,rfl⟩:=Fg hd;refine⟨_,_,.pure (.str [97 + (f + 5 * i) % 26]),[some (.own d3),some (.pure (.int m)),some (.pure (.int h)),some (.pure (.int w)),some (.pure (.int (1 + (r:Int)))),some (.pure (.int f)),some (.pure (.str fo)),none,none,none,none,none,none,some (.pure (.int i)),none],rfl,rfl,?_,rfl,rfl⟩;have hk:(f + 5 * i) % 26 < 26:=Nat.mod_lt _ (by decide);have hx:=P4 fo ((f + 5 * i) % 26) hk (by decide);rw[TL _ hk] at hx;have hc:((f:Int) + 5 * (i:Int)) % 26=(((f + 5 * i) % 26:Nat):Int):=by omega
   have hmul:cI (.int 5) (.int i)=some (.pure (.int (5 * (i:Int)))):=by
    unfold cI pY fw;have:jJ 5 i=true:=by unfold jJ; simp
    simp only[this,if_true]
   have TX:fU (.int ((f:Int) + 5 * (i:Int))) (.int 26)=some (.pure (.int (((f + 5 * i) % 26:Nat):Int))):=by
    rw[<- hc]; rfl
   generalize fo=lt at hx ⊢;simp only[aj,bI,ah,Fd,PU,xt,ij,Fe,List.set_cons_succ,List.set_cons_zero,List.getElem?_cons_succ,Jl,Fb,hmul,bz,TX,hx])
 have TY:List.map (λ(d:D)=>match d with | .int k=>D.str [97 + (f + 5 * k.toNat) % 26] | _=>.aN) (cm 0 (1 + r))=(jr f (1 + r)).map λn=>.str [n]:=by
  simp[cm,jr]
 rw[TY] at ec;simp only[Q1] at ec;have Gv:(jr f (1 + r)).length=1 + r:=by simp[jr]
 have es:=TM (jr f (1 + r)) (by rw[Gv]; omega);have dB:(fj (jr f (1 + r))).length=1 + r:=by rw[xC,Gv]
 have bH:=xD (TN f (1 + r) (by omega));have hle:∀ t ∈ fj (jr f (1 + r)),97<=t/\t<=122:=λt ht=>by
  rw[ug] at ht;simp[jr] at ht;obtain⟨k,_,rfl⟩:=ht;omega
 generalize fj (jr f (1 + r))=ts at es dB bH hle;-- the blocks
 obtain⟨δ',e5,pd,s7,bs,a,b,c,jt,h7,hbl,hbt,g8,rfl⟩:=iN (g:=ae [0] 10) (b:=(au (ar (eF bU) (ae [0] 11)) (au (bY (dw (aa 2)) (ae [0] 12) (dG 11 (a_ (cR []) (ao (cf [14] (dw (aa 3)) (ae [0] 14) bq (ax iQ [.io 0,.val (aa 7),.val (aa 10),.val (aa 8)])))))) (dG 9 (dh (aI (aj aB 7 (ah 10)) (aI (a_ hU (ah 11)) bU)))))))
  (λk δ=>∃ (pd:D) (s7:S) (bs:List (Nat×List Tx)) (a b c:Option S),eK pd/\sT ts s7/\bs.length=k/\bs.map (·.1)=ts.take k/\(∀ b ∈ bs,b.2.length=h/\∀ r ∈ b.2,r.length=w/\∀ n ∈ r,n ∈ ts)/\δ=rb pd m h w r f s7 wy (bs.map cQ) a b c)
  (cm 0 (1 + r)) 0 (rb d4 m h w r f (.own (tD ts)) wy [] none none none) ⟨d4,_,[],none,none,none,p4,.inl rfl,rfl,rfl,by simp,rfl⟩ (λi d δ hd ⟨pd,s7,bs,a,b,c,jt,h7,hbl,hbt,g8,e⟩=>by
   subst e;obtain⟨hi,rfl⟩:=uf hd;rw[WN] at hbl hbt;obtain⟨fl,gy,gz,rC,e,iZ,hflt,hpd',h7'⟩:=TR (m:=m) (n:=r) (f:=f) (wy:=wy) (ts:=ts) (by omega) w1 h1 jt h7 (bs.map cQ) i (by omega) c;have hz:bs.length < Wb:=by rw[dX]; omega
   have hx:=uG ts i (by omega);refine⟨_,rb gy m h w r f gz wy ((bs ++ [(ts.getD i 0,fl)]).map cQ) (some (.pure (.int i))) (some (.own (.lst (fl.map .str)))) rC,rfl,?_,⟨gy,gz,bs ++ [(ts.getD i 0,fl)],_,_,_,hpd',h7',by simp[hbl],?_,?_,rfl⟩⟩
   ·unfold rb at e ⊢;simp[ar,aa,kG h (by omega)];rw[e];rcases h7' with rfl | rfl
    ·simp[dG,h_,aj,bI,ah,tD,hx,hU,putL,hz,cQ]
    ·simp[dG,h_,aj,bI,ah,tD,hx,hU,putL,hz,cQ]
   ·rw[WN,Jt,hbt,J0];simp[show i < ts.length by omega]
   ·intro b hb;rcases QX.mp hb with hb | hb
    ·exact g8 b hb
    ·simp at hb; subst hb; exact⟨iZ,hflt⟩)
 have V2:bs.length=1 + r:=by simpa using hbl
 have Ap:bs.map (·.1)=ts:=by
  rw[hbt,List.take_of_length_le];simp[dB]
 refine⟨h,w,bs,pd,?_,⟨h0,h1,w0,w1,hw,by omega,by omega,by rw[Ap]; exact bH,λb hb=>hle _ (by rw[<- Ap]; exact Qo hb),λb hb=>by rw[Ap]; exact g8 b hb⟩,by omega,jt⟩;unfold lW cz yn fZ;unfold fo at ec;simp[bW,bC,ar,ax,bf,bN,bu,bL,bw,e1,aS,bM,aM,bQ,aa,e2,bz,e3,Fo r (by omega),bB];rw[ec];simp[cP,es,e4,aS,aa,Fo r (by omega)];unfold rb fo tD at e5;rw[e5];simp[ah,hU,cp,bF,aa]
theorem gt_int(i j:Int):k_ (.int i) (.int j)=some (.pure (.bl (decide (j < i)))):=rfl
theorem Gw(i j:Int):bP (.int i) (.int j)=some (.pure (.bl (i == j))):=rfl
theorem add_int(i j:Int):bz (.int i) (.int j)=some (.pure (.int (i + j))):=rfl
theorem ju(h w:Nat)(bs:List (Nat×List Tx)):aB (az h w bs) (.int 0)=some (.pure (.int h))/\aB (az h w bs) (.int 1)=some (.pure (.int w))/\aB (az h w bs) (.int 2)=some (.pure (.tup (bs.map cQ))):=by
 refine⟨?_,?_,?_⟩
 ·simp[aB,ud]
 ·simp[aB,xw]
 ·simp[aB,xu]
theorem Gx(Aq:A->D)(mk:B->J->Dl)(f:B->A->B)(P:B->Prop)(Q:A->Prop)(hf:∀ x a,P x->Q a->P (f x a))(step:∀ x j a,P x->Q a->∃ δ1 j',g (.pure (Aq a)) (mk x j)=some δ1/\b δ1 = .ok .next (mk (f x a) j')) :
  ∀ (as:List A) (x:B) (j:J),P x->(∀ a ∈ as,Q a)->∃ j',forL g b (as.map Aq) (mk x j) = .ok .next (mk (as.foldl f x) j')/\P (as.foldl f x)
 | [],x,j,hp,_=>⟨j,rfl,hp⟩
 | a :: r,x,j,hp,hq=>by
  obtain⟨δ1,j',e1,e2⟩:=step x j a hp (hq a Wf);obtain⟨j'',e3,h3⟩:=Gx Aq mk f P Q hf step r (f x a) j' (hf x a hp (hq a Wf)) λb hb=>hq b (W9 _ hb)
  refine⟨j'',?_,h3⟩;rw[Wo];unfold forL;rw[e1];simp only[e2,ij,e3];rfl
theorem j7(np:List Nat)(n:Nat)(b:DS)(ss:List S):cz np n b ss=if bW np 0 ss then(match b (bC n ss) with
 | .ok fl δ=>(cp fl).bind λr=>(bF 0 ss δ).map λaE=>(r,aE)
 | _=>none) else none:=rfl
def dA(bs:List (Nat×List Tx)):D:=.ay (bs.map λb=>(Sum.inr [b.1],aW b.2))
theorem TZ(n:Nat):cm 0 n=(WJ n).map λk:Nat=>D.int (k:Int):=by simp[cm]
theorem Gy:∀ (kps acc:List (aU×D)),((acc ++ kps).map (·.1)).Nodup->mR kps acc=acc ++ kps
 | [],acc,_=>by simp[mR]
 | p :: r,acc,h=>by
  have hn:(acc.any λkv=>decide (kv.1=p.1))=false:=by
   rw[JW];intro kv hkv;simp only[decide_eq_true_eq];intro e;rw[Jt,List.nodup_append] at h;exact h.2.2 kv.1 (Qo hkv) p.1 (Qo Wf) e
  have hp:putD acc p.1 p.2=acc ++ [p]:=by
   unfold putD;rw[hn];simp
  show mR r (putD acc p.1 p.2)=_;rw[hp,Gy r (acc ++ [p]) (by simpa using h)];simp
theorem Gz:∀ bs:List (Nat×List Tx),jS (bs.map cQ)=some (bs.map λb=>(Sum.inr [b.1],aW b.2))
 | []=>rfl
 | b :: r=>by
  have:=Gz r;simp only[Wo];simp[jS,dq,this]
theorem GB(R:cu h w bs):mT (.tup (bs.map cQ))=some (.own (dA bs)):=by
 unfold mT;simp only[Gz,WE,Wy];have hz:Wb=16777216:=rfl;rw[if_pos (by have:=R.n1; omega),Gy]
 ·rfl
 ·simp only[Q1,WB];rw[List.nodup_iff_pairwise_ne,List.pairwise_map];have:=R.up;rw[List.pairwise_map] at this;exact this.imp λ{a b} mE=>by simp; omega
theorem GF(bs:List (Nat×List Tx))(n:Nat):dj (bs.map λb=>((Sum.inr [b.1]:aU),aW b.2)) (.inr [n])=(bs.find? λb=>decide (b.1=n)).map λb=>aW b.2:=by
 unfold dj;rw[List.find?_map];simp[Function.comp_def]
theorem T5(h:n ∈ bs.map (·.1)):dI (dA bs) (.str [n])=some (.pure (aW (cF bs n))):=by
 obtain⟨b,hb,_,e,e2⟩:=kK h;show((dq (.str [n])).bind λk=>(dj (bs.map λb=>((Sum.inr [b.1]:aU),aW b.2)) k).map S.pure)=_;simp only[dq,WE,GF,e,WA,e2]
theorem T6(h:n ∈ bs.map (·.1)):gv true (.str [n]) (dA bs)=some (.pure (.bl false)):=by
 obtain⟨b,hb,_,e,e2⟩:=kK h;show((dq (.str [n])).map λk=>S.pure (.bl (if true then !(dj (bs.map λb=>((Sum.inr [b.1]:aU),aW b.2)) k).isSome else(dj (bs.map λb=>((Sum.inr [b.1]:aU),aW b.2)) k).isSome)))=_;simp only[dq,WA,GF,e,WA];rfl
theorem Ar(xs:List Tx)(m:Nat)(h:∀ x ∈ xs,x.length<=m):hZ xs<=xs.length * m:=by
 induction xs with
 | nil=>simp[hZ]
 | cons x r ih =>
  have h1:=h x Wf;have h2:=ih λy hy=>h y (W9 _ hy)
  have e:hZ (x :: r)=x.length + hZ r:=by simp[hZ]
  rw[e,WD,Nat.succ_mul];omega
theorem T7(xs:List Tx)(h:hZ xs<=16777216):cR [] (.lst (xs.map .str))=some (.pure (.str xs.flatten)):=by
 unfold cR;simp only[qT,ue];rw[if_pos (by simpa using h)]
theorem mul_int(i j:Int)(h0:0<=j)(h1:j<=1000):cI (.int i) (.int j)=some (.pure (.int (i * j))):=by
 unfold cI pY fw;have:jJ i j=true:=by unfold jJ; simp; omega
 simp only[this,if_true]
theorem GH(h:Nat):∀ (as:List Nat) (x:Nat),as.foldl (λx _=>x * h) x=x * h ^ as.length
 | [],x=>by simp
 | a :: r,x=>by rw[QO,GH h r,WD,Nat.pow_succ,Nat.mul_assoc,U7 h]
theorem GI(e:b (bC n [.pure x,.pure y]) = .ok (.ret v) δ1):cz [] n b [.pure x,.pure y]=some (v,[.pure x,.pure y]):=by
 rw[j7,e]; rfl
theorem As(e:b (bC n [.pure x,.pure y,.pure z]) = .ok (.ret v) δ1):cz [] n b [.pure x,.pure y,.pure z]=some (v,[.pure x,.pure y,.pure z]):=by
 rw[j7,e]; rfl
theorem Au(e:b (bC n [.pure x]) = .ok (.ret v) δ1):cz [] n b [.pure x]=some (v,[.pure x]):=by
 rw[j7,e]; rfl
theorem eL(h:a δ = .ok .next δ1):au a b δ=b δ1:=by unfold au; rw[h]; rfl
theorem T8(h:a δ = .ok (.ret v) δ1):au a b δ = .ok (.ret v) δ1:=by unfold au; rw[h]; rfl
theorem rD(h:it δ = .ok ds δ1):bY it g b δ=forL g b ds δ1:=by unfold bY; rw[h]; rfl
theorem uH(np:List Nat)(n:Nat)(b:DS)(ss:List S):jX np n b ss=if bW np 0 ss then(match b (bC n ss) with
 | .ok fl δ=>(cp fl).bind λr=>(bF 0 ss δ).map λaE=>.inl (r,aE)
 | .exc x δ=>(bF 0 ss δ).map λaE=>.inr (x,aE)
 | .stuck=>none) else none:=rfl
@[simp] theorem V3 {α β:Type} (x:Xc) (δ:Dl) (f:α->Dl->Rs β):(Rs.exc x δ:Rs α).bind f = .exc x δ:=id rfl
theorem GJ(ts:List Nat):fz (ts.map λn=>D.str [n])=some (ts.map λn=>[n]):=by
 have:=qT (ts.map λn=>[n]);simpa[WB,Function.comp_def] using this
theorem T9(R:cu h w bs):oX [.pure (az h w bs)]=some (.own (tD (bs.map (·.1))),[.pure (az h w bs)]):=by
 have n1:=R.n1;obtain⟨_,_,x2⟩:=ju h w bs;have e:=j4 (cs:=[1,2]) (g:=bM 2 (aM (ae [] 1) (aM (ae [] 2) bQ))) (t:=bq) (el:=aa 1) cQ (λb=>.str [b.1]) [some (.pure (az h w bs)),none,none] bs [] (by rw[dX]; simp; omega) (λb hb=>by
  refine⟨[some (.pure (az h w bs)),some (.pure (.str [b.1])),some (.pure (aW b.2))],_,.pure (.str [b.1]),[some (.pure (az h w bs)),some (.pure (.str [b.1])),some (.pure (aW b.2))],rfl,rfl,?_,rfl,rfl⟩;simp[aa])
 simp only[Q1] at e;rw[oX];refine Au (δ1:=[some (.pure (az h w bs)),none,none]) ?_;rw[yw];have et:tD (bs.map (·.1)) = .lst (bs.map λb=>D.str [b.1]):=by simp[tD,Function.comp_def]
 rw[et];show bA (cf [1,2] (bR (aj aB 0 (ao (eD (.int 2))))) (bM 2 (aM (ae [] 1) (aM (ae [] 2) bQ))) bq (aa 1)) [some (.pure (az h w bs)),none,none]=_;generalize az h w bs=U at *;simp[fF,aj,bI,ah,x2,bu,bB,e,cP]
section
variable {ce:Tx->Nat}
theorem T_(hz:z ∈ ys):ys.find? (λx=>ce x == ce z)=some z:=by
 have e:z=[78,111,84,105,108,101]:=by simpa[ys] using hz
 subst e;simp[ys]
theorem Ua(hz:z ∈ ys)(fl:D)(tab:Tx->Bool)(rest:Dl):gb ce ys tab (ah 0) (some (.pure (.exc (ce z) fl)) :: rest) = .ok (.pure (.bl (tab z))) (some (.pure (.exc (ce z) fl)) :: rest):=by
 have e:z=[78,111,84,105,108,101]:=by simpa[ys] using hz
 subst e;simp[gb,ah,ys]
theorem Ub(fl:D):oZ ce [.pure (.exc (ce [78,111,84,105,108,101]) fl)]=some (.pure (.str [116,105,108,101]),[.pure (.exc (ce [78,111,84,105,108,101]) fl)]):=by
 have i0:=Ua (ce:=ce) (z:=[78,111,84,105,108,101]) (by simp[ys]) fl;have c1:oH (.lst [.bl false,.bl false,.bl false,.bl false,.bl false,.bl true,.bl false,.bl false,.bl false])=some (.pure (.int 1)):=by rfl
 have c2:oI (.lst [.bl false,.bl false,.bl false,.bl false,.bl false,.bl true,.bl false,.bl false,.bl false])=some (.pure (.int 5)):=by rfl
 rw[oZ,j7,yU];generalize ce [78,111,84,105,108,101]=n at *;simp[bW,bC,ar,i0,aj,bI,ah,bz,dX,dG,h_,putL,aO,c1,c2,jK,flat,aC,aB,cS,dQ,cp,bF]
theorem Uc(n:Int):il [.pure (.int n)]=some (.pure (.bl true),[.pure (.int n)]):=rfl
end
theorem Ud(h:a δ = .exc v δ1):au a b δ = .exc v δ1:=by unfold au; rw[h]; rfl
theorem Ue(R:cu h w bs)(hb:bs[i]? = some b):putD ((bs.take i).map λb=>((Sum.inr [b.1]:aU),aW b.2)) (.inr [b.1]) (aW b.2)=(bs.take (i + 1)).map λb=>((Sum.inr [b.1]:aU),aW b.2):=by
 have hi:=(W6.mp hb).1;have hn:(((bs.take i).map λb=>((Sum.inr [b.1]:aU),aW b.2)).any λkv=>decide (kv.1 = .inr [b.1]))=false:=by
  rw[JW];intro kv hkv;obtain⟨c,hc,rfl⟩:=WV.mp hkv;simp only[decide_eq_true_eq];intro e;simp at e;obtain⟨j,hj⟩:=Qu hc;have rE:j < i:=by have:=(W6.mp hj).1; simp at this; omega
  rw[Jg rE] at hj;have:=List.pairwise_iff_getElem.mp R.up j i (by simp; omega) (by simpa using hi) rE;have e1:=(W6.mp hj).2;have e2:=(W6.mp hb).2;simp only[List.getElem_map,e1,e2] at this;omega
 unfold putD;rw[hn,J0,hb];simp
theorem fill(R:cu h w bs)(df:D):∃ o3 o4:Option D,forL (bM 2 (aM (ae [] 3) (aM (ae [] 4) bQ))) (fO 2 (aa 3) (aa 4)) (bs.map cQ) [some (.pure (az h w bs)),some (.pure df),some (.own (.ay [])),none,none,none,none,none]
  = .ok .next [some (.pure (az h w bs)),some (.pure df),some (.own (dA bs)),o3.map .pure,o4.map .pure,none,none,none]:=by
 obtain⟨δ',e,o3,o4,rfl⟩:=iN (g:=(bM 2 (aM (ae [] 3) (aM (ae [] 4) bQ)))) (b:=(fO 2 (aa 3) (aa 4))) (λk δ=>∃ o3 o4:Option D,δ=[some (.pure (az h w bs)),some (.pure df),some (.own (.ay ((bs.take k).map λb=>((Sum.inr [b.1]:aU),aW b.2)))),o3.map .pure,o4.map .pure,none,none,none]) (bs.map cQ) 0 [some (.pure (az h w bs)),some (.pure df),some (.own (.ay [])),none,none,none,none,none] ⟨none,none,by simp⟩ (λi d δ hd ⟨o3,o4,e⟩=>by
  subst e;rw[Ww,WM] at hd;obtain⟨b,hb,rfl⟩:=hd;rw[WN];have hp:=Ue R hb;have hz:((bs.take i).map λb=>((Sum.inr [b.1]:aU),aW b.2)).length < Wb:=by
   have:=R.n1;rw[dX]; simp; omega
  refine⟨_,_,rfl,?_,some (.str [b.1]),some (aW b.2),rfl⟩;generalize ((bs.take (i + 1)).map λb=>((Sum.inr [b.1]:aU),aW b.2))=L1 at *;generalize ((bs.take i).map λb=>((Sum.inr [b.1]:aU),aW b.2))=L0 at *;generalize az h w bs=ru at *;generalize aW b.2=fb at *;simp[fO,jT,aa,dq,hz,hp])
 refine⟨o3,o4,?_⟩;rw[e];simp[dA]
theorem Ug(R:cu h w bs)(F:jn bs A C fl)(hA:A<=3000)(hC:C<=3000) :
  cz [] 8 (yG) [.pure (az h w bs),.pure (aW fl)]=some (.pure (aW (lay h bs fl)),[.pure (az h w bs),.pure (aW fl)]):=by
 unfold yG;have h1:=R.h1;have w1:=R.w1;have x0:=(ju h w bs).1;have x2:=(ju h w bs).2.2;-- one new row
 have comp:∀ (o4:Option S) (acc:List Tx) (row:Tx) (l:Nat),row ∈ fl->l < h->cb [3] (ae [] 3) bq (aY aB (aj dI 2 (ah 3)) (ah 7)) (row.map λn=>.str [n]) [some (.pure (az h w bs)),some (.pure (aW fl)),some (.own (dA bs)),none,o4,some (.own (.lst (acc.map .str))),some (.pure (.str row)),some (.pure (.int l))] [] = .ok ((row.map λn=>(cF bs n).getD l []).map .str) [some (.pure (az h w bs)),some (.pure (aW fl)),some (.own (dA bs)),none,o4,some (.own (.lst (acc.map .str))),some (.pure (.str row)),some (.pure (.int l))]:=λo4 acc row l j8 hl=>by
  have e:=j4 (cs:=[3]) (g:=ae [] 3) (t:=bq) (el:=(aY aB (aj dI 2 (ah 3)) (ah 7))) (λn:Nat=>D.str [n]) (λn=>.str ((cF bs n).getD l [])) [some (.pure (az h w bs)),some (.pure (aW fl)),some (.own (dA bs)),none,o4,some (.own (.lst (acc.map .str))),some (.pure (.str row)),some (.pure (.int l))] row [] (by rw[dX,F.cols row j8]; simp; omega) (λn hn=>by
   have hm:=F.tl row j8 n hn;have y1:=T5 hm;have y2:=(Ag R hm hl).2.2;refine⟨_,_,.pure (.str ((cF bs n).getD l [])),[some (.pure (az h w bs)),some (.pure (aW fl)),some (.own (dA bs)),some (.pure (.str [n])),o4,some (.own (.lst (acc.map .str))),some (.pure (.str row)),some (.pure (.int l))],rfl,rfl,?_,rfl,rfl⟩;generalize D.str ((cF bs n).getD l [])=dr at *;generalize aW (cF bs n)=db at *;generalize aW fl=df at *;generalize dA bs=dd at *;generalize az h w bs=ru at *;generalize acc.map D.str=ad at *;simp[aj,bI,ah,y1,y2])
  rw[e];simp[Function.comp_def]
 -- the rows of one row
 have inner:∀ (o3:Option D) (o4:Option S) (acc:List Tx) (row:Tx) (o:Option S),row ∈ fl->acc.length<=20000->∃ o',forL (ae [] 7) (dG 5 (a_ (cR []) (ao (cf [3] (bR (aa 6)) (ae [] 3) bq (aY aB (aj dI 2 (ah 3)) (ah 7)))))) (cm 0 h) [some (.pure (az h w bs)),some (.pure (aW fl)),some (.own (dA bs)),o3.map .pure,o4,some (.own (.lst (acc.map .str))),some (.pure (.str row)),o]
   = .ok .next [some (.pure (az h w bs)),some (.pure (aW fl)),some (.own (dA bs)),o3.map .pure,o4,some (.own (.lst ((acc ++ layR h bs row).map .str))),some (.pure (.str row)),o']:=λo3 o4 acc row o j8 xO=>by
  obtain⟨δ',e,o',rfl⟩:=iN (g:=ae [] 7) (b:=(dG 5 (a_ (cR []) (ao (cf [3] (bR (aa 6)) (ae [] 3) bq (aY aB (aj dI 2 (ah 3)) (ah 7))))))) (λk δ=>∃ o,δ=[some (.pure (az h w bs)),some (.pure (aW fl)),some (.own (dA bs)),o3.map .pure,o4,some (.own (.lst ((acc ++ layR k bs row).map .str))),some (.pure (.str row)),o]) (cm 0 h) 0 [some (.pure (az h w bs)),some (.pure (aW fl)),some (.own (dA bs)),o3.map .pure,o4,some (.own (.lst (acc.map .str))),some (.pure (.str row)),o] ⟨o,by simp[layR]⟩ (λi d δ hd ⟨o,e⟩=>by
   subst e;obtain⟨hi,rfl⟩:=uf hd;rw[WN];have hc:=comp o4 (acc ++ layR i bs row) row i j8 hi;have hj:cR [] (.lst ((row.map λn=>(cF bs n).getD i []).map .str))=some (.pure (.str (iq bs i row))):=T7 _ (by
    have hs:=Ar (row.map λn=>(cF bs n).getD i []) w (λx hx=>by
     obtain⟨n,hn,rfl⟩:=WV.mp hx;rw[(Ag R (F.tl row j8 n hn) hi).1];exact Wg _)
    rw[Wy,F.cols row j8] at hs;have:C * w<=3000 * 4:=JV hC w1;omega)
   have hz:((acc ++ layR i bs row).map D.str).length < Wb:=by
    rw[dX];simp[layR];omega
   have hE:(acc ++ layR (i + 1) bs row).map D.str=(acc ++ layR i bs row).map D.str ++ [.str (iq bs i row)]:=by
    simp[layR,U8]
   refine⟨_,[some (.pure (az h w bs)),some (.pure (aW fl)),some (.own (dA bs)),o3.map .pure,o4,some (.own (.lst ((acc ++ layR (i + 1) bs row).map .str))),some (.pure (.str row)),some (.pure (.int i))],rfl,?_,_,rfl⟩;rw[hE];generalize iq bs i row=nr at *;generalize (row.map λn=>(cF bs n).getD i []).map D.str=XS at *;generalize (acc ++ layR i bs row).map D.str=AD at *;generalize aW fl=df at *;generalize dA bs=dd at *;generalize az h w bs=ru at *
   cases o3 <;> (simp[dG,h_,fF,aa,bu,bB]; rw[hc]; simp[cP,hj,putL,hz]))
  rw[WN,xy] at e;exact⟨o',e⟩
 obtain⟨o3,o4',ef⟩:=fill R (aW fl);generalize o4'.map S.pure=o4 at ef;have outer:∃ o6 o7,forL (ae [] 6) (bY (dw (aj aB 0 (ao (eD (.int 0))))) (ae [] 7) (dG 5 (a_ (cR []) (ao (cf [3] (bR (aa 6)) (ae [] 3) bq (aY aB (aj dI 2 (ah 3)) (ah 7))))))) (fl.map .str) [some (.pure (az h w bs)),some (.pure (aW fl)),some (.own (dA bs)),o3.map .pure,o4,some (.own (.lst [])),none,none]
   = .ok .next [some (.pure (az h w bs)),some (.pure (aW fl)),some (.own (dA bs)),o3.map .pure,o4,some (.own (.lst ((lay h bs fl).map .str))),o6,o7]:=by
  obtain⟨δ',e,o6,o7,rfl⟩:=iN (g:=ae [] 6) (b:=(bY (dw (aj aB 0 (ao (eD (.int 0))))) (ae [] 7) (dG 5 (a_ (cR []) (ao (cf [3] (bR (aa 6)) (ae [] 3) bq (aY aB (aj dI 2 (ah 3)) (ah 7)))))))) (λk δ=>∃ o6 o7,δ=[some (.pure (az h w bs)),some (.pure (aW fl)),some (.own (dA bs)),o3.map .pure,o4,some (.own (.lst ((lay h bs (fl.take k)).map .str))),o6,o7]) (fl.map D.str) 0 [some (.pure (az h w bs)),some (.pure (aW fl)),some (.own (dA bs)),o3.map .pure,o4,some (.own (.lst [])),none,none] ⟨none,none,by simp[lay]⟩ (λi d δ hd ⟨o6,o7,e⟩=>by
   subst e;rw[Ww,WM] at hd;obtain⟨row,j8,rfl⟩:=hd;rw[WN];have hi:i < fl.length:=(W6.mp j8).1;have hlen:(lay h bs (fl.take i)).length<=20000:=by
    have F':jn bs (fl.take i).length C (fl.take i):=⟨rfl,λr hr=>F.cols r (List.mem_of_mem_take hr),λr hr=>F.tl r (List.mem_of_mem_take hr)⟩
    have:=(Gj R F').rows;rw[this];have h2:(fl.take i).length<=3000:=by have:=F.rows; rw[JA]; omega
    have:(fl.take i).length * h<=3000 * 4:=JV h2 h1;omega
   obtain⟨o',e⟩:=inner o3 o4 (lay h bs (fl.take i)) row o7 (WF j8) hlen;have hE:lay h bs (fl.take (i + 1))=lay h bs (fl.take i) ++ layR h bs row:=by
    rw[J0,j8];simp[lay]
   refine⟨_,[some (.pure (az h w bs)),some (.pure (aW fl)),some (.own (dA bs)),o3.map .pure,o4,some (.own (.lst ((lay h bs (fl.take (i + 1))).map .str))),some (.pure (.str row)),o'],rfl,?_,_,_,rfl⟩;rw[hE];generalize (lay h bs (fl.take i) ++ layR h bs row).map D.str=AD at *;generalize (lay h bs (fl.take i)).map D.str=AE at *;generalize aW fl=df at *;generalize dA bs=dd at *;generalize az h w bs=ru at *;simp only[PX,Ff,aj,bI,ah,Fd,xt,List.set_cons_succ,List.set_cons_zero,List.getElem?_cons_succ,Jl,ij,Fb,Fe,x0,kG h (by omega:h<=1000000)];exact e)
  refine⟨o6,o7,?_⟩;rw[e];simp
 obtain⟨o6,o7,e⟩:=outer;rw[j7];generalize hAD:(lay h bs fl).map D.str=AD at *;generalize dA bs=dd at *;generalize hru:az h w bs=ru at *;simp[bW,bC,ar,fF,aa,jd,aj,bI,ah,x2];rw[ef];simp only[ij];simp[fF,aa];rw[e];simp[ah,hU,cp,bF];exact hAD.symm
theorem Uh(R:cu h w bs)(F:jn bs A C fl)(hA:A<=3000)(hC:C<=3000):j6 [.pure (az h w bs),.pure (aW fl)]=some (.pure (aW (lay h bs fl)),[.pure (az h w bs),.pure (aW fl)]):=by
 rw[j6,yH];exact Ug R F hA hC
theorem GK(xs:List Tx)(h:hZ xs<=16777216):cR [] (aW xs)=some (.pure (.str xs.flatten)):=by
 unfold cR;simp only[qT,ue];rw[if_pos (by simpa using h)]
theorem Ui(b n:Nat)(h1:b<=1000)(t1:n<=1000):nH [.pure (.int b),.pure (.int n)]=some (.pure (.int ((b ^ n:Nat):Int)),[.pure (.int b),.pure (.int n)]):=by
 obtain⟨j',e,_⟩:=Gx (g:=ae [] 3) (b:=ar (aj cI 2 (ah 0)) (ae [] 2)) (λk:Nat=>D.int (k:Int)) (λ(x:Nat) (j:Option S)=>[some (.pure (.int b)),some (.pure (.int n)),some (.pure (.int (x:Int))),j]) (λx _=>x * b) (λ_=>True) (λ_=>True) (λ_ _ _ _=>trivial) (λx j a _ _=>⟨_,some (.pure (.int a)),rfl,by
  have:=mul_int x b (by omega) (by omega);simp[ar,aj,bI,ah,this]⟩) (WJ n) 1 none trivial (λ_ _=>trivial)
 rw[GH,JZ,<- TZ,Nat.one_mul] at e;rw[nH,j7,yF];generalize ((b ^ n:Nat):Int)=P at *;simp[bW,bC,aa,ar,kG n (by omega)];have e':forL (ae [] 3) (ar (aj cI 2 (ah 0)) (ae [] 2)) (cm 0 n) [some (.pure (.int b)),some (.pure (.int n)),some (.pure (.int 1)),none]=_:=e;rw[e'];simp[aa,cp,bF]
theorem Uj(k t:Nat):cm (k:Int) (t + 1) = .int (k:Int) :: cm ((k + 1:Nat):Int) t:=by
 unfold cm;rw[Jw,Wo,WB];simp only[Function.comp_def,List.cons.injEq,D.int.injEq];refine⟨by simp,Q3 λi _=>?_⟩;simp only[D.int.injEq];push_cast;omega
theorem GO(R:cu h w bs)(F:jn bs A C fl)(T2:D):∀ (t k:Nat) (s8:Option S),(∀ i,i < k + t->A * h ^ i<=3000/\C * w ^ i<=3000) ->
  ∃ s,forL (ae [] 3) (ar (ax j6 [.val (aa 0),.val (aa 1)]) (ae [] 1)) (cm (k:Int) t) [some (.pure (az h w bs)),some (.pure (aW (eT h bs fl k))),some (.pure T2),s8] =
   .ok .next [some (.pure (az h w bs)),some (.pure (aW (eT h bs fl (k + t)))),some (.pure T2),s]
 | 0,k,s8,_=>⟨s8,rfl⟩
 | t + 1,k,s8,hb=>by
  obtain⟨b1,b2⟩:=hb k (by omega);have e:=Uh R (uD R F k) b1 b2;obtain⟨s,e2⟩:=GO R F T2 t (k + 1) (some (.pure (.int k))) (λi hi=>hb i (by omega));refine⟨s,?_⟩;rw[Uj,show k + (t + 1)=k + 1 + t by omega];refine Eq.trans ?_ e2;show(ar (ax j6 [.val (aa 0),.val (aa 1)]) (ae [] 1) [some (.pure (az h w bs)),some (.pure (aW (eT h bs fl k))),some (.pure T2),some (.pure (.int k))]).bind _=_;have st:ar (ax j6 [.val (aa 0),.val (aa 1)]) (ae [] 1) [some (.pure (az h w bs)),some (.pure (aW (eT h bs fl k))),some (.pure T2),some (.pure (.int k))] =
    .ok .next [some (.pure (az h w bs)),some (.pure (aW (eT h bs fl (k + 1)))),some (.pure T2),some (.pure (.int k))]:=by
   show _=Rs.ok Fl.next [some (.pure (az h w bs)),some (.pure (aW (lay h bs (eT h bs fl k)))),some (.pure T2),some (.pure (.int k))];generalize aW (lay h bs (eT h bs fl k))=Y at *;generalize aW (eT h bs fl k)=X at *;generalize az h w bs=V at *;simp[ar,ax,bf,bN,bL,aa,bw,e,aS]
  rw[st];rfl
theorem Uk(R:cu h w bs)(F:jn bs A C fl)(k:Nat)(hk:k<=1000)(hb:∀ i,i < k->A * h ^ i<=3000/\C * w ^ i<=3000) :
  nJ [.pure (az h w bs),.pure (aW fl),.pure (.int k)]=some (.pure (aW (eT h bs fl k)),[.pure (az h w bs),.pure (aW fl),.pure (.int k)]):=by
 obtain⟨s,e⟩:=GO R F (.int k) k 0 none (λi hi=>hb i (by omega));rw[WN] at e;have e':forL (ae [] 3) (ar (ax j6 [.val (aa 0),.val (aa 1)]) (ae [] 1)) (cm 0 k) [some (.pure (az h w bs)),some (.pure (aW fl)),some (.pure (.int k)),none]=_:=e;rw[nJ,j7,yI];generalize aW (eT h bs fl k)=Y at *;generalize aW fl=U at *;generalize az h w bs=V at *;simp[bW,bC,aa,kG k (by omega)];rw[e'];simp[aa,cp,bF]
def res(bs:List (Nat×List Tx))(v:Nat->Nat):List D:=bs.map λb=>D.tup [.str [b.1],.int ((v b.1:Nat):Int)]
theorem Ul(h0:0 < h)(w0:0 < w)(hi:i<=k)(hp:(h * w) ^ k<=3000):h ^ i<=3000/\w ^ i<=3000:=by
 have h1:h ^ i<=(h * w) ^ k:=WK (Nat.pow_le_pow_left (Nat.le_mul_of_pos_right h w0) i) (Nat.pow_le_pow_right (Nat.mul_pos h0 w0) hi);have h2:w ^ i<=(h * w) ^ k:=WK (Nat.pow_le_pow_left (Nat.le_mul_of_pos_left w h0) i) (Nat.pow_le_pow_right (Nat.mul_pos h0 w0) hi);omega
theorem Um{t0 k:Nat}{bs:List (Nat×List Tx)}(hn:bs.length<=26)(U:D)(z:Tx):cb [4] (ae [] 4) bq (dh (aI (aj aB 4 (ao (eD (.int 0)))) (aI (gK (aa 3) (aj aB 4 (ao (eD (.int 0))))) bU))) (bs.map cQ) [some (.pure U),some (.pure (.str [t0])),some (.pure (.int k)),some (.pure (.str z)),none] [] = .ok (bs.map λb=>D.tup [.str [b.1],.int ((z.count b.1:Nat):Int)]) [some (.pure U),some (.pure (.str [t0])),some (.pure (.int k)),some (.pure (.str z)),none]:=by
 have:=j4 (cs:=[4]) (g:=ae [] 4) (t:=bq) (el:=dh (aI (aj aB 4 (ao (eD (.int 0)))) (aI (gK (aa 3) (aj aB 4 (ao (eD (.int 0))))) bU))) cQ (λb=>D.tup [.str [b.1],.int ((z.count b.1:Nat):Int)]) [some (.pure U),some (.pure (.str [t0])),some (.pure (.int k)),some (.pure (.str z)),none] bs [] (by rw[dX]; simp; omega) (λb hb=>by
  have q:aB (cQ b) (.int 0)=some (.pure (.str [b.1])):=by simp[aB,cS,dQ]
  refine⟨_,_,.pure (.tup [.str [b.1],.int ((z.count b.1:Nat):Int)]),[some (.pure U),some (.pure (.str [t0])),some (.pure (.int k)),some (.pure (.str z)),some (.pure (cQ b))],rfl,rfl,?_,rfl,rfl⟩;generalize cQ b=B at *;simp[dh,aI,bU,aj,bI,ah,q,gK,aa,xq,xp])
 rw[this];simp
theorem Uo(GG:DF)(V Y BB:D)(t0 k:Nat)(Z:Tx)(bd RR:List D)(x2:aB V (.int 2)=some (.pure (.tup bd)))(g:GG [.pure V,.pure (.tup [.str [t0]]),.pure (.int k)]=some (.pure Y,[.pure V,.pure (.tup [.str [t0]]),.pure (.int k)]))(hj:cR [] Y=some (.pure (.str Z)))
  (hc:cb [4] (ae [] 4) bq (dh (aI (aj aB 4 (ao (eD (.int 0)))) (aI (gK (aa 3) (aj aB 4 (ao (eD (.int 0))))) bU))) bd [some (.pure V),some (.pure (.str [t0])),some (.pure (.int k)),some (.pure (.str Z)),none] [] = .ok RR [some (.pure V),some (.pure (.str [t0])),some (.pure (.int k)),some (.pure (.str Z)),none]) :
  (au (ar (a_ (cR []) (ao (ax GG [.val (aa 0),.val (dh (aI (aa 1) bU)),.val (aa 2)]))) (ae [] 3)) (bA (cf [4] (bR (aj aB 0 (ao (eD (.int 2))))) (ae [] 4) bq (dh (aI (aj aB 4 (ao (eD (.int 0)))) (aI (gK (aa 3) (aj aB 4 (ao (eD (.int 0))))) bU)))))) [some (.pure V),some (.pure (.str [t0])),some (.pure (.int k)),none,none] = .ok (.ret (.own (.lst RR))) [some (.pure V),some (.pure (.str [t0])),some (.pure (.int k)),some (.pure (.str Z)),none]:=by
 simp[ar,aa,dh,aI,bU,ax,bf,bN,bL,bw,aS,g,hj,fF,aj,bI,ah,x2];simp[bu,bB,hc,cP]
theorem Up(R:cu h w bs)(ht:t0 ∈ bs.map (·.1))(k:Nat)(hk:k<=9)(hp:(h * w) ^ k<=3000) :
  nK [.pure (az h w bs),.pure (.str [t0]),.pure (.int k)]=some (.own (.lst (res bs (vec bs t0 k))),[.pure (az h w bs),.pure (.str [t0]),.pure (.int k)]):=by
 have F0:jn bs 1 1 [[t0]]:=⟨rfl,by simp,by simpa using ht⟩
 have Fk:=uD R F0 k;have g:=Uk R F0 k (by omega) (λi hi=>by
  have:=Ul R.h0 R.w0 (QU hi) hp;rw[Nat.one_mul,Nat.one_mul];exact this)
 have hj:cR [] (aW (eT h bs [[t0]] k))=some (.pure (.str (eT h bs [[t0]] k).flatten)):=GK _ (by
  have hs:=Ar (eT h bs [[t0]] k) (1 * w ^ k) (λx hx=>Nat.le_of_eq (Fk.cols x hx));rw[Fk.rows] at hs;have e:1 * h ^ k * (1 * w ^ k)=(h * w) ^ k:=by rw[Nat.one_mul,Nat.one_mul,Nat.mul_pow]
  rw[e] at hs;exact WK hs (WK hp (by decide)))
 have gA:=Um (t0:=t0) (k:=k) R.n1 (az h w bs) (eT h bs [[t0]] k).flatten;have hv:(bs.map λb=>D.tup [.str [b.1],.int (((eT h bs [[t0]] k).flatten.count b.1:Nat):Int)])=res bs (vec bs t0 k):=Q3 λb _=>by rw[Tz R ht]
 rw[hv] at gA;rw[nK,yL];exact As (Uo nJ (az h w bs) _ .aN t0 k _ _ _ (ju h w bs).2.2 g hj gA)
theorem Uq{ts:List Nat}{ch:Nat}(h:ch ∈ ts):∃ n,(ts.map λn=>[n]).idxOf [ch]=n/\ts[n]? = some ch:=by
 have hm:([ch]:Tx) ∈ ts.map λn=>[n]:=WV.mpr ⟨ch,h,rfl⟩
 have hl:=List.idxOf_lt_length_of_mem hm;refine⟨_,rfl,?_⟩;have e:=List.getElem_idxOf hl;have iV:(ts.map λn=>[n]).idxOf [ch] < ts.length:=by simpa using hl
 rw[List.getElem_map] at e;have e':ts[(ts.map λn=>[n]).idxOf [ch]]=ch:=by simpa using e
 rw[Wk iV,e']
theorem Ur{ts:List Nat}(nd:ts.Nodup){n ch:Nat}(h:ts[n]? = some ch)(F G:Nat->D):(ts.map F).set n (G ch)=ts.map λs=>if s=ch then G s else F s:=by
 apply JY;intro i;by_cases hi:n=i
 ·subst hi;have hl:=(W6.mp h).1;rw[Wc (by simpa using hl),Ww,h];simp
 ·rw[W3 hi,Ww,Ww]
  cases e:ts[i]? with
  | none=>rfl
  | some x =>
   have:x≠ch:=λz=>by
    subst z;obtain⟨h1,e1⟩:=W6.mp h;obtain⟨h2,e2⟩:=W6.mp e;exact hi ((List.getElem_inj nd).mp (e1.trans e2.symm))
   simp[this]
def bO(ts:List Nat)(f:Nat->Nat):List D:=ts.map λs=>.int ((f s:Nat):Int)
theorem GQ{ts:List Nat}(nd:ts.Nodup)(hl:ts.length<=26)(U V:D)(b1:Nat):∀ (tx:Tx) (f:Nat->Nat) (s5 s6:Option D),(∀ n ∈ tx,n ∈ ts) ->
  ∃ pf ph:Option D,kH 3 6 [b1] (ae [2] 5) (ar (j0 1 (aa 5)) (ae [2] 6)) tx (bO ts f) [some (.pure U),some (.own (tD ts)),none,some (.pure (.str [b1])),some (.pure V),s5.map .pure,s6.map .pure,none]
   = .ok (bO ts λs=>f s + tx.count s) [some (.pure U),some (.own (tD ts)),none,some (.pure (.str [b1])),some (.pure V),pf.map .pure,ph.map .pure,none]
 | [],f,s5,s6,_=>⟨s5,s6,by simp[kH]⟩
 | ch :: r,f,s5,s6,h=>by
  obtain⟨n,e1,e2⟩:=Uq (h ch Wf);obtain⟨a,b,ih⟩:=GQ nd hl U V b1 r (λs=>f s + if s=ch then 1 else 0) (some (.str [ch])) (some (.int (n:Int))) λk hk=>h k (W9 _ hk)
  refine⟨a,b,?_⟩;have hi:ng (tD ts) (.str [ch])=some (.pure (.int (n:Int))):=by
   unfold ng tD;simp only[GJ];have hm:([ch]:Tx) ∈ ts.map λn=>[n]:=WV.mpr ⟨ch,h ch Wf,rfl⟩
   rw[if_pos ⟨hm,by simp; omega⟩,e1]
  have c9:ar (j0 1 (aa 5)) (ae [2] 6) [some (.pure U),some (.own (tD ts)),none,some (.pure (.str [b1])),some (.pure V),some (.pure (.str [ch])),s6.map .pure,none] = .ok .next [some (.pure U),some (.own (tD ts)),none,some (.pure (.str [b1])),some (.pure V),some (.pure (.str [ch])),some (.pure (.int (n:Int))),none]:=by
   have hL:EO (tD ts)=true:=rfl;generalize tD ts=T at *;simp[ar,j0,aa,hL,hi]
  have hx:(bO ts f)[n]? = some (.int ((f ch:Nat):Int)):=by
   unfold bO;rw[Ww,e2];rfl
  have hs:(bO ts f).set n (.int ((f ch:Nat) + 1:Int))=bO ts λs=>f s + if s=ch then 1 else 0:=by
   unfold bO;have:=Ur nd e2 (λs=>D.int ((f s:Nat):Int)) (λs=>D.int ((f s:Nat) + 1:Int));rw[this];refine Q3 λs _=>?_
   by_cases q:s=ch
   ·simp[q]
   ·simp[q]
  have hf:(bO ts λs=>f s + (ch :: r).count s)=bO ts λs=>(f s + if s=ch then 1 else 0) + r.count s:=by
   refine Q3 λs _=>?_
   show D.int (((f s + List.count s (ch :: r)):Nat):Int)=D.int ((((f s + if s=ch then 1 else 0) + List.count s r):Nat):Int);rw[JK];by_cases q:ch=s
   ·subst q;simp;omega
   ·simp[q,Ne.symm q]
  rw[hf,<- ih];conv=>lhs; unfold kH
  have hg:ae [2] 5 (.pure (.str [ch])) [some (.pure U),some (.own (tD ts)),none,some (.pure (.str [b1])),some (.pure V),s5.map .pure,s6.map .pure,none]=some [some (.pure U),some (.own (tD ts)),none,some (.pure (.str [b1])),some (.pure V),some (.pure (.str [ch])),s6.map .pure,none]:=rfl;rw[hg];dsimp only;rw[c9];simp only[ij];simp only[List.getElem?_cons_succ,Jl];rw[if_pos (by simp)];simp only[Qe,hx];rw[hs];rfl
theorem GS(R:cu h w bs)(F:Nat×List Tx->D)(hb:bs[i]? = some b):putD ((bs.take i).map λb=>((Sum.inr [b.1]:aU),F b)) (.inr [b.1]) (F b)=(bs.take (i + 1)).map λb=>((Sum.inr [b.1]:aU),F b):=by
 have hi:=(W6.mp hb).1;have hn:(((bs.take i).map λb=>((Sum.inr [b.1]:aU),F b)).any λkv=>decide (kv.1 = .inr [b.1]))=false:=by
  rw[JW];intro kv hkv;obtain⟨c,hc,rfl⟩:=WV.mp hkv;simp only[decide_eq_true_eq];intro e;simp at e;obtain⟨j,hj⟩:=Qu hc;have rE:j < i:=by have:=(W6.mp hj).1; simp at this; omega
  rw[Jg rE] at hj;have:=List.pairwise_iff_getElem.mp R.up j i (by simp; omega) (by simpa using hi) rE;have e1:=(W6.mp hj).2;have e2:=(W6.mp hb).2;simp only[List.getElem_map,e1,e2] at this;omega
 unfold putD;rw[hn,J0,hb];simp
theorem rF(R:cu h w bs)(hb:b ∈ bs):cR [] (aW b.2)=some (.pure (.str b.2.flatten))/\b.2.flatten.length<=16/\∀ n ∈ b.2.flatten,n ∈ bs.map (·.1):=by
 obtain⟨h1,h2⟩:=R.cF b hb;have hh:=R.h1;have hw:=R.w1;have hs:=Ar b.2 w (λx hx=>Nat.le_of_eq (h2 x hx).1);have hm:b.2.length * w<=4 * 4:=JV (by omega) hw;refine⟨GK _ (by omega),?_,λn hn=>?_⟩
 ·have:b.2.flatten.length=hZ b.2:=by rw[List.length_flatten]; rfl
  omega
 ·obtain⟨r,hr,hn⟩:=List.mem_flatten.mp hn;exact(h2 r hr).2 n hn
def jv(bs:List (Nat×List Tx))(b2:List Tx):D:=.lst (bO (bs.map (·.1)) λs=>b2.flatten.count s)
def fq(bs:List (Nat×List Tx)):D:=.ay (bs.map λb=>((Sum.inr [b.1]:aU),jv bs b.2))
theorem GU(n:Nat)(ts:List Nat)(h:n=ts.length):(Wa n ([.int 0]:List D)).flatten=bO ts λ_=>0:=by
 subst h;induction ts with
 | nil=>rfl
 | cons t r ih =>
  rw[WD,WL,Qd,ih];rfl
theorem Us(U V T:D)(b1 n:Nat)(dd:List (aU×D))(tx:Tx)(zs jg:List D)(s5 s6 pf ph:Option S)(hl:cy T=some (.pure (.int (n:Int))))(hn:n<=1000)(hz:(Wa n ([.int 0]:List D)).flatten=zs)(hd:dd.length < Wb)(hj:cR [] V=some (.pure (.str tx)))
  (ht:kH 3 6 [b1] (ae [2] 5) (ar (j0 1 (aa 5)) (ae [2] 6)) tx zs [some (.pure U),some (.own T),none,some (.pure (.str [b1])),some (.pure V),s5,s6,none] = .ok jg [some (.pure U),some (.own T),none,some (.pure (.str [b1])),some (.pure V),pf,ph,none]) :
  nk 2 3 6 (aY gL (gJ [.int 0]) (ao (a_ cy (ah 1)))) (a_ (cR []) (ah 4)) (ae [2] 5) (ar (j0 1 (aa 5)) (ae [2] 6)) [some (.pure U),some (.own T),some (.own (.ay dd)),some (.pure (.str [b1])),some (.pure V),s5,s6,none]
   = .ok .next [some (.pure U),some (.own T),some (.own (.ay (putD dd (.inr [b1]) (.lst jg)))),some (.pure (.str [b1])),some (.pure V),pf,ph,none]:=by
 have hm:gL (.lst [.int 0]) (.int (n:Int))=some (.own (.lst zs)):=by
  unfold gL;dsimp only;rw[if_pos ⟨by omega,by omega,by simp,by simp⟩];simp only[Qe,hz]
 unfold nk;simp[jT,aY,gJ,ah,hl,hm,hd,hj];rw[ht];rfl
theorem Aw{bs:List (Nat×List Tx)}(hn:bs.length<=26)(k:Nat)(δ:Dl)(hk:δ[k]? = some none):cb [k] (ae [] k) bq (aj aB k (ao (eD (.int 0)))) (bs.map cQ) δ [] = .ok ((bs.map (·.1)).map λn=>.str [n]) δ:=by
 have hl:k < δ.length:=(W6.mp hk).1;have:=j4 (cs:=[k]) (g:=ae [] k) (t:=bq) (el:=aj aB k (ao (eD (.int 0)))) cQ (λb=>D.str [b.1]) δ bs [] (by rw[dX]; simp; omega) (λb hb=>by
  have q:aB (cQ b) (.int 0)=some (.pure (.str [b.1])):=by simp[aB,cS,dQ]
  have hg:(δ.set k (some (.pure (cQ b))))[k]? = some (some (.pure (cQ b))):=Wc hl;refine⟨δ.set k (some (.pure (cQ b))),_,.pure (.str [b.1]),δ.set k (some (.pure (cQ b))),by simp[ae],rfl,?_,?_,rfl⟩
  ·generalize cQ b=B at *;simp[aj,bI,ah,hg,q]
  ·show(δ.set k (some (.pure (cQ b)))).set k none=δ;rw[List.set_set];apply JY;intro i;by_cases hi:k=i
   ·subst hi;rw[Wc hl,hk]
   ·rw[W3 hi])
 rw[this];simp
theorem Ut{h w:Nat}{bs:List (Nat×List Tx)}(R:cu h w bs):nC [.pure (az h w bs)]=some (.own (fq bs),[.pure (az h w bs)]):=by
 have x2:=(ju h w bs).2.2;have n1:=R.n1;have dB:(bs.map (·.1)).length<=26:=by simpa using n1
 have hlen:cy (tD (bs.map (·.1)))=some (.pure (.int ((bs.length:Nat):Int))):=by simp[tD,cy]
 have hc:=Aw n1 7 [some (.pure (az h w bs)),none,none,none,none,none,none,none] rfl;have loop:∃ o3 o4 o5 o6:Option D,forL (bM 2 (aM (ae [] 3) (aM (ae [] 4) bQ))) (au (nk 2 3 6 (aY gL (gJ [.int 0]) (ao (a_ cy (ah 1)))) (a_ (cR []) (ah 4)) (ae [2] 5) (ar (j0 1 (aa 5)) (ae [2] 6))) cH) (bs.map cQ) [some (.pure (az h w bs)),some (.own (tD (bs.map (·.1)))),some (.own (.ay [])),none,none,none,none,none]
   = .ok .next [some (.pure (az h w bs)),some (.own (tD (bs.map (·.1)))),some (.own (fq bs)),o3.map .pure,o4.map .pure,o5.map .pure,o6.map .pure,none]:=by
  obtain⟨δ',e,o3,o4,o5,o6,rfl⟩:=iN (g:=bM 2 (aM (ae [] 3) (aM (ae [] 4) bQ))) (b:=au (nk 2 3 6 (aY gL (gJ [.int 0]) (ao (a_ cy (ah 1)))) (a_ (cR []) (ah 4)) (ae [2] 5) (ar (j0 1 (aa 5)) (ae [2] 6))) cH)
   (λk δ=>∃ o3 o4 o5 o6:Option D,δ=[some (.pure (az h w bs)),some (.own (tD (bs.map (·.1)))),some (.own (.ay ((bs.take k).map λb=>((Sum.inr [b.1]:aU),jv bs b.2)))),o3.map .pure,o4.map .pure,o5.map .pure,o6.map .pure,none]) (bs.map cQ) 0 [some (.pure (az h w bs)),some (.own (tD (bs.map (·.1)))),some (.own (.ay [])),none,none,none,none,none] ⟨none,none,none,none,by simp⟩ (λi d δ hd ⟨o3,o4,o5,o6,e⟩=>by
   subst e;rw[Ww,WM] at hd;obtain⟨b,hb,rfl⟩:=hd;rw[WN];have hm:=WF hb;obtain⟨t1,t2,t3⟩:=rF R hm;have hz:((bs.take i).map λb=>((Sum.inr [b.1]:aU),jv bs b.2)).length < Wb:=by
    rw[dX]; simp; omega
   obtain⟨pf,ph,et⟩:=GQ (Am R) dB (az h w bs) (aW b.2) b.1 b.2.flatten (λ_=>0) o5 o6 t3;have hq:=Us (az h w bs) (aW b.2) (tD (bs.map (·.1))) b.1 bs.length _ b.2.flatten _ _ _ _ _ _ hlen (by omega) (GU bs.length (bs.map (·.1)) (by simp)) hz t1 et;have hr:D.lst (bO (bs.map (·.1)) λs=>0 + b.2.flatten.count s)=jv bs b.2:=by
    unfold jv;congr 1
    exact Q3 λs _=>by simp
   rw[hr,GS R (λb=>jv bs b.2) hb] at hq;refine⟨[some (.pure (az h w bs)),some (.own (tD (bs.map (·.1)))),some (.own (.ay ((bs.take i).map λb=>((Sum.inr [b.1]:aU),jv bs b.2)))),some (.pure (.str [b.1])),some (.pure (aW b.2)),o5.map .pure,o6.map .pure,none],_,rfl,?_,some (.str [b.1]),some (aW b.2),pf,ph,rfl⟩;rw[eL hq];rfl)
  refine⟨o3,o4,o5,o6,?_⟩;rw[e];simp[fq]
 obtain⟨o3,o4,o5,o6,e⟩:=loop;rw[nC,j7,yq];have hT:D.lst ((bs.map (·.1)).map λn=>.str [n])=tD (bs.map (·.1)):=rfl;generalize ((bs.map (·.1)).map λn=>D.str [n])=TS at *;generalize tD (bs.map (·.1))=T at *;generalize fq bs=DT at *;generalize hru:az h w bs=ru at *;generalize o3.map S.pure=p3 at *;generalize o4.map S.pure=p4 at *;generalize o5.map S.pure=p5 at *;generalize o6.map S.pure=p6 at *;simp[bW,bC,ar,fF,aa,jd,aj,bI,ah,x2,bu,bB,hc,cP];rw[hT,e];simp[oE,cp,bF]
theorem GV(R:cu h w bs)(ht:t ∈ bs.map (·.1))(s:Nat):M bs t s<=16:=by
 obtain⟨b,hb,_,_,e2⟩:=kK ht;unfold M;rw[e2];exact WK List.count_le_length (rF R hb).2.1
theorem Uu(R:cu h w bs)(ht:t ∈ bs.map (·.1)):dI (fq bs) (.str [t])=some (.pure (.lst (bO (bs.map (·.1)) (M bs t)))):=by
 obtain⟨b,hb,e0,e1,e2⟩:=kK ht;have hv:dj (bs.map λb=>((Sum.inr [b.1]:aU),jv bs b.2)) (.inr [t])=some (jv bs b.2):=by
  unfold dj;rw[List.find?_map];have:((λkv:aU×D=>decide (kv.1 = .inr [t])) ∘ λb:Nat×List Tx=>((Sum.inr [b.1]:aU),jv bs b.2))=λb=>decide (b.1=t):=by
   funext b
   simp
  rw[this,e1];rfl
 unfold fq dI;simp only[dq,WE,hv,WA];unfold jv M;rw[e2]
theorem Uv(ts:List Nat)(a m:Nat->Nat)(many:Nat)(hl:ts.length<=26)(hm:∀ s ∈ ts,m s<=1000)(δ0:Dl)(L:Dl)(hL:δ0=L ++ [none,none])(hlen:L.length=12)(h8:L[8]? = some (some (.pure (.int (many:Int))))) :
  cb [13,12] (bM 2 (aM (ae [] 13) (aM (ae [] 12) bQ))) bq (aj bz 13 (ao (aj cI 8 (ah 12)))) (gf (bO ts a) (bO ts m)) δ0 [] = .ok (bO ts λs=>a s + many * m s) δ0:=by
 have hz:gf (bO ts a) (bO ts m)=ts.map λs=>D.tup [.int ((a s:Nat):Int),.int ((m s:Nat):Int)]:=by
  unfold gf bO;rw[List.zipWith_map,List.zipWith_self]
 rw[hz];match L,hlen with
 | [d0,d1,d2,d3,d4,d5,d6,d7,d8,d9,jk,jl],_ =>
  simp at h8;subst hL h8;have:=j4 (cs:=[13,12]) (g:=bM 2 (aM (ae [] 13) (aM (ae [] 12) bQ))) (t:=bq) (el:=aj bz 13 (ao (aj cI 8 (ah 12)))) (λs=>D.tup [.int ((a s:Nat):Int),.int ((m s:Nat):Int)]) (λs=>D.int ((a s + many * m s:Nat):Int)) [d0,d1,d2,d3,d4,d5,d6,d7,some (.pure (.int (many:Int))),d9,jk,jl,none,none] ts [] (by rw[dX]; simp; omega) (λs hs=>by
   have q:=mul_int (many:Int) ((m s:Nat):Int) (by omega) (by have:=hm s hs; omega);refine⟨[d0,d1,d2,d3,d4,d5,d6,d7,some (.pure (.int (many:Int))),d9,jk,jl,some (.pure (.int ((m s:Nat):Int))),some (.pure (.int ((a s:Nat):Int)))],_,.pure (.int ((a s:Nat) + (many:Int) * (m s:Nat))),[d0,d1,d2,d3,d4,d5,d6,d7,some (.pure (.int (many:Int))),d9,jk,jl,some (.pure (.int ((m s:Nat):Int))),some (.pure (.int ((a s:Nat):Int)))],rfl,rfl,?_,rfl,by show D.int _=D.int _; push_cast; rfl⟩;simp[aj,bI,ah,q,add_int])
  simp only[JB,Q1];rw[this];rfl
theorem Uw(ru t0 gg T3 T4 V5 tn:D)(s6 bx:Option S)(a m A':List D)(many:Int)(hx:dI T4 tn=some (.pure (.lst m)))
  (hc:cb [13,12] (bM 2 (aM (ae [] 13) (aM (ae [] 12) bQ))) bq (aj bz 13 (ao (aj cI 8 (ah 12)))) (gf a m) [some (.pure ru),some (.pure t0),some (.pure gg),some (.pure T3),some (.own T4),some (.pure V5),s6,some (.pure (.lst a)),some (.pure (.int many)),some (.pure tn),some (.pure (.lst m)),none,none,none] [] = .ok A' [some (.pure ru),some (.pure t0),some (.pure gg),some (.pure T3),some (.own T4),some (.pure V5),s6,some (.pure (.lst a)),some (.pure (.int many)),some (.pure tn),some (.pure (.lst m)),none,none,none]) :
  (au (ar (aj dI 4 (ah 9)) (ae [] 10)) (ar (cf [13,12] (ik (aa 7) (aa 10)) (bM 2 (aM (ae [] 13) (aM (ae [] 12) bQ))) bq (aj bz 13 (ao (aj cI 8 (ah 12))))) (ae [] 7)))
   [some (.pure ru),some (.pure t0),some (.pure gg),some (.pure T3),some (.own T4),some (.pure V5),s6,some (.own (.lst a)),some (.pure (.int many)),some (.pure tn),bx,none,none,none]
   = .ok .next [some (.pure ru),some (.pure t0),some (.pure gg),some (.pure T3),some (.own T4),some (.pure V5),s6,some (.own (.lst A')),some (.pure (.int many)),some (.pure tn),some (.pure (.lst m)),none,none,none]:=by
 simp[ar,aj,bI,ah,hx,ik,aa,iP,bu,bB];rw[hc];simp[cP]
theorem Ux(R:cu h w bs)(ru t0 gg:D)(v:Nat->Nat)(s6 s8 s9 k7:Option S) :
  ∃ o8 o9 bx:Option S,forL (bM 2 (aM (ae [] 8) (aM (ae [] 9) bQ))) (au (ar (aj dI 4 (ah 9)) (ae [] 10)) (ar (cf [13,12] (ik (aa 7) (aa 10)) (bM 2 (aM (ae [] 13) (aM (ae [] 12) bQ))) bq (aj bz 13 (ao (aj cI 8 (ah 12))))) (ae [] 7)))
   ((bs.map (·.1)).map λt=>D.tup [.int ((v t:Nat):Int),.str [t]]) [some (.pure ru),some (.pure t0),some (.pure gg),some (.pure (tD (bs.map (·.1)))),some (.own (fq bs)),some (.pure (.lst (bO (bs.map (·.1)) v))),s6,some (.own (.lst (bO (bs.map (·.1)) λ_=>0))),s8,s9,k7,none,none,none]
   = .ok .next [some (.pure ru),some (.pure t0),some (.pure gg),some (.pure (tD (bs.map (·.1)))),some (.own (fq bs)),some (.pure (.lst (bO (bs.map (·.1)) v))),s6,some (.own (.lst (bO (bs.map (·.1)) (Al bs v)))),o8,o9,bx,none,none,none]:=by
 have n1:=R.n1;generalize dB:bs.map (·.1)=ts at *;have hlen:ts.length<=26:=by rw[<- dB]; simpa using n1
 obtain⟨δ',e,o8,o9,bx,rfl⟩:=iN (g:=bM 2 (aM (ae [] 8) (aM (ae [] 9) bQ))) (b:=au (ar (aj dI 4 (ah 9)) (ae [] 10)) (ar (cf [13,12] (ik (aa 7) (aa 10)) (bM 2 (aM (ae [] 13) (aM (ae [] 12) bQ))) bq (aj bz 13 (ao (aj cI 8 (ah 12))))) (ae [] 7)))
  (λk δ=>∃ o8 o9 bx:Option S,δ=[some (.pure ru),some (.pure t0),some (.pure gg),some (.pure (tD ts)),some (.own (fq bs)),some (.pure (.lst (bO ts v))),s6,some (.own (.lst (bO ts λs=>sm (ts.take k) λt=>v t * M bs t s))),o8,o9,bx,none,none,none]) (ts.map λt=>D.tup [.int ((v t:Nat):Int),.str [t]]) 0 [some (.pure ru),some (.pure t0),some (.pure gg),some (.pure (tD ts)),some (.own (fq bs)),some (.pure (.lst (bO ts v))),s6,some (.own (.lst (bO ts λ_=>0))),s8,s9,k7,none,none,none]
  ⟨s8,s9,k7,by simp[sm]⟩ (λi d δ hd ⟨o8,o9,bx,e⟩=>by
   subst e;rw[Ww,WM] at hd;obtain⟨t,ht,rfl⟩:=hd;rw[WN];have hm:t ∈ bs.map (·.1):=by rw[dB]; exact WF ht
   have hx:=Uu R hm;rw[dB] at hx;have ha:=Uv ts (λs=>sm (ts.take i) λt=>v t * M bs t s) (M bs t) (v t) hlen (λs _=>WK (GV R hm s) (by decide)) [some (.pure ru),some (.pure t0),some (.pure gg),some (.pure (tD ts)),some (.own (fq bs)),some (.pure (.lst (bO ts v))),s6,some (.pure (.lst (bO ts λs=>sm (ts.take i) λt=>v t * M bs t s))),some (.pure (.int ((v t:Nat):Int))),some (.pure (.str [t])),some (.pure (.lst (bO ts (M bs t)))),none,none,none]
    [some (.pure ru),some (.pure t0),some (.pure gg),some (.pure (tD ts)),some (.own (fq bs)),some (.pure (.lst (bO ts v))),s6,some (.pure (.lst (bO ts λs=>sm (ts.take i) λt=>v t * M bs t s))),some (.pure (.int ((v t:Nat):Int))),some (.pure (.str [t])),some (.pure (.lst (bO ts (M bs t)))),none] rfl rfl rfl
   have hE:(bO ts λs=>sm (ts.take (i + 1)) λt=>v t * M bs t s)=bO ts λs=>sm (ts.take i) (λt=>v t * M bs t s) + v t * M bs t s:=by
    refine Q3 λs _=>?_
    show D.int (((sm (ts.take (i + 1)) λt=>v t * M bs t s):Nat):Int)=D.int (((sm (ts.take i) (λt=>v t * M bs t s) + v t * M bs t s):Nat):Int);rw[J0,ht,Ai];simp[sm]
   refine⟨[some (.pure ru),some (.pure t0),some (.pure gg),some (.pure (tD ts)),some (.own (fq bs)),some (.pure (.lst (bO ts v))),s6,some (.own (.lst (bO ts λs=>sm (ts.take i) λt=>v t * M bs t s))),some (.pure (.int ((v t:Nat):Int))),some (.pure (.str [t])),bx,none,none,none],_,rfl,Uw _ _ _ _ _ _ _ _ _ _ _ _ _ hx ha,_,_,_,by rw[hE]⟩)
 refine⟨o8,o9,bx,?_⟩;rw[e];simp only[Wy,WN,List.take_length];unfold Al;rw[dB]
theorem Uy(ru t0 gg T3 T4:D)(n:Nat)(vs zs us ts zp:List D)(s5:S)(h5:s5 = .own (.lst vs)\/s5 = .pure (.lst vs))(s6 s7 s8 s9 k7 o8 o9 bx:Option S)(h3:T3 = .lst ts)(hl:cy T3=some (.pure (.int (n:Int))))(hn:n<=1000)(hz:(Wa n ([.int 0]:List D)).flatten=zs)(GX:gf vs ts=zp)
  (B:DS) (hB:forL (bM 2 (aM (ae [] 8) (aM (ae [] 9) bQ))) B zp [some (.pure ru),some (.pure t0),some (.pure gg),some (.pure T3),some (.own T4),some (.pure (.lst vs)),s6,some (.own (.lst zs)),s8,s9,k7,none,none,none] = .ok .next [some (.pure ru),some (.pure t0),some (.pure gg),some (.pure T3),some (.own T4),some (.pure (.lst vs)),s6,some (.own (.lst us)),o8,o9,bx,none,none,none]) :
  (au (ar (aY gL (gJ [.int 0]) (ao (a_ cy (ah 3)))) (ae [] 7)) (au (bY (ik (aa 5) (aa 3)) (bM 2 (aM (ae [] 8) (aM (ae [] 9) bQ))) B) (ar (aa 7) (ae [] 5)))) [some (.pure ru),some (.pure t0),some (.pure gg),some (.pure T3),some (.own T4),some s5,s6,s7,s8,s9,k7,none,none,none]
   = .ok .next [some (.pure ru),some (.pure t0),some (.pure gg),some (.pure T3),some (.own T4),some (.pure (.lst us)),s6,some (.pure (.lst us)),o8,o9,bx,none,none,none]:=by
 have hm:gL (.lst [.int 0]) (.int (n:Int))=some (.own (.lst zs)):=by
  unfold gL;dsimp only;rw[if_pos ⟨by omega,by omega,by simp,by simp⟩];simp only[Qe,hz]
 subst h3;rcases h5 with rfl | rfl
 ·simp[ar,aY,gJ,ah,hl,hm,ik,aa,iP,GX];rw[hB];simp[aa]
 ·simp[ar,aY,gJ,ah,hl,hm,ik,aa,iP,GX];rw[hB];simp[aa]
abbrev GY:DS:=au (ar (aj dI 4 (ah 9)) (ae [] 10)) (ar (cf [13,12] (ik (aa 7) (aa 10)) (bM 2 (aM (ae [] 13) (aM (ae [] 12) bQ))) bq (aj bz 13 (ao (aj cI 8 (ah 12))))) (ae [] 7))
abbrev rG:DS:=au (ar (aY gL (gJ [.int 0]) (ao (a_ cy (ah 3)))) (ae [] 7)) (au (bY (ik (aa 5) (aa 3)) (bM 2 (aM (ae [] 8) (aM (ae [] 9) bQ))) GY) (ar (aa 7) (ae [] 5)))
theorem Uz(R:cu h w bs)(ru tt gg:D)(t0 g:Nat) :
  ∃ (s5:S) (o6 o7 o8 o9 bx:Option S),(s5 = .own (.lst (bO (bs.map (·.1)) (vec bs t0 g)))\/s5 = .pure (.lst (bO (bs.map (·.1)) (vec bs t0 g))))/\forL (ae [] 6) rG (cm 0 g) [some (.pure ru),some (.pure tt),some (.pure gg),some (.pure (tD (bs.map (·.1)))),some (.own (fq bs)),some (.own (.lst (bO (bs.map (·.1)) (vec bs t0 0)))),none,none,none,none,none,none,none,none]
   = .ok .next [some (.pure ru),some (.pure tt),some (.pure gg),some (.pure (tD (bs.map (·.1)))),some (.own (fq bs)),some s5,o6,o7,o8,o9,bx,none,none,none]:=by
 have n1:=R.n1;have hlen:cy (tD (bs.map (·.1)))=some (.pure (.int ((bs.length:Nat):Int))):=by simp[tD,cy]
 obtain⟨δ',e,s5,o6,o7,o8,o9,bx,h5,rfl⟩:=iN (g:=ae [] 6) (b:=rG)
  (λk δ=>∃ (s5:S) (o6 o7 o8 o9 bx:Option S),(s5 = .own (.lst (bO (bs.map (·.1)) (vec bs t0 k)))\/s5 = .pure (.lst (bO (bs.map (·.1)) (vec bs t0 k))))/\δ=[some (.pure ru),some (.pure tt),some (.pure gg),some (.pure (tD (bs.map (·.1)))),some (.own (fq bs)),some s5,o6,o7,o8,o9,bx,none,none,none]) (cm 0 g) 0 _
  ⟨_,none,none,none,none,none,.inl rfl,rfl⟩ (λi d δ hd ⟨s5,o6,o7,o8,o9,bx,h5,e⟩=>by
   subst e;rw[WN] at *;obtain⟨p8,p9,gh,et⟩:=Ux R ru tt gg (vec bs t0 i) (some (.pure d)) o8 o9 bx;have hz:gf (bO (bs.map (·.1)) (vec bs t0 i)) ((bs.map (·.1)).map λn=>D.str [n])=(bs.map (·.1)).map λt=>D.tup [.int ((vec bs t0 i t:Nat):Int),.str [t]]:=by
    unfold gf bO;rw[List.zipWith_map,List.zipWith_self]
   have q:=Uy ru tt gg (tD (bs.map (·.1))) (fq bs) bs.length _ _ _ _ _ s5 h5 (some (.pure d)) o7 o8 o9 bx p8 p9 gh rfl hlen (by omega) (GU bs.length (bs.map (·.1)) (by simp)) hz GY et;exact⟨_,_,rfl,q,_,_,_,_,_,_,.inr rfl,rfl⟩)
 refine⟨s5,o6,o7,o8,o9,bx,?_,e⟩;rw[xy,WN] at h5;exact h5
theorem UA(hl:ts.length<=26)(t0:Nat)(L:Dl)(hL:L.length=12)(h1:L[1]? = some (some (.pure (.str [t0])))):cb [12] (ae [] 12) bq (a_ gm (ao (aj bP 12 (ah 1)))) (ts.map λn=>D.str [n]) (L ++ [none,none]) [] = .ok (bO ts λs=>if s=t0 then 1 else 0) (L ++ [none,none]):=by
 match L,hL with
 | [d0,d1,d2,d3,d4,d5,d6,d7,d8,d9,jk,jl],_ =>
  simp at h1;subst h1;have:=j4 (cs:=[12]) (g:=ae [] 12) (t:=bq) (el:=a_ gm (ao (aj bP 12 (ah 1)))) (λn=>D.str [n]) (λs=>D.int (((if s=t0 then 1 else 0):Nat):Int)) [d0,some (.pure (.str [t0])),d2,d3,d4,d5,d6,d7,d8,d9,jk,jl,none,none] ts [] (by rw[dX]; simp; omega) (λs hs=>by
   have q:bP (.str [s]) (.str [t0])=some (.pure (.bl (s == t0))):=by simp[bP,flat,aC]
   have q2:gm (.bl (s == t0))=some (.pure (.int (((if s=t0 then 1 else 0):Nat):Int))):=by
    by_cases h:s=t0
    ·simp[gm,h]
    ·have:(s == t0)=false:=by simpa using h
     simp[gm,h,this]
   refine⟨[d0,some (.pure (.str [t0])),d2,d3,d4,d5,d6,d7,d8,d9,jk,jl,some (.pure (.str [s])),none],_,.pure (.int (((if s=t0 then 1 else 0):Nat):Int)),[d0,some (.pure (.str [t0])),d2,d3,d4,d5,d6,d7,d8,d9,jk,jl,some (.pure (.str [s])),none],rfl,rfl,?_,rfl,rfl⟩;generalize (s == t0)=bb at *;generalize (((if s=t0 then 1 else 0):Nat):Int)=vv at *;simp[aj,bI,ah,q,q2])
  simp only[JB,Q1];rw[this];rfl
theorem UB(GT:DF)(ru T DT:D)(t0 g:Nat)(bd TS NW VV RR:List D)(s5:S)(h5:s5 = .own (.lst VV)\/s5 = .pure (.lst VV))(o6 o7 o8 o9 bx:Option S)(x2:aB ru (.int 2)=some (.pure (.tup bd)))(hT:T = .lst TS)(hg:g<=1000)
  (hc:cb [11] (ae [] 11) bq (aj aB 11 (ao (eD (.int 0)))) bd [some (.pure ru),some (.pure (.str [t0])),some (.pure (.int g)),none,none,none,none,none,none,none,none,none,none,none] [] = .ok TS [some (.pure ru),some (.pure (.str [t0])),some (.pure (.int g)),none,none,none,none,none,none,none,none,none,none,none])
  (gt:GT [.pure ru]=some (.own DT,[.pure ru]))
  (iC:cb [12] (ae [] 12) bq (a_ gm (ao (aj bP 12 (ah 1)))) TS [some (.pure ru),some (.pure (.str [t0])),some (.pure (.int g)),some (.pure T),some (.own DT),none,none,none,none,none,none,none,none,none] [] = .ok NW [some (.pure ru),some (.pure (.str [t0])),some (.pure (.int g)),some (.pure T),some (.own DT),none,none,none,none,none,none,none,none,none])
  (hl:forL (ae [] 6) rG (cm 0 g) [some (.pure ru),some (.pure (.str [t0])),some (.pure (.int g)),some (.pure T),some (.own DT),some (.own (.lst NW)),none,none,none,none,none,none,none,none] = .ok .next [some (.pure ru),some (.pure (.str [t0])),some (.pure (.int g)),some (.pure T),some (.own DT),some s5,o6,o7,o8,o9,bx,none,none,none])
  (hz:gf TS VV=RR) (lO:TS.length=VV.length) (FN:TS.length<=1000) :
  ∃ δ',(au (ar (cf [11] (bR (aj aB 0 (ao (eD (.int 2))))) (ae [] 11) bq (aj aB 11 (ao (eD (.int 0))))) (ae [] 3)) (au (ar (ax GT [.val (aa 0)]) (ae [] 4)) (au (ar (cf [12] (bR (aa 3)) (ae [] 12) bq (a_ gm (ao (aj bP 12 (ah 1))))) (ae [] 5)) (au (bY (dw (aa 2)) (ae [] 6) rG) (bA (oP (aa 3) (aa 5))))))) [some (.pure ru),some (.pure (.str [t0])),some (.pure (.int g)),none,none,none,none,none,none,none,none,none,none,none] = .ok (.ret (.own (.lst RR))) δ':=by
 subst hT;have e1:ar (cf [11] (bR (aj aB 0 (ao (eD (.int 2))))) (ae [] 11) bq (aj aB 11 (ao (eD (.int 0))))) (ae [] 3) [some (.pure ru),some (.pure (.str [t0])),some (.pure (.int g)),none,none,none,none,none,none,none,none,none,none,none] = .ok .next [some (.pure ru),some (.pure (.str [t0])),some (.pure (.int g)),some (.own (.lst TS)),none,none,none,none,none,none,none,none,none,none]:=by
  simp[ar,fF,aj,bI,ah,x2,bu,bB];rw[hc];simp[cP]
 have e2:ar (ax GT [.val (aa 0)]) (ae [] 4) [some (.pure ru),some (.pure (.str [t0])),some (.pure (.int g)),some (.own (.lst TS)),none,none,none,none,none,none,none,none,none,none] = .ok .next [some (.pure ru),some (.pure (.str [t0])),some (.pure (.int g)),some (.own (.lst TS)),some (.own DT),none,none,none,none,none,none,none,none,none]:=by
  simp[ar,ax,bf,bN,bL,aa,bw,gt,aS]
 have e3:ar (cf [12] (bR (aa 3)) (ae [] 12) bq (a_ gm (ao (aj bP 12 (ah 1))))) (ae [] 5) [some (.pure ru),some (.pure (.str [t0])),some (.pure (.int g)),some (.own (.lst TS)),some (.own DT),none,none,none,none,none,none,none,none,none] = .ok .next [some (.pure ru),some (.pure (.str [t0])),some (.pure (.int g)),some (.pure (.lst TS)),some (.own DT),some (.own (.lst NW)),none,none,none,none,none,none,none,none]:=by
  simp[ar,fF,aa,bu,bB];rw[iC];simp[cP]
 rw[eL e1,eL e2,eL e3];have e4:bY (dw (aa 2)) (ae [] 6) rG [some (.pure ru),some (.pure (.str [t0])),some (.pure (.int g)),some (.pure (.lst TS)),some (.own DT),some (.own (.lst NW)),none,none,none,none,none,none,none,none] = .ok .next [some (.pure ru),some (.pure (.str [t0])),some (.pure (.int g)),some (.pure (.lst TS)),some (.own DT),some s5,o6,o7,o8,o9,bx,none,none,none]:=by
  rw[<- hl];simp[aa,kG g (by omega)]
 rw[eL e4];rcases h5 with rfl | rfl
 ·refine⟨[some (.pure ru),some (.pure (.str [t0])),some (.pure (.int g)),some (.pure (.lst TS)),some (.own DT),some (.pure (.lst VV)),o6,o7,o8,o9,bx,none,none,none],?_⟩;have Ax:VV.length<=1000:=by omega
  simp[oP,aa,iP,hz,lO,Ax]
 ·refine⟨[some (.pure ru),some (.pure (.str [t0])),some (.pure (.int g)),some (.pure (.lst TS)),some (.own DT),some (.pure (.lst VV)),o6,o7,o8,o9,bx,none,none,none],?_⟩;have Ax:VV.length<=1000:=by omega
  simp[oP,aa,iP,hz,lO,Ax]
theorem UC{h w t0 g:Nat}{bs:List (Nat×List Tx)}(R:cu h w bs)(hg:g<=1000):nD [.pure (az h w bs),.pure (.str [t0]),.pure (.int g)]=some (.own (.lst (res bs (vec bs t0 g))),[.pure (az h w bs),.pure (.str [t0]),.pure (.int g)]):=by
 have n1:=R.n1;have dB:(bs.map (·.1)).length<=26:=by simpa using n1
 obtain⟨s5,o6,o7,o8,o9,bx,h5,hl⟩:=Uz R (az h w bs) (.str [t0]) (.int g) t0 g;have hz:gf ((bs.map (·.1)).map λn=>D.str [n]) (bO (bs.map (·.1)) (vec bs t0 g))=res bs (vec bs t0 g):=by
  unfold gf bO res;rw[List.zipWith_map,List.zipWith_self,WB];rfl
 obtain⟨δ',e⟩:=UB nC (az h w bs) (tD (bs.map (·.1))) (fq bs) t0 g _ _ _ _ _ s5 h5 o6 o7 o8 o9 bx (ju h w bs).2.2 rfl hg (Aw n1 11 _ rfl) (Ut R)
  (UA dB t0 [some (.pure (az h w bs)),some (.pure (.str [t0])),some (.pure (.int g)),some (.pure (tD (bs.map (·.1)))),some (.own (fq bs)),none,none,none,none,none,none,none] rfl rfl) hl hz (by simp[bO]) (by simp; omega)
 rw[nD,yr];exact As e
theorem Ay:∀ {z σ:List Nat},x ∈ dM σ z ↔ x ∈ σ\/x ∈ z
 | [],σ=>by simp[dM]
 | n :: r,σ=>by
  unfold dM;split
  ·rename_i h;rw[Ay (z:=r)];constructor
   ·rintro (q | q)
    ·exact .inl q
    ·exact .inr (W9 _ q)
   ·rintro (q | q)
    ·exact .inl q
    ·rcases Wl.mp q with q | q
     ·subst q; exact .inl h
     ·exact .inr q
  ·rw[Ay (z:=r)];simp[or_assoc]
theorem Az:∀ {z σ:List Nat},σ.Nodup->(dM σ z).Nodup
 | [],σ,h=>by simpa[dM] using h
 | n :: r,σ,h=>by
  unfold dM;split
  ·exact Az h
  ·rename_i q;refine Az (List.nodup_append.mpr ⟨h,by simp,λa ha b hb e=>q ?_⟩);have:b=n:=by simpa using hb
   rw[<- this,<- e]; exact ha
def ps(b2:List Tx):List Nat:=fj (dM [] b2.flatten)
theorem AA(b2:List Tx)(x:Nat):x ∈ ps b2 ↔ x ∈ b2.flatten:=by
 unfold ps;rw[ug,Ay];simp
theorem AB(b2:List Tx):(ps b2).Nodup:=(xD (Az List.nodup_nil)).imp λh=>Wi h
def gP(b2:List Tx):List D:=(ps b2).map λp=>D.tup [.str [p],.int ((b2.flatten.count p:Nat):Int)]
def fG(bs:List (Nat×List Tx)):D:=.ay (bs.map λb=>((Sum.inr [b.1]:aU),D.lst (gP b.2)))
theorem UD(ru dd:S)(tl bl:D)(z:Tx)(qs:List Nat)(hl:qs.length<=1000):cb [5] (ae [] 5) bq (dh (aI (aa 5) (aI (gK (aa 4) (aa 5)) bU))) (qs.map λn=>D.str [n]) [some ru,some dd,some (.pure tl),some (.pure bl),some (.pure (.str z)),none] [] = .ok (qs.map λp=>D.tup [.str [p],.int ((z.count p:Nat):Int)]) [some ru,some dd,some (.pure tl),some (.pure bl),some (.pure (.str z)),none]:=by
 have:=j4 (cs:=[5]) (g:=ae [] 5) (t:=bq) (el:=dh (aI (aa 5) (aI (gK (aa 4) (aa 5)) bU))) (λn=>D.str [n]) (λp=>D.tup [.str [p],.int ((z.count p:Nat):Int)]) [some ru,some dd,some (.pure tl),some (.pure bl),some (.pure (.str z)),none] qs [] (by rw[dX]; simp; omega) (λs hs=>by
  refine⟨[some ru,some dd,some (.pure tl),some (.pure bl),some (.pure (.str z)),some (.pure (.str [s]))],_,.pure (.tup [.str [s],.int ((z.count s:Nat):Int)]),[some ru,some dd,some (.pure tl),some (.pure bl),some (.pure (.str z)),some (.pure (.str [s]))],rfl,rfl,?_,rfl,rfl⟩;simp[aa,gK,xq,xp])
 rw[this];simp
theorem UE(R:cu h w bs):nE [.pure (az h w bs)]=some (.own (fG bs),[.pure (az h w bs)]):=by
 have x2:=(ju h w bs).2.2;have n1:=R.n1;have loop:∃ o2 o3 o4:Option D,forL (bM 2 (aM (ae [] 2) (aM (ae [] 3) bQ))) (au (ar (a_ (cR []) (ah 3)) (ae [] 4)) (fO 1 (aa 2) (cf [5] (bR (a_ lN (ah 4))) (ae [] 5) bq (dh (aI (aa 5) (aI (gK (aa 4) (aa 5)) bU)))))) (bs.map cQ) [some (.pure (az h w bs)),some (.own (.ay [])),none,none,none,none]
   = .ok .next [some (.pure (az h w bs)),some (.own (fG bs)),o2.map .pure,o3.map .pure,o4.map .pure,none]:=by
  obtain⟨δ',e,o2,o3,o4,rfl⟩:=iN (g:=bM 2 (aM (ae [] 2) (aM (ae [] 3) bQ))) (b:=au (ar (a_ (cR []) (ah 3)) (ae [] 4)) (fO 1 (aa 2) (cf [5] (bR (a_ lN (ah 4))) (ae [] 5) bq (dh (aI (aa 5) (aI (gK (aa 4) (aa 5)) bU))))))
   (λk δ=>∃ o2 o3 o4:Option D,δ=[some (.pure (az h w bs)),some (.own (.ay ((bs.take k).map λb=>((Sum.inr [b.1]:aU),D.lst (gP b.2))))),o2.map .pure,o3.map .pure,o4.map .pure,none]) (bs.map cQ) 0 [some (.pure (az h w bs)),some (.own (.ay [])),none,none,none,none] ⟨none,none,none,by simp⟩ (λi d δ hd ⟨o2,o3,o4,e⟩=>by
   subst e;rw[Ww,WM] at hd;obtain⟨b,hb,rfl⟩:=hd;rw[WN];have hm:=WF hb;obtain⟨t1,t2,t3⟩:=rF R hm;have hz:((bs.take i).map λb=>((Sum.inr [b.1]:aU),D.lst (gP b.2))).length < Wb:=by
    rw[dX]; simp; omega
   have hs:lN (.str b.2.flatten)=some (.own (.lst ((ps b.2).map λn=>.str [n]))):=by
    unfold lN;dsimp only;rw[if_pos (by omega)];rfl
   have hl:(ps b.2).length<=1000:=by
    unfold ps;rw[xC];have:=uh b.2.flatten [];rw[Jp] at this;omega
   have hc:=UD (.pure (az h w bs)) (.own (.ay ((bs.take i).map λb=>((Sum.inr [b.1]:aU),D.lst (gP b.2))))) (.str [b.1]) (aW b.2) b.2.flatten (ps b.2) hl;have hp:=GS R (λb=>D.lst (gP b.2)) hb;refine⟨[some (.pure (az h w bs)),some (.own (.ay ((bs.take i).map λb=>((Sum.inr [b.1]:aU),D.lst (gP b.2))))),some (.pure (.str [b.1])),some (.pure (aW b.2)),o4.map .pure,none],_,rfl,?_,some (.str [b.1]),some (aW b.2),some (.str b.2.flatten),rfl⟩;have bE:(ps b.2).map (λp=>D.tup [.str [p],.int ((b.2.flatten.count p:Nat):Int)])=gP b.2:=rfl;rw[bE] at hc;generalize ((bs.take (i + 1)).map λb=>((Sum.inr [b.1]:aU),D.lst (gP b.2)))=L1 at *;generalize ((bs.take i).map λb=>((Sum.inr [b.1]:aU),D.lst (gP b.2)))=L0 at *;generalize ((ps b.2).map λn=>D.str [n])=QS at *;generalize gP b.2=PL at *;generalize b.2.flatten=z at *;generalize az h w bs=ru at *;generalize aW b.2=fb at *;generalize o4.map S.pure=p4 at *;simp[ar,ah,t1,fO,jT,fF,hs,bu,bB];rw[hc];simp[cP,jT,aa,dq,hz,hp])
  refine⟨o2,o3,o4,?_⟩;rw[e];simp[fG]
 obtain⟨o2,o3,o4,e⟩:=loop;rw[nE,j7,yv];generalize fG bs=DT at *;generalize hru:az h w bs=ru at *;generalize o2.map S.pure=p2 at *;generalize o3.map S.pure=p3 at *;generalize o4.map S.pure=p4 at *;simp[bW,bC,ar,fF,jd,aj,bI,ah,x2];rw[e];simp[oE,cp,bF]
theorem UG(ht:t ∈ bs.map (·.1)):dI (fG bs) (.str [t])=some (.pure (.lst ((ps (cF bs t)).map λp=>D.tup [.str [p],.int ((M bs t p:Nat):Int)]))):=by
 obtain⟨b,hb,e0,e1,e2⟩:=kK ht;have hv:dj (bs.map λb=>((Sum.inr [b.1]:aU),D.lst (gP b.2))) (.inr [t])=some (.lst (gP b.2)):=by
  unfold dj;rw[List.find?_map];have:((λkv:aU×D=>decide (kv.1 = .inr [t])) ∘ λb:Nat×List Tx=>((Sum.inr [b.1]:aU),D.lst (gP b.2)))=λb=>decide (b.1=t):=by
   funext b
   simp
  rw[this,e1];rfl
 unfold fG dI;simp only[dq,WE,hv,WA];unfold gP M;rw[e2]
theorem nL(h1:g (.pure d) δ=some δ1)(h2:b δ1 = .ok .next δ2):forL g b (d :: r) δ=forL g b r δ2:=by
 conv=>lhs; unfold forL
 rw[h1];simp only[h2,ij]
def dL(dm:List (Nat×Nat)):List (aU×D):=dm.map λp=>((Sum.inr [p.1]:aU),D.int ((p.2:Nat):Int))
theorem AF:∀ {l ts:List Nat},l.Nodup->(∀ x ∈ l,x ∈ ts)->l.length<=ts.length
 | [],_,_,_=>Qs _
 | a :: r,ts,nd,h=>by
  obtain⟨n1,n2⟩:=WR.mp nd;have ha:=h a Wf;have:=AF (l:=r) (ts:=ts.erase a) n2 λx hx=>by
   have:x≠a:=λe=>n1 (by rw[<- e]; exact hx)
   exact(List.mem_erase_of_ne this).mpr (h x (W9 _ hx))
  rw[List.length_erase_of_mem ha] at this;have:=List.length_pos_of_mem ha;simp;omega
theorem Dm.len(D:Dm ts dm):dm.length<=ts.length:=by
 have:=AF D.nd D.sub;simpa using this
theorem GZ(dm:List (Nat×Nat))(s:Nat):(dj (dL dm) (.inr [s])).getD (.int 0) = .int ((val dm s:Nat):Int):=by
 unfold dj dL val;rw[List.find?_map];have:((λkv:aU×D=>decide (kv.1 = .inr [s])) ∘ λp:Nat×Nat=>((Sum.inr [p.1]:aU),D.int ((p.2:Nat):Int)))=λp=>decide (p.1=s):=by
  funext p
  simp
 rw[this]
 cases dm.find? λp=>decide (p.1=s) with
 | none=>rfl
 | some p=>rfl
theorem UH(dm:List (Nat×Nat))(s m:Nat):putD (dL dm) (.inr [s]) (.int ((m:Nat):Int))=dL (put dm s m):=by
 unfold putD put dL;rw[List.any_map];have e1:((λkv:aU×D=>decide (kv.1 = .inr [s])) ∘ λp:Nat×Nat=>((Sum.inr [p.1]:aU),D.int ((p.2:Nat):Int)))=λp=>decide (p.1=s):=by
  funext p
  simp
 rw[e1];by_cases h:(dm.any λp=>decide (p.1=s))=true
 ·rw[if_pos h,if_pos h,WB,WB];refine Q3 λp _=>?_
  show(if (Sum.inr [p.1]:aU)=Sum.inr [s] then((Sum.inr [p.1]:aU),D.int ((m:Nat):Int)) else _)=_;by_cases q:p.1=s
  ·subst q; simp
  ·simp[q]
 ·rw[if_neg h,if_neg h];simp
theorem UI(d0 d1 d2 d3 d4 d5 d7:Option S)(L L':List (aU×D))(m p o:D)(mi oi old new:Int)(hm:m = .int mi)(ho:o = .int oi)(x:Tx)(hp:p = .str x)(hv:(dj L (.inr x)).getD (.int 0) = .int old)(hmul:cI (.int mi) (.int oi)=some (.pure (.int new)))(UJ:putD L (.inr x) (.int (old + new))=L')(hL:L.length < Wb) :
  fO 6 (aa 9) (aY bz (ie 6 (aa 9) (eD (.int 0))) (ao (aj cI 8 (ah 10)))) [d0,d1,d2,d3,d4,d5,some (.own (.ay L)),d7,some (.pure m),some (.pure p),some (.pure o)] = .ok .next [d0,d1,d2,d3,d4,d5,some (.own (.ay L')),d7,some (.pure m),some (.pure p),some (.pure o)]:=by
 subst hm ho hp;simp[fO,jT,ie,qL,aa,dq,hv,aj,bI,ah,hmul,add_int,hL,UJ]
theorem G1(dB:ts.length<=26)(d0 d1 d2 d3 d4 d5 d7:Option S)(f:Nat->Nat)(m:Nat)(hf:∀ s,f s<=16):∀ (qs:List Nat) (dm:List (Nat×Nat)) (o9 bx:Option S),Dm ts dm->qs.Nodup->(∀ p ∈ qs,p ∈ ts) ->
  ∃ p9 gh:Option S,forL (bM 2 (aM (ae [] 9) (aM (ae [] 10) bQ))) (fO 6 (aa 9) (aY bz (ie 6 (aa 9) (eD (.int 0))) (ao (aj cI 8 (ah 10))))) (qs.map λp=>D.tup [.str [p],.int ((f p:Nat):Int)]) [d0,d1,d2,d3,d4,d5,some (.own (.ay (dL dm))),d7,some (.pure (.int (m:Int))),o9,bx]
   = .ok .next [d0,d1,d2,d3,d4,d5,some (.own (.ay (dL (jq f m qs dm)))),d7,some (.pure (.int (m:Int))),p9,gh]
 | [],dm,o9,bx,_,_,_=>⟨o9,bx,rfl⟩
 | q :: r,dm,o9,bx,Dd,nd,hq=>by
  obtain⟨n1,n2⟩:=WR.mp nd;have D1:=Dd.put (val dm q + m * f q) (hq q Wf);obtain⟨p9,gh,ih⟩:=G1 dB d0 d1 d2 d3 d4 d5 d7 f m hf r (put dm q (val dm q + m * f q)) (some (.pure (.str [q]))) (some (.pure (.int ((f q:Nat):Int)))) D1 n2 λp hp=>hq p (W9 _ hp)
  refine⟨p9,gh,?_⟩;have hb:=UI d0 d1 d2 d3 d4 d5 d7 (dL dm) (dL (put dm q (val dm q + m * f q))) (.int (m:Int)) (.str [q]) (.int ((f q:Nat):Int)) (m:Int) ((f q:Nat):Int) ((val dm q:Nat):Int) ((m:Int) * ((f q:Nat):Int)) rfl rfl [q] rfl (GZ dm q) (mul_int _ _ (by omega) (by have:=hf q; omega)) (by
   rw[<- UH];congr 2) (by
   have:=Dd.len;unfold dL;rw[dX,Wy];omega)
  rw[Wo,nL (δ1:=[d0,d1,d2,d3,d4,d5,some (.own (.ay (dL dm))),d7,some (.pure (.int (m:Int))),some (.pure (.str [q])),some (.pure (.int ((f q:Nat):Int)))]) rfl hb];exact ih
theorem G5(R:cu h w bs)(d0 d1 d2 d4 d5:Option S):∀ (ag dm:List (Nat×Nat)) (o7 o8 o9 bx:Option S),(∀ k ∈ ag.map (·.1),k ∈ bs.map (·.1))->Dm (bs.map (·.1)) dm ->
  ∃ p7 p8 p9 gh:Option S,forL (bM 2 (aM (ae [] 7) (aM (ae [] 8) bQ))) (bY (bR (aj dI 3 (ah 7))) (bM 2 (aM (ae [] 9) (aM (ae [] 10) bQ))) (fO 6 (aa 9) (aY bz (ie 6 (aa 9) (eD (.int 0))) (ao (aj cI 8 (ah 10)))))) (nh (dL ag)) [d0,d1,d2,some (.own (fG bs)),d4,d5,some (.own (.ay (dL dm))),o7,o8,o9,bx]
   = .ok .next [d0,d1,d2,some (.own (fG bs)),d4,d5,some (.own (.ay (dL (rB bs (λt=>ps (cF bs t)) ag dm)))),p7,p8,p9,gh]
 | [],dm,o7,o8,o9,bx,_,_=>⟨o7,o8,o9,bx,rfl⟩
 | (k,m) :: r,dm,o7,o8,o9,bx,hk,Dd=>by
  have n1:=R.n1;have dB:(bs.map (·.1)).length<=26:=by simpa using n1
  have pe:k ∈ bs.map (·.1):=hk k (by simp);have uI:∀ p ∈ ps (cF bs k),p ∈ bs.map (·.1):=λp hp=>by
   obtain⟨b,hb,_,_,e2⟩:=kK pe;rw[e2,AA] at hp;exact(rF R hb).2.2 p hp
  obtain⟨q9,q10,e⟩:=G1 dB d0 d1 d2 (some (.own (fG bs))) d4 d5 (some (.pure (.str [k]))) (M bs k) m (GV R pe) (ps (cF bs k)) dm o9 bx Dd (AB _) uI;obtain⟨D1,_⟩:=An (M bs k) m (ps (cF bs k)) dm Dd (AB _) uI;obtain⟨p7,p8,p9,gh,ih⟩:=G5 R d0 d1 d2 d4 d5 r (jq (M bs k) m (ps (cF bs k)) dm) (some (.pure (.str [k]))) (some (.pure (.int (m:Int)))) q9 q10 (λq hq=>hk q (by rw[Wo]; exact W9 _ hq)) D1;refine⟨p7,p8,p9,gh,?_⟩;have hx:=UG pe;have hb:bY (bR (aj dI 3 (ah 7))) (bM 2 (aM (ae [] 9) (aM (ae [] 10) bQ))) (fO 6 (aa 9) (aY bz (ie 6 (aa 9) (eD (.int 0))) (ao (aj cI 8 (ah 10))))) [d0,d1,d2,some (.own (fG bs)),d4,d5,some (.own (.ay (dL dm))),some (.pure (.str [k])),some (.pure (.int (m:Int))),o9,bx] = .ok .next [d0,d1,d2,some (.own (fG bs)),d4,d5,some (.own (.ay (dL (jq (M bs k) m (ps (cF bs k)) dm)))),some (.pure (.str [k])),some (.pure (.int (m:Int))),q9,q10]:=by
   rw[<- e];generalize dL dm=LL at *;generalize (ps (cF bs k)).map (λp=>D.tup [.str [p],.int ((M bs k p:Nat):Int)])=PP at *;generalize fG bs=PD at *;simp[fF,aj,bI,ah,hx]
  have hi:nh (dL ((k,m) :: r))=D.tup [.str [k],.int (m:Int)] :: nh (dL r):=rfl;rw[hi,nL (δ1:=[d0,d1,d2,some (.own (fG bs)),d4,d5,some (.own (.ay (dL dm))),some (.pure (.str [k])),some (.pure (.int (m:Int))),o9,bx]) rfl hb];exact ih
abbrev G6:DS:=bY (bR (aj dI 3 (ah 7))) (bM 2 (aM (ae [] 9) (aM (ae [] 10) bQ))) (fO 6 (aa 9) (aY bz (ie 6 (aa 9) (eD (.int 0))) (ao (aj cI 8 (ah 10)))))
abbrev rH:DS:=au (ar jd (ae [] 6)) (au (bY (oN 4) (bM 2 (aM (ae [] 7) (aM (ae [] 8) bQ))) G6) (oO [] 4 6))
theorem UK(d0 d1 d2 d3 d5 o6 o7 o8 o9 bx p7 p8 p9 gh:Option S)(L L':List (aU×D))(B:DS)(hf:forL (bM 2 (aM (ae [] 7) (aM (ae [] 8) bQ))) B (nh L) [d0,d1,d2,d3,none,d5,some (.own (.ay [])),o7,o8,o9,bx] = .ok .next [d0,d1,d2,d3,none,d5,some (.own (.ay L')),p7,p8,p9,gh]) :
  (au (ar jd (ae [] 6)) (au (bY (oN 4) (bM 2 (aM (ae [] 7) (aM (ae [] 8) bQ))) B) (oO [] 4 6))) [d0,d1,d2,d3,some (.own (.ay L)),d5,o6,o7,o8,o9,bx] = .ok .next [d0,d1,d2,d3,some (.own (.ay L')),d5,none,p7,p8,p9,gh]:=by
 simp[ar,jd,oN];rw[hf];simp[oO]
theorem UL(R:cu h w bs)(ht:t0 ∈ bs.map (·.1))(d0 d1 d2:Option S)(g:Nat) :
  ∃ (dm:List (Nat×Nat)) (o5 o6 o7 o8 o9 bx:Option S),Dm (bs.map (·.1)) dm/\(∀ s,val dm s=vec bs t0 g s)/\forL (ae [] 5) rH (cm 0 g) [d0,d1,d2,some (.own (fG bs)),some (.own (.ay (dL [(t0,1)]))),none,none,none,none,none,none]
   = .ok .next [d0,d1,d2,some (.own (fG bs)),some (.own (.ay (dL dm))),o5,o6,o7,o8,o9,bx]:=by
 obtain⟨δ',e,dm,o5,o6,o7,o8,o9,bx,hD,hv,rfl⟩:=iN (g:=ae [] 5) (b:=rH)
  (λk δ=>∃ (dm:List (Nat×Nat)) (o5 o6 o7 o8 o9 bx:Option S),Dm (bs.map (·.1)) dm/\(∀ s,val dm s=vec bs t0 k s)/\δ=[d0,d1,d2,some (.own (fG bs)),some (.own (.ay (dL dm))),o5,o6,o7,o8,o9,bx]) (cm 0 g) 0 _
  ⟨[(t0,1)],none,none,none,none,none,none,⟨by simp,by simpa using ht⟩,λs=>by
   show val [(t0,1)] s=if s=t0 then 1 else 0
   rw[kL,uE (by simp)];by_cases q:t0=s
   ·simp[q]
   ·simp[q,Ne.symm q],rfl⟩ (λi d δ hd ⟨dm,o5,o6,o7,o8,o9,bx,hD,hv,e⟩=>by
   subst e;rw[WN] at *;have D0:Dm (bs.map (·.1)) []:=⟨by simp,by simp⟩
   have iJ:∀ t ∈ bs.map (·.1),(ps (cF bs t)).Nodup/\(∀ p ∈ ps (cF bs t),p ∈ bs.map (·.1))/\∀ s,s ∉ ps (cF bs t)->M bs t s=0:=λt ht=>by
    obtain⟨b,hb,_,_,e2⟩:=kK ht;refine⟨AB _,λp hp=>?_,λs hs=>?_⟩
    ·rw[e2,AA] at hp;exact(rF R hb).2.2 p hp
    ·unfold M;rw[AA] at hs;exact List.count_eq_zero.mpr hs
   obtain⟨D1,v1⟩:=Gs (Am R) iJ dm [] hD.sub hD.nd D0;obtain⟨p7,p8,p9,gh,ef⟩:=G5 R d0 d1 d2 none (some (.pure d)) dm [] o7 o8 o9 bx hD.sub D0;have q:=UK d0 d1 d2 (some (.own (fG bs))) (some (.pure d)) o6 o7 o8 o9 bx p7 p8 p9 gh (dL dm) _ G6 ef;refine⟨_,_,rfl,q,_,_,_,_,_,_,_,D1,λs=>?_,rfl⟩;rw[v1,uE (by simp),WN];exact l9 λt _=>by rw[hv])
 refine⟨dm,o5,o6,o7,o8,o9,bx,hD,?_,e⟩;rw[xy,WN] at hv;exact hv
theorem UM(R:cu h w bs)(dm:List (Nat×Nat)):nF [.pure (az h w bs),.pure (.ay (dL dm))]=some (.own (.lst (res bs (val dm))),[.pure (az h w bs),.pure (.ay (dL dm))]):=by
 have n1:=R.n1;have g:=T9 R;have hc:cb [2] (ae [] 2) bq (dh (aI (aa 2) (aI (ie 1 (aa 2) (eD (.int 0))) bU))) ((bs.map (·.1)).map λn=>D.str [n]) [some (.pure (az h w bs)),some (.pure (.ay (dL dm))),none] [] = .ok (res bs (val dm)) [some (.pure (az h w bs)),some (.pure (.ay (dL dm))),none]:=by
  have:=j4 (cs:=[2]) (g:=ae [] 2) (t:=bq) (el:=dh (aI (aa 2) (aI (ie 1 (aa 2) (eD (.int 0))) bU))) (λn:Nat=>D.str [n]) (λs=>D.tup [.str [s],.int ((val dm s:Nat):Int)]) [some (.pure (az h w bs)),some (.pure (.ay (dL dm))),none] (bs.map (·.1)) [] (by rw[dX]; simp; omega) (λs hs=>by
   have hv:=GZ dm s;refine⟨[some (.pure (az h w bs)),some (.pure (.ay (dL dm))),some (.pure (.str [s]))],_,.pure (.tup [.str [s],.int ((val dm s:Nat):Int)]),[some (.pure (az h w bs)),some (.pure (.ay (dL dm))),some (.pure (.str [s]))],rfl,rfl,?_,rfl,rfl⟩;generalize dL dm=L at *;generalize ((val dm s:Nat):Int)=vv at *;simp[aa,ie,qL,dq,hv])
  rw[this];unfold res;rw[WB];rfl
 rw[nF,yy];have hT:tD (bs.map (·.1))=D.lst ((bs.map (·.1)).map λn=>.str [n]):=rfl;rw[hT] at g;generalize hTS:((bs.map (·.1)).map λn=>D.str [n])=TS at *;generalize res bs (val dm)=RR at *;generalize dL dm=L at *;generalize az h w bs=ru at *;refine GI (δ1:=[some (.pure ru),some (.pure (.ay L)),none]) ?_;simp[bC,fF,ax,bf,bN,bL,aa,bw,g,aS,bu,bB];rw[hc];simp[cP]
abbrev xN(d:D):Xc:=⟨[78,111,84,105,108,101],.xd [([116,105,108,101],d)]⟩
theorem UN(e:b (bC n [.pure x,.pure y]) = .ok .next δ1):jX [] n b [.pure x,.pure y]=some (.inl (.pure .aN,[.pure x,.pure y])):=by
 rw[uH,e]; rfl
theorem G7(e:b (bC n [.pure x,.pure y]) = .exc v δ1):jX [] n b [.pure x,.pure y]=some (.inr (v,[.pure x,.pure y])):=by
 rw[uH,e]; rfl
theorem UO(e:b (bC n [.pure x,.pure y,.pure z]) = .ok (.ret v) δ1):jX [] n b [.pure x,.pure y,.pure z]=some (.inl (v,[.pure x,.pure y,.pure z])):=by
 rw[uH,e]; rfl
theorem UP(e:b (bC n [.pure x,.pure y,.pure z]) = .exc v δ1):jX [] n b [.pure x,.pure y,.pure z]=some (.inr (v,[.pure x,.pure y,.pure z])):=by
 rw[uH,e]; rfl
def AG (bs:List (Nat×List Tx)) (d:D):Prop:=jM "str" d=some false\/∃ z,d = .str z/\∀ n ∈ bs.map (·.1),z≠[n]
theorem UQ(h:∀ n ∈ bs.map (·.1),z≠[n]):gv true (.str z) (dA bs)=some (.pure (.bl true)):=by
 have hv:dj (bs.map λb=>((Sum.inr [b.1]:aU),aW b.2)) (.inr z)=none:=by
  unfold dj;have:(bs.map λb=>((Sum.inr [b.1]:aU),aW b.2)).find? (λkv=>decide (kv.1 = .inr z))=none:=List.find?_eq_none.mpr λkv hk e=>by
   obtain⟨b,hb,rfl⟩:=WV.mp hk;simp at e;exact h b.1 (Qo hb) e.symm
  rw[this];rfl
 show((dq (.str z)).map λk=>S.pure (.bl (if true then !(dj (bs.map λb=>((Sum.inr [b.1]:aU),aW b.2)) k).isSome else(dj (bs.map λb=>((Sum.inr [b.1]:aU),aW b.2)) k).isSome)))=_;simp[dq,hv]
theorem UR(R:cu h w bs)(ht:t0 ∈ bs.map (·.1)):kJ [.pure (az h w bs),.pure (.str [t0])]=some (.inl (.pure .aN,[.pure (az h w bs),.pure (.str [t0])])):=by
 have x2:=(ju h w bs).2.2;have hd:=GB R;have hi:=T6 ht;rw[kJ,uw];generalize az h w bs=ru at *;generalize D.tup (bs.map cQ)=bd at *;generalize dA bs=dd at *;refine UN (δ1:=[some (.pure ru),some (.pure (.str [t0]))]) ?_;simp[bC,aO,eY,jM,ah,aa,aj,bI,x2,hd,hi]
theorem US(R:cu h w bs)(hb:AG bs d):kJ [.pure (az h w bs),.pure d]=some (.inr (xN d,[.pure (az h w bs),.pure d])):=by
 have x2:=(ju h w bs).2.2;have hd:=GB R;rw[kJ,uw];rcases hb with hb | ⟨z,rfl,hz⟩
 ·generalize az h w bs=ru at *;refine G7 (δ1:=[some (.pure ru),some (.pure d)]) ?_;simp[bC,aO,eY,hb,ah,aa,oJ]
 ·have hi:=UQ hz;generalize az h w bs=ru at *;generalize D.tup (bs.map cQ)=bd at *;generalize dA bs=dd at *;refine G7 (δ1:=[some (.pure ru),some (.pure (.str z))]) ?_;simp[bC,aO,eY,jM,ah,aa,aj,bI,x2,hd,hi,oJ]
theorem UT(GR:DX)(GP GL:DF)(ru P:D)(t0 g:Nat)(dm:List (Nat×Nat))(RR:List D)(o5 o6 o7 o8 o9 bx:Option S)(hg:g<=1000)
  (gr:GR [.pure ru,.pure (.str [t0])]=some (.inl (.pure .aN,[.pure ru,.pure (.str [t0])]))) (gp:GP [.pure ru]=some (.own P,[.pure ru]))
  (hl:forL (ae [] 5) rH (cm 0 g) [some (.pure ru),some (.pure (.str [t0])),some (.pure (.int g)),some (.own P),some (.own (.ay (dL [(t0,1)]))),none,none,none,none,none,none] = .ok .next [some (.pure ru),some (.pure (.str [t0])),some (.pure (.int g)),some (.own P),some (.own (.ay (dL dm))),o5,o6,o7,o8,o9,bx])
  (gl:GL [.pure ru,.pure (.ay (dL dm))]=some (.own (.lst RR),[.pure ru,.pure (.ay (dL dm))])) :
  ∃ δ',(au (lg (jY GR [.val (aa 0),.val (aa 1)])) (au (ar (ax GP [.val (aa 0)]) (ae [] 3)) (au (ar (oK (aa 1) (eD (.int 1))) (ae [] 4)) (au (bY (dw (aa 2)) (ae [] 5) rH) (bA (ax GL [.val (aa 0),.val (aa 4)])))))) [some (.pure ru),some (.pure (.str [t0])),some (.pure (.int g)),none,none,none,none,none,none,none,none] = .ok (.ret (.own (.lst RR))) δ':=by
 have e1:lg (jY GR [.val (aa 0),.val (aa 1)]) [some (.pure ru),some (.pure (.str [t0])),some (.pure (.int g)),none,none,none,none,none,none,none,none] = .ok .next [some (.pure ru),some (.pure (.str [t0])),some (.pure (.int g)),none,none,none,none,none,none,none,none]:=by
  simp[jY,bf,bN,bu,bL,aa,bw,gr,aS]
 have e2:ar (ax GP [.val (aa 0)]) (ae [] 3) [some (.pure ru),some (.pure (.str [t0])),some (.pure (.int g)),none,none,none,none,none,none,none,none] = .ok .next [some (.pure ru),some (.pure (.str [t0])),some (.pure (.int g)),some (.own P),none,none,none,none,none,none,none]:=by
  simp[ar,ax,bf,bN,bL,aa,bw,gp,aS]
 have e3:ar (oK (aa 1) (eD (.int 1))) (ae [] 4) [some (.pure ru),some (.pure (.str [t0])),some (.pure (.int g)),some (.own P),none,none,none,none,none,none,none] = .ok .next [some (.pure ru),some (.pure (.str [t0])),some (.pure (.int g)),some (.own P),some (.own (.ay (dL [(t0,1)]))),none,none,none,none,none,none]:=by
  simp[ar,oK,aa,dq,dL]
 have e4:bY (dw (aa 2)) (ae [] 5) rH [some (.pure ru),some (.pure (.str [t0])),some (.pure (.int g)),some (.own P),some (.own (.ay (dL [(t0,1)]))),none,none,none,none,none,none] = .ok .next [some (.pure ru),some (.pure (.str [t0])),some (.pure (.int g)),some (.own P),some (.own (.ay (dL dm))),o5,o6,o7,o8,o9,bx]:=by
  rw[<- hl];simp[aa,kG g (by omega)]
 rw[eL e1,eL e2,eL e3,eL e4];refine⟨[some (.pure ru),some (.pure (.str [t0])),some (.pure (.int g)),some (.own P),some (.pure (.ay (dL dm))),o5,o6,o7,o8,o9,bx],?_⟩;generalize dL dm=L at *;simp[ax,bf,bN,bL,aa,bw,gl,aS]
theorem UU{h w t0 g:Nat}{bs:List (Nat×List Tx)}(R:cu h w bs)(ht:t0 ∈ bs.map (·.1))(hg:g<=1000):ji [.pure (az h w bs),.pure (.str [t0]),.pure (.int g)]=some (.inl (.own (.lst (res bs (vec bs t0 g))),[.pure (az h w bs),.pure (.str [t0]),.pure (.int g)])):=by
 obtain⟨dm,o5,o6,o7,o8,o9,bx,hD,hv,hl⟩:=UL R ht (some (.pure (az h w bs))) (some (.pure (.str [t0]))) (some (.pure (.int g))) g;have gl:=UM R dm;have hr:res bs (val dm)=res bs (vec bs t0 g):=Q3 λb _=>by rw[hv]
 rw[hr] at gl;obtain⟨δ',e⟩:=UT kJ nE nF (az h w bs) (fG bs) t0 g dm _ o5 o6 o7 o8 o9 bx hg (UR R ht) (UE R) hl gl;rw[ji,ux];exact UO e
theorem UW(R:cu h w bs)(hb:AG bs d):ji [.pure (az h w bs),.pure d,.pure (.int 3)]=some (.inr (xN d,[.pure (az h w bs),.pure d,.pure (.int 3)])):=by
 have gr:=US R hb;rw[ji,ux];generalize az h w bs=ru at *;refine UP (δ1:=[some (.pure ru),some (.pure d),some (.pure (.int 3)),none,none,none,none,none,none,none,none]) (Ud ?_);simp[bC,jY,bf,bN,bu,bL,aa,bw,gr,aS]
theorem G8(v:Nat->Nat):∀ bs:List (Nat×List Tx),iF 49 (res bs v)=true
 | []=>rfl
 | b :: r=>by
  show(flat 49 (.tup [.str [b.1],.int ((v b.1:Nat):Int)]) && iF 49 (res r v))=true;rw[G8 v r];rfl
theorem G9(bs:List (Nat×List Tx))(v:Nat->Nat):jK (.lst (res bs v)) (.lst (res bs v))=some (.pure (.bl false))/\bP (.lst (res bs v)) (.lst (res bs v))=some (.pure (.bl true)):=by
 have hf:flat 50 (.lst (res bs v))=true:=by
  show iF 49 (res bs v)=true;exact G8 v bs
 have he:aC (.lst (res bs v)) (.lst (res bs v))=true:=pU hf;unfold jK bP;rw[hf,he];exact⟨rfl,rfl⟩
theorem G_:∀ n:Nat,gq (Wa n (.bl true))=some (Wa n true)
 | 0=>rfl
 | n + 1=>by
  rw[WL,WL];simp[gq,G_ n]
theorem UX(RR:List D)(n:Nat)(dR:jK (.lst RR) (.lst RR)=some (.pure (.bl false)))(GW:DF)
  (hc:cb [2] (ae [0,0] 2) bq (hJ (eY "tuple" (ah 2)) (ax GW [.val (aj aB 2 (ao (eD (.int 1))))])) RR [none,some (.pure (.lst RR)),none] [] = .ok (Wa n (.bl true)) [none,some (.pure (.lst RR)),none]) :
  (au (cO (jI (dF (aO (eY "list" (ah 0)))) (aO (aj jK 0 (ah 1)))) (bA (eD (.bl false))) cH) (bA (a_ og (ao (oF [2] 0 (ae [0,0] 2) bq (hJ (eY "tuple" (ah 2)) (ax GW [.val (aj aB 2 (ao (eD (.int 1))))]))))))) [some (.own (.lst RR)),some (.pure (.lst RR)),none] = .ok (.ret (.pure (.bl true))) [some (.own (.lst RR)),some (.pure (.lst RR)),none]:=by
 have ha:og (.lst (Wa n (.bl true)))=some (.pure (.bl true)):=by
  show(gq (Wa n (.bl true))).map _=_;rw[G_];simp
 have e1:cO (jI (dF (aO (eY "list" (ah 0)))) (aO (aj jK 0 (ah 1)))) (bA (eD (.bl false))) cH [some (.own (.lst RR)),some (.pure (.lst RR)),none] = .ok .next [some (.own (.lst RR)),some (.pure (.lst RR)),none]:=by
  simp[aO,eY,jM,ah,aj,bI,dR]
 rw[eL e1];simp[oF,bu,bB];rw[hc];simp[cP,ha]
theorem UY(hn:bs.length<=26)(v:Nat->Nat):nG [.own (.lst (res bs v)),.pure (.lst (res bs v))]=some (.pure (.bl true),[.own (.lst (res bs v)),.pure (.lst (res bs v))]):=by
 have hc:cb [2] (ae [0,0] 2) bq (hJ (eY "tuple" (ah 2)) (ax il [.val (aj aB 2 (ao (eD (.int 1))))])) (res bs v) [none,some (.pure (.lst (res bs v))),none] [] = .ok (Wa bs.length (.bl true)) [none,some (.pure (.lst (res bs v))),none]:=by
  generalize hR:D.lst (res bs v)=R0;have:=j4 (cs:=[2]) (g:=ae [0,0] 2) (t:=bq) (el:=hJ (eY "tuple" (ah 2)) (ax il [.val (aj aB 2 (ao (eD (.int 1))))])) (λb:Nat×List Tx=>D.tup [.str [b.1],.int ((v b.1:Nat):Int)]) (λ_=>D.bl true) [none,some (.pure R0),none] bs [] (by rw[dX]; simp; omega) (λb hb=>by
   have q:aB (.tup [.str [b.1],.int ((v b.1:Nat):Int)]) (.int 1)=some (.pure (.int ((v b.1:Nat):Int))):=by simp[aB,cS,dQ]
   have gw:=Uc ((v b.1:Nat):Int);refine⟨[none,some (.pure R0),some (.pure (.tup [.str [b.1],.int ((v b.1:Nat):Int)]))],_,.pure (.bl true),[none,some (.pure R0),some (.pure (.tup [.str [b.1],.int ((v b.1:Nat):Int)]))],rfl,rfl,?_,rfl,rfl⟩;simp[hJ,eY,jM,ah,ax,bf,bN,bL,bw,aS,aj,bI,q,gw])
  unfold res;rw[this,Q1];congr 1
  clear this hR hn;induction bs with
  | nil=>rfl
  | cons b r ih=>rw[Wo,ih,WD,WL]
 have e:=UX (res bs v) bs.length (G9 bs v).1 il hc;rw[nG,j7,yD];generalize res bs v=RR at *;show(if bW [0] 0 [.own (.lst RR),.pure (.lst RR)] then _ else _)=_;have hs:bC 3 [.own (.lst RR),.pure (.lst RR)]=[some (.own (.lst RR)),some (.pure (.lst RR)),none]:=rfl;rw[hs,e];simp[bW,cp,bF]
structure Thing(bs:List (Nat×List Tx))(d:D):Prop where
 bad:AG bs d
 fl:flat 50 d=true
 ni:jM "int" d=some false
theorem UZ(R:cu h w bs)(T:Thing bs d):lZ ce [.pure (az h w bs),.pure d]=some (.pure (.bl true),[.pure (az h w bs),.pure d]):=by
 have g:=UW R T.bad;have gk:=Ub (ce:=ce) (.xd [([116,105,108,101],d)]);have hf:=T_ (ce:=ce) (z:=[78,111,84,105,108,101]) (by simp[ys]);have he:bP d d=some (.pure (.bl true)):=by
  unfold bP;rw[T.fl,pU T.fl];rfl
 have gw:il [.pure d]=some (.pure (.bl false),[.pure d]):=by
  have hi:=T.ni;rw[il,uy];refine Au (δ1:=[some (.pure d)]) ?_;simp[bC,hJ,eY,ah,hi]
 rw[lZ,yV];generalize az h w bs=ru at *;have ea:∀ δ:Dl,δ[2]? = some (some (.pure (.exc (ce [78,111,84,105,108,101]) (.xd [([116,105,108,101],d)]))))->oM ce ys [116,105,108,101] (ah 2) δ = .ok (.pure d) δ:=λδ hδ=>by simp[oM,ah,hδ,hf]
 have hs:bP (.str [116,105,108,101]) (.str [116,105,108,101])=some (.pure (.bl true)):=by simp[bP,flat,aC]
 refine GI (δ1:=[some (.pure ru),some (.pure d),none]) (T8 ?_);have hy:ys.contains [78,111,84,105,108,101]=true:=by simp[ys]
 simp only[bC];simp[tW,w6,jY,bf,bN,bu,bL,aa,bw,g,aS,hy];have ck:=ea [some (.pure ru),some (.pure d),some (.pure (.exc (ce [78,111,84,105,108,101]) (.xd [([116,105,108,101],d)])))] rfl;generalize D.exc (ce [78,111,84,105,108,101]) (.xd [([116,105,108,101],d)])=X0 at *;simp[hJ,ax,bf,bN,bL,aa,bw,gk,aS,hs,ck,ah,he,pW,gw,unset]
abbrev rJ(GT:DX)(GA:DF):DS:=au (ar (nc GT [.val (aa 0),.val (aa 1),.val (aa 2)]) (ae [] 5)) (au (cO (dF (aO (ax GA [.io 5,.val (aa 3)]))) (bA (eD (.bl false))) cH) (dG 5 (eD (.tup [.str [97],.int 0]))))
theorem Ha(GT:DX)(GA:DF)(ru tt gg:D)(RR:List D)(s3:S)(h3:s3 = .own (.lst RR)\/s3 = .pure (.lst RR))(d4 d5:Option S)(hl:RR.length < Wb)(gt:GT [.pure ru,.pure tt,.pure gg]=some (.inl (.own (.lst RR),[.pure ru,.pure tt,.pure gg])))
  (ga:GA [.own (.lst RR),.pure (.lst RR)]=some (.pure (.bl true),[.own (.lst RR),.pure (.lst RR)])) :
  rJ GT GA [some (.pure ru),some (.pure tt),some (.pure gg),some s3,d4,d5] = .ok .next [some (.pure ru),some (.pure tt),some (.pure gg),some (.pure (.lst RR)),d4,some (.own (.lst (RR ++ [.tup [.str [97],.int 0]])))]:=by
 rcases h3 with rfl | rfl
 ·simp[rJ,ar,nc,ax,bf,bN,bu,bL,aa,bw,gt,ga,aS,aO,dG,h_,putL,hl]
 ·simp[rJ,ar,nc,ax,bf,bN,bu,bL,aa,bw,gt,ga,aS,aO,dG,h_,putL,hl]
theorem U9(GC GP GL GA:DF)(GT:DX)(ru tt:D)(g h w:Nat)(RR:List D)(b:Bool)(hl:RR.length < Wb)
  (gc:GC [.pure ru,.pure tt,.pure (.int g)]=some (.own (.lst RR),[.pure ru,.pure tt,.pure (.int g)])) (gt:GT [.pure ru,.pure tt,.pure (.int g)]=some (.inl (.own (.lst RR),[.pure ru,.pure tt,.pure (.int g)])))
  (ga:GA [.own (.lst RR),.pure (.lst RR)]=some (.pure (.bl true),[.own (.lst RR),.pure (.lst RR)]))
  (x0:aB ru (.int 0)=some (.pure (.int h))) (x1:aB ru (.int 1)=some (.pure (.int w))) (hm:cI (.int (h:Int)) (.int (w:Int))=some (.pure (.int ((h * w:Nat):Int))))
  (gp:g<=9->GP [.pure (.int ((h * w:Nat):Int)),.pure (.int g)]=some (.pure (.int (((h * w) ^ g:Nat):Int)),[.pure (.int ((h * w:Nat):Int)),.pure (.int g)]))
  (gl:g<=9->(h * w) ^ g<=3000->GL [.pure ru,.pure tt,.pure (.int g)]=some (.own (.lst RR),[.pure ru,.pure tt,.pure (.int g)])) (he:bP (.lst RR) (.lst RR)=some (.pure (.bl true))) :
  ∃ δ',(au (ar (ax GC [.val (aa 0),.val (aa 1),.val (aa 2)]) (ae [] 3)) (au (bY (dw (eD (.int 2))) (ae [] 4) (rJ GT GA)) (au (cO (jI (aO (aj k_ 2 (ao (eD (.int 9))))) (aO (aY k_ (ax GP [.val (aY cI (aj aB 0 (ao (eD (.int 0)))) (ao (aj aB 0 (ao (eD (.int 1)))))),.val (aa 2)]) (ao (eD (.int 3000)))))) (bA (eD (.bl true))) cH) (bA (aj bP 3 (ao (ax GL [.val (aa 0),.val (aa 1),.val (aa 2)]))))))) [some (.pure ru),some (.pure tt),some (.pure (.int g)),none,none,none] = .ok (.ret (.pure (.bl true))) δ':=by
 have e1:ar (ax GC [.val (aa 0),.val (aa 1),.val (aa 2)]) (ae [] 3) [some (.pure ru),some (.pure tt),some (.pure (.int g)),none,none,none] = .ok .next [some (.pure ru),some (.pure tt),some (.pure (.int g)),some (.own (.lst RR)),none,none]:=by
  simp[ar,ax,bf,bN,bL,aa,bw,gc,aS]
 have c1:=Ha GT GA ru tt (.int g) RR (.own (.lst RR)) (.inl rfl) (some (.pure (.int 0))) none hl gt ga;have c2:=Ha GT GA ru tt (.int g) RR (.pure (.lst RR)) (.inr rfl) (some (.pure (.int 1))) (some (.own (.lst (RR ++ [.tup [.str [97],.int 0]])))) hl gt ga;have er:dw (eD (.int 2)) [some (.pure ru),some (.pure tt),some (.pure (.int g)),some (.own (.lst RR)),none,none] = .ok [.int 0,.int 1] [some (.pure ru),some (.pure tt),some (.pure (.int g)),some (.own (.lst RR)),none,none]:=by
  rw[Ff];simp only[xt,ij];exact kG 2 (by decide) _
 have e2:bY (dw (eD (.int 2))) (ae [] 4) (rJ GT GA) [some (.pure ru),some (.pure tt),some (.pure (.int g)),some (.own (.lst RR)),none,none] = .ok .next [some (.pure ru),some (.pure tt),some (.pure (.int g)),some (.pure (.lst RR)),some (.pure (.int 1)),some (.own (.lst (RR ++ [.tup [.str [97],.int 0]])))]:=by
  rw[rD er,nL (δ1:=[some (.pure ru),some (.pure tt),some (.pure (.int g)),some (.own (.lst RR)),some (.pure (.int 0)),none]) rfl c1,
   nL (δ1:=[some (.pure ru),some (.pure tt),some (.pure (.int g)),some (.pure (.lst RR)),some (.pure (.int 1)),some (.own (.lst (RR ++ [.tup [.str [97],.int 0]])))]) rfl c2]
  rfl
 rw[eL e1,eL e2];generalize RR ++ [D.tup [.str [97],.int 0]]=R2;by_cases hg:g<=9
 ·have gp:=gp hg;have h9:¬ (9:Int) < (g:Int):=by omega
  by_cases h3:(h * w) ^ g<=3000
  ·have gl:=gl hg h3;have AH:¬ (3000:Int) < (((h * w) ^ g:Nat):Int):=by omega
   generalize (((h * w) ^ g:Nat):Int)=P at *;generalize ((h * w:Nat):Int)=hw at *;refine⟨[some (.pure ru),some (.pure tt),some (.pure (.int g)),some (.pure (.lst RR)),some (.pure (.int 1)),some (.own (.lst R2))],?_⟩;simp[aO,aj,bI,ah,aa,gt_int,h9,ax,bf,bN,bL,bw,x0,x1,hm,gp,aS,AH,gl,he]
  ·have AH:(3000:Int) < (((h * w) ^ g:Nat):Int):=by omega
   generalize (((h * w) ^ g:Nat):Int)=P at *;generalize ((h * w:Nat):Int)=hw at *;refine⟨[some (.pure ru),some (.pure tt),some (.pure (.int g)),some (.pure (.lst RR)),some (.pure (.int 1)),some (.own (.lst R2))],?_⟩;simp[aO,aj,bI,ah,aa,gt_int,h9,ax,bf,bN,bL,bw,x0,x1,hm,gp,aS,AH]
 ·have h9:(9:Int) < (g:Int):=by omega
  refine⟨[some (.pure ru),some (.pure tt),some (.pure (.int g)),some (.pure (.lst RR)),some (.pure (.int 1)),some (.own (.lst R2))],?_⟩;simp[aO,aj,bI,ah,aa,gt_int,h9]
theorem AI{h w t0 g:Nat}{bs:List (Nat×List Tx)}(R:cu h w bs)(ht:t0 ∈ bs.map (·.1))(hg:g<=1000):ip [.pure (az h w bs),.pure (.str [t0]),.pure (.int g)]=some (.pure (.bl true),[.pure (az h w bs),.pure (.str [t0]),.pure (.int g)]):=by
 have n1:=R.n1;obtain⟨x0,x1,_⟩:=ju h w bs;have hm:=mul_int (h:Int) (w:Int) (by omega) (by have:=R.w1; omega);have m_:cI (.int (h:Int)) (.int (w:Int))=some (.pure (.int ((h * w:Nat):Int))):=by
  rw[hm];push_cast;rfl
 have V4:h * w<=4 * 4:=JV R.h1 R.w1;obtain⟨δ',e⟩:=U9 nD nH nK nG ji (az h w bs) (.str [t0]) g h w (res bs (vec bs t0 g)) true (by rw[dX]; simp[res]; omega)
  (UC R hg) (UU R ht hg) (UY n1 _) x0 x1 m_ (λ_=>Ui (h * w) g (by omega) hg) (λh9 hp=>Up R ht g h9 hp) (G9 bs _).2
 rw[ip,yO];exact As e
abbrev bX(bh:D)(a1 a2 a3 a4 a5 a6 a7 a8:Option S):Dl:=[some (.pure bh),a1,a2,a3,a4,a5,a6,a7,a8,none,none]
theorem U_(bh:D)(a1 a6 a7 a8:Option S)(gd:GD [.own d,.pure (.int m)]=some (.pure (.int r),[.own d',.pure (.int m)]))(gr:GR [.pure ru,.pure tt,.pure (.int r)]=some (.pure (.bl true),[.pure ru,.pure tt,.pure (.int r)])) :
  (cO (dF (aO (ax GR [.val (aa 3),.val (aa 5),.val (ax GD [.io 2,.val (eD (.int m))])]))) (bA (eD (.bl false))) cH) (bX bh a1 (some (.own d)) (some (.pure ru)) (some (.pure T)) (some (.pure tt)) a6 a7 a8) = .ok .next (bX bh a1 (some (.own d')) (some (.pure ru)) (some (.pure T)) (some (.pure tt)) a6 a7 a8):=by
 simp[aO,ax,bf,bN,bu,bL,aa,bw,gd,gr,aS]
theorem Va(bh:D)(a1 a7 a8:Option S)(gr:GR [.pure ru,.pure tt,.pure gg]=some (.pure (.bl true),[.pure ru,.pure tt,.pure gg])) :
  (cO (dF (aO (ax GR [.val (aa 3),.val (aa 5),.val (aa 6)]))) (bA (eD (.bl false))) cH) (bX bh a1 (some (.own d)) (some (.pure ru)) (some (.pure T)) (some (.pure tt)) (some (.pure gg)) a7 a8) = .ok .next (bX bh a1 (some (.own d)) (some (.pure ru)) (some (.pure T)) (some (.pure tt)) (some (.pure gg)) a7 a8):=by
 simp[aO,ax,bf,bN,bu,bL,aa,bw,gr,aS]
theorem Vb(bh:D)(a1 a6:Option S)(gn:GN [.pure ru,.pure th]=some (.pure (.bl true),[.pure ru,.pure th])) :
  (cO (dF (aO (ax GN [.val (aa 3),.val (aa 8)]))) (bA (eD (.bl false))) cH) (bX bh a1 (some (.own d)) (some (.pure ru)) (some (.pure T)) (some (.pure tt)) a6 (some (.own O)) (some (.pure th))) = .ok .next (bX bh a1 (some (.own d)) (some (.pure ru)) (some (.pure T)) (some (.pure tt)) a6 (some (.own O)) (some (.pure th))):=by
 simp[aO,ax,bf,bN,bu,bL,aa,bw,gn,aS]
theorem Hb(R:cu h w bs)(bh:D)(a1 a6 a7 a8:Option S):∀ (ts:List Nat) (d:D) (o5:Option S),eK d->(∀ t ∈ ts,t ∈ bs.map (·.1)) ->
  ∃ (d':D) (o:Option S),eK d'/\forL (ae [] 5) (cO (dF (aO (ax ip [.val (aa 3),.val (aa 5),.val (ax cL [.io 2,.val (eD (.int 5))])]))) (bA (eD (.bl false))) cH) (ts.map λn=>D.str [n]) (bX bh a1 (some (.own d)) (some (.pure (az h w bs))) (some (.pure (tD (bs.map (·.1))))) o5 a6 a7 a8)
   = .ok .next (bX bh a1 (some (.own d')) (some (.pure (az h w bs))) (some (.pure (tD (bs.map (·.1))))) o a6 a7 a8)
 | [],d,o5,hp,_=>⟨d,o5,hp,rfl⟩
 | t :: r,d,o5,hp,hs=>by
  obtain⟨g,d1,e1,l1,p1⟩:=gO hp 5 5 rfl (by decide) (by decide);obtain⟨d2,o,p2,ih⟩:=Hb R bh a1 a6 a7 a8 r d1 (some (.pure (.str [t]))) p1 λx hx=>hs x (W9 _ hx)
  have gr:=AI (g:=g) R (hs t Wf) (by omega);refine⟨d2,o,p2,?_⟩;rw[Wo,nL (δ1:=bX bh a1 (some (.own d)) (some (.pure (az h w bs))) (some (.pure (tD (bs.map (·.1))))) (some (.pure (.str [t]))) a6 a7 a8) rfl (U_ bh a1 a6 a7 a8 e1 gr)];exact ih
theorem Hc(R:cu h w bs)(ht:t0 ∈ bs.map (·.1))(bh d T:D)(a1 a7 a8:Option S):∀ (gs:List Nat) (o6:Option S),(∀ g ∈ gs,g<=1000) ->
  ∃ o:Option S,forL (ae [] 6) (cO (dF (aO (ax ip [.val (aa 3),.val (aa 5),.val (aa 6)]))) (bA (eD (.bl false))) cH) (gs.map λg:Nat=>D.int (g:Int)) (bX bh a1 (some (.own d)) (some (.pure (az h w bs))) (some (.pure T)) (some (.pure (.str [t0]))) o6 a7 a8)
   = .ok .next (bX bh a1 (some (.own d)) (some (.pure (az h w bs))) (some (.pure T)) (some (.pure (.str [t0]))) o a7 a8)
 | [],o6,_=>⟨o6,rfl⟩
 | g :: r,o6,hs=>by
  obtain⟨o,ih⟩:=Hc R ht bh d T a1 a7 a8 r (some (.pure (.int (g:Int)))) λx hx=>hs x (W9 _ hx)
  have gr:=AI (g:=g) R ht (hs g Wf);refine⟨o,?_⟩;rw[Wo,nL (δ1:=bX bh a1 (some (.own d)) (some (.pure (az h w bs))) (some (.pure T)) (some (.pure (.str [t0]))) (some (.pure (.int (g:Int)))) a7 a8) rfl (Va bh a1 a7 a8 gr)];exact ih
theorem Hd(R:cu h w bs)(bh d T tt O:D)(a1 a6:Option S):∀ (He:List D) (o8:Option S),(∀ x ∈ He,Thing bs x) ->
  ∃ o:Option S,forL (ae [] 8) (cO (dF (aO (ax (lZ ce) [.val (aa 3),.val (aa 8)]))) (bA (eD (.bl false))) cH) He (bX bh a1 (some (.own d)) (some (.pure (az h w bs))) (some (.pure T)) (some (.pure tt)) a6 (some (.own O)) o8)
   = .ok .next (bX bh a1 (some (.own d)) (some (.pure (az h w bs))) (some (.pure T)) (some (.pure tt)) a6 (some (.own O)) o)
 | [],o8,_=>⟨o8,rfl⟩
 | x :: r,o8,hs=>by
  obtain⟨o,ih⟩:=Hd (ce:=ce) R bh d T tt O a1 a6 r (some (.pure x)) λy hy=>hs y (W9 _ hy)
  have gn:=UZ (ce:=ce) R (hs x Wf);refine⟨o,?_⟩;rw[nL (δ1:=bX bh a1 (some (.own d)) (some (.pure (az h w bs))) (some (.pure T)) (some (.pure tt)) a6 (some (.own O)) (some (.pure x))) rfl (Vb bh a1 a6 gn)];exact ih
theorem Vc(ts:List Nat)(bh:D)(a1 a2 a3 a5 a6 a7 a8:Option S):cb [10] (ae [] 10) (aO (aY (gv true) (aa 10) (ah 4))) (aa 10) (fo.map λn=>D.str [n]) (bX bh a1 a2 a3 (some (.pure (tD ts))) a5 a6 a7 a8) [] = .ok ((fo.filter λn=>!ts.contains n).map λn=>D.str [n]) (bX bh a1 a2 a3 (some (.pure (tD ts))) a5 a6 a7 a8):=by
 have:=Ao (cs:=[10]) (g:=ae [] 10) (t:=aO (aY (gv true) (aa 10) (ah 4))) (el:=aa 10) (λn:Nat=>D.str [n]) (λn=>D.str [n]) (λn=>!ts.contains n) (bX bh a1 a2 a3 (some (.pure (tD ts))) a5 a6 a7 a8) fo [] (by rw[dX]; decide) (λn hn=>by
  have q:gv true (.str [n]) (tD ts)=some (.pure (.bl (!ts.contains n))):=by
   unfold gv tD;simp only[GJ];congr 4
   induction ts with
   | nil=>rfl
   | cons a r ih =>
    simp[Js,ih]
  refine⟨[some (.pure bh),a1,a2,a3,some (.pure (tD ts)),a5,a6,a7,a8,none,some (.pure (.str [n]))],[some (.pure bh),a1,a2,a3,some (.pure (tD ts)),a5,a6,a7,a8,none,some (.pure (.str [n]))],.pure (.str [n]),[some (.pure bh),a1,a2,a3,some (.pure (tD ts)),a5,a6,a7,a8,none,some (.pure (.str [n]))],rfl,?_,rfl,?_,rfl,rfl⟩
  ·generalize tD ts=T at *;generalize (!ts.contains n)=bb at *;simp[aO,aa,ah,q]
  ·simp[aa])
 rw[this];simp
theorem Vd{ts:List Nat}(h:ts.length<=6):0 < (fo.filter λn=>!ts.contains n).length:=by
 apply List.length_pos_iff.mpr;intro e;have g8:∀ n ∈ fo,n ∈ ts:=λn hn=>by
  have:=List.filter_eq_nil_iff.mp e n hn;simpa using this
 have:=AF (l:=fo) (ts:=ts) (by decide) g8;have:fo.length=26:=by decide
 omega
section
variable {ce:Tx->Nat}
abbrev z0:DS:=(ar (ax ny [.val (aa 1)]) (ae [] 2))
abbrev z1:DS:=(ar (ax lW [.io 2,.val (eD (.int 6))]) (ae [] 3))
abbrev z2:DS:=(ar (cf [9] (bR (aj aB 3 (ao (eD (.int 2))))) (ae [] 9) bq (aj aB 9 (ao (eD (.int 0))))) (ae [] 4))
abbrev z3:DS:=(bY (bR (aa 4)) (ae [] 5) (cO (dF (aO (ax ip [.val (aa 3),.val (aa 5),.val (ax cL [.io 2,.val (eD (.int 5))])]))) (bA (eD (.bl false))) cH))
abbrev z4:DS:=(ar (aj aB 4 (ao (ax cL [.io 2,.val (a_ cy (ah 4))]))) (ae [] 5))
abbrev z5:DS:=(bY (bR (eF (aI (eD (.int 0)) (aI (eD (.int 1)) (aI (ax cL [.io 2,.val (eD (.int 61))]) bU))))) (ae [] 6) (cO (dF (aO (ax ip [.val (aa 3),.val (aa 5),.val (aa 6)]))) (bA (eD (.bl false))) cH))
abbrev z6:DS:=(cO (n5 (aO (aY bP (ax cL [.io 2,.val (eD (.int 8))]) (ao (eD (.int 0))))) (dF (aO (ax ip [.val (aa 3),.val (aa 5),.val (aY n9 (eD (.int 1000)) (ao (ax cL [.io 2,.val (eD (.int 3))])))])))) (bA (eD (.bl false))) cH)
abbrev z7:DS:=(ar (cf [10] (bR (eD (.str [97,98,99,100,101,102,103,104,105,106,107,108,109,110,111,112,113,114,115,116,117,118,119,120,121,122]))) (ae [] 10) (aO (aY (gv true) (aa 10) (ah 4))) (aa 10)) (ae [] 7))
abbrev z8(ce:Tx->Nat):DS:=(bY (bR (eF (aI (eD (.str [65])) (aI (eD (.str [])) (aI (aj bz 5 (ah 5)) (aI (eD .aN) (aI (eF (aI (aa 5) bU)) (aI (dh (aI (aa 5) bU)) (aI (aj aB 7 (ao (ax cL [.io 2,.val (a_ cy (ah 7))]))) bU))))))))) (ae [] 8) (cO (dF (aO (ax (lZ ce) [.val (aa 3),.val (aa 8)]))) (bA (eD (.bl false))) cH))
theorem Ve(bh:D)(c:Int)(o2 o3 o4 o5 o6 o7 o8:Option S):∃ q2 q3 q4 q5 q6 q7 q8,(au z0 (au z1 (au z2 (au z3 (au z4 (au z5 (au z6 (au z7 (z8 ce))))))))) (bX bh (some (.pure (.int c))) o2 o3 o4 o5 o6 o7 o8) = .ok .next (bX bh (some (.pure (.int c))) q2 q3 q4 q5 q6 q7 q8):=by
 obtain⟨d0,e0,p0⟩:=TF c;obtain⟨h,w,bs,d1,e1,R,n6,p1⟩:=TU p0 6 (by decide) (by decide);have e1:lW [.own d0,.pure (.int 6)]=some (.pure (az h w bs),[.own d1,.pure (.int 6)]):=e1;have x2:=(ju h w bs).2.2;have n0:=R.n0;have dB:(bs.map (·.1)).length=bs.length:=by simp
 have c2:=Aw R.n1 9 (bX bh (some (.pure (.int c))) (some (.own d1)) (some (.pure (az h w bs))) o4 o5 o6 o7 o8) rfl;have Hf:tD (bs.map (·.1)) = .lst ((bs.map (·.1)).map λn=>D.str [n]):=rfl;obtain⟨d2,q5,p2,e3⟩:=Hb R bh (some (.pure (.int c))) o6 o7 o8 (bs.map (·.1)) d1 o5 p1 λt ht=>ht
 obtain⟨r4,d3,e4,l4,p3⟩:=gO p2 bs.length (bs.length:Int) rfl n0 (by omega);have Hg:aB (tD (bs.map (·.1))) (.int (r4:Int))=some (.pure (.str [(bs.map (·.1)).getD r4 0])):=uG _ _ (by rw[dB]; exact l4);have hlen:cy (tD (bs.map (·.1)))=some (.pure (.int ((bs.length:Nat):Int))):=by simp[tD,cy]
 have ht:(bs.map (·.1)).getD r4 0 ∈ bs.map (·.1):=by
  rw[QE,Wk (by rw[dB]; exact l4)];exact QF _
 generalize (bs.map (·.1)).getD r4 0=t0 at Hg ht;obtain⟨r5,d4,e5,l5,p4⟩:=gO p3 61 61 rfl (by decide) (by decide);obtain⟨q6,e6⟩:=Hc R ht bh d4 (tD (bs.map (·.1))) (some (.pure (.int c))) o7 o8 [0,1,r5] o6 (by simp; omega);obtain⟨r6,d5,e7,l6,p5⟩:=gO p4 8 8 rfl (by decide) (by decide);obtain⟨r7,d6,e8,l7,p6⟩:=gO p5 3 3 rfl (by decide) (by decide);have gr:=AI (g:=1000 - r7) R ht (by omega);have uI:n9 (.int 1000) (.int (r7:Int))=some (.pure (.int ((1000 - r7:Nat):Int))):=by
  show some (S.pure (D.int (1000 - (r7:Int))))=_;congr 3
  omega
 have k6:∃ d',eK d'/\z6 (bX bh (some (.pure (.int c))) (some (.own d4)) (some (.pure (az h w bs))) (some (.pure (tD (bs.map (·.1))))) (some (.pure (.str [t0]))) q6 o7 o8) = .ok .next (bX bh (some (.pure (.int c))) (some (.own d')) (some (.pure (az h w bs))) (some (.pure (tD (bs.map (·.1))))) (some (.pure (.str [t0]))) q6 o7 o8):=by
  generalize tD (bs.map (·.1))=T at *;generalize az h w bs=ru at *;by_cases h6:r6=0
  ·refine⟨d6,p6,?_⟩;have hq:bP (.int (r6:Int)) (.int 0)=some (.pure (.bl true)):=by rw[Gw,h6]; rfl
   generalize ((1000 - r7:Nat):Int)=G at *;simp[z6,aO,ax,bf,bN,bu,bL,aa,bw,e7,e8,aS,hq,uI,gr]
  ·refine⟨d5,p5,?_⟩;have hq:bP (.int (r6:Int)) (.int 0)=some (.pure (.bl false)):=by
    rw[Gw];have:((r6:Int) == 0)=false:=by simpa using h6
    rw[this]
   simp[z6,aO,ax,bf,bN,bu,bL,aa,bw,e7,aS,hq]
 obtain⟨d7,p7,k6⟩:=k6;have c7:=Vc (bs.map (·.1)) bh (some (.pure (.int c))) (some (.own d7)) (some (.pure (az h w bs))) (some (.pure (.str [t0]))) q6 o7 o8;have op:=Vd (ts:=bs.map (·.1)) (by rw[dB]; exact n6);have Hh:∀ n ∈ fo.filter (λn=>!(bs.map (·.1)).contains n),n ∉ bs.map (·.1):=λn hn=>by
  have:=(List.mem_filter.mp hn).2;simpa using this
 have Vf:(fo.filter λn=>!(bs.map (·.1)).contains n).length<=26:=WK (List.length_filter_le _ _) (by decide);generalize fo.filter (λn=>!(bs.map (·.1)).contains n)=od at c7 op Hh Vf;obtain⟨r8,d8,e9,l8,p8⟩:=gO p7 od.length (od.length:Int) rfl op (by omega);have Hi:aB (tD od) (.int (r8:Int))=some (.pure (.str [od.getD r8 0])):=uG _ _ l8;have BX:cy (tD od)=some (.pure (.int ((od.length:Nat):Int))):=by simp[tD,cy]
 have Hj:od.getD r8 0 ∉ bs.map (·.1):=by
  refine Hh _ ?_;rw[QE,Wk l8];exact QF _
 generalize od.getD r8 0=z8v at Hi Hj;have Vg:bz (.str [t0]) (.str [t0])=some (.pure (.str [t0,t0])):=by simp[bz,dX]
 have Vh:∀ n ∈ bs.map (·.1),97<=n:=λn hn=>by
  obtain⟨b,hb,rfl⟩:=WV.mp hn;exact(R.P8 b hb).1
 have things:∀ x ∈ [D.str [65],.str [],.str [t0,t0],.aN,.lst [.str [t0]],.tup [.str [t0]],.str [z8v]],Thing bs x:=λx hx=>by
  simp at hx;rcases hx with rfl | rfl | rfl | rfl | rfl | rfl | rfl
  ·exact⟨.inr ⟨_,rfl,λn hn e=>by have:=Vh n hn; simp at e; omega⟩,rfl,rfl⟩
  ·exact⟨.inr ⟨_,rfl,λn hn e=>by simp at e⟩,rfl,rfl⟩
  ·exact⟨.inr ⟨_,rfl,λn hn e=>by simp at e⟩,rfl,rfl⟩
  ·exact⟨.inl rfl,rfl,rfl⟩
  ·exact⟨.inl rfl,rfl,rfl⟩
  ·exact⟨.inl rfl,rfl,rfl⟩
  ·exact⟨.inr ⟨_,rfl,λn hn e=>by simp at e; exact Hj (by rw[e]; exact hn)⟩,rfl,rfl⟩
 obtain⟨q8,e10⟩:=Hd (ce:=ce) R bh d8 (tD (bs.map (·.1))) (.str [t0]) (tD od) (some (.pure (.int c))) q6 _ o8 things;refine⟨some (.own d8),some (.pure (az h w bs)),some (.pure (tD (bs.map (·.1)))),some (.pure (.str [t0])),q6,some (.own (tD od)),q8,?_⟩;have Hk:tD od = .lst (od.map λn=>D.str [n]):=rfl;generalize hBL:bs.map cQ=B at *;generalize hTS:((bs.map (·.1)).map λn=>D.str [n])=TS at *;generalize tD (bs.map (·.1))=T at *;generalize (od.map λn=>D.str [n])=OS at Hk c7;generalize tD od=O at *;generalize az h w bs=RU at *;rw[eL (δ1:=bX bh (some (.pure (.int c))) (some (.own d0)) o3 o4 o5 o6 o7 o8) (by simp[z0,ar,ax,bf,bN,bu,bL,aa,bw,aS,e0])];rw[eL (δ1:=bX bh (some (.pure (.int c))) (some (.own d1)) (some (.pure RU)) o4 o5 o6 o7 o8) (by simp[z1,ar,ax,bf,bN,bu,bL,aa,bw,aS,e1])];rw[eL (δ1:=bX bh (some (.pure (.int c))) (some (.own d1)) (some (.pure RU)) (some (.own T)) o5 o6 o7 o8) (by
  simp[z2,ar,fF,aj,bI,ah,x2,bu,bB];rw[c2,Hf];rfl)]
 have i3:bR (aa 4) (bX bh (some (.pure (.int c))) (some (.own d1)) (some (.pure RU)) (some (.own T)) o5 o6 o7 o8) = .ok TS (bX bh (some (.pure (.int c))) (some (.own d1)) (some (.pure RU)) (some (.pure T)) o5 o6 o7 o8):=by
  rw[Hf];simp[fF,aa]
 rw[eL ((rD i3).trans e3)];rw[eL (δ1:=bX bh (some (.pure (.int c))) (some (.own d3)) (some (.pure RU)) (some (.pure T)) (some (.pure (.str [t0]))) o6 o7 o8) (by simp[z4,ar,aj,bI,ah,hlen,ax,bf,bN,bu,bL,aa,bw,aS,e4,Hg])];have i5:bR (eF (aI (eD (.int 0)) (aI (eD (.int 1)) (aI (ax cL [.io 2,.val (eD (.int 61))]) bU)))) (bX bh (some (.pure (.int c))) (some (.own d3)) (some (.pure RU)) (some (.pure T)) (some (.pure (.str [t0]))) o6 o7 o8) = .ok ([0,1,r5].map λg:Nat=>D.int (g:Int)) (bX bh (some (.pure (.int c))) (some (.own d4)) (some (.pure RU)) (some (.pure T)) (some (.pure (.str [t0]))) o6 o7 o8):=by
  simp[fF,ax,bf,bN,bu,bL,aa,bw,aS,e5]
 rw[eL ((rD i5).trans e6),eL k6];rw[eL (δ1:=bX bh (some (.pure (.int c))) (some (.own d7)) (some (.pure RU)) (some (.pure T)) (some (.pure (.str [t0]))) q6 (some (.own O)) o8) (by
  have q:bR (eD (.str [97,98,99,100,101,102,103,104,105,106,107,108,109,110,111,112,113,114,115,116,117,118,119,120,121,122])) (bX bh (some (.pure (.int c))) (some (.own d7)) (some (.pure RU)) (some (.pure T)) (some (.pure (.str [t0]))) q6 o7 o8) = .ok (fo.map λn=>D.str [n]) (bX bh (some (.pure (.int c))) (some (.own d7)) (some (.pure RU)) (some (.pure T)) (some (.pure (.str [t0]))) q6 o7 o8):=by
   rw[fF];rfl
  unfold z7 ar;rw[PY,q];simp only[ij];rw[if_neg (by simp[bu])];have:bB [10] (bX bh (some (.pure (.int c))) (some (.own d7)) (some (.pure RU)) (some (.pure T)) (some (.pure (.str [t0]))) q6 o7 o8)=bX bh (some (.pure (.int c))) (some (.own d7)) (some (.pure RU)) (some (.pure T)) (some (.pure (.str [t0]))) q6 o7 o8:=rfl;rw[this,c7,Hk];rfl)]
 have i8:bR (eF (aI (eD (.str [65])) (aI (eD (.str [])) (aI (aj bz 5 (ah 5)) (aI (eD .aN) (aI (eF (aI (aa 5) bU)) (aI (dh (aI (aa 5) bU)) (aI (aj aB 7 (ao (ax cL [.io 2,.val (a_ cy (ah 7))]))) bU)))))))) (bX bh (some (.pure (.int c))) (some (.own d7)) (some (.pure RU)) (some (.pure T)) (some (.pure (.str [t0]))) q6 (some (.own O)) o8) = .ok [D.str [65],.str [],.str [t0,t0],.aN,.lst [.str [t0]],.tup [.str [t0]],.str [z8v]] (bX bh (some (.pure (.int c))) (some (.own d8)) (some (.pure RU)) (some (.pure T)) (some (.pure (.str [t0]))) q6 (some (.own O)) o8):=by
  simp[fF,aj,bI,ah,Vg,aa,BX,ax,bf,bN,bu,bL,bw,aS,e9,Hi]
 exact(rD i8).trans e10
theorem Vi(ns:List Int)(hn:ns.length<=63):o_ ce [.pure (.lst (ns.map .int))]=some (.pure (.bl true),[.pure (.lst (ns.map .int))]):=by
 obtain⟨c0,e0⟩:=TH ns;have Vj:∀ (ns:List Int) (lo hi:Option Int),dg (ns.map D.int) lo hi=(dg ns lo hi).map D.int:=λns lo hi=>by
  unfold dg;simp[List.map_take,List.map_drop]
 have ha:bz (.lst [.int c0]) (.lst (dg (ns.map .int) (some 1) (some 4)))=some (.own (.lst ((c0 :: dg ns (some 1) (some 4)).map .int))):=by
  rw[Vj];have hl:(dg ns (some 1) (some 4)).length<=63:=by
   unfold dg;simp;omega
  simp only[bz];rw[if_pos (by rw[dX]; simp; omega)];simp
 have hs:jN (some 1) (some 4) (.lst (ns.map .int))=some (.own (.lst (dg (ns.map .int) (some 1) (some 4)))):=rfl;generalize D.lst (ns.map .int)=bh at *;obtain⟨δ',e,o1,o2,o3,o4,o5,o6,o7,o8,rfl⟩:=iN (g:=ae [] 1) (b:=(au z0 (au z1 (au z2 (au z3 (au z4 (au z5 (au z6 (au z7 (z8 ce))))))))))
  (λ_ δ=>∃ o1 o2 o3 o4 o5 o6 o7 o8,δ=bX bh o1 o2 o3 o4 o5 o6 o7 o8) ((c0 :: dg ns (some 1) (some 4)).map .int) 0 (bX bh none none none none none none none none) ⟨_,_,_,_,_,_,_,_,rfl⟩ (λi d δ hd ⟨o1,o2,o3,o4,o5,o6,o7,o8,e⟩=>by
   subst e;simp only[Ww,WM] at hd;obtain⟨k,_,rfl⟩:=hd;obtain⟨q2,q3,q4,q5,q6,q7,q8,e⟩:=Ve (ce:=ce) bh k o2 o3 o4 o5 o6 o7 o8;exact⟨_,_,rfl,e,_,_,_,_,_,_,_,_,rfl⟩)
 generalize ((c0 :: dg ns (some 1) (some 4)).map D.int)=cs at *;generalize D.lst (dg (ns.map .int) (some 1) (some 4))=cl at *;rw[o_];refine Au (δ1:=bX bh o1 o2 o3 o4 o5 o6 o7 o8) ?_;rw[yY];have qi:bR (aY bz (eF (aI (ax nu [.val (aa 0),.val (eD (.int 0))]) bU)) (ao (qj 0 (mK (eD (.int 1))) (mK (eD (.int 4)))))) (bX bh none none none none none none none none) = .ok cs (bX bh none none none none none none none none):=by
  simp[fF,ax,bf,bN,bL,aa,bw,e0,aS,qj,mK,ah,hs,ha]
 refine(eL ((rD qi).trans e)).trans ?_;rfl
end
def Gt:DF:=λss=>match ss with
 | [.pure (.lst ds)]=>match jU ds with
  | some ns=>if ns.length<=63 then some (.pure (.bl true),ss) else none
  | none=>none
 | _=>none
theorem Vk(ns:List Int)(h:ns.length<=63):∃ aE,Gt [.pure (.lst (ns.map .int))]=some (.pure (.bl true),aE):=by
 unfold Gt;simp only[DV.ints_map,h,if_true];exact⟨_,rfl⟩
theorem Hl:∀ {ds:List D} {ns:List Int},jU ds=some ns->ds=ns.map .int
 | [],ns,h=>by simp[jU] at h; subst h; rfl
 | d :: r,ns,h=>by
  cases d with
  | int i =>
   simp only[jU] at h
   cases e:jU r with
   | none=>rw[e] at h; cases h
   | some m =>
    rw[e] at h
    cases h;rw[Hl e];rfl
  | _=>simp[jU] at h
theorem Vl:∀ (ce:Tx->Nat) ss y,Gt ss=some y->o_ ce ss=some y:=by
 intro ce ss y h;unfold Gt at h;split at h
 ·rename_i ds
  cases hi:jU ds with
  | none=>rw[hi] at h; cases h
  | some ns =>
   rw[hi] at h;by_cases hn:ns.length<=63
   ·simp only[hn,if_true] at h
    cases h;have e:=Hl hi;subst e;exact Vi ns hn
   ·simp only[hn,if_false] at h
    cases h
 ·cases h
end K17
open PySem PySem.W PyProof.Rows
namespace PySem.W.Fast
def tw11956325893632499211:=0
def tw9842746178624136410:=0
def tw17906478791353772102:=0
def tw10876256192467876223:=0
def tw7806907068217418679:=0
def tw17443207143476252160:=0
def tw6351377457208458315:=0
def tw14780212643854944569:=0
def tw17249161310733242190:=0
def tw15558186669516676007:=0
def tw331698269365085295:=0
def tw12600588070881755431:=0
def tw14075051986673331084:=0
def tw3341069746051250060:=0
def tw1443293066629143370:=0
def tw15138267191361518626:=0
def tw10793647879679425945:=0
def tw18119478925591042997:=0
def tw13028237339099338371:=0
def tw1935138066336719139:=0
def tw17796802521421090109:=0
def tw12044004058719884390:=0
def tw16104583598389991537:=0
def tw13148548860698247808:=0
def tw17497618539805629041:=0
def tw14248209707440318871:=0
def tw11470701471238729510:=0
def tw13534631448020439986:=0
def tw6906539177190597875:=0
def tw17652844883598657024:=0
def tw8570450990019129965:=0
def tw6492481231400542492:=0
def tw10057276977737336440:=0
def tw9084425555288988035:=0
def tw6522991371585881892:=0
def tw5307349891989283094:=0
def tw3218239329923719891:=0
def tw9460706451679010260:=0
def tw17757107499979634057:=0
def tw11464620148526550309:=0
def tw5065376533368471158:=0
def tw3643156021686183325:=0
def tw4584905235300078451:=0
def tw3728321527293639477:=0
def tw9145801848153444193:=0
def tw17549282586418766023:=0
def tw17959085574743688382:=0
def tw6580775853880761778:=0
def tw7662691665455495023:=0
def tw8405795853724106989:=0
def tw12704884359554634191:=0
def tw12582895036891701824:=0
def tw12748998172583178025:=0
def tw4421518782472077315:=0
def tw3354264420329537636:=0
def tw10815601151512013342:=0
def tw12971810866302678345:=0
def tw12506064041311064329:=0
def tw16957658823667080247:=0
def tw2311903865969900835:=0
end PySem.W.Fast
set_option maxRecDepth 100000 in
set_option maxHeartbeats 0 in
theorem PySem.Challenge.cw_tilegrow_k17_tiles_of_far_floors_holds : PySem.Challenge.rw_tilegrow_k17_tiles_of_far_floors.Holds := by
 w_on; o_law; k_head; (case hw=>w_witness2)
 k_fill
 refine DV.wz (l:=PySem.Challenge.rw_tilegrow_k17_tiles_of_far_floors) (k:=6) (G:=K17.Gt) rfl rfl ⟨rfl,by decide,by decide⟩ (λw h Y=>PySem.W.kIn_of Y) ?L K17.Vk ?F
 case L=>intro p; exact Eq.refl true
 case F =>
  intro w mg fa h KX G pO;refine' K17.all_mk K17.Vl KX G pO ?d0 ?d1 ?d2 ?d3 ?d4 ?d5 ?d6 ?d7 ?d8 ?d9 ?jk ?jl ?y9 ?y_ ?zb ?zc ?zd ?ze ?zf ?zg ?zh ?zi ?zj ?qr ?zk ?zm ?zo ?qY ?qZ ?oQ ?q0 ?lU ?eG ?jh ?oR ?q_ ?gM ?rg ?oS ?rh ?lV ?nt ?zq ?zr ?zt ?zu ?zv ?zw ?uC ?zy ?zA ?zB ?Gg ?zC ?zD ?zE ?zF ?zG ?zH ?zI ?zJ ?zK ?zL ?zM ?zN ?zO ?zP ?zQ ?zR ?zS ?zU ?iS ?zV ?zW ?zX ?zY ?zZ ?z9 ?z_ ?Aa ?Ab ?Ac ?Ad ?Ae ?Af
  (case d0|d1|d2|d3|d4|d5|d6|d7|d8|d9|jk|jl|y9|y_|zb|zc|zd|ze|zf|zg|zh|zi|zj=>exact⟨_,_,_,_,_,_,_,_,_,_,by k_is,by k_is,by k_is,by k_is⟩)
  (case qr|zk|zm|zo|qY|qZ|oQ|q0|lU|eG|jh|oR|q_|gM|rg|oS|rh|lV|nt|zq|zr|zt|zu|zv|zw|uC|zy|zA|zB|Gg|zC|zD|zE|zG|zH|zI|zK|zL|zN|zO|zP|zQ|zR|zS|zU|iS|zW|zX|Af=>k_is)
  (case zF|zJ|zM=>kernel_rfl)
  (case zV|zY|zZ|z9|z_|Aa|Ab|Ac|Ad|Ae=>kit_is)
