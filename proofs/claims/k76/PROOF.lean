import PyProof.Rows.All
import Wide.All
import OpenK.AllK
import Wide.FinOn
import Lean
import PyProof.EqAt
import PyProof.EqKinds
import PyProof.TupleCall
import PyProof.NeKinds
import PyProof.StrWalks
import PyProof.ListStr
import PyProof.StrOps2
import PyProof.StrLawsIn
import KE.KDictOf
import PyProof.AttrMissHeap
import PyProof.Draws
import PyProof.EnumMake
import PyProof.Rows.EnumRows
import PyProof.LongRange
import PyProof.NoPylong
import PyProof.SeqI3
import PyProof.Rows.SeqCalls
import PyProof.StrLawsChain
import PyProof.StrCalls2
import KE.KIntText
import PyProof.Rows.CallKwBuiltin
import OpenK.KOwn
import OpenK.KRaise
import PyProof.ExcBaseAll.ValueError
import PyProof.Rows.CatchOwn
import KE.KIsAll
import PyProof.ExcArgsOwn
import PyProof.ExcAttrAll.ValueError
import PyProof.Rows.SeqMore2
import PyProof.ListMulAny
import PyProof.ListMulRoad
import PyProof.ZipIter
import PyProof.Rows.FactsT2
import PyProof.ExcInit
import PyProof.InstStoreFacts
import PyProof.StrCalls
import PyProof.FactsAll.dict_1
import PyProof.FactsAll.subtypes_3
import PyProof.FactsAll.subtypes_4
import PyProof.Dict
import PyProof.MinMaxWalk
import PyProof.WalkInts
import PyProof.WalksMore
import PyProof.FactsAll.tuple_2
import KE.KSortTup
import PyProof.Rows.SortWalk
import PySem.Challenge.RW_tilegrow_k76_texts_that_write_none
open PySem.W renaming Frag→W0,mg_none_of→WG,kia_one→WT,keepIn→Q3,fnOf→Qk,kitOne→Qo,cellsFrom_some→J1,findIn→J4,findIn→Jg,looks_findIn→Jq,hasDictIn→Jt
open PySem renaming wpAny_bind→W1,Shared→W2,starEach→W4,sizeLine→W8,wpAny→Wa,wpAny_pure→Wd,Spec→Wj,Program→Wk,mainGlobals→Wl,Around→Wp,World→Wr,compareOp→Wt,mem_of_lookup→Wv,FuncData→WD,backTo→WF,wpAny_loadPart'→WH,wpAny_mono→WO,wpAny_truthy_bool→WR,attributeBase→WS,keywordEach→WV,wpAny_holding→WX,assignEach→WZ,bootBuiltins→Q1,wpAny_field→Q4,wpAny_loadPart_at→Q6,binaryOp→Q7,behindInMarks→Qa,foldedSetIterable→Qd,wpAny_newObj_type→Qe,cellsFrom→Qf,rawInt→Qj,call_meets→Qm,backToKw→Qn,codeAny_call_builtin→Qv,codeAny→QA,wpAny_Call_Name_kw→QC,cLine→QD,wpAny_pyIter_list→QH,wpAny_pyIter_enum→QI,codeAny_mono→QN,wpAny_callSpecial?_slot→QT,swapsWith→QX,typeIs_int→QZ,wpAny_pyIter_tuple→J0,wpAny_typeOf→J5,sysModules→J9,wpAny_standAt→Jf,sliceBounds→Jh,wpAny_execs_nil→Ji,wpAny_passesOwn→Jj,pushCells→Jl,noteFrame→Jm,getattributeRaised→Jo,wpAny_rule→Jr,wpAny_setField→Js
open List renaming replicate→W3,getElem?_set_ne→W9,getElem?_eq_some_iff→Wb,mem_cons_of_mem→Wc,size_toArray→Wf,mem_cons→Wh,mem_cons_self→Wi,forall_mem_cons→Wo,getElem?_set_self→Wq,length_cons→Ws,length_map→Wu,mem_of_getElem?→Ww,mem_append_right→Wz,map_cons→WB,all_eq_true→WC,getElem?_eq_getElem→WE,lookup_cons→WJ,getElem?_set→WK,nil_append→WM,getElem?_map→WN,length_append→WP,append_nil→WU,replicate_succ→WW,length_set→WY,any_cons→Q2,length_nil→Q8,all_cons→Qb,foldl_cons→Qg,range→Ql,getElem?_eq_none→Qq,drop_eq_getElem_cons→Qs,find?_cons→Qu,mem_map→Qw,flatten_cons→QG,mem_map_of_mem→QS,getElem?_cons_zero→QU,mem_append→QW,nodup_cons→QY,mem_append_left→Jb,length_take→Jc,length_drop→Jd,range'_succ→Je,contains_cons→Jp,length→Ju,getElem_mem→Jv,mem_nil_iff→Jw,of_mem_zip→Jx,map_nil→Jy,all_map→Jz,map_map→JA,any_map→JB
open Option.some renaming injEq→W5,inj→WA
open PySem.Heap renaming get?_push_of_some→W6,lt_size→Wg,get?_push_size→Wm,get?_update_other→Q5,get?_update_self→Qp,size_push→QM,get?_none_of_le→Ja
open Nat renaming le_refl→W7,le_trans→Wn,lt_of_lt_of_le→Wx,ne_of_lt→Wy,lt_irrefl→Q0,add_sub_cancel_left→Qz,zero_le→QL,lt_succ_of_lt→J3,ne_of_gt→Jk,zero_add→Jn
open Bool renaming and_eq_true→We,false_ne_true→WL,eq_iff_iff→Qh,false_eq_true→Qr,not_eq_true'→Qx
open Option renaming map_some→WI,bind_some→WQ,isSome_iff_exists→QP
open PySem.Builtin.Str renaming strKind→Q9,occurrences→Qc,strSliceIndices→Qi,occurrences→Qy
open PyProof.Rows renaming slot_tuple_getitem→Qt,callWith_type1→QB,envOfC→QO
open PySem.F renaming slot_tuple_iterator_next→QE,plainAttrs_list→QV
open Array renaming getElem?_eq_some_iff→QF
open PySem.Builtin.Slice renaming slicePlaces→QJ
open PySem.Builtin.SmallTypes renaming nextOf→QK
open PySem.Builtin.Tuple renaming tupleExact→QQ
open PySem.Builtin.List renaming listTooLong→QR
set_option Elab.async false
set_option linter.all false
set_option maxRecDepth 100000
namespace L2
open PySem PySem.Spec PyProof.Rows
abbrev Key:=Sum Int Str
def z9V:Key→Value→Bool
 | .inl k,v=>Value.isInt k v
 | .inr x,v=>Value.isStrOf x v
def keyH (w:Wr):Key→Int
 | .inl k=>hashInt k
 | .inr x=>hashStr w x
theorem z19:∀ {k:Key} {v:Value},z9V k v=true→(∃ i t,k=Sum.inl i∧v=Value.int i t)∨(∃ x t,k=Sum.inr x∧v=Value.str x t)
 | .inl i,v,h=>by
  obtain ⟨t,e⟩:=Value.isInt_shape (k:=i) (v:=v) h
  exact .inl ⟨i,t,rfl,e⟩
 | .inr x,v,h=>by
  obtain ⟨t,e⟩:=Value.isStrOf_shape (x:=x) (v:=v) h
  exact .inr ⟨x,t,rfl,e⟩
theorem zb5 (i:Int) (t:Tok):z9V (.inl i) (.int i t)=true:=by simp [z9V,Value.isInt]
theorem zb4 (x:Str) (t:Tok):z9V (.inr x) (.str x t)=true:=by simp [z9V,Value.isStrOf]
theorem zgm (a b:Int):decide ((Sum.inl a:Key)=Sum.inl b)=(a == b):=by
 by_cases e:a=b
 ·subst e; simp
 ·have h:¬ (Sum.inl a:Key)=Sum.inl b:=fun q=>e (Sum.inl.inj q)
  rw [decide_eq_false h]
  exact (beq_eq_false_iff_ne.mpr e).symm
theorem zgj (a b:Str):decide ((Sum.inr a:Key)=Sum.inr b)=decide (a=b):=by
 by_cases e:a=b
 ·subst e; simp
 ·have h:¬ (Sum.inr a:Key)=Sum.inr b:=fun q=>e (Sum.inr.inj q)
  rw [decide_eq_false h,decide_eq_false e]
theorem zgl (a:Int) (b:Str):decide ((Sum.inl a:Key)=Sum.inr b)=false:=decide_eq_false (fun q=>nomatch q)
theorem zgk (a:Str) (b:Int):decide ((Sum.inr a:Key)=Sum.inl b)=false:=decide_eq_false (fun q=>nomatch q)
def z2b (prog:Wk) (w:Wr):PySem.KeyKind prog w Key where
 is:=z9V
 hash:=keyH w
 inj:=fun v a b ha hb=>by
  rcases z19 ha with ⟨i,t,rfl,rfl⟩ | ⟨x,t,rfl,rfl⟩
  ·rcases z19 hb with ⟨j,u,rfl,e⟩ | ⟨y,u,rfl,e⟩
   ·injection e with e1 _; rw [e1]
   ·exact nomatch e
  ·rcases z19 hb with ⟨j,u,rfl,e⟩ | ⟨y,u,rfl,e⟩
   ·exact nomatch e
   ·injection e with e1 _; rw [e1]
 byValue:=fun k v h=>by
  rcases z19 h with ⟨i,t,rfl,rfl⟩ | ⟨x,t,rfl,rfl⟩ <;> rfl
 pyHash:=fun hv h=>by
  rcases z19 hv with ⟨i,t,rfl,rfl⟩ | ⟨x,t,rfl,rfl⟩
  ·exact wpAny_pyHash_int h
  ·exact wpAny_pyHash_str h
 eqBool:=fun hu hv h=>by
  rcases z19 hu with ⟨i,t,rfl,rfl⟩ | ⟨x,t,rfl,rfl⟩
  ·rcases z19 hv with ⟨j,u,rfl,rfl⟩ | ⟨y,u,rfl,rfl⟩
   ·rw [zgm] at h; exact wpAny_eqBool_int h
   ·rw [zgl] at h; exact SeqAt.EqAt.int_str i t y u _ _ _ _ h
  ·rcases z19 hv with ⟨j,u,rfl,rfl⟩ | ⟨y,u,rfl,rfl⟩
   ·rw [zgk] at h; exact SeqAt.EqAt.str_int x t j u _ _ _ _ h
   ·rw [zgj] at h; exact wpAny_eqBool_str h
 «strs»:=fun k x t v h=>by
  rcases z19 h with ⟨i,u,rfl,e⟩ | ⟨y,u,rfl,e⟩
  ·exact nomatch e
  ·injection e with e1 _
   subst e1
   cases v <;> rfl
theorem z8P (prog:Wk) (w:Wr) (i:Int) (t:Tok):(z2b prog w).is (.inl i) (.int i t)=true:=zb5 i t
theorem z8O (prog:Wk) (w:Wr) (x:Str) (t:Tok):(z2b prog w).is (.inr x) (.str x t)=true:=zb4 x t
inductive V where
 | non | bl (b:Bool) | int (i:Int) | str (x:Str) | byt (b:Array UInt8) | flt (b:UInt64) | ref (a:Addr) | ty (n:String)
 deriving DecidableEq
def RelV:V→Value→Prop
 | .non,u=>u=Value.none
 | .bl b,u=>u=Value.bool b
 | .int i,u=>∃ t,u=Value.int i t
 | .str x,u=>∃ t,u=Value.str x t
 | .byt b,u=>∃ t,u=Value.bytes b t
 | .flt b,u=>∃ t,u=Value.float b t
 | .ref a,u=>u=Value.ref a
 | .ty n,u=>u=Value.type n
abbrev Vals:List V→List Value→Prop:=Paired RelV
theorem Vals.length (r:Vals xs us):xs.length=us.length:=Paired.length r
theorem Vals.get:∀ {xs:List V} {us:List Value} {i:Nat} {x:V},Vals xs us→xs[i]? = some x→∃ u,us[i]? = some u∧RelV x u
 | _,_,_,_,.nil,e=>by simp at e
 | _,_,0,_,.cons r _,e=>by simp at e; subst e; exact ⟨_,rfl,r⟩
 | _,_,i + 1,x,.cons _ t,e=>by
  obtain ⟨u,h1,h2⟩:=Vals.get (i:=i) (x:=x) t (by simpa using e)
  exact ⟨u,by simpa using h1,h2⟩
theorem Vals.set (r:RelV x u):∀ {xs:List V} {us:List Value} (i:Nat),Vals xs us→Vals (xs.set i x) (us.set i u)
 | _,_,_,.nil=>.nil
 | _,_,0,.cons _ t=>.cons r t
 | _,_,i + 1,.cons q t=>.cons q (Vals.set r i t)
theorem Vals.append:∀ {xs ys:List V} {us ws:List Value},Vals xs us→Vals ys ws→Vals (xs ++ ys) (us ++ ws)
 | _,_,_,_,.nil,s=>s
 | _,_,_,_,.cons r t,s=>.cons r (Vals.append t s)
theorem Vals.take:∀ {xs:List V} {us:List Value} (n:Nat),Vals xs us→Vals (xs.take n) (us.take n)
 | _,_,0,_=>.nil
 | _,_,_ + 1,.nil=>.nil
 | _,_,n + 1,.cons r t=>.cons r (Vals.take n t)
theorem Vals.drop:∀ {xs:List V} {us:List Value} (n:Nat),Vals xs us→Vals (xs.drop n) (us.drop n)
 | _,_,0,r=>r
 | _,_,_ + 1,.nil=>.nil
 | _,_,n + 1,.cons _ t=>Vals.drop n t
def RelO:Option V→Option Value→Prop
 | some v,some u=>RelV v u
 | none,none=>True
 | _,_=>False
def KV {κ:Type}:List (κ×V)→List (κ×Value)→Prop:=Paired fun (p:κ×V) (q:κ×Value)=>p.1=q.1∧RelV p.2 q.2
def kV:Key→V
 | .inl i=>.int i
 | .inr x=>.str x
inductive HO where
  | lst (xs:List V)
  | tup (xs:List V)
  | dK (kvs:List (Key×V)) | dT (kvs:List (List Key×V))
  | set (S:Int→Bool) (n:Nat)
  | ins (C dx:Addr) (fs:List (Str×V))
  | own (x:Addr)
  | xd (fs:List (Str×V))
  | met (f x:Addr)
  | rng (lo hi:Int)
  | frz (o:Obj) (u:HO)
  | tbl (ps:Array Value)
  | ext (φ:Heap→Prop)
abbrev Hp:=Addr→Option HO
def upd (H:Hp) (a:Addr) (o:HO):Hp:=fun b=>if b=a then some o else H b
theorem z0y:upd H a o a=some o:=by unfold upd; rw [if_pos rfl]
theorem z0q (h:b≠a):upd H a o b=H b:=by unfold upd; rw [if_neg h]
theorem zdu:upd (upd H a o) a u=upd H a u:=by
 funext b; unfold upd; split <;> rfl
theorem z0L {H:Hp} {a b:Addr} {o:HO} (h:H a=some o) (h':H b=none):a≠b:=by
 intro e; subst e; rw [h] at h'; cases h'
def IsTupN (h:Heap) (a:Addr) (its:Array Value):Prop:=∃ n,h.get? a=some { cls:=.type "tuple",dict:=none,data:=.seq its n,slots:=#[] }
theorem IsTupN.tup (x:IsTupN h a its):IsTup h a its:=let ⟨n,e⟩:=x; ⟨_,e,rfl,n,rfl⟩
theorem IsTupN.new (h:Heap) (its:Array Value):IsTupN (h.push { cls:=.type "tuple",data:=.seq its }) h.objs.size its:=⟨_,Wm _ rfl⟩
theorem IsTupN.lt (x:IsTupN h a its):a < h.objs.size:=let ⟨_,e⟩:=x; Wg e
section
variable (P:Wk) (w:Wr)
def ObjOk (H:Hp) (h:Heap) (a:Addr):HO→Prop
 | .lst xs=>xs.length≤W8∧∃ (its:List Value) (n:Nat),Vals xs its∧h.get? a=some { cls:=.type "list",data:=.seq its.toArray n }
 | .tup xs=>xs.length≤W8∧∃ its:List Value,Vals xs its∧IsTupN h a its.toArray
 | .dK kvs=>kvs.length≤W8∧(a == J9)=false∧∃ vs,KV kvs vs∧h.DictOf (z2b P w) a vs
 | .dT kvs=>kvs.length≤W8∧(a == J9)=false∧∃ xs:List (List Key×Addr×Value),
   Paired (fun (p:List Key×V) (q:List Key×Addr×Value)=>p.1=q.1∧H q.2.1=some (.tup (p.1.map kV))∧RelV p.2 q.2.2) kvs xs ∧
   ∃ o es ep,h.get? a=some o∧o.ExactDict∧o.data = .dict es ep∧es.toList=xs.map (entryOfKey (tupleKind (z2b P w)))∧(xs.map (·.1)).Nodup
 | .set S n=>h.SetOf (intKind P w) a S n
 | .ins C dx fs=>H dx=some (.own a)∧fs.length≤1000∧dx≠a∧h.get? a=some (PySem.W.instObj C dx) ∧
   ∃ mA,h.Ns1 dx mA∧(∀ f,RelO (fs.lookup f) (mA f))∧PySem.Within mA (fs.map (·.1))
 | .own _=>∃ o,h.get? a=some o
 | .xd fs=>∃ mA,h.Ns1 a mA∧∀ f,RelO (fs.lookup f) (mA f)
 | .rng lo hi=>∃ t u v,h.get? a=some { cls:=.type "range",data:=.fields #[.int lo t,.int hi u,.int 1 v] }
 | .frz o u=>h.get? a=some o∧ObjOk H h a u
 | .tbl ps=>h.get? a=some { cls:=.none,data:=.fields ps }
 | .met f x=>h.get? a=some (PySem.W.methodObj (.ref f) (.ref x))
 | .ext φ=>φ h∧(∃ o,h.get? a=some o)∧∀ h1 h2:Heap,φ h1→(∀ o,h1.get? a=some o→h2.get? a=some o)→φ h2
def HOk (H:Hp) (h:Heap):Prop:=∀ a o,H a=some o→ObjOk P w H h a o
end
section
variable {P:Wk} {w:Wr} {H H':Hp} {h h':Heap} {a:Addr} {o:HO}
theorem ObjOk.lt (x:ObjOk P w H h a o):a < h.objs.size:=by
 cases o with
 | lst xs=>obtain ⟨_,_,_,_,e⟩:=x; exact Wg e
 | tup xs=>obtain ⟨_,_,_,p⟩:=x; exact p.lt
 | dK kvs=>obtain ⟨_,_,_,_,o,_,_,e,_⟩:=x; exact Wg e
 | dT kvs=>obtain ⟨_,_,_,_,o,_,_,e,_⟩:=x; exact Wg e
 | set S n=>obtain ⟨o,_,_,_,e,_⟩:=x; exact Wg e
 | ins C dx fs=>obtain ⟨_,_,_,e,_⟩:=x; exact Wg e
 | own y=>obtain ⟨_,e⟩:=x; exact Wg e
 | xd fs=>obtain ⟨_,⟨_,_,_,e,_⟩,_⟩:=x; exact Wg e
 | rng lo hi=>obtain ⟨_,_,_,e⟩:=x; exact Wg e
 | frz ob u=>obtain ⟨e,_⟩:=x; exact Wg e
 | tbl ps=>exact Wg (show h.get? a=some _ from x)
 | met f y=>exact Wg (show h.get? a=some _ from x)
 | ext φ=>obtain ⟨_,⟨_,e⟩,_⟩:=x; exact Wg e
theorem Paired.mapP:∀ {l₁:List α} {l₂:List β},Paired F l₁ l₂→(∀ a b,F a b→G a b)→Paired G l₁ l₂
 | _,_,.nil,_=>.nil
 | _,_,.cons r t,f=>.cons (f _ _ r) (Paired.mapP t f)
theorem ObjOk.stay (x:ObjOk P w H h a o) (k:∀ b u,(b=a∨H b=some (.own a))→h.get? b=some u→h'.get? b=some u)
  (ho:∀ b,H b=some (.own a)→H' b=some (.own a)) (ht:∀ b xs,H b=some (.tup xs)→H' b=some (.tup xs)):ObjOk P w H' h' a o:=by
 induction o with
 | lst xs=>obtain ⟨z,its,n,r,e⟩:=x; exact ⟨z,its,n,r,k _ _ (.inl rfl) e⟩
 | tup xs=>obtain ⟨z,its,r,n,e⟩:=x; exact ⟨z,its,r,n,k _ _ (.inl rfl) e⟩
 | dK kvs=>obtain ⟨z,y,vs,r,ob,es,ep,e,c⟩:=x; exact ⟨z,y,vs,r,ob,es,ep,k _ _ (.inl rfl) e,c⟩
 | dT kvs =>
  obtain ⟨z,y,xs,r,ob,es,ep,e,c⟩:=x
  exact ⟨z,y,xs,Paired.mapP r fun p q z=>⟨z.1,ht _ _ z.2.1,z.2.2⟩,ob,es,ep,k _ _ (.inl rfl) e,c⟩
 | set S n=>obtain ⟨ob,es,ep,t,e,c⟩:=x; exact ⟨ob,es,ep,t,k _ _ (.inl rfl) e,c⟩
 | ins C dx fs =>
  obtain ⟨d,z,ne,e,mA,⟨od,es,ep,e2,c⟩,r⟩:=x
  exact ⟨ho _ d,z,ne,k _ _ (.inl rfl) e,mA,⟨od,es,ep,k _ _ (.inr d) e2,c⟩,r⟩
 | own y=>obtain ⟨ob,e⟩:=x; exact ⟨ob,k _ _ (.inl rfl) e⟩
 | xd fs=>obtain ⟨mA,⟨od,es,ep,e,c⟩,r⟩:=x; exact ⟨mA,⟨od,es,ep,k _ _ (.inl rfl) e,c⟩,r⟩
 | rng lo hi=>obtain ⟨t,u,v,e⟩:=x; exact ⟨t,u,v,k _ _ (.inl rfl) e⟩
 | frz ob u ih=>obtain ⟨e,q⟩:=x; exact ⟨k _ _ (.inl rfl) e,ih q⟩
 | tbl ps =>
  have e:h.get? a=some { cls:=.none,data:=.fields ps }:=x
  show h'.get? a=some { cls:=.none,data:=.fields ps }
  exact k a _ (.inl rfl) e
 | met f y =>
  have e:h.get? a=some (PySem.W.methodObj (.ref f) (.ref y)):=x
  show h'.get? a=some (PySem.W.methodObj (.ref f) (.ref y))
  exact k a _ (.inl rfl) e
 | ext φ=>obtain ⟨p,⟨o,e⟩,st⟩:=x; exact ⟨st _ _ p fun o q=>k _ _ (.inl rfl) q,⟨o,k _ _ (.inl rfl) e⟩,st⟩
theorem HOk.lt (x:HOk P w H h) (e:H a=some o):a < h.objs.size:=(x a o e).lt
theorem HOk.fresh (x:HOk P w H h) (e:h.objs.size≤a):H a=none:=by
 cases q:H a with
 | none=>rfl
 | some u=>exact absurd (Wx (x.lt q) e) (Q0 _)
theorem HOk.kept (x:HOk P w H h) (k:∀ b u,h.get? b=some u→h'.get? b=some u):HOk P w H h':=fun a o e =>
 (x a o e).stay (fun b u _ q=>k b u q) (fun _ q=>q) fun _ _ q=>q
theorem HOk.laid (x:HOk P w H h) (k:∀ b u,h.get? b=some u→h'.get? b=some u) (hp:h.objs.size≤a) (new:ObjOk P w (upd H a o) h' a o):HOk P w (upd H a o) h':=fun b u e=>by
 have hn:=x.fresh hp
 by_cases hb:b=a
 ·subst hb; rw [z0y] at e; cases e; exact new
 ·rw [z0q hb] at e
  exact (x b u e).stay (fun c v _ q=>k c v q) (fun c q=>by rw [z0q (z0L q hn)]; exact q) fun c xs q=>by rw [z0q (z0L q hn)]; exact q
end
def Rd (H:Hp) (a:Addr) (u:HO):Prop:=H a=some u∨∃ o,H a=some (.frz o u)
theorem Rd.ok (r:Rd H a u) (x:HOk P w H h):ObjOk P w H h a u:=by
 rcases r with r | ⟨o,r⟩
 ·exact x a u r
 ·obtain ⟨_,q⟩:=x a _ r
  exact q
def Mut:Option HO→Prop
 | some (.lst _)=>True
 | some (.dK _)=>True
 | some (.dT _)=>True
 | some (.set _ _)=>True
 | some (.ins _ _ _)=>True
 | some (.ext _)=>True
 | _=>False
section
variable {P:Wk} {w:Wr} {H:Hp} {h h':Heap} {x e:Addr} {o':HO}
theorem HOk.write (ok:HOk P w H h) (mu:Mut (H x)) (he:e=x∨H e=some (.own x)) (k:∀ b u,b≠e→h.get? b=some u→h'.get? b=some u) (heo:∃ u,h'.get? e=some u)
  (new:ObjOk P w (upd H x o') h' x o'):HOk P w (upd H x o') h':=fun b u q=>by
 have nown:∀ c y,H c=some (.own y)→c≠x:=fun c y r z=>by subst z; rw [r] at mu; exact mu
 have ntup:∀ c xs,H c=some (.tup xs)→c≠x:=fun c xs r z=>by subst z; rw [r] at mu; exact mu
 by_cases hb:b=x
 ·subst hb; rw [z0y] at q; cases q; exact new
 ·rw [z0q hb] at q
  by_cases hbe:b=e
  ·have q':H b=some (.own x):=by
    rcases he with z | z
    ·exact absurd (hbe.trans z) hb
    ·rw [hbe]; exact z
   rw [q] at q'; cases q'
   obtain ⟨v,hv⟩:=heo
   exact ⟨v,by rw [hbe]; exact hv⟩
  ·refine (ok b u q).stay (fun c v hc r=>k c v ?_ r) (fun c r=>by rw [z0q (nown c b r)]; exact r) fun c xs r=>by rw [z0q (ntup c xs r)]; exact r
   rcases hc with rfl | hc
   ·exact hbe
   ·rintro rfl
    rcases he with z | z
    ·exact nown c b hc z
    ·rw [hc] at z; cases z; exact hb rfl
end
structure Un (fs ex:List Addr) (H H':Hp) (h h':Heap):Prop where
 keep:∀ b o,h.get? b=some o→H b=none→b ∉ fs→b ∉ ex→h'.get? b=some o
 slot:∀ b o,h.get? b=some o→H b=none→b ∈ fs→b ∉ ex→∃ sl,h'.get? b=some { o with slots:=sl }
 free:∀ b o,h.get? b=some o→H b=none→b ∉ ex→H' b=none
 there:∀ b o,h.get? b=some o→b ∉ ex→∃ o',h'.get? b=some o'
 tups:∀ b xs,H b=some (.tup xs)→H' b=some (.tup xs)
 frzs:∀ b o u,H b=some (.frz o u)→H' b=some (.frz o u)
 tbls:∀ b ps,H b=some (.tbl ps)→∃ more,H' b=some (.tbl (ps ++ more))
section
variable {fs fs' ex ex':List Addr} {H H1 H2:Hp} {h h1 h2 h':Heap} {a x e:Addr} {o:HO}
theorem Un.any (u:Un fs ex H H1 h h1) (q:h.get? b=some ob) (n:H b=none) (hx:b ∉ ex):∃ sl,h1.get? b=some { ob with slots:=sl }:=by
 by_cases hb:b ∈ fs
 ·exact u.slot b ob q n hb hx
 ·exact ⟨ob.slots,u.keep b ob q n hb hx⟩
theorem Un.kept (k:∀ b u,h.get? b=some u→h'.get? b=some u):Un fs ex H H h h' :=
 ⟨fun b ob q _ _ _=>k b ob q,fun b ob q _ _ _=>⟨ob.slots,k b ob q⟩,fun _ _ _ n _=>n,fun b ob q _=>⟨ob,k b ob q⟩,fun _ _ q=>q,fun _ _ _ q=>q,fun _ ps q=>⟨#[],by rw [q]; simp⟩⟩
theorem Un.refl:Un fs ex H H h h:=Un.kept fun _ _ q=>q
theorem Un.laid (k:∀ b u,h.get? b=some u→h'.get? b=some u) (hp:h.objs.size≤a) (hn:H a=none):Un fs ex H (upd H a o) h h' where
 keep:=fun b u q _ _ _=>k b u q
 slot:=fun b u q _ _ _=>⟨u.slots,k b u q⟩
 free:=fun b u q n _=>by rw [z0q (Wy (Wx (Wg q) hp))]; exact n
 there:=fun b u q _=>⟨u,k b u q⟩
 tups:=fun b xs q=>by rw [z0q (z0L q hn)]; exact q
 frzs:=fun b u xs q=>by rw [z0q (z0L q hn)]; exact q
 tbls:=fun b ps q=>⟨#[],by rw [z0q (z0L q hn),q]; simp⟩
theorem Un.write (mu:Mut (H x)) (he:e=x∨H e=some (.own x)) (k:∀ b u,b≠e→h.get? b=some u→h'.get? b=some u) (heo:∃ u,h'.get? e=some u):Un fs ex H (upd H x o) h h':=by
 have hx:∀ b,H b=none→b≠x:=fun b n z=>by subst z; rw [n] at mu; exact mu
 have hb:∀ b,H b=none→b≠e:=fun b n z=>by
  subst z
  rcases he with r | r
  ·exact hx b n r
  ·rw [n] at r; cases r
 have hm:∀ b u,H b=some u→¬ Mut (some u)→b≠x:=fun b u q nm z=>by subst z; rw [q] at mu; exact nm mu
 refine ⟨fun b u q n _ _=>k b u (hb b n) q,fun b u q n _ _=>⟨u.slots,k b u (hb b n) q⟩,fun b u q n _=>by rw [z0q (hx b n)]; exact n,fun b u q _=>?_,
  fun b xs q=>by rw [z0q (hm b _ q fun z=>z)]; exact q,fun b u xs q=>by rw [z0q (hm b _ q fun z=>z)]; exact q,fun b ps q=>⟨#[],by rw [z0q (hm b _ q fun z=>z),q]; simp⟩⟩
 by_cases hbe:b=e
 ·subst hbe; exact heo
 ·exact ⟨u,k b u hbe q⟩
end
def trk (h:Heap) (H:Hp):List Addr:=(Ql h.objs.size).filter fun a=>(H a).isSome
def hidT (h:Heap) (H:Hp):Heap:=PySem.W.hideAll h (trk h H)
theorem zbb (h:Heap) (H:Hp):(hidT h H).objs.size=h.objs.size:=PySem.W.hideAll_size _ _
theorem zcH (e:h.get? b=some o) (n:H b=none):(hidT h H).get? b=some o :=
 PySem.W.hideAll_get _ e fun hm=>by
  have q:(H b).isSome=true:=(List.mem_filter.mp hm).2
  rw [n] at q; simp at q
theorem zer (e:(hidT h H).get? b=some o):h.get? b=some o∧H b=none:=by
 have e':h.get? b=some o:=PySem.W.of_hideAll (trk h H) e
 refine ⟨e',?_⟩
 cases q:H b with
 | none=>rfl
 | some x =>
  have hm:b ∈ trk h H:=List.mem_filter.mpr ⟨List.mem_range.mpr (Wg e'),by simp [q]⟩
  have z:(hidT h H).get? b=none:=PySem.W.hideAll_none (trk h H) hm
  rw [z] at e; cases e
def zeU (g h:Heap) (L:Addr):List (Addr×Obj):=(Ql h.objs.size).filterMap fun a=>if a=L∨(g.get? a).isSome=true then none else (h.get? a).map fun o=>(a,o)
def rest (g h:Heap) (L d:Addr):List (Addr×Obj):=(zeU g h L).filter fun p=>decide (p.1≠d)
structure Mod (K:W0) (mg:Str→Option Value) (base:Heap):Prop where
 kin:K.In base
 glob:base.Ns Wl mg
 blt:∃ mb,base.Ns builtinsNs mb∧∀ x:Str,x≠"__name__"→mb x=Q1 x
 nolimit:base.NoLimit
structure Cx where
 prog:Wk
 w:Wr
 K:W0
 mg:Str→Option Value
 base:Heap
 A:Wp
 N:List Str
 s₀:W2
 H₀:Hp
 env:Env
 outer:List Env
 stack:List Env
 ex:List Addr
 fn:Str→Bool
 calm:Bool
 pn:List (Addr×Obj)
 xe:Value→W2→Prop
def frs (l:List Env):List Addr:=l.filterMap (·.frame)
abbrev Cx.fs (X:Cx):List Addr:=frs X.outer
def Vis (sc:Scope) (x:Str):Prop:=sc.names.lookup x=some .local∨sc.names.lookup x=some .cell∨sc.names.lookup x=some .free
def Loc (sc:Scope) (x:Str):Prop:=sc.names.lookup x=some .local∨sc.names.lookup x=some .cell
def Look (env:Env) (h:Heap) (m:Str→Option Value) (x:Str) (u:Value):Prop :=
 (env.kindOf x=some .local∧m x=some u)∨((env.kindOf x=some .cell∨env.kindOf x=some .free)∧∃ c,env.cells.lookup x=some c∧h.IsCell c (some u))
structure Cx.Ok (X:Cx):Prop where
 mod:Mod X.K X.mg X.base
 kind:X.env.scope.kind = .function
 glob:X.env.globals=Wl
 blt:X.env.builtins=builtinsNs
 above:X.s₀.heap.objs.size≤X.env.locals
 inj:∀ x y c,X.env.cells.lookup x=some c→X.env.cells.lookup y=some c→x=y
 has:∀ x,(X.env.kindOf x=some .cell∨X.env.kindOf x=some .free)→∃ c,X.env.cells.lookup x=some c
 cab:∀ x c,X.fn x=true→X.env.cells.lookup x=some c→X.s₀.heap.objs.size≤c
 hd:X.calm=true→X.A.handled=none
 frames:X.A.frames=some X.stack
 stk:X.stack=X.outer∨(X.stack=X.env :: X.outer∧X.env.frame=some X.env.locals)
 exf:∀ b ∈ X.ex,b≠X.env.locals∧∀ x c,X.env.cells.lookup x=some c→c≠b
 bs:∀ b o,X.base.get? b=some o→X.s₀.heap.get? b=some o∧X.H₀ b=none
 bsz:X.base.objs.size≤X.s₀.heap.objs.size
 noex:∀ b o,X.base.get? b=some o→b ∉ X.ex
 exfs:∀ b ∈ X.ex,b ∉ X.fs
 funs:X.s₀.heap.FunFrames X.base X.outer
 frf:∀ b ∈ X.fs,X.H₀ b=none
structure Inv (X:Cx) (pins:List (Addr×Obj)) (σ:List (Option V)) (H:Hp) (s:W2):Prop where
 ok:X.Ok
 os:s.os=X.s₀.os
 bare:AllBare s.gens
 base:Un X.fs X.ex X.H₀ H X.s₀.heap s.heap
 loc:∃ m,s.heap.Ns X.env.locals m∧∀ (i:Nat) (x:Str) (v:V),X.N[i]? = some x→σ[i]? = some (some v)→Vis X.env.scope x→∃ u,RelV v u∧Look X.env s.heap m x u
 cell:∀ x c,X.env.cells.lookup x=some c→∃ v,s.heap.IsCell c v
 free:H X.env.locals=none
 freeC:∀ x c,X.env.cells.lookup x=some c→H c=none
 pin:∀ p ∈ X.pn ++ pins,s.heap.get? p.1=some p.2∧H p.1=none∧p.1≠X.env.locals∧p.1 ∉ X.fs∧∀ v,p.2.data≠.cell v
 hok:HOk X.prog X.w H s.heap
 len:σ.length=X.N.length
section
variable {X:Cx} {pins:List (Addr×Obj)} {σ:List (Option V)} {H H':Hp} {s:W2} {h':Heap}
theorem Cx.Ok.nofr (ok:X.Ok) (e:X.base.get? b=some o):b ∉ X.fs:=fun hb=>by
 have:=(ok.funs.mem hb).1
 rw [e] at this; cases this
theorem Inv.bs (I:Inv X pins σ H s):∀ b o,X.base.get? b=some o→s.heap.get? b=some o∧H b=none:=fun b o e =>
 ⟨I.base.keep b o (I.ok.bs b o e).1 (I.ok.bs b o e).2 (I.ok.nofr e) (I.ok.noex b o e),I.base.free b o (I.ok.bs b o e).1 (I.ok.bs b o e).2 (I.ok.noex b o e)⟩
theorem Inv.bk (I:Inv X pins σ H s):∀ b o,X.base.get? b=some o→s.heap.get? b=some o:=fun b o e=>(I.bs b o e).1
theorem Inv.mod (I:Inv X pins σ H s):Mod X.K X.mg X.base:=I.ok.mod
theorem Inv.kIn (I:Inv X pins σ H s):X.K.In s.heap:=I.ok.mod.kin.keeps I.bk
theorem Inv.fr (I:Inv X pins σ H s):∃ m,Fr X.base X.env.locals s.heap m :=
 let ⟨m,hn,_⟩:=I.loc
 ⟨m,hn,I.bk,Wn I.ok.bsz I.ok.above⟩
theorem Inv.lt (I:Inv X pins σ H s):X.env.locals < s.heap.objs.size:=let ⟨_,hn,_⟩:=I.loc; hn.lt
theorem Inv.sz (I:Inv X pins σ H s):X.s₀.heap.objs.size≤s.heap.objs.size:=Wn I.ok.above (Nat.le_of_lt I.lt)
theorem Inv.nofs (I:Inv X pins σ H s) (h:s.heap.objs.size≤a):a ∉ X.fs:=fun hb=>by
 obtain ⟨_,o,ho,_⟩:=I.ok.funs.mem hb
 exact absurd (Wx (Wg ho) (Wn I.sz h)) (Q0 _)
theorem Inv.cne (I:Inv X pins σ H s):∀ x c,X.env.cells.lookup x=some c→c≠X.env.locals:=fun x c e z=>by
 obtain ⟨v,o,ho,hd⟩:=I.cell x c e
 obtain ⟨m,⟨o',es,ep,ho',hd',_⟩,_⟩:=I.loc
 rw [z,ho'] at ho; cases ho; rw [hd'] at hd; cases hd
theorem Inv.funs (I:Inv X pins σ H s):s.heap.FunFrames X.base X.outer:=by
 have all:∀ (l:List Env),(∀ b ∈ frs l,b ∈ X.fs)→X.s₀.heap.FunFrames X.base l→s.heap.FunFrames X.base l:=by
  intro l
  induction l with
  | nil=>intro _ _; trivial
  | cons env r ih =>
   intro hs hl
   obtain ⟨hk,⟨L,o,hf,hn,ho,hd⟩,hr⟩:=hl
   have hL:L ∈ X.fs:=hs L (by unfold frs; rw [List.filterMap_cons,hf]; exact Wi)
   obtain ⟨sl,e⟩:=I.base.slot L o ho (I.ok.frf L hL) hL fun z=>I.ok.exfs L z hL
   exact ⟨hk,⟨L,_,hf,hn,e,hd⟩,ih (fun b hb=>hs b (by unfold frs; rw [List.filterMap_cons,hf]; exact Wc _ hb)) hr⟩
 exact all X.outer (fun _ hb=>hb) I.ok.funs
theorem Inv.stack (I:Inv X pins σ H s):s.heap.FunFrames X.base X.stack:=by
 rcases I.ok.stk with e | ⟨e,hf⟩
 ·rw [e]; exact I.funs
 ·rw [e]
  obtain ⟨m,hn,_⟩:=I.loc
  refine .cons (by rw [I.ok.kind]; decide) hf hn ?_ I.funs
  exact Ja (Wn I.ok.bsz I.ok.above)
theorem Inv.stkSub (I:Inv X pins σ H s):∀ b ∈ frs X.stack,b ∈ X.env.locals :: X.fs:=fun b hb=>by
 rcases I.ok.stk with e | ⟨e,hf⟩
 ·rw [e] at hb; exact Wc _ hb
 ·rw [e] at hb
  unfold frs at hb
  rw [List.filterMap_cons,hf] at hb
  exact hb
theorem Inv.stkFree (I:Inv X pins σ H s):∀ b ∈ frs X.stack,H b=none:=fun b hb=>by
 rcases Wh.mp (I.stkSub b hb) with e | hb
 ·rw [e]; exact I.free
 ·obtain ⟨_,o,ho,_⟩:=I.ok.funs.mem hb
  exact I.base.free b o ho (I.ok.frf b hb) fun z=>I.ok.exfs b z hb
theorem Inv.step {g':Array GenState} {t':Nat} {d':Drawn} {ch:List Addr} (I:Inv X pins σ H s)
  (hch:∀ b ∈ ch,(b ∈ X.ex∨X.s₀.heap.objs.size≤b)∧b≠X.env.locals∧(∀ x c,X.env.cells.lookup x=some c→c≠b)∧∀ p ∈ X.pn ++ pins,p.1≠b)
  (keep:∀ b o,b≠X.env.locals→b ∉ X.fs→b ∉ ch→s.heap.get? b=some o→H b=none→h'.get? b=some o)
  (slot:∀ b o,b≠X.env.locals→b ∈ X.fs→b ∉ ch→s.heap.get? b=some o→H b=none→∃ sl,h'.get? b=some { o with slots:=sl }) (free:∀ b o,b ∉ ch→s.heap.get? b=some o→H b=none→H' b=none)
  (there:∀ b o,b ∉ ch→s.heap.get? b=some o→∃ o',h'.get? b=some o')
  (tups:∀ b xs,H b=some (.tup xs)→H' b=some (.tup xs)) (frzs:∀ b o u,H b=some (.frz o u)→H' b=some (.frz o u)) (tbls:∀ b ps,H b=some (.tbl ps)→∃ more,H' b=some (.tbl (ps ++ more)))
  (ns:∀ m,s.heap.Ns X.env.locals m→h'.Ns X.env.locals m) (hok:HOk X.prog X.w H' h') (hg:AllBare g') :
  Inv X pins σ H' { s with heap:=h',gens:=g',drawn:=d',toks:=t' }:=by
 have neL:∀ b o,X.s₀.heap.get? b=some o→b≠X.env.locals:=fun b o e=>Wy (Wx (Wg e) I.ok.above)
 have neC:∀ b o,X.s₀.heap.get? b=some o→b ∉ X.ex→b ∉ ch:=fun b o e hx hb=>by
  rcases (hch b hb).1 with z | z
  ·exact hx z
  ·exact absurd (Wx (Wg e) z) (Q0 _)
 have cellK:∀ x c,X.env.cells.lookup x=some c→∀ v,s.heap.IsCell c v→h'.IsCell c v:=fun x c e v ⟨o,ho,hd⟩=>by
  have nch:c ∉ ch:=fun z=>(hch c z).2.2.1 x c e rfl
  by_cases hc:c ∈ X.fs
  ·obtain ⟨sl,q⟩:=slot c o (I.cne x c e) hc nch ho (I.freeC x c e)
   exact ⟨_,q,hd⟩
  ·exact ⟨o,keep c o (I.cne x c e) hc nch ho (I.freeC x c e),hd⟩
 refine ⟨I.ok,I.os,hg,⟨fun b o e n hb hx=>?_,fun b o e n hb hx=>?_,fun b o e n hx=>?_,fun b o e hx=>?_,fun b xs e=>tups b xs (I.base.tups b xs e),fun b o xs e=>frzs b o xs (I.base.frzs b o xs e),fun b ps e=>?_⟩,?_,fun x c e=>?_,?_,fun x c e=>?_,fun p hp=>?_,hok,I.len⟩
 ·exact keep b o (neL b o e) hb (neC b o e hx) (I.base.keep b o e n hb hx) (I.base.free b o e n hx)
 ·obtain ⟨sl,e1⟩:=I.base.slot b o e n hb hx
  obtain ⟨sl',e2⟩:=slot b _ (neL b o e) hb (neC b o e hx) e1 (I.base.free b o e n hx)
  exact ⟨sl',e2⟩
 ·obtain ⟨o',e1⟩:=I.base.there b o e hx
  exact free b o' (neC b o e hx) e1 (I.base.free b o e n hx)
 ·obtain ⟨o',e1⟩:=I.base.there b o e hx
  exact there b o' (neC b o e hx) e1
 ·obtain ⟨m1,e1⟩:=I.base.tbls b ps e
  obtain ⟨m2,e2⟩:=tbls b _ e1
  exact ⟨m1 ++ m2,by rw [e2,Array.append_assoc]⟩
 ·obtain ⟨m,hn,hl⟩:=I.loc
  refine ⟨m,ns m hn,fun i x v e1 e2 e3=>?_⟩
  obtain ⟨u,r,l⟩:=hl i x v e1 e2 e3
  refine ⟨u,r,?_⟩
  rcases l with l | ⟨k,c,e,z⟩
  ·exact .inl l
  ·exact .inr ⟨k,c,e,cellK x c e _ z⟩
 ·obtain ⟨v,z⟩:=I.cell x c e
  exact ⟨v,cellK x c e v z⟩
 ·obtain ⟨m,⟨o,_,_,ho,_⟩,_⟩:=I.loc
  exact free _ o (fun z=>(hch _ z).2.1 rfl) ho I.free
 ·obtain ⟨v,o,ho,hd⟩:=I.cell x c e
  exact free c o (fun z=>(hch c z).2.2.1 x c e rfl) ho (I.freeC x c e)
 ·obtain ⟨e,n,ne,nf,d⟩:=I.pin p hp
  have nch:p.1 ∉ ch:=fun z=>(hch p.1 z).2.2.2 p hp rfl
  exact ⟨keep p.1 p.2 ne nf nch e n,free p.1 p.2 nch e n,ne,nf,d⟩
theorem Inv.un {t':Nat} (I:Inv X pins σ H s) (u:Un X.fs [] H H' s.heap h') (hok:HOk X.prog X.w H' h'):Inv X pins σ H' { s with heap:=h',toks:=t' }:=by
 obtain ⟨m,⟨o,es,ep,ho,r⟩,_⟩:=id I.loc
 obtain ⟨sl,hL⟩:=u.any ho I.free (by simp)
 exact I.step (g':=s.gens) (d':=s.drawn) (ch:=[]) (fun _ z=>nomatch z) (fun b o _ hb _ e n=>u.keep b o e n hb (by simp)) (fun b o _ hb _ e n=>u.slot b o e n hb (by simp)) (fun b o _ e n=>u.free b o e n (by simp)) (fun b o _ e=>u.there b o e (by simp)) u.tups u.frzs u.tbls (fun m' hm=>by
  obtain ⟨o',es',ep',ho',r'⟩:=hm
  rw [ho] at ho'; cases ho'
  exact ⟨_,es',ep',hL,r'⟩) hok I.bare
theorem Inv.call {g':Array GenState} {t':Nat} {d':Drawn} {ch:List Addr} (I:Inv X pins σ H s) (u:Un (frs X.stack) ch H H' s.heap h') (hok:HOk X.prog X.w H' h') (hg:AllBare g')
  (hch:∀ b ∈ ch,(b ∈ X.ex∨X.s₀.heap.objs.size≤b)∧b≠X.env.locals∧(∀ x c,X.env.cells.lookup x=some c→c≠b)∧∀ p ∈ X.pn ++ pins,p.1≠b) :
  Inv X pins σ H' { s with heap:=h',gens:=g',drawn:=d',toks:=t' }:=by
 obtain ⟨m,⟨o,es,ep,ho,r⟩,_⟩:=id I.loc
 obtain ⟨sl,hL⟩:=u.any ho I.free fun z=>(hch _ z).2.1 rfl
 exact I.step (ch:=ch) hch (fun b o hL hb hc e n=>u.keep b o e n (fun z=>(Wh.mp (I.stkSub b z)).elim hL hb) hc) (fun b o _ _ hc e n=>u.any e n hc) (fun b o hc e n=>u.free b o e n hc) (fun b o hc e=>u.there b o e hc) u.tups u.frzs u.tbls (fun m' hm=>by
  obtain ⟨o',es',ep',ho',r'⟩:=hm
  rw [ho] at ho'; cases ho'
  exact ⟨_,es',ep',hL,r'⟩) hok hg
theorem Inv.turned {t':Nat} {it:Addr} (I:Inv X pins σ H s) (k:∀ b o,b≠it→s.heap.get? b=some o→h'.get? b=some o) (hn:H it=none) (hL:it≠X.env.locals)
  (h1:it ∈ X.ex∨X.s₀.heap.objs.size≤it) (h2:∀ x c,X.env.cells.lookup x=some c→c≠it) (h3:∀ p ∈ X.pn ++ pins,p.1≠it):Inv X pins σ H { s with heap:=h',toks:=t' }:=by
 have nit:∀ b u,H b=some u→b≠it:=fun b u e z=>by rw [z,hn] at e; cases e
 refine I.step (g':=s.gens) (d':=s.drawn) (ch:=[it]) (fun b hb=>?_) (fun b o _ _ hc e _=>k b o (fun z=>hc (by simp [z])) e) (fun b o _ _ hc e _=>⟨o.slots,k b o (fun z=>hc (by simp [z])) e⟩) (fun _ _ _ _ n=>n)
  (fun b o hc e=>⟨o,k b o (fun z=>hc (by simp [z])) e⟩) (fun _ _ e=>e) (fun _ _ _ e=>e) (fun b ps e=>⟨#[],by rw [e]; simp⟩) (fun m hm=>?_) (fun b u e=>?_) I.bare
 ·have e:b=it:=by simpa using hb
  subst e
  exact ⟨h1,hL,h2,h3⟩
 ·obtain ⟨o,es,ep,ho,r⟩:=hm
  exact ⟨o,es,ep,k _ o (Ne.symm hL) ho,r⟩
 ·refine (I.hok b u e).stay (fun c v hc q=>k c v ?_ q) (fun _ q=>q) fun _ _ q=>q
  rcases hc with z | z
  ·rw [z]; exact nit b u e
  ·exact nit c _ z
theorem Inv.tok (I:Inv X pins σ H s) (t:Nat):Inv X pins σ H { s with toks:=t }:=I.un (h':=s.heap) (t':=t) Un.refl I.hok
theorem Inv.kept (I:Inv X pins σ H s) (k:∀ b u,s.heap.get? b=some u→h'.get? b=some u):Inv X pins σ H { s with heap:=h',toks:=t' }:=I.un (Un.kept k) (I.hok.kept k)
theorem Inv.laid (I:Inv X pins σ H s) (k:∀ b u,s.heap.get? b=some u→h'.get? b=some u) (hp:s.heap.objs.size≤a) (new:ObjOk X.prog X.w (upd H a o) h' a o) :
  Inv X pins σ (upd H a o) { s with heap:=h',toks:=t' }:=I.un (Un.laid k hp (I.hok.fresh hp)) (I.hok.laid k hp new)
theorem Inv.write (I:Inv X pins σ H s) (mu:Mut (H x)) (he:e=x∨H e=some (.own x)) (k:∀ b u,b≠e→s.heap.get? b=some u→h'.get? b=some u) (heo:∃ u,h'.get? e=some u)
  (new:ObjOk X.prog X.w (upd H x o) h' x o):Inv X pins σ (upd H x o) { s with heap:=h',toks:=t' }:=I.un (Un.write mu he k heo) (I.hok.write mu he k heo new)
theorem Inv.weak (I:Inv X pins σ H s) (hl:σ'.length=σ.length) (w:∀ (i:Nat) v,σ'[i]? = some (some v)→σ[i]? = some (some v)):Inv X pins σ' H s :=
 ⟨I.ok,I.os,I.bare,I.base,let ⟨m,hn,hl'⟩:=I.loc; ⟨m,hn,fun i x v e1 e2 e3=>hl' i x v e1 (w i v e2) e3⟩,I.cell,I.free,I.freeC,I.pin,I.hok,hl.trans I.len⟩
theorem Inv.pins_of (I:Inv X pins σ H s) (h:∀ p ∈ pins',s.heap.get? p.1=some p.2∧H p.1=none∧p.1≠X.env.locals∧p.1 ∉ X.fs∧∀ v,p.2.data≠.cell v):Inv X pins' σ H s :=
 ⟨I.ok,I.os,I.bare,I.base,I.loc,I.cell,I.free,I.freeC,fun p hp=>(QW.mp hp).elim (fun z=>I.pin p (Jb _ z)) (h p),I.hok,I.len⟩
theorem z7l {N:List Str} (hN:N.Nodup) {i j:Nat} {x:Str} (a:N[i]? = some x) (b:N[j]? = some x):i=j:=by
 obtain ⟨h1,e1⟩:=Wb.mp a
 obtain ⟨h2,e2⟩:=Wb.mp b
 exact (List.getElem_inj hN).mp (e1.trans e2.symm)
theorem z4q {M:Model} {A:Wp} {E:Value→W2→Prop} {i:Nat} {x:Str} {v:V} {u:Value} {Q:Unit→W2→Prop} (I:Inv X pins σ H s) (hN:X.N.Nodup) (hi:X.N[i]? = some x) (hx:Loc X.env.scope x) (r:RelV v u)
  (h:∀ s',Inv X pins (σ.set i (some v)) H s'→(∃ a,Heap.SameBut a s.heap s'.heap∧(a=X.env.locals∨X.env.cells.lookup x=some a))→Q () s') (hf:X.fn x=true∨X.env.scope.names.lookup x=some .local:=by first | exact .inl rfl | exact .inr rfl | assumption):Wa M A (storeName X.env x u) Q E s:=by
 obtain ⟨m,hn,hl⟩:=id I.loc
 have hcls:(X.env.scope.kind == .class || (X.env.scope.kind == .module && X.env.locals != X.env.globals))=false:=by rw [I.ok.kind]; rfl
 have hiσ:i < σ.length:=by rw [I.len]; exact (Wb.mp hi).1
 have cne:=I.cne
 have tracked:∀ {a:Addr} {h':Heap},(∃ o,s.heap.get? a=some o∧H a=none)→Heap.SameBut a s.heap h'→HOk X.prog X.w H h':=fun {a h'} ha hs b ob e=>by
  obtain ⟨_,_,hfree⟩:=ha
  refine (I.hok b ob e).stay (fun c w' hc q=>(hs.2 c ?_).trans q) (fun _ q=>q) fun _ _ q=>q
  rintro rfl
  rcases hc with rfl | hc
  ·rw [hfree] at e; cases e
  ·rw [hfree] at hc; cases hc
 rcases hx with hk | hk
 ·refine wpAny_storeName_local hk hn (fun h' hn' hs=>?_) hcls
  obtain ⟨oL,_,_,hoL,_⟩:=id hn
  refine h _ ⟨I.ok,I.os,I.bare,⟨fun b o e n hb hx=>?_,fun b o e n hb hx=>?_,I.base.free,fun b o e hx=>?_,I.base.tups,I.base.frzs,I.base.tbls⟩,⟨_,hn',fun j y v' e1 e2 e3=>?_⟩,fun y c e=>?_,I.free,I.freeC,fun p hp=>?_,tracked ⟨oL,hoL,I.free⟩ hs,by simpa using I.len⟩ ⟨_,hs,.inl rfl⟩
  ·exact (hs.2 b (Wy (Wx (Wg e) I.ok.above))).trans (I.base.keep b o e n hb hx)
  ·obtain ⟨sl,e1⟩:=I.base.slot b o e n hb hx
   exact ⟨sl,(hs.2 b (Wy (Wx (Wg e) I.ok.above))).trans e1⟩
  ·obtain ⟨o',e1⟩:=I.base.there b o e hx
   exact ⟨o',(hs.2 b (Wy (Wx (Wg e) I.ok.above))).trans e1⟩
  ·by_cases hj:j=i
   ·subst hj
    rw [hi] at e1; cases e1
    rw [Wq hiσ] at e2
    cases e2
    exact ⟨u,r,.inl ⟨hk,by simp⟩⟩
   ·rw [W9 (Ne.symm hj)] at e2
    obtain ⟨u',r',q⟩:=hl j y v' e1 e2 e3
    refine ⟨u',r',?_⟩
    rcases q with ⟨k,e⟩ | ⟨k,c,e,z⟩
    ·refine .inl ⟨k,?_⟩
     have:y≠x:=fun e=>hj (z7l hN e1 (e ▸ hi))
     simp [this,e]
    ·exact .inr ⟨k,c,e,z.sameBut hs (cne y c e)⟩
  ·obtain ⟨w',z⟩:=I.cell y c e
   exact ⟨w',z.sameBut hs (cne y c e)⟩
  ·obtain ⟨e,n,ne,nf,d⟩:=I.pin p hp
   exact ⟨(hs.2 p.1 ne).trans e,n,ne,nf,d⟩
 ·have hfn:X.fn x=true:=by
   rcases hf with z | z
   ·exact z
   ·rw [z] at hk; cases hk
  obtain ⟨c,hc⟩:=I.ok.has x (.inl hk)
  obtain ⟨w',z⟩:=I.cell x c hc
  refine wpAny_storeName_cell I.ok.kind hk hc z (fun h' hc' hs=>?_)
  obtain ⟨oc,hoc,hocd⟩:=id z
  refine h { s with heap:=h' } ⟨I.ok,I.os,I.bare,⟨fun b o e n hb hx=>?_,fun b o e n hb hx=>?_,I.base.free,fun b o e hx=>?_,I.base.tups,I.base.frzs,I.base.tbls⟩,⟨m,hn.sameBut hs (Ne.symm (cne x c hc)),fun j y v' e1 e2 e3=>?_⟩,fun y c' e=>?_,I.free,I.freeC,fun p hp=>?_,tracked ⟨oc,hoc,I.freeC x c hc⟩ hs,by simpa using I.len⟩ ⟨c,hs,.inr hc⟩
  ·exact (hs.2 b (Wy (Wx (Wg e) (I.ok.cab x c hfn hc)))).trans (I.base.keep b o e n hb hx)
  ·obtain ⟨sl,e1⟩:=I.base.slot b o e n hb hx
   exact ⟨sl,(hs.2 b (Wy (Wx (Wg e) (I.ok.cab x c hfn hc)))).trans e1⟩
  ·obtain ⟨o',e1⟩:=I.base.there b o e hx
   exact ⟨o',(hs.2 b (Wy (Wx (Wg e) (I.ok.cab x c hfn hc)))).trans e1⟩
  ·by_cases hj:j=i
   ·subst hj
    rw [hi] at e1; cases e1
    rw [Wq hiσ] at e2
    cases e2
    exact ⟨u,r,.inr ⟨.inl hk,c,hc,hc'⟩⟩
   ·rw [W9 (Ne.symm hj)] at e2
    obtain ⟨u',r',q⟩:=hl j y v' e1 e2 e3
    refine ⟨u',r',?_⟩
    rcases q with q | ⟨k,c',e,z'⟩
    ·exact .inl q
    ·refine .inr ⟨k,c',e,z'.sameBut hs ?_⟩
     rintro rfl
     exact hj (z7l hN e1 (I.ok.inj _ _ _ e hc ▸ hi))
  ·by_cases hcc:c'=c
   ·subst hcc; exact ⟨_,hc'⟩
   ·obtain ⟨w2,z2⟩:=I.cell y c' e
    exact ⟨w2,z2.sameBut hs hcc⟩
  ·obtain ⟨e,n,ne,nf,d⟩:=I.pin p hp
   refine ⟨(hs.2 p.1 ?_).trans e,n,ne,nf,d⟩
   intro q
   rw [q,hoc] at e
   have q':oc=p.2:=WA e
   exact d w' (by rw [← q']; exact hocd)
theorem z8Y (I:Inv X pins σ H s) (hN:X.N.Nodup) (hi:X.N[i]? = some x) (hx:Loc X.env.scope x) (r:RelV v u)
  (h:∀ s',Inv X pins (σ.set i (some v)) H s'→Q () s') (hf:X.fn x=true∨X.env.scope.names.lookup x=some .local:=by first | exact .inl rfl | exact .inr rfl | assumption):Wa M A (storeName X.env x u) Q E s :=
 z4q I hN hi hx r (fun s' I' _=>h s' I') hf
theorem Inv.call' (I:Inv X pins σ H s) (ho:s'.os=s.os) (u:Un (frs X.stack) ch H H' s.heap s'.heap) (hok:HOk X.prog X.w H' s'.heap) (hg:AllBare s'.gens)
  (hch:∀ b ∈ ch,(b ∈ X.ex∨X.s₀.heap.objs.size≤b)∧b≠X.env.locals∧(∀ x c,X.env.cells.lookup x=some c→c≠b)∧∀ p ∈ X.pn ++ pins,p.1≠b):Inv X pins σ H' s':=by
 obtain ⟨h',g',d',t',o'⟩:=s'
 have e:o'=s.os:=ho
 subst e
 exact I.call (g':=g') (t':=t') (d':=d') u hok hg hch
end
abbrev XK:=Value→Option Addr→Hp→Prop
abbrev St:=List (Option V)
abbrev VK:=V→Hp→Prop
abbrev TE:=St→Hp→VK→Prop
abbrev TT:=St→Hp→(Bool→Hp→Prop)→Prop
abbrev TA:=St→Hp→(List V→Hp→Prop)→Prop
structure Ends where
 nx:St→Hp→Prop
 rt:VK
 bk:St→Hp→Prop:=fun _ _=>False
 ct:St→Hp→Prop:=fun _ _=>False
abbrev TS:=Ends→St→Hp→Prop
def EP (X:Cx) (pins:List (Addr×Obj)) (σ:St) (Q:VK) (u:Value) (s':W2):Prop:=∃ v H',Inv X pins σ H' s'∧RelV v u∧Q v H'
def TP (X:Cx) (pins:List (Addr×Obj)) (σ:St) (Q:Bool→Hp→Prop) (b:Bool) (s':W2):Prop:=∃ H',Inv X pins σ H' s'∧Q b H'
def AP (X:Cx) (pins:List (Addr×Obj)) (σ:St) (Q:List V→Hp→Prop) (us:List Value) (s':W2):Prop:=∃ vs H',Inv X pins σ H' s'∧Vals vs us∧Q vs H'
def SP (X:Cx) (pins:List (Addr×Obj)) (D:Ends) (f:Flow) (s':W2):Prop :=
 match f with
 | .next=>∃ σ' H',Inv X pins σ' H' s'∧D.nx σ' H'
 | .brk=>∃ σ' H',Inv X pins σ' H' s'∧D.bk σ' H'
 | .cont=>∃ σ' H',Inv X pins σ' H' s'∧D.ct σ' H'
 | .ret u=>∃ v σ' H',Inv X pins σ' H' s'∧RelV v u∧D.rt v H'
def PE (X:Cx) (e:Expr) (t:TE):Prop :=
 ∀ (pins:List (Addr×Obj)) (s:W2) (σ:St) (H:Hp) (Q:VK),Inv X pins σ H s→t σ H Q→Wa (model X.prog X.w) X.A (eval e X.env) (EP X pins σ Q) X.xe s
def PT (X:Cx) (e:Expr) (t:TT):Prop :=
 ∀ (pins:List (Addr×Obj)) (s:W2) (σ:St) (H:Hp) (Q:Bool→Hp→Prop),Inv X pins σ H s→t σ H Q→Wa (model X.prog X.w) X.A (isTrue e X.env (eval e X.env)) (TP X pins σ Q) X.xe s
def PW (X:Cx) (e:Expr) (t:TT):Prop :=
 ∀ (whole:Sem Value) (pins:List (Addr×Obj)) (s:W2) (σ:St) (H:Hp) (Q:Bool→Hp→Prop),Inv X pins σ H s→t σ H Q→Wa (model X.prog X.w) X.A (isTrue e X.env whole) (TP X pins σ Q) X.xe s
theorem PW.pt (h:PW X e t):PT X e t:=h _
def PA (X:Cx) (es:List Expr) (t:TA):Prop :=
 ∀ (pos:Pos) (pins:List (Addr×Obj)) (s:W2) (σ:St) (H:Hp) (Q:List V→Hp→Prop),Inv X pins σ H s→t σ H Q→Wa (model X.prog X.w) X.A (spliced (WF pos (W4 es X.env))) (AP X pins σ Q) X.xe s
def PS (X:Cx) (st:Stmt) (t:TS):Prop :=
 ∀ (pins:List (Addr×Obj)) (s:W2) (σ:St) (H:Hp) (D:Ends),Inv X pins σ H s→t D σ H→Wa (model X.prog X.w) X.A (exec st X.env) (SP X pins D) X.xe s
def PSs (X:Cx) (st:List Stmt) (t:TS):Prop :=
 ∀ (pins:List (Addr×Obj)) (s:W2) (σ:St) (H:Hp) (D:Ends),Inv X pins σ H s→t D σ H→Wa (model X.prog X.w) X.A (execs st X.env) (SP X pins D) X.xe s
theorem thn (h:Wa M A t Q E s) (hQ:∀ a s,Q a s→Q' a s):Wa M A t Q' E s:=WO h hQ fun _ _ x=>x
section
variable {X:Cx}
theorem bin {a b:Expr} {ta tb:TE} (ha:PE X a ta) (hb:PE X b tb) {pins:List (Addr×Obj)} {s:W2} {σ:St} {H:Hp} {R:V→V→Hp→Prop} (I:Inv X pins σ H s) (h:ta σ H fun x H1=>tb σ H1 fun y H2=>R x y H2)
  {α:Type} {Q:α→W2→Prop} {f:Value→Value→Sem α}
  (hf:∀ v u s2 x y H2,Inv X pins σ H2 s2→RelV x v→RelV y u→R x y H2→Wa (model X.prog X.w) X.A (f v u) Q X.xe s2) :
  Wa (model X.prog X.w) X.A (eval a X.env) (fun v s₁=>Wa (model X.prog X.w) X.A (eval b X.env) (fun u s₂=>Wa (model X.prog X.w) X.A (f v u) Q X.xe s₂) X.xe s₁) X.xe s:=by
 refine thn (ha pins s σ H _ I h) fun v s1 ⟨x,H1,I1,r1,q1⟩=>?_
 refine thn (hb pins s1 σ H1 _ I1 q1) fun u s2 ⟨y,H2,I2,r2,q2⟩=>?_
 exact hf v u s2 x y H2 I2 r1 r2 q2
def tVar (i:Nat):TE:=fun σ H Q=>∃ v,σ[i]? = some (some v)∧Q v H
def tC (v:V):TE:=fun _ H Q=>Q v H
theorem zfM (hN:X.N[i]? = some x) (hv:Vis X.env.scope x) (hd:(x == ("__debug__" : Str))=false:=by decide) (hcd:(x == ("__classdict__" : Str))=false:=by decide):PE X (.Name x pos) (tVar i):=by
 intro pins s σ H Q I h
 obtain ⟨v,e,h⟩:=h
 obtain ⟨m,hn,hl⟩:=I.loc
 obtain ⟨u,r,l⟩:=hl i x v hN e hv
 have fin:EP X pins σ Q u s:=⟨v,H,I,r,h⟩
 rcases l with ⟨hk,hm⟩ | ⟨hk,c,hc,hcell⟩
 ·exact wpAny_Name (wpAny_loadName_local I.ok.kind hk hn hm fin) hd
 ·rcases hk with hk | hk
  ·exact wpAny_Name (wpAny_loadName_cell I.ok.kind hk hc hcell fin) hd
  ·exact wpAny_Name (wpAny_loadName_free I.ok.kind hk hc hcell fin hcd) hd
theorem zdb {i j pos}:PE X (.Constant (.int i) j pos) (tC (.int i)):=fun _ _ _ H _ I h=>wpAny_Constant_int ⟨.int i,H,I.tok _,⟨_,rfl⟩,h⟩
theorem zek {b j pos}:PE X (.Constant (.bool b) j pos) (tC (.bl b)):=fun _ _ _ H _ I h=>Constant_bool ⟨.bl b,H,I,rfl,h⟩
theorem zfR {j pos}:PE X (.Constant .none j pos) (tC .non):=fun _ _ _ H _ I h=>Constant_none ⟨.non,H,I,rfl,h⟩
theorem zaI {x j pos}:PE X (.Constant (.str x) j pos) (tC (.str x)):=fun _ _ _ H _ I h=>Calls.Constant_str ⟨.str x,H,I.tok _,⟨_,rfl⟩,h⟩
def Gl (X:Cx) (x:Str):Prop:=X.env.kindOf x=some .globalImplicit
theorem z4b (I:Inv X pins σ H s) (hg:Gl X x) (hm:X.mg x=some u) (h:Q u s)
  (hd:(x == ("__debug__" : Str))=false:=by decide):Wa (model X.prog X.w) X.A (eval (.Name x pos) X.env) Q E s :=
 Calls.Name_function_global I.ok.kind hg (Calls.loadGlobal_global (by rw [I.ok.glob]; exact I.mod.glob.keeps I.bk) hm h) hd
theorem z5Z (I:Inv X pins σ H s) (hg:Gl X x) (hm:X.mg x=none) (hv:Q1 x=some u) (h:Q u s)
  (hn:x≠"__name__":=by decide) (hd:(x == ("__debug__" : Str))=false:=by decide):Wa (model X.prog X.w) X.A (eval (.Name x pos) X.env) Q E s:=by
 obtain ⟨mb,h1,h2⟩:=I.mod.blt
 exact Calls.Name_function_global I.ok.kind hg (Calls.loadGlobal_builtin (by rw [I.ok.glob]; exact I.mod.glob.keeps I.bk) hm (by rw [I.ok.blt]; exact h1.keeps I.bk) ((h2 x hn).trans hv) h) hd
theorem zeh (hg:Gl X x) (hm:X.mg x=some u) (r:RelV v u) (hd:(x == ("__debug__" : Str))=false:=by decide):PE X (.Name x pos) (tC v) :=
 fun _ _ _ H _ I h=>z4b I hg hm ⟨v,H,I,r,h⟩ hd
theorem zaL (hg:Gl X x) (hm:X.mg x=none) (hv:Q1 x=some u) (r:RelV v u) (hn:x≠"__name__":=by decide) (hd:(x == ("__debug__" : Str))=false:=by decide):PE X (.Name x pos) (tC v) :=
 fun _ _ _ H _ I h=>z5Z I hg hm hv ⟨v,H,I,r,h⟩ hn hd
variable {a b:Expr} {ta tb:TE} {pos:Pos}
def PC (X:Cx) (op:CmpOp) (a b:Expr) (t:TE):Prop :=
 ∀ (pins:List (Addr×Obj)) (s:W2) (σ:St) (H:Hp) (Q:VK),Inv X pins σ H s→t σ H Q →
  Wa (model X.prog X.w) X.A (eval a X.env) (fun v s₁=>Wa (model X.prog X.w) X.A (eval b X.env) (fun u s₂=>Wa (model X.prog X.w) X.A (Wt op v u) (EP X pins σ Q) X.xe s₂) X.xe s₁) X.xe s
theorem zcx (b:Expr) (h:op≠.In) (h2:op≠.NotIn):Qa op b=false:=by
 have e1:(op == CmpOp.In)=false:=by cases op <;> first | rfl | exact absurd rfl h
 have e2:(op == CmpOp.NotIn)=false:=by cases op <;> first | rfl | exact absurd rfl h2
 cases b <;> simp [Qa,e1,e2]
def tB (t:TE):TT:=fun σ H Q=>t σ H fun x H1=>∃ c,x = .bl c∧Q c H1
theorem pt_cmp (h:PC X op a b t) (h1:Qa op b=false:=by first | exact zcx _ (by decide) (by decide) | rfl):PT X (.Compare a [op] [b] pos) (tB t):=by
 intro pins s σ H Q I hw
 refine wpAny_isTrue_Compare1 (thn (h pins s σ H _ I hw) fun v s1 h1=>thn h1 fun u s2 h2=>thn h2 fun c s3 ⟨x,H1,I1,r1,q1⟩=>?_) h1
 obtain ⟨d,rfl,q⟩:=q1
 cases r1
 exact WR ⟨H1,I1,q⟩
theorem zfF (h:PE X e t) (he:∀ whole,isTrue e X.env whole=(do let v ← whole; standAt e.pos; holding [v] (truthy v)):=by intro _; rfl):PT X e (tB t):=by
 intro pins s σ H Q I hw
 refine isTrue_plain (thn (h pins s σ H _ I hw) fun v s1 ⟨x,H1,I1,r1,q1⟩=>?_) (he _)
 obtain ⟨d,rfl,q⟩:=q1
 cases r1
 exact WR ⟨H1,I1,q⟩
variable {tA tB':TT} {rest:List Expr}
def tAnd (t u:TT):TT:=fun σ H Q=>t σ H fun c H1=>if c=true then u σ H1 Q else Q false H1
def tOr (t u:TT):TT:=fun σ H Q=>t σ H fun c H1=>if c=true then Q true H1 else u σ H1 Q
def tNot (t:TT):TT:=fun σ H Q=>t σ H fun c H1=>Q (!c) H1
theorem ze7 (ha:PT X a tA):PW X (.BoolOp .And [a] pos) tA:=by
 intro wh pins s σ H Q I h
 refine isTrue_and (thn (ha pins s σ H Q I h) fun c s1 e=>?_)
 cases c with
 | true=>exact isTrue_and_nil e
 | false=>exact e
theorem zfD (ha:PT X a tA):PW X (.BoolOp .Or [a] pos) tA:=by
 intro wh pins s σ H Q I h
 refine isTrue_or (thn (ha pins s σ H Q I h) fun c s1 e=>?_)
 cases c with
 | false=>exact isTrue_or_nil e
 | true=>exact e
theorem zfE (ha:PT X a tA) (hb:PW X (.BoolOp .And (b :: rest) pos) tB'):PW X (.BoolOp .And (a :: b :: rest) pos) (tAnd tA tB'):=by
 intro wh pins s σ H Q I h
 refine isTrue_and (thn (ha pins s σ H _ I h) fun c s1 ⟨H1,I1,q1⟩=>?_)
 cases c with
 | true=>exact hb wh pins s1 σ H1 Q I1 q1
 | false=>exact ⟨H1,I1,q1⟩
theorem pw_or (ha:PT X a tA) (hb:PW X (.BoolOp .Or (b :: rest) pos) tB'):PW X (.BoolOp .Or (a :: b :: rest) pos) (tOr tA tB'):=by
 intro wh pins s σ H Q I h
 refine isTrue_or (thn (ha pins s σ H _ I h) fun c s1 ⟨H1,I1,q1⟩=>?_)
 cases c with
 | true=>exact ⟨H1,I1,q1⟩
 | false=>exact hb wh pins s1 σ H1 Q I1 q1
theorem zfG (ha:PT X a tA):PT X (.UnaryOp .Not a pos) (tNot tA):=by
 intro pins s σ H Q I h
 exact isTrue_not (ha pins s σ H (fun c H1=>Q (!c) H1) I h)
def tAndV (ta tb:TE):TE:=fun σ H Q=>ta σ H fun x H1=>∃ c,x = .bl c∧if c=true then tb σ H1 Q else Q (.bl false) H1
def tOrV (ta tb:TE):TE:=fun σ H Q=>ta σ H fun x H1=>∃ c,x = .bl c∧if c=true then Q (.bl true) H1 else tb σ H1 Q
def tNotV (ta:TE):TE:=fun σ H Q=>ta σ H fun x H1=>∃ c,x = .bl c∧Q (.bl (!c)) H1
theorem zfP {op} (h:PE X a t):PE X (.BoolOp op [a] pos) t:=fun pins s σ H Q I hw=>BoolOp_one (h pins s σ H Q I hw)
theorem zfW (ha:PE X a ta) (hb:PE X (.BoolOp .And (b :: rest) pos) tb):PE X (.BoolOp .And (a :: b :: rest) pos) (tAndV ta tb):=by
 intro pins s σ H Q I h
 refine BoolOp_and (thn (ha pins s σ H _ I h) fun v s1 ⟨x,H1,I1,r1,q1⟩=>?_)
 obtain ⟨c,rfl,q1⟩:=q1
 cases r1
 refine WR ?_
 cases c with
 | true=>exact hb pins s1 σ H1 Q I1 q1
 | false=>exact ⟨.bl false,H1,I1,rfl,q1⟩
theorem pe_or (ha:PE X a ta) (hb:PE X (.BoolOp .Or (b :: rest) pos) tb):PE X (.BoolOp .Or (a :: b :: rest) pos) (tOrV ta tb):=by
 intro pins s σ H Q I h
 refine BoolOp_or (thn (ha pins s σ H _ I h) fun v s1 ⟨x,H1,I1,r1,q1⟩=>?_)
 obtain ⟨c,rfl,q1⟩:=q1
 cases r1
 refine WR ?_
 cases c with
 | false=>exact hb pins s1 σ H1 Q I1 q1
 | true=>exact ⟨.bl true,H1,I1,rfl,q1⟩
theorem zfQ (ha:PE X a ta):PE X (.UnaryOp .Not a pos) (tNotV ta):=by
 intro pins s σ H Q I h
 refine UnaryOp_ (thn (ha pins s σ H _ I h) fun v s1 ⟨x,H1,I1,r1,q1⟩=>?_)
 obtain ⟨c,rfl,q1⟩:=q1
 cases r1
 exact not_of (WR ⟨.bl (!c),H1,I1,rfl,q1⟩)
def tIf (t:TT) (ta tb:TE):TE:=fun σ H Q=>t σ H fun c H1=>if c=true then ta σ H1 Q else tb σ H1 Q
theorem zcg (hc:PT X c tA) (ha:PE X a ta) (hb:PE X b tb):PE X (.IfExp c a b pos) (tIf tA ta tb):=by
 intro pins s σ H Q I h
 refine wpAny_IfExp (thn (hc pins s σ H _ I h) fun d s1 ⟨H1,I1,q1⟩=>?_)
 cases d with
 | true=>exact ha pins s1 σ H1 Q I1 q1
 | false=>exact hb pins s1 σ H1 Q I1 q1
end
def SqL (K:W0) (H:Hp) (a:Addr) (xs:List V):Prop :=
 Rd H a (.lst xs) ∨
  ∃ (o:Obj) (its:Array Value) (n:Nat),K.lookup a=some o∧o.cls = .type "list"∧o.dict=none∧o.data = .seq its n∧its.size≤W8∧Vals xs its.toList
def SqT (K:W0) (H:Hp) (a:Addr) (xs:List V):Prop :=
 Rd H a (.tup xs) ∨
  ∃ (o:Obj) (its:Array Value) (n:Nat),K.lookup a=some o∧o.cls = .type "tuple"∧o.data = .seq its n∧its.size≤W8∧Vals xs its.toList
def absV:Value→Option V
 | .none=>some .non
 | .bool b=>some (.bl b)
 | .int i _=>some (.int i)
 | .str x _=>some (.str x)
 | .bytes b _=>some (.byt b)
 | .float b _=>some (.flt b)
 | .ref a=>some (.ref a)
 | .type n=>some (.ty n)
 | _=>none
theorem RelV.abs (r:RelV x u):absV u=some x:=by
 cases x with
 | non=>cases r; rfl
 | bl _=>cases r; rfl
 | int _=>obtain ⟨t,rfl⟩:=r; rfl
 | str _=>obtain ⟨t,rfl⟩:=r; rfl
 | byt _=>obtain ⟨t,rfl⟩:=r; rfl
 | flt _=>obtain ⟨t,rfl⟩:=r; rfl
 | ref _=>cases r; rfl
 | ty _=>cases r; rfl
theorem RelV.inj (r:RelV x u) (q:RelV y u):x=y:=WA (r.abs.symm.trans q.abs)
theorem Vals.inj:∀ {xs ys:List V} {us:List Value},Vals xs us→Vals ys us→xs=ys
 | _,_,_,.nil,.nil=>rfl
 | _,_,_,.cons r t,.cons r' t'=>by rw [r.inj r',Vals.inj t t']
section
variable {X:Cx} {pins:List (Addr×Obj)} {σ:St} {H:Hp} {s:W2} {a:Addr} {xs ys:List V}
theorem SqL.of {K:W0} (h:H a=some (.lst xs)):SqL K H a xs:=.inl (.inl h)
theorem SqT.of {K:W0} (h:H a=some (.tup xs)):SqT K H a xs:=.inl (.inl h)
theorem Inv.list (I:Inv X pins σ H s) (h:SqL X.K H a xs):∃ its:List Value,Vals xs its∧PlainL s.heap a its.toArray∧xs.length≤W8:=by
 rcases h with h | ⟨o,its,n,hk,hc,hd,hs,hz,r⟩
 ·obtain ⟨z,its,n,r,e⟩:=h.ok I.hok
  exact ⟨its,r,⟨_,n,e,rfl,rfl,rfl⟩,z⟩
 ·refine ⟨its.toList,r,⟨o,n,I.kIn a o hk,hc,hd,by simpa using hs⟩,?_⟩
  have e:=r.length
  simp only [Array.length_toList] at e
  omega
theorem Inv.tuple (I:Inv X pins σ H s) (h:SqT X.K H a xs):∃ its:List Value,Vals xs its∧IsTup s.heap a its.toArray∧xs.length≤W8:=by
 rcases h with h | ⟨o,its,n,hk,hc,hs,hz,r⟩
 ·obtain ⟨z,its,r,p⟩:=h.ok I.hok
  exact ⟨its,r,p.tup,z⟩
 ·refine ⟨its.toList,r,⟨o,I.kIn a o hk,hc,n,by simpa using hs⟩,?_⟩
  have e:=r.length
  simp only [Array.length_toList] at e
  omega
theorem Inv.list_inj (I:Inv X pins σ H s) (h:SqL X.K H a xs) (h':SqL X.K H a ys):xs=ys:=by
 obtain ⟨its,r,⟨o,n,e,_,_,d⟩,_⟩:=I.list h
 obtain ⟨its',r',⟨o',n',e',_,_,d'⟩,_⟩:=I.list h'
 rw [e] at e'; cases e'
 rw [d] at d'
 injection d' with d1 _
 have:its=its':=by simpa using congrArg Array.toList d1
 subst this
 exact r.inj r'
theorem Inv.tuple_inj (I:Inv X pins σ H s) (h:SqT X.K H a xs) (h':SqT X.K H a ys):xs=ys:=by
 obtain ⟨its,r,⟨o,e,_,n,d⟩,_⟩:=I.tuple h
 obtain ⟨its',r',⟨o',e',_,n',d'⟩,_⟩:=I.tuple h'
 rw [e] at e'; cases e'
 rw [d] at d'
 injection d' with d1 _
 have:its=its':=by simpa using congrArg Array.toList d1
 subst this
 exact r.inj r'
end
abbrev Cx.wish (X:Cx) (E:Value→W2→Prop):Cx:={ X with xe:=E }
abbrev Cx.nox (X:Cx):Cx:=X.wish fun _ _=>False
theorem Cx.Ok.wish {X:Cx} (ok:X.Ok) (E:Value→W2→Prop):(X.wish E).Ok :=
 ⟨ok.mod,ok.kind,ok.glob,ok.blt,ok.above,ok.inj,ok.has,ok.cab,ok.hd,ok.frames,ok.stk,ok.exf,ok.bs,ok.bsz,ok.noex,ok.exfs,ok.funs,ok.frf⟩
theorem Cx.Ok.unwish {X:Cx} {E:Value→W2→Prop} (ok:(X.wish E).Ok):X.Ok :=
 ⟨ok.mod,ok.kind,ok.glob,ok.blt,ok.above,ok.inj,ok.has,ok.cab,ok.hd,ok.frames,ok.stk,ok.exf,ok.bs,ok.bsz,ok.noex,ok.exfs,ok.funs,ok.frf⟩
section
variable {X:Cx} {pins:List (Addr×Obj)} {σ:St} {H:Hp} {s:W2} {E:Value→W2→Prop}
theorem Inv.wish (I:Inv X pins σ H s) (E:Value→W2→Prop):Inv (X.wish E) pins σ H s:=⟨I.ok.wish E,I.os,I.bare,I.base,I.loc,I.cell,I.free,I.freeC,I.pin,I.hok,I.len⟩
theorem Inv.unwish (I:Inv (X.wish E) pins σ H s):Inv X pins σ H s:=⟨I.ok.unwish,I.os,I.bare,I.base,I.loc,I.cell,I.free,I.freeC,I.pin,I.hok,I.len⟩
theorem SP.unwish (h:SP (X.wish E) pins D f s'):SP X pins D f s':=by
 cases f with
 | next=>obtain ⟨σ',H',I,q⟩:=h; exact ⟨σ',H',I.unwish,q⟩
 | brk=>obtain ⟨σ',H',I,q⟩:=h; exact ⟨σ',H',I.unwish,q⟩
 | cont=>obtain ⟨σ',H',I,q⟩:=h; exact ⟨σ',H',I.unwish,q⟩
 | ret u=>obtain ⟨v,σ',H',I,r,q⟩:=h; exact ⟨v,σ',H',I.unwish,r,q⟩
theorem PSs.nox {st:List Stmt} {t:TS} (h:PSs X.nox st t):PSs X st t:=fun pins s σ H D I hw =>
 WO (h pins s σ H D (I.wish _) hw) (fun _ _ q=>q.unwish) fun _ _ z=>False.elim z
end
section
variable {X:Cx} {st:Stmt} {rest:List Stmt} {t u:TS} {e:Expr} {te:TE} {pos:Pos}
def tNext:TS:=fun D σ H=>D.nx σ H
def tSeq (t u:TS):TS:=fun D σ H=>t { D with nx:=u D } σ H
theorem zea:PSs X [] tNext:=fun _ _ σ H _ I h=>Ji ⟨σ,H,I,h⟩
theorem zcc (h1:PS X st t) (h2:PSs X rest u):PSs X (st :: rest) (tSeq t u):=by
 intro pins s σ H D I h
 refine wpAny_execs_cons (thn (h1 pins s σ H { D with nx:=u D } I h) fun f s1 q=>?_)
 cases f with
 | next =>
  obtain ⟨σ',H',I',q⟩:=q
  exact h2 pins s1 σ' H' D I' q
 | ret v=>exact q
 | brk=>exact q
 | cont=>exact q
theorem zaA (h1:PS X st t):PSs X [st] t:=by
 intro pins s σ H D I h
 refine wpAny_execs_cons (thn (h1 pins s σ H D I h) fun f s1 q=>?_)
 cases f with
 | next=>exact Ji q
 | ret v=>exact q
 | brk=>exact q
 | cont=>exact q
theorem Inv.quiet (I:Inv X pins σ H s):interactive X.env=false:=by simp [interactive,I.ok.kind]
def zdB (te:TE):TS:=fun D σ H=>te σ H fun _ H1=>D.nx σ H1
theorem z8H (he:PE X e te) (hs:QX e none pos.line X.env=pure false:=by rfl):PS X (.Expr e pos) (zdB te):=by
 intro pins s σ H D I h
 exact wpAny_Expr_any (thn (he pins s σ H _ I h) fun v s1 ⟨x,H1,I1,r1,q1⟩=>⟨σ,H1,I1,q1⟩) I.quiet hs
def tRet (te:TE):TS:=fun D σ H=>te σ H D.rt
theorem zd8 (he:PE X e te):PS X (.Return (some e) pos) (tRet te):=by
 intro pins s σ H D I h
 exact wpAny_Return_some (thn (he pins s σ H _ I h) fun v s1 ⟨x,H1,I1,r1,q1⟩=>⟨x,σ,H1,I1,r1,q1⟩)
def tIfS (c:TT) (t u:TS):TS:=fun D σ H=>c σ H fun b H1=>if b=true then t D σ H1 else u D σ H1
theorem ps_if (hc:PT X c tc) (ha:PSs X a t) (hb:PSs X b u):PS X (.If c a b pos) (tIfS tc t u):=by
 intro pins s σ H D I h
 refine wpAny_If (thn (hc pins s σ H _ I h) fun d s1 ⟨H1,I1,q1⟩=>?_)
 cases d with
 | true=>exact ha pins s1 σ H1 D I1 q1
 | false=>exact hb pins s1 σ H1 D I1 q1
end
abbrev TG:=V→St→Hp→(St→Hp→Prop)→Prop
abbrev TGs:=List V→St→Hp→(St→Hp→Prop)→Prop
def PG (X:Cx) (target:Expr) (t:TG):Prop :=
 ∀ (pins:List (Addr×Obj)) (s:W2) (σ:St) (H:Hp) (v:V) (u:Value) (Q:St→Hp→Prop),Inv X pins σ H s→RelV v u→t v σ H Q →
  Wa (model X.prog X.w) X.A (assign target X.env u) (fun _ s'=>∃ σ' H',Inv X pins σ' H' s'∧Q σ' H') X.xe s
def PGs (X:Cx) (ts:List Expr) (t:TGs):Prop :=
 ∀ (pins:List (Addr×Obj)) (s:W2) (σ:St) (H:Hp) (vs:List V) (us:List Value) (Q:St→Hp→Prop),Inv X pins σ H s→Vals vs us→t vs σ H Q →
  Wa (model X.prog X.w) X.A (assignInOrder ((WZ ts X.env).map (·.2)) us) (fun _ s'=>∃ σ' H',Inv X pins σ' H' s'∧Q σ' H') X.xe s
abbrev TSet:=V→V→V→Hp→(Hp→Prop)→Prop
def PSet (X:Cx) (t:TSet):Prop :=
 ∀ (pins:List (Addr×Obj)) (s:W2) (σ:St) (H:Hp) (o i v:V) (ov iv u:Value) (Q:Hp→Prop),Inv X pins σ H s→RelV o ov→RelV i iv→RelV v u→t o i v H Q →
  Wa (model X.prog X.w) X.A (setItem ov iv u) (fun _ s'=>∃ H',Inv X pins σ H' s'∧Q H') X.xe s
section
variable {X:Cx} {pos:Pos}
def zcJ (i:Nat):TG:=fun v σ H Q=>Q (σ.set i (some v)) H
theorem zaH (hN:X.N.Nodup) (hi:X.N[i]? = some x) (hx:Loc X.env.scope x) (hf:X.fn x=true∨X.env.scope.names.lookup x=some .local:=by first | exact .inl rfl | exact .inr rfl | assumption):PG X (.Name x pos) (zcJ i):=by
 intro pins s σ H v u Q I r h
 exact wpAny_assign_Name (z8Y I hN hi hx r (fun s' I'=>⟨_,H,I',h⟩) hf)
def gNil:TGs:=fun vs σ H Q=>vs=[]∧Q σ H
def gCons (t:TG) (u:TGs):TGs:=fun vs σ H Q=>∃ v r,vs=v :: r∧t v σ H fun σ' H'=>u r σ' H' Q
theorem zaG:PGs X [] gNil:=by
 intro pins s σ H vs us Q I r h
 obtain ⟨e,h⟩:=h
 subst e
 cases r
 exact assignInOrder_nil ⟨σ,H,I,h⟩
theorem z9c (h1:PG X e t) (h2:PGs X es u)
  (hs:(WZ (e :: es) X.env).map (·.2)=assign e X.env :: (WZ es X.env).map (·.2):=by rfl):PGs X (e :: es) (gCons t u):=by
 intro pins s σ H vs us Q I r h
 obtain ⟨v,vr,e1,h⟩:=h
 subst e1
 cases r with
 | cons r rr =>
  rw [hs]
  refine assignInOrder_cons (thn (h1 pins s σ H _ _ _ I r h) fun _ s1 ⟨σ1,H1,I1,q1⟩=>?_)
  exact h2 pins s1 σ1 H1 _ _ Q I1 rr q1
def gTup (K:W0) (n:Nat) (t:TGs):TG:=fun v σ H Q=>∃ a xs,v = .ref a∧SqT K H a xs∧xs.length=n∧t xs σ H Q
theorem zda (hc:X.calm=true) (h:PGs X es t)
  (hn:(WZ es X.env).length=n:=by rfl) (hst:(WZ es X.env).findIdx? (·.1)=none:=by rfl):PG X (.Tuple es k pos) (gTup X.K n t):=by
 intro pins s σ H v u Q I r hw
 obtain ⟨a,xs,e1,hq,hl,hw⟩:=hw
 subst e1
 cases r
 obtain ⟨its,rv,ht,hz⟩:=I.tuple hq
 refine assign_Tuple_tuple (I.ok.hd hc) ht (by simp [hn,← hl,rv.length]) hst fun h' hx=>?_
 have I1:Inv X pins σ H { s with heap:=h' }:=I.kept (t':=s.toks) fun b o e=>hx b o (Wy (Wg e)) e
 exact h pins _ σ H xs _ Q I1 (by simpa using rv) hw
def gSub (to ti:TE) (t:TSet):TG:=fun v σ H Q=>to σ H fun o H1=>ti σ H1 fun i H2=>t o i v H2 fun H3=>Q σ H3
theorem zfK (ho:PE X o to) (hi:PE X i ti) (hs:PSet X t)
  (ha:∀ v,assign (.Subscript o i pos) X.env v=(do
   let ov ← holding [v] (eval o X.env)
   let iv ← holding [v,ov] (eval i X.env)
   standAt pos
   holding [v,ov,iv] (setItem ov iv v)
   release [v,ov,iv] []):=by intro _; rfl):PG X (.Subscript o i pos) (gSub to ti t):=by
 intro pins s σ H v u Q I r h
 rw [ha]
 refine W1 (WX (thn (ho pins s σ H _ I h) fun ov s1 ⟨x,H1,I1,r1,q1⟩=>?_))
 refine W1 (WX (thn (hi pins s1 σ H1 _ I1 q1) fun iv s2 ⟨y,H2,I2,r2,q2⟩=>?_))
 refine W1 (Jf (W1 (WX (thn (hs pins s2 σ H2 x y v ov iv u _ I2 r1 r2 r q2) fun _ s3 ⟨H3,I3,q3⟩=>?_))))
 exact wpAny_release ⟨σ,H3,I3,q3⟩
def tAsg (te:TE) (g:TG):TS:=fun D σ H=>te σ H fun x H1=>g x σ H1 D.nx
theorem zd9 (he:PE X e te) (hg:PG X tg g) (hs:swapsWithSole [tg] e pos.line X.env=pure false:=by rfl) (hw:swappedStores [tg] e X.env=pure none:=by rfl)
  (h1:(WZ [tg] X.env).map (·.2)=[assign tg X.env]:=by rfl):PS X (.Assign [tg] e pos) (tAsg te g):=by
 intro pins s σ H D I h
 refine wpAny_Assign_stores (thn (he pins s σ H _ I h) fun v s1 ⟨x,H1,I1,r1,q1⟩=>?_) hs hw
 rw [h1]
 exact thn (hg pins s1 σ H1 x v _ I1 r1 q1) fun _ s2 q=>q
theorem zfH (hN:X.N.Nodup) (hi:X.N[i]? = some x) (hx:Loc X.env.scope x) (he:PE X e te) (hs:QX e (some (.Name x pos')) pos.line X.env=pure false:=by rfl) (hf:X.fn x=true∨X.env.scope.names.lookup x=some .local:=by first | exact .inl rfl | exact .inr rfl | assumption) :
  PS X (.Assign [.Name x pos'] e pos) (tAsg te (zcJ i)):=by
 intro pins s σ H D I h
 refine wpAny_Assign_Name (thn (he pins s σ H _ I h) fun v s1 ⟨y,H1,I1,r1,q1⟩=>?_) hs
 exact z8Y I1 hN hi hx r1 (fun s2 I2=>⟨_,H1,I2,q1⟩) hf
end
section
variable {X:Cx} {pos:Pos}
end
structure It where
 go:Nat→Hp→Prop
 yld:Nat→Hp→V→Hp→Prop
 stop:Nat→Hp→Prop
def FpOk (X:Cx) (pins:List (Addr×Obj)) (H:Hp) (b:Addr):Prop :=
 H b=none∧b≠X.env.locals∧b ∉ X.fs∧(b ∈ X.ex∨X.s₀.heap.objs.size≤b)∧(∀ x c,X.env.cells.lookup x=some c→c≠b)∧∀ p ∈ X.pn ++ pins,p.1≠b
theorem Inv.fpOk (I:Inv X pins σ H s) (hb:s.heap.objs.size≤b) (hn:H' b=none):FpOk X pins H' b:=by
 refine ⟨hn,Jk (Wx I.lt hb),I.nofs hb,.inr (Wn I.sz hb),fun x c e z=>?_,fun p hp z=>?_⟩
 ·obtain ⟨v,q⟩:=I.cell x c e
  exact absurd (Wx q.lt (by rw [z]; exact hb)) (Q0 _)
 ·exact absurd (Wx (Wg (I.pin p hp).1) (by rw [z]; exact hb)) (Q0 _)
structure Turn (P:Wk) (w:Wr) (K:W0) (tg:Expr) (J:It) (fp:List Addr) (it:Addr) (tn:Nat→Heap→Prop):Prop where
 mem:it ∈ fp
 obj:∀ i h,tn i h→∀ b ∈ fp,∃ o,h.get? b=some o∧∀ v,o.data≠.cell v
 keep:∀ i h h',tn i h→(∀ b ∈ fp,∀ o,h.get? b=some o→h'.get? b=some o)→tn i h'
 item:∀ (X:Cx),X.prog=P→X.w=w→X.K=K→X.calm=true→∀ (i:Nat) (pins:List (Addr×Obj)) (s:W2) (σ:St) (H:Hp) (E:Value→W2→Prop),Inv X pins σ H s→(∀ b ∈ fp,FpOk X pins H b)→tn i s.heap→J.go i H →
  Wa (model P w) X.A (pyNext (.ref it)) (fun r s1=>∃ u,r=some u ∧
   Wa (model P w) X.A (letOwnedTupleGo tg (.ref it) u) (fun _ s2=>∃ x H',Inv X pins σ H' s2∧RelV x u∧J.yld i H x H'∧tn (i + 1) s2.heap∧∀ b ∈ fp,H' b=none) E s1) E s
 done:∀ (X:Cx),X.prog=P→X.w=w→X.K=K→X.calm=true→∀ (i:Nat) (pins:List (Addr×Obj)) (s:W2) (σ:St) (H:Hp) (E:Value→W2→Prop),Inv X pins σ H s→(∀ b ∈ fp,FpOk X pins H b)→tn i s.heap→J.stop i H →
  Wa (model P w) X.A (pyNext (.ref it)) (fun r s1=>r=none∧Inv X pins σ H s1) E s
 self:∀ (A:Wp) (i:Nat) (s:W2) (Q:Value→W2→Prop) (E:Value→W2→Prop),tn i s.heap→Q (.ref it) s→Wa (model P w) A (pyIter (.ref it)) Q E s
abbrev TI:=St→Hp→(It→Hp→Prop)→Prop
def PIE (X:Cx) (pins:List (Addr×Obj)) (σ:St) (tg:Expr) (R:It→Hp→Prop) (itv:Value) (s2:W2):Prop :=
 ∃ (it:Addr) (fp:List Addr) (tn:Nat→Heap→Prop) (J:It) (H':Hp),itv = .ref it∧Inv X pins σ H' s2∧Turn X.prog X.w X.K tg J fp it tn∧tn 0 s2.heap∧(∀ b ∈ fp,FpOk X pins H' b)∧R J H'
def PI (X:Cx) (tg iter:Expr) (wi:TI):Prop :=
 ∀ (pins:List (Addr×Obj)) (s:W2) (σ:St) (H:Hp) (R:It→Hp→Prop),Inv X pins σ H s→wi σ H R →
  Wa (model X.prog X.w) X.A (eval iter X.env) (fun v s1=>Wa (model X.prog X.w) X.A (pyIter v) (PIE X pins σ tg R) X.xe s1) X.xe s
theorem zcI (ho:s.heap.get? it=some o) (hc:o.cls = .type n) (hd:o.data = .fields vs)
  (hn:["enumerate","zip","dict_itemiterator","dict_reverseitemiterator","odict_iterator","itertools.zip_longest","itertools.pairwise"].contains n=false) (hQ:Q () s):Wa M A (letOwnedTupleGo tg (.ref it) u) Q E s:=by
 unfold letOwnedTupleGo
 cases tg <;> first
  | exact Wd hQ
  | (cases u <;> first
    | exact Wd hQ
    | (refine W1 (wpAny_load ho ?_); rw [hc,hd]; show Wa M A (if (["enumerate","zip","dict_itemiterator","dict_reverseitemiterator","odict_iterator","itertools.zip_longest","itertools.pairwise"].contains n && vs[0]? == some (Qj _))=true then _ else _) Q E s; rw [if_neg (by intro h; rw [hn,Bool.false_and] at h; cases h)]; exact Wd hQ))
def Itl (K:W0) (a:Addr):It :=
 ⟨fun i H=>∃ xs x,SqL K H a xs∧xs[i]? = some x,fun i H x H'=>H'=H∧∀ xs,SqL K H a xs→xs[i]? = some x,fun i H=>∃ xs,SqL K H a xs∧xs.length≤i⟩
def Itt (K:W0) (a:Addr):It :=
 ⟨fun i H=>∃ xs x,SqT K H a xs∧xs[i]? = some x,fun i H x H'=>H'=H∧∀ xs,SqT K H a xs→xs[i]? = some x,fun i H=>∃ xs,SqT K H a xs∧xs.length≤i⟩
def Itr (lo:Int) (n:Nat):It:=⟨fun i _=>i < n,fun i H x H'=>H'=H∧x = .int (lo + i),fun i _=>n≤i⟩
theorem za9 {P:Wk} {w:Wr} {K:W0} {tg:Expr} (a it:Addr):Turn P w K tg (Itl K a) [it] it (fun i h=>h.IsListIter it a i) where
 mem:=by simp
 obj:=fun i h st b hb=>by
  have e:b=it:=by simpa using hb
  subst e
  obtain ⟨o,e,c,d⟩:=st
  exact ⟨o,e,fun v z=>by rw [d] at z; cases z⟩
 keep:=fun i h h' st k=>st.at fun o e=>k it (by simp) o e
 item:=by
  intro X hP hw hK hc i pins s σ H E I hf st hg
  subst hP hw hK
  obtain ⟨xs,x,hq,hx⟩:=hg
  obtain ⟨its,rv,p,hz⟩:=I.list hq
  obtain ⟨u,hu,ru⟩:=rv.get hx
  obtain ⟨f0,f1,f2,f3,f4,f5⟩:=hf it (by simp)
  refine wpAny_pyNext_list_item st p.isList (x:=u) (by simpa using hu) fun h' st' sb=>?_
  have I1:Inv X pins σ H { s with heap:=h' }:=I.turned (t':=s.toks) (fun b o hb e=>(sb.2 b hb).trans e) f0 f1 f3 f4 f5
  obtain ⟨o,e,c,d⟩:=id st'
  exact ⟨u,rfl,zcI (s:={ s with heap:=h' }) e c d (by decide) ⟨x,H,I1,ru,⟨rfl,fun ys hy=>by rw [I.list_inj hy hq]; exact hx⟩,st',fun b hb=>(hf b hb).1⟩⟩
 done:=by
  intro X hP hw hK hc i pins s σ H E I hf st hg
  subst hP hw hK
  obtain ⟨xs,hq,hx⟩:=hg
  obtain ⟨its,rv,p,hz⟩:=I.list hq
  obtain ⟨f0,f1,f2,f3,f4,f5⟩:=hf it (by simp)
  have hl:=rv.length
  exact wpAny_pyNext_list_end (I.ok.hd hc) st p.isList (by simp; omega) fun h' eb=>⟨rfl,I.turned (t':=s.toks) (fun b o hb e=>eb b o hb e) f0 f1 f3 f4 f5⟩
 self:=fun _ _ _ _ _ st h=>wpAny_pyIter_listiter st h
theorem z9B {P:Wk} {w:Wr} {K:W0} {tg:Expr} (a it:Addr):Turn P w K tg (Itt K a) [it] it (fun i h=>h.IsTupleIter it a i) where
 mem:=by simp
 obj:=fun i h st b hb=>by
  have e:b=it:=by simpa using hb
  subst e
  obtain ⟨o,e,c,d⟩:=st
  exact ⟨o,e,fun v z=>by rw [d] at z; cases z⟩
 keep:=fun i h h' st k=>st.at fun o e=>k it (by simp) o e
 item:=by
  intro X hP hw hK hc i pins s σ H E I hf st hg
  subst hP hw hK
  obtain ⟨xs,x,hq,hx⟩:=hg
  obtain ⟨its,rv,p,hz⟩:=I.tuple hq
  obtain ⟨u,hu,ru⟩:=rv.get hx
  obtain ⟨f0,f1,f2,f3,f4,f5⟩:=hf it (by simp)
  refine wpAny_pyNext_tuple_item st (show s.heap.IsTuple a its.toArray from p) (x:=u) (by simpa using hu) fun h' st' sb=>?_
  have I1:Inv X pins σ H { s with heap:=h' }:=I.turned (t':=s.toks) (fun b o hb e=>(sb.2 b hb).trans e) f0 f1 f3 f4 f5
  obtain ⟨o,e,c,d⟩:=id st'
  exact ⟨u,rfl,zcI (s:={ s with heap:=h' }) e c d (by decide) ⟨x,H,I1,ru,⟨rfl,fun ys hy=>by rw [I.tuple_inj hy hq]; exact hx⟩,st',fun b hb=>(hf b hb).1⟩⟩
 done:=by
  intro X hP hw hK hc i pins s σ H E I hf st hg
  subst hP hw hK
  obtain ⟨xs,hq,hx⟩:=hg
  obtain ⟨its,rv,p,hz⟩:=I.tuple hq
  obtain ⟨f0,f1,f2,f3,f4,f5⟩:=hf it (by simp)
  have hl:=rv.length
  exact wpAny_pyNext_tuple_end (I.ok.hd hc) st (show s.heap.IsTuple a its.toArray from p) (by simp; omega) fun h' eb=>⟨rfl,I.turned (t':=s.toks) (fun b o hb e=>eb b o hb e) f0 f1 f3 f4 f5⟩
 self:=fun _ _ _ _ _ st h=>wpAny_pyIter_tupleiter st h
theorem z9C {P:Wk} {w:Wr} {K:W0} {tg:Expr} (it:Addr) (lo:Int) (n:Nat):Turn P w K tg (Itr lo n) [it] it (fun i h=>IsRangeIter h it (lo + (i:Nat) * 1) ((n:Int) - (i:Nat)) 1) where
 mem:=by simp
 obj:=fun i h st b hb=>by
  have e:b=it:=by simpa using hb
  subst e
  exact ⟨_,st,fun v z=>by
   have z':Data.fields _=Data.cell v:=z
   cases z'⟩
 keep:=fun i h h' st k=>k it (by simp) _ st
 item:=by
  intro X hP hw hK hc i pins s σ H E I hf st hg
  subst hP hw hK
  obtain ⟨f0,f1,f2,f3,f4,f5⟩:=hf it (by simp)
  have W:=Walks.range (prog:=X.prog) (w:=X.w) (I.ok.hd hc) it lo 1 n
  refine W.item i s _ _ hg st fun v h' tk hv st' kk=>?_
  obtain ⟨t,rfl⟩:=hv
  have I1:Inv X pins σ H { s with heap:=h',toks:=tk }:=I.turned (fun b o hb e=>kk b o (by simpa using hb) e) f0 f1 f3 f4 f5
  refine ⟨_,rfl,zcI (s:={ s with heap:=h',toks:=tk }) (n:="range_iterator") st' rfl rfl (by decide) ⟨.int (lo + i),H,I1,⟨t,?_⟩,⟨rfl,rfl⟩,st',fun b hb=>(hf b hb).1⟩⟩
  rw [Int.mul_one]
 done:=by
  intro X hP hw hK hc i pins s σ H E I hf st hg
  subst hP hw hK
  obtain ⟨f0,f1,f2,f3,f4,f5⟩:=hf it (by simp)
  exact wpAny_pyNext_range_end (I.ok.hd hc) st (by have:n≤i:=hg; omega) fun h' eb=>⟨rfl,I.turned (t':=s.toks) (fun b o hb e=>eb b o hb e) f0 f1 f3 f4 f5⟩
 self:=fun _ _ _ _ _ st h=>wpAny_pyIter_rangeiter st h
section
variable {X:Cx} {tg:Expr}
theorem z99 {pins:List (Addr×Obj)} {σ:St} {H:Hp} {s:W2} {R:It→Hp→Prop} {E:Value→W2→Prop} {lo hi:Int} {t u v:Tok} {tk:Nat} (I:Inv X pins σ H s) (h1 : -(2 ^ 62)≤lo) (h2:lo < 2 ^ 62) (h3 : -(2 ^ 62)≤hi) (h4:hi < 2 ^ 62)
  (q:R (Itr lo (hi - lo).toNat) H):Wa (model X.prog X.w) X.A (pyIter (.ref s.heap.objs.size)) (PIE X pins σ tg R) E { s with heap:=s.heap.push { cls:=.type "range",data:=.fields #[.int lo t,.int hi u,.int 1 v] },toks:=tk }:=by
 refine wpAny_pyIter_range (IsRange.new ..) (small_one h1 h2 h3 h4) ?_
 have I1:Inv X pins σ H { s with heap:=s.heap.push { cls:=.type "range",data:=.fields #[.int lo t,.int hi u,.int 1 v] },toks:=tk }:=I.kept fun b o e=>W6 _ e
 refine ⟨(s.heap.push { cls:=.type "range",data:=.fields #[.int lo t,.int hi u,.int 1 v] }).objs.size,[(s.heap.push { cls:=.type "range",data:=.fields #[.int lo t,.int hi u,.int 1 v] }).objs.size],_,_,H,rfl,
  I1.kept (t':=tk) fun b o e=>W6 _ e,z9C _ lo (hi - lo).toNat,?_,fun b hb=>?_,q⟩
 ·have e1:lo + ((0:Nat):Int) * 1=lo:=by simp
  have e2:(((hi - lo).toNat:Nat):Int) - ((0:Nat):Int)=Builtin.Range.rangeSize lo hi 1:=by rw [rangeSize_one]; split <;> omega
  show IsRangeIter _ _ (lo + ((0:Nat):Int) * 1) ((((hi - lo).toNat:Nat):Int) - ((0:Nat):Int)) 1
  rw [e1,e2]
  exact Wm _ rfl
 ·have e:b=(s.heap.push { cls:=.type "range",data:=.fields #[.int lo t,.int hi u,.int 1 v] }).objs.size:=by simpa using hb
  subst e
  exact I1.fpOk (W7 _) (I1.hok.fresh (W7 _))
def iRng1 (ta:TA):TI:=fun σ H R=>ta σ H fun vs H1=>∃ j:Int,vs=[.int j]∧-(2 ^ 62)≤j∧j < 2 ^ 62∧R (Itr 0 j.toNat) H1
def iRng2 (ta:TA):TI:=fun σ H R=>ta σ H fun vs H1=>∃ i j:Int,vs=[.int i,.int j]∧(-(2 ^ 62)≤i∧i < 2 ^ 62∧-(2 ^ 62)≤j∧j < 2 ^ 62)∧R (Itr i (j - i).toNat) H1
theorem zaF {a:Expr} {ta:TA} {p pos:Pos} (hg:Gl X "range") (hm:X.mg "range" = none) (ha:PA X [a] ta) (hs:W4 [a] X.env=[(false,eval a X.env)]:=by rfl):PI X tg (.Call (.Name "range" p) [a] [] pos) (iRng1 ta):=by
 intro pins s σ H R I h
 refine Call_ (z5Z I hg hm boot_range (QB (thn (ha pos pins s σ H _ I h) fun us s1 ⟨vs,H1,I1,r1,q1⟩=>?_) hs rfl))
 obtain ⟨j,e,q1,q2,q⟩:=q1
 subst e
 cases r1 with
 | cons r rr =>
  cases rr
  obtain ⟨t,rfl⟩:=r
  exact call_range_1 (z99 I1 (by omega) (by omega) q1 q2 (by simpa using q))
theorem zaE (hg:Gl X "range") (hm:X.mg "range" = none) (ha:PA X [a,b] ta) (hs:W4 [a,b] X.env=[(false,eval a X.env),(false,eval b X.env)]:=by rfl) (hs2:W4 [b] X.env=[(false,eval b X.env)]:=by rfl) :
  PI X tg (.Call (.Name "range" p) [a,b] [] pos) (iRng2 ta):=by
 intro pins s σ H R I h
 refine Call_ (z5Z I hg hm boot_range (QB (thn (ha pos pins s σ H _ I h) fun us s1 ⟨vs,H1,I1,r1,q1⟩=>?_) (by rw [hs,hs2]) (by rw [hs2]; rfl)))
 obtain ⟨i,j,e,⟨q1,q2,q3,q4⟩,q⟩:=q1
 subst e
 cases r1 with
 | cons r rr =>
  cases rr with
  | cons r' rr =>
   cases rr
   obtain ⟨t,rfl⟩:=r
   obtain ⟨t',rfl⟩:=r'
   exact call_range_2 (z99 I1 q1 q2 q3 q4 q)
def tFor (wi:TI) (g:TG) (tb:TS):TS:=fun D σ H=>wi σ H fun J H1=>∃ W:Nat→Nat→St→Hp→Prop,(∃ m,W 0 m σ H1)∧∀ i m σ H,W i m σ H →
 (J.stop i H∧D.nx σ H)∨(J.go i H∧∃ N:St→Hp→Prop,(∀ σ' H',N σ' H'→∃ m',m' < m∧W (i + 1) m' σ' H')∧∀ x H',J.yld i H x H'→g x σ H' fun σ2 H2=>tb { D with nx:=N,ct:=N,bk:=D.nx } σ2 H2)
def z6E (fp:List Addr) (h:Heap):List (Addr×Obj):=fp.filterMap fun b=>(h.get? b).map fun o=>(b,o)
theorem z2i (hb:b ∈ fp) (e:h.get? b=some o):(b,o) ∈ z6E fp h:=List.mem_filterMap.mpr ⟨b,hb,by rw [e]; rfl⟩
theorem zaS (hp:p ∈ z6E fp h):p.1 ∈ fp∧h.get? p.1=some p.2:=by
 obtain ⟨b,hb,e⟩:=List.mem_filterMap.mp hp
 cases q:h.get? b with
 | none=>rw [q] at e; cases e
 | some o =>
  rw [q] at e
  have e':(b,o)=p:=WA e
  subst e'
  exact ⟨hb,q⟩
theorem Inv.pinned (I:Inv X pins σ H s) (hf:∀ b ∈ fp,FpOk X pins H b) (ho:∀ b ∈ fp,∃ o,s.heap.get? b=some o∧∀ v,o.data≠.cell v):Inv X (pins ++ z6E fp s.heap) σ H s :=
 I.pins_of fun p hp=>(QW.mp hp).elim (fun z=>I.pin p (Wz _ z)) fun z=>by
  obtain ⟨hb,e⟩:=zaS z
  obtain ⟨f0,f1,f2,_⟩:=hf p.1 hb
  obtain ⟨o,e',d⟩:=ho p.1 hb
  rw [e] at e'; cases e'
  exact ⟨e,f0,f1,f2,d⟩
theorem Inv.unpinned (I:Inv X (pins ++ pl) σ H s):Inv X pins σ H s:=I.pins_of fun p hp=>I.pin p (Wz _ (Jb _ hp))
theorem zfI (hp:PassesOwn (model X.prog X.w) X.A X.env X.xe) (hc:X.calm=true) (hi:PI X tg iter wi) (hg:PG X tg g) (hb:PSs X body tb)
  (hs:∀ x,Qd iter X.env x=pure x:=by intro _; rfl):PS X (.For tg iter body [] pos) (tFor wi g tb):=by
 intro pins s σ H D I h
 refine wpAny_For (thn (hi pins s σ H _ I h) fun v s1 h1=>thn h1 fun itv s2 h2=>?_) hs
 obtain ⟨it,fp,tn,J,H2,e,I2,T,st2,f2,W,⟨m0,w0⟩,turn⟩:=h2
 subst e
 -- what stays true of the iterator's objects through the loop
 have stat:∀ {H':Hp},(∀ b ∈ fp,H' b=none)→∀ b ∈ fp,FpOk X pins H' b:=fun hn b hb=>⟨hn b hb,(f2 b hb).2⟩
 refine codeAny_forLoop_any (fun n s'=>∃ i σ' H',Inv X pins σ' H' s'∧tn i s'.heap∧(∀ b ∈ fp,H' b=none)∧W i n σ' H') ?_ m0 ⟨0,σ,H2,I2,st2,fun b hb=>(f2 b hb).1,w0⟩
 rintro n s3 ⟨i,σ3,H3,I3,st3,fr3,w3⟩
 rcases turn i n σ3 H3 w3 with ⟨stop,qn⟩ | ⟨go,N,hN,step⟩
 ·refine Jj hp (thn (T.done X rfl rfl rfl hc i pins s3 σ3 H3 X.xe I3 (stat fr3) st3 stop) fun r s4 ⟨hr,I4⟩=>?_)
  subst hr
  exact Ji ⟨σ3,H3,I4,qn⟩
 ·refine Jj hp (thn (T.item X rfl rfl rfl hc i pins s3 σ3 H3 X.xe I3 (stat fr3) st3 go) fun r s4 ⟨u,hr,h4⟩=>?_)
  subst hr
  refine Jj hp (thn h4 fun _ s5 ⟨x,H5,I5,r5,y5,st5,fr5⟩=>?_)
  have I5':=I5.pinned (stat fr5) (T.obj _ _ st5)
  refine Jj hp (thn (hg _ s5 σ3 H5 x u _ I5' r5 (step x H5 y5)) fun _ s6 ⟨σ6,H6,I6,q6⟩=>?_)
  refine Jj hp (thn (hb _ s6 σ6 H6 _ I6 q6) fun f s7 q7=>?_)
  have again:∀ {σ7:St} {H7:Hp},Inv X (pins ++ z6E fp s5.heap) σ7 H7 s7→N σ7 H7→∃ m,m < n∧∃ i σ' H',Inv X pins σ' H' s7∧tn i s7.heap∧(∀ b ∈ fp,H' b=none)∧W i m σ' H':=fun {σ7 H7} I7 n7=>by
   obtain ⟨m',hm,w7⟩:=hN σ7 H7 n7
   refine ⟨m',hm,i + 1,σ7,H7,I7.unpinned,T.keep _ _ _ st5 fun b hb o e=>(I7.pin (b,o) (Wz _ (Wz _ (z2i hb e)))).1,fun b hb=>?_,w7⟩
   obtain ⟨o,e,d⟩:=T.obj _ _ st5 b hb
   exact (I7.pin (b,o) (Wz _ (Wz _ (z2i hb e)))).2.1
  cases f with
  | next=>obtain ⟨σ7,H7,I7,n7⟩:=q7; exact again I7 n7
  | cont=>obtain ⟨σ7,H7,I7,n7⟩:=q7; exact again I7 n7
  | brk=>obtain ⟨σ7,H7,I7,q7⟩:=q7; exact ⟨σ7,H7,I7.unpinned,q7⟩
  | ret v=>obtain ⟨x7,σ7,H7,I7,r7,q7⟩:=q7; exact ⟨x7,σ7,H7,I7.unpinned,r7,q7⟩
end
abbrev R2:=V→V→Hp→VK→Prop
def OpR (X:Cx) (f:Value→Value→Sem Value) (r:R2):Prop :=
 ∀ (pins:List (Addr×Obj)) (s:W2) (σ:St) (H:Hp) (x y:V) (v u:Value) (Q:VK),Inv X pins σ H s→RelV x v→RelV y u→r x y H Q →
  Wa (model X.prog X.w) X.A (f v u) (EP X pins σ Q) X.xe s
def UnR (X:Cx) (f:Value→Sem Value) (r:V→Hp→VK→Prop):Prop :=
 ∀ (pins:List (Addr×Obj)) (s:W2) (σ:St) (H:Hp) (x:V) (v:Value) (Q:VK),Inv X pins σ H s→RelV x v→r x H Q →
  Wa (model X.prog X.w) X.A (f v) (EP X pins σ Q) X.xe s
def CallR (X:Cx) (f:Value) (r:List V→Hp→VK→Prop):Prop :=
 ∀ (pins:List (Addr×Obj)) (s:W2) (σ:St) (H:Hp) (xs:List V) (us:List Value) (Q:VK),Inv X pins σ H s→Vals xs us→r xs H Q →
  Wa (model X.prog X.w) X.A (call f us) (EP X pins σ Q) X.xe s
def tOp (r:R2) (ta tb:TE):TE:=fun σ H Q=>ta σ H fun x H1=>tb σ H1 fun y H2=>r x y H2 Q
def tUn (r:V→Hp→VK→Prop) (ta:TE):TE:=fun σ H Q=>ta σ H fun x H1=>r x H1 Q
def rI (C:Int→Int→Prop) (g:Int→Int→V):R2:=fun x y H Q=>∃ i j,x = .int i∧y = .int j∧C i j∧Q (g i j) H
def rI0 (g:Int→Int→V):R2:=fun x y H Q=>∃ i j,x = .int i∧y = .int j∧Q (g i j) H
def rU (g:Int→V):V→Hp→VK→Prop:=fun x H Q=>∃ i,x = .int i∧Q (g i) H
section
variable {X:Cx} {a b c:Expr} {ta tb tc:TE} {pos:Pos}
theorem binT (ha:PE X a ta) (hb:PE X b tb) {pins:List (Addr×Obj)} {s:W2} {σ:St} {H:Hp} {R:V→V→Hp→Prop} (I:Inv X pins σ H s)
  (h:ta σ H fun x H1=>tb σ H1 fun y H2=>R x y H2) {Q:Value→W2→Prop} {f:Value→Value→Sem Value}
  (hf:∀ v u s2 x y H2,Inv X pins σ H2 s2→RelV x v→RelV y u→R x y H2→Wa (model X.prog X.w) X.A (f v u) Q X.xe s2) :
  Wa (model X.prog X.w) X.A (eval a X.env) (fun v s₁=>Wa (model X.prog X.w) X.A (eval b X.env) (fun u s₂=>Wa (model X.prog X.w) X.A (f v u) Q X.xe s₂) X.xe s₁) X.xe s:=by
 refine thn (ha pins s σ H _ I h) fun v s1 ⟨x,H1,I1,r1,q1⟩=>?_
 refine thn (hb pins s1 σ H1 _ I1 q1) fun u s2 ⟨y,H2,I2,r2,q2⟩=>?_
 exact hf v u s2 x y H2 I2 r1 r2 q2
theorem zfO {op:Operator} {r:R2} (ho:OpR X (Q7 op) r) (ha:PE X a ta) (hb:PE X b tb):PE X (.BinOp a op b pos) (tOp r ta tb):=by
 intro pins s σ H Q I h
 exact wpAny_BinOp (binT ha hb I h fun v u s2 x y H2 I2 rx ry q=>ho pins s2 σ H2 x y v u Q I2 rx ry q)
theorem pe_un (ho:UnR X (unaryOp op) r) (ha:PE X a ta):PE X (.UnaryOp op a pos) (tUn r ta):=by
 intro pins s σ H Q I h
 exact UnaryOp_ (thn (ha pins s σ H _ I h) fun v s1 ⟨x,H1,I1,r1,q1⟩=>ho pins s1 σ H1 x v Q I1 r1 q1)
theorem opI {f:Value→Value→Sem Value} {C:Int→Int→Prop} {g:Int→Int→Int}
  (rule:∀ (i j:Int) (t u:Tok) (s:W2) (Q:Value→W2→Prop) (E:Value→W2→Prop),C i j→Q (.int (g i j) s.toks) { s with toks:=s.toks + 1 }→Wa (model X.prog X.w) X.A (f (.int i t) (.int j u)) Q E s) :
  OpR X f (rI C fun i j=>.int (g i j)):=by
 intro pins s σ H x y v u Q I rx ry h
 obtain ⟨i,j,rfl,rfl,hc,q⟩:=h
 obtain ⟨t,rfl⟩:=rx
 obtain ⟨t',rfl⟩:=ry
 exact rule i j t t' s _ _ hc ⟨.int (g i j),H,I.tok _,⟨_,rfl⟩,q⟩
theorem opI0 {f:Value→Value→Sem Value} {g:Int→Int→Int}
  (rule:∀ (i j:Int) (t u:Tok) (s:W2) (Q:Value→W2→Prop) (E:Value→W2→Prop),Q (.int (g i j) s.toks) { s with toks:=s.toks + 1 }→Wa (model X.prog X.w) X.A (f (.int i t) (.int j u)) Q E s) :
  OpR X f (rI0 fun i j=>.int (g i j)):=by
 intro pins s σ H x y v u Q I rx ry h
 obtain ⟨i,j,rfl,rfl,q⟩:=h
 obtain ⟨t,rfl⟩:=rx
 obtain ⟨t',rfl⟩:=ry
 exact rule i j t t' s _ _ ⟨.int (g i j),H,I.tok _,⟨_,rfl⟩,q⟩
theorem opB0 {f:Value→Value→Sem Value} {g:Int→Int→Bool}
  (rule:∀ (i j:Int) (t u:Tok) (s:W2) (Q:Value→W2→Prop) (E:Value→W2→Prop),Q (.bool (g i j)) s→Wa (model X.prog X.w) X.A (f (.int i t) (.int j u)) Q E s) :
  OpR X f (rI0 fun i j=>.bl (g i j)):=by
 intro pins s σ H x y v u Q I rx ry h
 obtain ⟨i,j,rfl,rfl,q⟩:=h
 obtain ⟨t,rfl⟩:=rx
 obtain ⟨t',rfl⟩:=ry
 exact rule i j t t' s _ _ ⟨.bl (g i j),H,I,rfl,q⟩
def CDiv (i j:Int):Prop:=0 < j∧j < 1073741824
def CPow (i j:Int):Prop:=0≤j∧j≤1000000∧i.natAbs < 2 ^ 64
def CMul (i j:Int):Prop:=(-(2 ^ 64) < i∧i < 2 ^ 64)∨(-(2 ^ 64) < j∧j < 2 ^ 64)
theorem CMul.ok (h:CMul i j):IntMulOk i j:=by
 rcases h with ⟨h1,h2⟩ | ⟨h1,h2⟩
 ·exact .of_left (intBits_le_64 h1 h2)
 ·exact .of_right (intBits_le_64 h1 h2)
theorem op_add:OpR X (Q7 .Add) (rI0 fun i j=>.int (i + j)):=opI0 fun _ _ _ _ _ _ _ q=>add_int q
theorem zdc:OpR X (Q7 .Sub) (rI0 fun i j=>.int (i - j)):=opI0 fun _ _ _ _ _ _ _ q=>sub_int q
theorem op_mul:OpR X (Q7 .Mult) (rI CMul fun i j=>.int (i * j)):=opI fun _ _ _ _ _ _ _ hc q=>mul_int q hc.ok
theorem z8K:OpR X (Q7 .FloorDiv) (rI CDiv fun i j=>.int (i / j)):=opI fun i j _ _ _ _ _ hc q=>by
 have h1:(0:Int) < j:=hc.1
 have h2:j < 1073741824:=hc.2
 exact floordiv_int (by omega) (by rw [Int.fdiv_eq_ediv_of_nonneg i (by omega)]; exact q) (.inl (PyProof.noPylong_small (by omega)))
theorem z7T:OpR X (Q7 .Mod) (rI (fun _ j=>0 < j) fun i j=>.int (i % j)):=opI fun i j _ _ _ _ _ hc q=>by
 have h1:(0:Int) < j:=hc
 exact mod_int' (by omega) (by rw [Int.fmod_eq_emod_of_nonneg i (by omega)]; exact q)
theorem zfX:OpR X (Q7 .Pow) (rI CPow fun i j=>.int (i ^ j.toNat)):=opI fun _ _ _ _ _ _ _ hc q=>pow_int_small hc.1 hc.2.1 hc.2.2 q
theorem unI {f:Value→Sem Value} {g:Int→Int}
  (rule:∀ (i:Int) (t:Tok) (s:W2) (Q:Value→W2→Prop) (E:Value→W2→Prop),Q (.int (g i) s.toks) { s with toks:=s.toks + 1 }→Wa (model X.prog X.w) X.A (f (.int i t)) Q E s) :
  UnR X f (rU fun i=>.int (g i)):=by
 intro pins s σ H x v Q I rx h
 obtain ⟨i,rfl,q⟩:=h
 obtain ⟨t,rfl⟩:=rx
 exact rule i t s _ _ ⟨.int (g i),H,I.tok _,⟨_,rfl⟩,q⟩
theorem zeX:UnR X (unaryOp .USub) (rU fun i=>.int (-i)):=unI fun _ _ _ _ _ q=>neg_int q
end
section
variable {X:Cx} {a b c:Expr} {ta tb tc:TE} {pos:Pos}
theorem z8g (I:Inv X pins σ H s) (q:Q (.bl k) H) (e:k=k'):EP X pins σ Q (.bool k') s:=by
 subst e
 exact ⟨.bl k,H,I,rfl,q⟩
theorem op_lt:OpR X (Wt .Lt) (rI0 fun i j=>.bl (decide (i < j))):=opB0 fun _ _ _ _ _ _ _ q=>lt_int q
theorem op_le:OpR X (Wt .LtE) (rI0 fun i j=>.bl (decide (i≤j))):=opB0 fun _ _ _ _ _ _ _ q=>le_int q
theorem op_gt:OpR X (Wt .Gt) (rI0 fun i j=>.bl (decide (j < i))):=opB0 fun _ _ _ _ _ _ _ q=>gt_int q
theorem op_ge:OpR X (Wt .GtE) (rI0 fun i j=>.bl (decide (j≤i))):=opB0 fun _ _ _ _ _ _ _ q=>ge_int q
theorem zaQ:OpR X (Wt .Lt) (fun x y H Q=>∃ i j,x = .str i∧y = .str j∧Q (.bl (decide (i.cps.toList < j.cps.toList))) H):=by
 intro pins s σ H x y v u Q I rx ry h
 obtain ⟨i,j,rfl,rfl,q⟩:=h
 obtain ⟨t,rfl⟩:=rx
 obtain ⟨t',rfl⟩:=ry
 exact lt_str (z8g I q rfl)
theorem z7U:OpR X (Wt .In) (fun x y H Q=>∃ i j,x = .str i∧y = .str j∧Q (.bl (!(Qc j i 0 j.length 1).isEmpty)) H):=by
 intro pins s σ H x y v u Q I rx ry h
 obtain ⟨i,j,rfl,rfl,q⟩:=h
 obtain ⟨t,rfl⟩:=rx
 obtain ⟨t',rfl⟩:=ry
 exact in_str (z8g I q rfl)
theorem zfZ:OpR X (Wt .Is) (fun x y H Q=>y = .non∧Q (.bl (decide (x = .non))) H):=by
 intro pins s σ H x y v u Q I rx ry h
 obtain ⟨rfl,q⟩:=h
 cases ry
 refine is_none_gen (z8g I q ?_)
 cases x <;> first
  | (cases rx; rfl)
  | (obtain ⟨t,rfl⟩:=rx; rfl)
theorem zaP:OpR X (Wt .IsNot) (fun x y H Q=>y = .non∧Q (.bl (!decide (x = .non))) H):=by
 intro pins s σ H x y v u Q I rx ry h
 obtain ⟨rfl,q⟩:=h
 cases ry
 refine isnot_none_gen (z8g I q ?_)
 cases x <;> first
  | (cases rx; rfl)
  | (obtain ⟨t,rfl⟩:=rx; rfl)
theorem z5f:OpR X (Wt .NotIn) (fun x y H Q=>∃ i j,x = .str i∧y = .str j∧Q (.bl (!(!(Qc j i 0 j.length 1).isEmpty))) H):=by
 intro pins s σ H x y v u Q I rx ry h
 obtain ⟨i,j,rfl,rfl,q⟩:=h
 obtain ⟨t,rfl⟩:=rx
 obtain ⟨t',rfl⟩:=ry
 exact notIn_str (z8g I q rfl)
theorem OpR.or (h:OpR X f r) (h':OpR X f r'):OpR X f (fun x y H Q=>r x y H Q∨r' x y H Q):=by
 intro pins s σ H x y v u Q I rx ry q
 rcases q with q | q
 ·exact h pins s σ H x y v u Q I rx ry q
 ·exact h' pins s σ H x y v u Q I rx ry q
theorem z0z (b:Expr) (h:op≠.In:=by decide) (h2:op≠.NotIn:=by decide):Qa op b=false:=by
 have e1:(op == CmpOp.In)=false:=by cases op <;> first | rfl | exact absurd rfl h
 have e2:(op == CmpOp.NotIn)=false:=by cases op <;> first | rfl | exact absurd rfl h2
 cases b <;> simp [Qa,e1,e2]
theorem zaJ {op:CmpOp} {r:R2} (ho:OpR X (Wt op) r) (ha:PE X a ta) (hb:PE X b tb) (hm:Qa op b=false):PE X (.Compare a [op] [b] pos) (tOp r ta tb):=by
 intro pins s σ H Q I h
 exact wpAny_Compare1 (binT ha hb I h fun v u s2 x y H2 I2 rx ry q=>ho pins s2 σ H2 x y v u Q I2 rx ry q) hm
def zf3 (t:TE):TT:=fun σ H Q=>t σ H fun x H'=>∃ k,x = .bl k∧Q k H'
theorem zaz (ho:OpR X (Wt op) r) (ha:PE X a ta) (hb:PE X b tb) (hm:Qa op b=false):PT X (.Compare a [op] [b] pos) (zf3 (tOp r ta tb)):=by
 intro pins s σ H Q I h
 refine wpAny_isTrue_Compare1 (thn (ha pins s σ H _ I h) fun v s1 ⟨x,H1,I1,r1,q1⟩=>thn (hb pins s1 σ H1 _ I1 q1) fun u s2 ⟨y,H2,I2,r2,q2⟩ =>
  thn (ho pins s2 σ H2 x y v u _ I2 r1 r2 q2) fun c s3 ⟨z,H3,I3,r3,k,e,q3⟩=>?_) hm
 subst e
 cases r3
 exact WR ⟨H3,I3,q3⟩
def zab (r r':R2) (ta tb tc:TE):TE:=fun σ H Q=>ta σ H fun x H1=>tb σ H1 fun y H2=>r x y H2 fun z H3=>∃ k,z = .bl k ∧
 (if k=true then tc σ H3 fun w' H4=>r' y w' H4 Q else Q (.bl false) H3)
theorem zci (ho:OpR X (Wt op) r) (ho':OpR X (Wt op') r') (ha:PE X a ta) (hb:PE X b tb) (hc:PE X c tc)
  (hm:lastMarks [op,op'] [b,c]=false:=by with_unfolding_all rfl):PE X (.Compare a [op,op'] [b,c] pos) (zab r r' ta tb tc):=by
 intro pins s σ H Q I h
 refine Compare_chain (thn (ha pins s σ H _ I h) fun v s1 ⟨x,H1,I1,r1,q1⟩=>chain_link (thn (hb pins s1 σ H1 _ I1 q1) fun u s2 ⟨y,H2,I2,r2,q2⟩ =>
  thn (ho pins s2 σ H2 x y v u _ I2 r1 r2 q2) fun d s3 ⟨z,H3,I3,r3,k,e,q3⟩=>?_)) hm
 subst e
 cases r3
 refine WR ?_
 cases k with
 | false=>exact ite_ff ⟨.bl false,H3,I3,rfl,q3⟩
 | true=>exact ite_tt (chain_last (thn (hc pins s3 σ H3 _ I3 q3) fun w' s4 ⟨z',H4,I4,r4,q4⟩=>ho' pins s4 σ H4 y z' u w' Q I4 r2 r4 q4))
theorem zcb (ho:OpR X (Wt op) r) (ho':OpR X (Wt op') r') (ha:PE X a ta) (hb:PE X b tb) (hc:PE X c tc)
  (hm:lastMarks [op,op'] [b,c]=false:=by with_unfolding_all rfl):PT X (.Compare a [op,op'] [b,c] pos) (zf3 (zab r r' ta tb tc)):=by
 intro pins s σ H Q I h
 refine isTrue_chain (thn (ha pins s σ H _ I h) fun v s1 ⟨x,H1,I1,r1,q1⟩=>test_link (thn (hb pins s1 σ H1 _ I1 q1) fun u s2 ⟨y,H2,I2,r2,q2⟩ =>
  thn (ho pins s2 σ H2 x y v u _ I2 r1 r2 q2) fun d s3 ⟨z,H3,I3,r3,k,e,q3⟩=>?_)) hm
 subst e
 cases r3
 refine WR ?_
 cases k with
 | false =>
  obtain ⟨k',e',q'⟩:=q3
  cases e'
  exact ite_ff ⟨H3,I3,q'⟩
 | true =>
  refine ite_tt (test_last (thn (hc pins s3 σ H3 _ I3 q3) fun w' s4 ⟨z',H4,I4,r4,q4⟩=>thn (ho' pins s4 σ H4 y z' u w' _ I4 r2 r4 q4) fun d' s5 ⟨z2,H5,I5,r5,k2,e2,q5⟩=>?_))
  subst e2
  cases r5
  exact WR ⟨H5,I5,q5⟩
theorem z6I:(W8:Nat) < 2 ^ 63:=by rw [sizeLine_eq]; decide
theorem op_add_str:OpR X (Q7 .Add) (fun x y H Q=>∃ i j,x = .str i∧y = .str j∧i.length + j.length≤W8∧Q (.str (i ++ j)) H):=by
 intro pins s σ H x y v u Q I rx ry h
 obtain ⟨i,j,rfl,rfl,hz,q⟩:=h
 obtain ⟨t,rfl⟩:=rx
 obtain ⟨t',rfl⟩:=ry
 exact add_str (fun t' tk=>⟨.str (i ++ j),H,I.tok _,⟨_,rfl⟩,q⟩) hz
theorem z4p (r:Vals [x] us):∃ u,us=[u]∧RelV x u:=by
 cases r with
 | cons r1 r2=>cases r2; exact ⟨_,rfl,r1⟩
theorem zdt (r:Vals [x,y] us):∃ u w',us=[u,w']∧RelV x u∧RelV y w':=by
 cases r with
 | cons r1 r2 =>
  cases r2 with
  | cons r3 r4=>cases r4; exact ⟨_,_,rfl,r1,r3⟩
theorem zby (hc:X.calm=true):CallR X (.builtin "max") (fun xs H Q=>∃ i j,xs=[.int i,.int j]∧Q (.int (if j > i then j else i)) H):=by
 intro pins s σ H xs us Q I r h
 obtain ⟨i,j,rfl,q⟩:=h
 obtain ⟨u,w',rfl,⟨t,rfl⟩,⟨t',rfl⟩⟩:=zdt r
 refine max_two_ints (I.ok.hd hc) fun h' tk k=>⟨_,H,I.kept k,?_,q⟩
 by_cases hj:j > i
 ·rw [if_pos hj,if_pos hj]; exact ⟨_,rfl⟩
 ·rw [if_neg hj,if_neg hj]; exact ⟨_,rfl⟩
theorem zbB:CallR X (.type "int") (fun xs H Q=>(∃ i,xs=[.int i]∧Q (.int i) H)∨∃ k,xs=[.bl k]∧Q (.int (if k then 1 else 0)) H):=by
 intro pins s σ H xs us Q I r h
 rcases h with ⟨i,rfl,q⟩ | ⟨k,rfl,q⟩
 ·obtain ⟨u,rfl,t,rfl⟩:=z4p r
  exact call_int_int ⟨.int i,H,I,⟨_,rfl⟩,q⟩
 ·obtain ⟨u,rfl,r1⟩:=z4p r
  cases r1
  exact call_int_bool ⟨.int (if k then 1 else 0),H,I.tok _,⟨_,rfl⟩,q⟩
theorem z8r:CallR X (.type "str") (fun xs H Q=>∃ i,xs=[.int i]∧i.natAbs.log2 < 1920∧Q (.str (toString i)) H):=by
 intro pins s σ H xs us Q I r h
 obtain ⟨i,rfl,hz,q⟩:=h
 obtain ⟨u,rfl,t,rfl⟩:=z4p r
 exact PySem.P.str_of_int hz ⟨.str _,H,I.tok _,⟨_,rfl⟩,q⟩
end
structure ObjM (h:Heap) (x dx C:Addr) (mA:Str→Option Value):Prop where
 obj:h.get? x=some (PySem.W.instObj C dx)
 ns:h.Ns1 dx mA
 ne:dx≠x
theorem z87 {h:Heap} {dx:Addr} {mA:Str→Option Value} (n:h.Ns1 dx mA):∃ od,h.get? dx=some od∧∀ name,PySem.W.lookIn name od=some (mA name):=by
 obtain ⟨o,es,ep,ho,hd,hk,_,hm⟩:=n
 refine ⟨o,ho,fun name=>?_⟩
 have e:=hm name
 unfold nsFind findBy at e
 rw [← Array.find?_toList] at e
 unfold PySem.W.lookIn
 rw [hd]
 dsimp only
 split
 ·rename_i y q
  rw [q] at e
  exact congrArg some e
 ·rename_i q
  rw [q] at e
  have a:es.toList.any (·.refKey)=false:=by
   rw [List.any_eq_false]
   intro y hy
   obtain ⟨z,t,hkey⟩:=hk y (Array.mem_toList_iff.mp hy)
   simp [DictEntry.refKey,hkey]
  have a':¬ es.toList.any (·.refKey)=true:=by rw [a]; exact WL
  rw [if_neg a']
  exact congrArg some e
theorem ObjM.look (I:ObjM h x dx C mA):∃ od,PySem.W.InstAt h x (PySem.W.instObj C dx) C (some od)∧∀ name,PySem.W.lookIn name od=some (mA name) :=
 let ⟨od,ho,hl⟩:=z87 I.ns
 ⟨od,⟨I.obj,rfl,rfl,ho⟩,hl⟩
section
variable {prog:Wk} {w:Wr} {A:Wp} {E:Value→W2→Prop} {s:W2} {K:W0} {x dx C f:Addr} {mA:Str→Option Value} {name:Str} {v:Value}
end
theorem RelO.some_of (r:RelO (some v) o):∃ u,o=some u∧RelV v u:=by
 cases o with
 | none=>exact (show False from r).elim
 | some u=>exact ⟨u,rfl,r⟩
theorem zbd (r:RelV v u):PySem.W.handedIn u=true:=by
 cases v with
 | non=>cases (show u=Value.none from r); rfl
 | bl b=>cases (show u=Value.bool b from r); rfl
 | int i=>obtain ⟨t,e⟩:=(show ∃ t,u=Value.int i t from r); cases e; rfl
 | str x=>obtain ⟨t,e⟩:=(show ∃ t,u=Value.str x t from r); cases e; rfl
 | byt b=>obtain ⟨t,e⟩:=(show ∃ t,u=Value.bytes b t from r); cases e; rfl
 | flt b=>obtain ⟨t,e⟩:=(show ∃ t,u=Value.float b t from r); cases e; rfl
 | ref a=>cases (show u=Value.ref a from r); rfl
 | ty n=>cases (show u=Value.type n from r); rfl
section
variable {P:Wk} {w:Wr} {H H':Hp} {h h':Heap} {a C dx:Addr} {fs fs':List (Str×V)}
theorem zeC (hok:HOk P w H h) (e:H a=some (.ins C dx fs)):∃ mA,ObjM h a dx C mA∧(∀ f,RelO (fs.lookup f) (mA f))∧PySem.Within mA (fs.map (·.1))∧fs.length≤1000∧H dx=some (.own a):=by
 obtain ⟨d,z,ne,ob,mA,n,r,q⟩:=(show ObjOk P w H h a (.ins C dx fs) from hok a _ e)
 exact ⟨mA,⟨ob,n,ne⟩,r,q,z,d⟩
end
structure Cls (K:W0) (C:Addr):Prop where
 pg:PySem.W.plainGet K C Str.empty=true
 hd:Jt K C=true
 po:PySem.W.plainOver K C=true
 sa:J4 K (.ref C) "__setattr__" = some (some (.builtin "object.__setattr__"))
theorem Cls.get {K:W0} {C:Addr} (c:Cls K C) (f:Str):PySem.W.plainGet K C f=true:=c.pg
structure Con (K:W0) (C:Addr) (f:Str) (v:V) (u:Value):Prop where
 at_:J4 K (.ref C) f=some (some u)
 rel:RelV v u
 get:PySem.W.specialIn K u "__get__" = some none
 cp:PySem.W.copiedNames.contains f=false
structure Meth (K:W0) (C:Addr) (m:Str) (f:Addr):Prop where
 at_:J4 K (.ref C) m=some (some (.ref f))
 fn:PySem.W.isFn K (.ref f)=true
 kp:Q3 K (.ref f)=true
section
variable {X:Cx} {pins:List (Addr×Obj)} {σ:St} {H:Hp} {s:W2} {a C dx:Addr} {fs:List (Str×V)} {f:Str} {v:V} {A:Wp} {E:Value→W2→Prop}
theorem zeT (hb:WS e f env (eval e env)=eval e env)
  (h:Wa (model prog w) A (eval e env) (fun o s₁=>Wa (model prog w) A (getAttr o f true) Q E s₁) E s):Wa (model prog w) A (eval (.Attribute e f pos) env) Q E s :=
 Attribute_any_ h (by rw [arm_eval_Attribute,hb])
end
section
variable {X:Cx} {o e value:Expr} {f:Str} {pos pos' tpos:Pos} {ta tv:TE}
end
section
variable {X:Cx} {pins:List (Addr×Obj)} {σ:St} {H:Hp} {s:W2} {A:Wp} {E:Value→W2→Prop} {Q:Value→W2→Prop} {c:Value} {b:Bool}
inductive TyOf (K:W0) (H:Hp):V→Value→Prop where
 | non:TyOf K H .non (.type "NoneType")
 | bl (x:Bool):TyOf K H (.bl x) (.type "bool")
 | int (i:Int):TyOf K H (.int i) (.type "int")
 | str (x:Str):TyOf K H (.str x) (.type "str")
 | flt (x:UInt64):TyOf K H (.flt x) (.type "float")
 | lst {a:Addr} {xs:List V} (e:H a=some (.lst xs)):TyOf K H (.ref a) (.type "list")
 | frz {a:Addr} {o:Obj} {xs:List V} (e:H a=some (.frz o (.lst xs))):TyOf K H (.ref a) (.type "list")
 | tup {a:Addr} {xs:List V} (e:H a=some (.tup xs)):TyOf K H (.ref a) (.type "tuple")
 | dK {a:Addr} {kvs:List (Key×V)} (e:H a=some (.dK kvs)):TyOf K H (.ref a) (.type "dict")
 | dT {a:Addr} {kvs:List (List Key×V)} (e:H a=some (.dT kvs)):TyOf K H (.ref a) (.type "dict")
 | ins {a C dx:Addr} {fs:List (Str×V)} (e:H a=some (.ins C dx fs)) (cl:Cls K C) (ha:J4 K (.ref C) "__class__" = some (some (.builtin "object.__class__")))
   (hn:PySem.W.specialIn K (.builtin "object.__class__") "__get__" = some (some (.builtin "getset_descriptor.__get__"))) (htk:PySem.W.takesIn K (.builtin "object.__class__")=some true)
   (hm:PySem.W.mroIn K C (.type "object")=some true):TyOf K H (.ref a) (.ref C)
theorem z22 (I:Inv X pins σ H s) (rx:RelV x u) (ty:TyOf X.K H x t) (e:Qo X.K t c=some b) (h:∀ tk,Q (.bool b) { s with toks:=tk }) :
  Wa (model X.prog X.w) A (call (.builtin "isinstance") [u,c]) Q E s:=by
 cases ty with
 | non=>cases (show u=Value.none from rx); exact WT PySem.W.kitx_none I.kIn True.intro e (fun z=>nomatch z) h
 | bl y=>cases (show u=Value.bool y from rx); exact WT PySem.W.kitx_bool I.kIn True.intro e (fun z=>nomatch z) h
 | int i=>obtain ⟨t,q⟩:=(show ∃ t,u=Value.int i t from rx); cases q; exact WT PySem.W.kitx_int I.kIn True.intro e (fun z=>nomatch z) h
 | str y=>obtain ⟨t,q⟩:=(show ∃ t,u=Value.str y t from rx); cases q; exact WT PySem.W.kitx_str I.kIn True.intro e (fun z=>nomatch z) h
 | flt y=>obtain ⟨t,q⟩:=(show ∃ t,u=Value.float y t from rx); cases q; exact WT PySem.W.kitx_float I.kIn True.intro e (fun z=>nomatch z) h
 | @lst a xs ea =>
  cases (show u=Value.ref a from rx)
  obtain ⟨_,_,n,_,h1⟩:=(show ObjOk X.prog X.w H s.heap a (.lst xs) from I.hok a _ ea)
  exact WT PySem.W.kitx_list I.kIn ⟨_,h1,rfl⟩ e (fun z=>nomatch z) h
 | @frz a ob xs ea =>
  cases (show u=Value.ref a from rx)
  obtain ⟨_,_,_,n,_,h1⟩:=(show ObjOk X.prog X.w H s.heap a (.frz ob (.lst xs)) from I.hok a _ ea)
  exact WT PySem.W.kitx_list I.kIn ⟨_,h1,rfl⟩ e (fun z=>nomatch z) h
 | @tup a xs ea =>
  cases (show u=Value.ref a from rx)
  obtain ⟨_,_,_,p⟩:=(show ObjOk X.prog X.w H s.heap a (.tup xs) from I.hok a _ ea)
  obtain ⟨o,h1,h2,_⟩:=p.tup
  exact WT PySem.W.kitx_tuple I.kIn ⟨o,h1,h2⟩ e (fun z=>nomatch z) h
 | @dK a kvs ea =>
  cases (show u=Value.ref a from rx)
  obtain ⟨_,_,vs,_,p⟩:=(show ObjOk X.prog X.w H s.heap a (.dK kvs) from I.hok a _ ea)
  obtain ⟨o,es,ep,h1,h2,_⟩:=p
  exact WT PySem.W.kitx_dict I.kIn ⟨o,h1,h2.1⟩ e (fun z=>nomatch z) h
 | @dT a kvs ea =>
  cases (show u=Value.ref a from rx)
  obtain ⟨_,_,xs,_,o,es,ep,h1,h2,_⟩:=(show ObjOk X.prog X.w H s.heap a (.dT kvs) from I.hok a _ ea)
  exact WT PySem.W.kitx_dict I.kIn ⟨o,h1,h2.1⟩ e (fun z=>nomatch z) h
 | @ins a C dx fs ea cl ha hn htk hm =>
  cases (show u=Value.ref a from rx)
  obtain ⟨mA,O,_⟩:=zeC I.hok ea
  obtain ⟨od,J,_⟩:=O.look
  exact WT (PySem.W.kitx_own (cl.get _) cl.hd ha hn htk hm) I.kIn J e (fun z=>nomatch z) h
end
structure Room (k:Nat) (A:Wp):Prop where
 hd:A.handled=none
 dp:A.depth + 3 * k + 5 < recursionLimit
 un:A.units + 16 * k + 200 < QD
theorem Room.mono (r:Room k A) (h:j≤k):Room j A:=⟨r.hd,by have:=r.dp; omega,by have:=r.un; omega⟩
theorem Room.deeper (r:Room (k + 1) A) (env:Env):Room k (A.deeper env) :=
 ⟨r.hd,by have:=r.dp; show A.depth + 1 + 3 * k + 5 < _; omega,by have:=r.un; show A.units + 3 + 16 * k + 200 < _; omega⟩
theorem z9U {A:Wp} {C:Addr} {us:List Value} {kw:List (Str×Value)}:(A.under (.builtin "type.__call__" ⟨.ref C :: us,kw⟩)).depth=A.depth + 1:=by
 first | rfl | simp [Around.under,Code.weight,Code.isCreation,Code.isGuard,Code.isCaller,Code.frames,Code.isFrame,guardIds]
theorem z9T {A:Wp} {C:Addr} {us:List Value} {kw:List (Str×Value)}:(A.under (.builtin "type.__call__" ⟨.ref C :: us,kw⟩)).units=A.units + 1:=by
 first | rfl | simp [Around.under,Code.cUnits,Code.frames,Code.isFrame]
theorem Room.make (r:Room (k + 1) A) (C:Addr) (us:List Value) (kw:List (Str×Value)):Room k (A.under (.builtin "type.__call__" ⟨.ref C :: us,kw⟩)) :=
 ⟨r.hd,by have:=r.dp; rw [z9U]; omega,by have:=r.un; rw [z9T]; omega⟩
theorem Room.depth (r:Room k A):A.depth < recursionLimit:=by have:=r.dp; omega
def tNil:TA:=fun _ H Q=>Q [] H
def zf5 (ta:TE) (tr:TA):TA:=fun σ H Q=>ta σ H fun x H1=>tr σ H1 fun xs H2=>Q (x :: xs) H2
section
variable {X:Cx} {e:Expr} {es:List Expr} {te:TE} {t:TA} {pos:Pos}
theorem z1M:PA X [] tNil:=fun _ _ _ _ H Q I h=>Calls.spliced_nil ⟨[],H,I,.nil,h⟩
theorem z0M (ha:PE X e te) (hr:PA X es t) (hs:W4 (e :: es) X.env=(false,eval e X.env) :: W4 es X.env:=by rfl):PA X (e :: es) (zf5 te t):=by
 intro pos pins s σ H Q I h
 rw [hs]
 show Wa _ _ (spliced ((false,eval e X.env) :: WF pos (W4 es X.env))) _ _ s
 refine Calls.spliced_cons (thn (ha pins s σ H _ I h) fun u s1 ⟨x,H1,I1,r1,q1⟩=>?_)
 exact thn (hr pos pins s1 σ H1 _ I1 q1) fun us s2 ⟨xs,H2,I2,r2,q2⟩=>⟨x :: xs,H2,I2,.cons r1 r2,q2⟩
def tTup (t:TA):TE:=fun σ H Q=>t σ H fun xs H1=>xs.length≤W8∧∀ p,H1 p=none→Q (.ref p) (upd H1 p (.tup xs))
def tLst (t:TA):TE:=fun σ H Q=>t σ H fun xs H1=>xs.length≤W8∧∀ p,H1 p=none→Q (.ref p) (upd H1 p (.lst xs))
theorem zfN {x1} (h:PA X es t):PE X (.Tuple es x1 pos) (tTup t):=by
 intro pins s σ H Q I hq
 refine wpAny_Tuple_spliced (thn (h pos pins s σ H _ I hq) fun us s1 ⟨xs,H1,I1,r,z,q⟩=>⟨by rw [← r.length]; exact z,?_⟩)
 have hf:H1 s1.heap.objs.size=none:=I1.hok.fresh (W7 _)
 refine ⟨.ref s1.heap.objs.size,upd H1 s1.heap.objs.size (.tup xs),I1.laid (t':=s1.toks) (fun b u e=>W6 _ e) (W7 _) ?_,rfl,q _ hf⟩
 exact ⟨z,us,r,⟨_,Wm _ rfl⟩⟩
theorem zfS (h:PA X es t):PE X (.List es pos) (tLst t):=by
 intro pins s σ H Q I hq
 refine wpAny_List_spliced (thn (h pos pins s σ H _ I hq) fun us s1 ⟨xs,H1,I1,r,z,q⟩=>⟨by rw [← r.length]; exact z,?_⟩)
 have hf:H1 s1.heap.objs.size=none:=I1.hok.fresh (W7 _)
 refine ⟨.ref s1.heap.objs.size,upd H1 s1.heap.objs.size (.lst xs),I1.laid (t':=s1.toks) (fun b u e=>W6 _ e) (W7 _) ?_,rfl,q _ hf⟩
 exact ⟨z,us,0,r,Wm _ rfl⟩
end
abbrev Sp:=List V→Hp→VK→XK→Prop
abbrev CXT:=List Env→Hp→W2→XK→Value→W2→Prop
structure Env0 (P:Wk) (w:Wr) (K:W0) (mg:Str→Option Value) (base:Heap) (A:Wp) (outer:List Env) (s:W2) (H:Hp):Prop where
 frames:A.frames=some outer
 mod:Mod K mg base
 bs:∀ b o,base.get? b=some o→s.heap.get? b=some o∧H b=none
 bsz:base.objs.size≤s.heap.objs.size
 funs:s.heap.FunFrames base outer
 frf:∀ b ∈ frs outer,H b=none
 hok:HOk P w H s.heap
 bare:AllBare s.gens
def CE (outer:List Env) (P:Wk) (w:Wr) (H:Hp) (s:W2) (Q:VK) (u:Value) (s':W2):Prop :=
 ∃ v H',s'.os=s.os∧AllBare s'.gens∧Un (frs outer) [] H H' s.heap s'.heap∧HOk P w H' s'.heap∧RelV v u∧Q v H'
def CR (CX:CXT) (outer:List Env) (P:Wk) (w:Wr) (H:Hp) (s:W2) (Q:VK) (E:XK) (r:Result) (s':W2):Prop :=
 match r with
 | .ok (.ret u)=>CE outer P w H s Q u s'
 | .ok _=>False
 | .error e=>CX outer H s E e s'
structure FnOk (P:Wk) (w:Wr) (K:W0) (mg:Str→Option Value) (base:Heap) (CX:CXT) (k:Nat) (f:Addr) (fd:WD) (ps:List Str) (sp:Sp):Prop where
 len:∀ vs H Q E,sp vs H Q E→vs.length=ps.length
 run:∀ (A:Wp) (outer:List Env) (s:W2) (H:Hp) (args:Args) (us:List Value) (vs:List V) (Q:VK) (E:XK),Room k A→Env0 P w K mg base A outer s H→BindsTo s fd args (ps.zip us)→Vals vs us→sp vs H Q E →
  QA (model P w) A (.call (.ref f) args) (CR CX outer P w H s Q E) s
theorem Env0.make {P:Wk} {w:Wr} {K:W0} {mg:Str→Option Value} {base:Heap} {A:Wp} {outer:List Env} {s:W2} {H:Hp} (e:Env0 P w K mg base A outer s H) (C:Addr) (us:List Value) (kw:List (Str×Value)) :
  Env0 P w K mg base (A.under (.builtin "type.__call__" ⟨.ref C :: us,kw⟩)) outer s H:=⟨by first | exact e.frames | (simpa [Around.under,Code.envs,Code.isFrame,pushEnvs] using e.frames),e.mod,e.bs,e.bsz,e.funs,e.frf,e.hok,e.bare⟩
section
variable {X:Cx} {pins:List (Addr×Obj)} {σ:St} {H:Hp} {s s':W2}
theorem Inv.env0 (I:Inv X pins σ H s):Env0 X.prog X.w X.K X.mg X.base X.A X.stack s H :=
 ⟨I.ok.frames,I.ok.mod,I.bs,Wn I.ok.bsz I.sz,I.stack,I.stkFree,I.hok,I.bare⟩
theorem Inv.after (I:Inv X pins σ H s) (h:CE X.stack X.prog X.w H s Q u s'):EP X pins σ Q u s':=by
 obtain ⟨v,H',os,bare,un,hok,r,q⟩:=h
 obtain ⟨hh,g,d,t,os'⟩:=s'
 obtain rfl:os'=s.os:=os
 exact ⟨v,H',I.call (h':=hh) (g':=g) (d':=d) (t':=t) (ch:=[]) un hok bare (fun b z=>absurd z (by simp)),r,q⟩
end
def zdD (sp:Sp) (dvs:List V) (E:XK) (t:TA):TE:=fun σ H Q=>t σ H fun vs H1=>sp (vs ++ dvs) H1 Q E
def Binds (K:W0) (fd:WD) (ps:List Str) (ds:List Value):Prop :=
 ∀ (s:W2) (us:List Value),K.In s.heap→(us ++ ds).length=ps.length→BindsTo s fd ⟨us,[]⟩ (ps.zip (us ++ ds))
theorem Binds.all {K:W0} {fd:WD} {ps:List Str} (h:∀ us:List Value,us.length=ps.length→bindArgs fd ⟨us,[]⟩=pure (ps.zip us)):Binds K fd ps []:=fun s us _ hl=>by
 rw [WU] at hl ⊢
 exact .of_eq (h us hl)
def zbJ (CX:CXT) (X:Cx) (E:XK):Prop:=∀ (pins:List (Addr×Obj)) (σ:St) (H:Hp) (s:W2) (e:Value) (s':W2),Inv X pins σ H s→CX X.stack H s E e s'→X.xe e s'
section
variable {X:Cx} {CX:CXT} {k:Nat} {f C:Addr} {fd:WD} {ps:List Str} {sp:Sp} {dvs:List V} {ds:List Value} {E:XK} {x m:Str} {p pos apos:Pos} {e o:Expr} {es:List Expr} {ta:TE} {t:TA}
theorem zff (F:FnOk X.prog X.w X.K X.mg X.base CX k f fd ps sp) (hr:Room k X.A) (hb:Binds X.K fd ps ds) (hd:Vals dvs ds) (hx:zbJ CX X E)
  (I:Inv X pins σ H s) (r:Vals vs us) (h:sp (vs ++ dvs) H Q E):Wa (model X.prog X.w) X.A (call (.ref f) us) (EP X pins σ Q) X.xe s:=by
 have r2:Vals (vs ++ dvs) (us ++ ds):=r.append hd
 have hl:(us ++ ds).length=ps.length:=by rw [← r2.length]; exact F.len _ _ _ _ h
 refine wpAny_call (QN (F.run X.A X.stack s H ⟨us,[]⟩ (us ++ ds) (vs ++ dvs) Q E hr I.env0 (hb s us I.kIn hl) r2 h) fun r s' hq=>?_)
 cases r with
 | error e=>exact hx pins σ H s e s' I hq
 | ok fl =>
  cases fl with
  | ret u=>exact I.after hq
  | next=>exact False.elim hq
  | brk=>exact False.elim hq
  | cont=>exact False.elim hq
theorem zej (F:FnOk X.prog X.w X.K X.mg X.base CX k f fd ps sp) (hr:Room k X.A) (hg:Gl X x) (hm:X.mg x=some (.ref f)) (hk:Q3 X.K (.ref f)=true) (hb:Binds X.K fd ps ds) (hd:Vals dvs ds) (hx:zbJ CX X E)
  (ha:PA X (e :: es) t) (hdb:(x == ("__debug__" : Str))=false:=by decide) (he:W4 (e :: es) X.env=(false,eval e X.env) :: W4 es X.env:=by rfl) (hpl:(WF pos (W4 es X.env)).any (·.1)=false:=by rfl) :
  PE X (.Call (.Name x p) (e :: es) [] pos) (zdD sp dvs E t):=by
 intro pins s σ H Q I h
 refine QC (z4b I hg hm ?_ hdb)
 refine PySem.W.callWith_K (h₀:=X.base) I.ok.mod.kin hk (thn (ha pos pins s σ H _ I h) fun us s1 ⟨vs,H1,I1,r,q⟩=>⟨I1.kIn,?_⟩) he hpl
 exact zff F hr hb hd hx I1 r q
structure Mk (K:W0) (C f:Addr):Prop where
 makes:PySem.W.makesIn K C=true
 init:J4 K (.ref C) "__init__" = some (some (.ref f))
 fn:PySem.W.isFn K (.ref f)=true
 kp:Q3 K (.ref C)=true
end
section
variable {X:Cx} {CX:CXT} {k:Nat} {f C:Addr} {fd:WD} {ps ks:List Str} {sp:Sp} {E:XK} {x m:Str} {p pos apos kpos:Pos} {e o:Expr} {es:List Expr} {kws:List Keyword} {te ta:TE} {t tk:TA} {nm:Option Str}
structure KBinds (K:W0) (fd:WD) (ps ks:List Str) (g:List Value→List Value→List Value) (gV:List V→List V→List V):Prop where
 to:∀ (s:W2) (us ws:List Value),K.In s.heap→(g us ws).length=ps.length→BindsTo s fd ⟨us,ks.zip ws⟩ (ps.zip (g us ws))
 rel:∀ {vs:List V} {us:List Value} {zs:List V} {ws:List Value},Vals vs us→Vals zs ws→Vals (gV vs zs) (g us ws)
variable {g:List Value→List Value→List Value} {gV:List V→List V→List V}
end
structure FnScope (N P:List Str) (sc:Scope):Prop where
 kind:sc.kind = .function
 co:sc.isCoroutine=false
 gen:sc.isGenerator=false
 nd:N.Nodup
 pre:N.take P.length=P
 par:∀ x ∈ P,sc.names.lookup x=some .local∨sc.names.lookup x=some .cell
 nofree:∀ y ∈ sc.names,y.2≠.free
theorem z8u {kindOf:Str→Option NameKind} {x:Str}:∀ {binds:List (Str×Value)} {m:Str→Option Value},(∀ v,(x,v) ∉ binds)→bindL kindOf binds m x=m x
 | [],_,_=>rfl
 | (n,v) :: r,m,h=>by
  unfold bindL
  rw [z8u fun w hw=>h w (Wc _ hw)]
  split
  ·have:x≠n:=by rintro rfl; exact h v Wi
   simp [this]
  ·rfl
theorem z8w {kindOf:Str→Option NameKind} {x:Str}:∀ {binds:List (Str×Value)} {m:Str→Option Value},(∀ v,(x,v) ∉ binds)→bindC kindOf binds m x=m x
 | [],_,_=>rfl
 | (n,v) :: r,m,h=>by
  unfold bindC
  rw [z8w fun w hw=>h w (Wc _ hw)]
  split
  ·rfl
  ·have:x≠n:=by rintro rfl; exact h v Wi
   simp [this]
theorem z8v {kindOf:Str→Option NameKind} {x:Str} {v:Value}:∀ {P:List Str} {vs:List Value} {i:Nat} {m:Str→Option Value},P.Nodup→P[i]? = some x→vs[i]? = some v→kindOf x=some .local →
  bindL kindOf (P.zip vs) m x=some v
 | [],_,_,_,_,h,_,_=>by simp at h
 | _ :: _,[],_,_,_,_,h,_=>by simp at h
 | p :: P,w :: vs,0,m,nd,h1,h2,hk=>by
  simp at h1 h2; subst h1; subst h2
  show bindL kindOf ((p,w) :: P.zip vs) m p=_
  unfold bindL
  rw [z8u fun v hv=>(QY.mp nd).1 (Jx hv).1,if_pos hk]
  simp
 | p :: P,w :: vs,i + 1,m,nd,h1,h2,hk=>by
  show bindL kindOf ((p,w) :: P.zip vs) m x=_
  unfold bindL
  exact z8v (i:=i) (QY.mp nd).2 (by simpa using h1) (by simpa using h2) hk
theorem z8x {kindOf:Str→Option NameKind} {x:Str} {v:Value}:∀ {P:List Str} {vs:List Value} {i:Nat} {m:Str→Option Value},P.Nodup→P[i]? = some x→vs[i]? = some v→kindOf x≠some .local →
  bindC kindOf (P.zip vs) m x=some v
 | [],_,_,_,_,h,_,_=>by simp at h
 | _ :: _,[],_,_,_,_,h,_=>by simp at h
 | p :: P,w :: vs,0,m,nd,h1,h2,hk=>by
  simp at h1 h2; subst h1; subst h2
  show bindC kindOf ((p,w) :: P.zip vs) m p=_
  unfold bindC
  rw [z8w fun v hv=>(QY.mp nd).1 (Jx hv).1,if_neg hk]
  simp
 | p :: P,w :: vs,i + 1,m,nd,h1,h2,hk=>by
  show bindC kindOf ((p,w) :: P.zip vs) m x=_
  unfold bindC
  exact z8x (i:=i) (QY.mp nd).2 (by simpa using h1) (by simpa using h2) hk
def start (N:List Str) (vs:List V):St:=vs.map some ++ W3 (N.length - vs.length) none
def cxOf (CX:CXT) (P:Wk) (w:Wr) (K:W0) (mg:Str→Option Value) (base:Heap) (N:List Str) (qual:Str) (scope:Scope) (f:Addr) (cd:Value) (A:Wp) (outer:List Env) (s:W2) (H:Hp) (E:XK):Cx where
 prog:=P
 w:=w
 K:=K
 mg:=mg
 base:=base
 A:=A.deeper (QO qual scope s.heap.objs.size f cd)
 N:=N
 s₀:=s
 H₀:=H
 env:=QO qual scope s.heap.objs.size f cd
 outer:=outer
 stack:=QO qual scope s.heap.objs.size f cd :: outer
 ex:=[]
 calm:=true
 fn:=fun _=>true
 pn:=[]
 xe:=fun e s'=>Wa (model P w) (A.deeper (QO qual scope s.heap.objs.size f cd)) (leaving (QO qual scope s.heap.objs.size f cd) e) (fun _ s''=>CX outer H s E e s'') (fun e' s''=>CX outer H s E e' s'') s'
theorem z9x {sc:Scope} {n:Nat} {x:Str} (h:sc.names.lookup x=some .cell):∃ c,(Qf n sc.names []).lookup x=some c:=by
 have q:=J1 sc.names n [] (.inl h)
 exact QP.mp q
theorem z8d {CX:CXT} {P:Wk} {w:Wr} {K:W0} {mg:Str→Option Value} {base:Heap} {N ps:List Str} {qual:Str} {scope:Scope} {f:Addr} {cd:Value} {A:Wp} {outer:List Env} {s s1:W2} {H:Hp} {E:XK} {us:List Value} {vs:List V}
  (S:FnScope N ps scope) (hd:A.handled=none) (e0:Env0 P w K mg base A outer s H) (hl:vs.length=ps.length) (r:Vals vs us)
  (x:InCallC s s.heap.objs.size (bindL (QO qual scope s.heap.objs.size f cd).kindOf (ps.zip us) fun _=>none) (Qf (s.heap.objs.size + 1) scope.names []) (bindC (QO qual scope s.heap.objs.size f cd).kindOf (ps.zip us) fun _=>none) s1) :
  Inv (cxOf CX P w K mg base N qual scope f cd A outer s H E) [] (start N vs) H s1:=by
 have hpl:ps.length≤N.length:=by have:=congrArg Ju S.pre; rw [Jc] at this; omega
 obtain ⟨h1,tk,rfl,hk⟩:=x.done
 have noA:∀ b:Addr,b ∉ (cxOf CX P w K mg base N qual scope f cd A outer s H E).ex:=fun b z=>absurd (show b ∈ ([]:List Addr) from z) (by simp)
 refine ⟨⟨e0.mod,S.kind,rfl,rfl,W7 _,fun y z c h1 h2=>?_,fun y hy=>?_,fun y c _ h=>?_,fun _=>hd,Around.frames_deeper e0.frames,.inr ⟨rfl,rfl⟩,fun b z=>absurd z (noA b),e0.bs,e0.bsz,fun b _ _=>noA b,fun b z=>absurd z (noA b),e0.funs,e0.frf⟩,
  rfl,e0.bare,Un.kept hk,⟨_,x.toInCall.ns,fun i y v h1 h2 h3=>?_⟩,fun y c h=>⟨_,x.cell y c h⟩,e0.hok.fresh (W7 _),fun y c h=>?_,fun p hp=>absurd (show p ∈ ([]:List (Addr×Obj)) from hp) (by simp),e0.hok.kept hk,?_⟩
 ·exact name_of_addr x.apart (Wv h1) (Wv h2)
 ·have hy:scope.names.lookup y=some .cell∨scope.names.lookup y=some .free:=hy
  rcases hy with hy | hy
  ·exact z9x hy
  ·exact absurd rfl (S.nofree _ (Wv hy))
 ·exact Nat.le_of_lt (x.above y c (Wv h))
 ·have hi:i < vs.length:=by
   unfold start at h2
   by_cases hi:i < vs.length
   ·exact hi
   ·rw [List.getElem?_append_right (by simpa using hi)] at h2
    rw [List.getElem?_replicate] at h2
    split at h2 <;> cases h2
  have ha:vs[i]? = some v:=by
   unfold start at h2
   rw [List.getElem?_append_left (by simpa using hi),WN] at h2
   cases e:vs[i]? with
   | none=>rw [e] at h2; cases h2
   | some a=>rw [e] at h2; cases h2; rfl
  obtain ⟨u,hu,rv⟩:=r.get ha
  have hp:ps[i]? = some y:=by
   rw [← S.pre,List.getElem?_take_of_lt (by omega)]; exact h1
  have ndP:ps.Nodup:=by rw [← S.pre]; exact S.nd.sublist (List.take_sublist _ _)
  refine ⟨u,rv,?_⟩
  rcases S.par y (Ww hp) with k | k
  ·exact .inl ⟨k,z8v ndP hp hu k⟩
  ·obtain ⟨c,e⟩:=z9x (n:=s.heap.objs.size + 1) k
   refine .inr ⟨.inl k,c,e,?_⟩
   have q:=x.cell y c e
   rw [z8x ndP hp hu (by show scope.names.lookup y≠_; rw [k]; decide)] at q
   exact q
 ·exact e0.hok.fresh (Nat.le_of_lt (x.above y c (Wv h)))
 ·unfold start
  show _=N.length
  rw [WP,Wu,List.length_replicate]
  omega
theorem zgu {CX:CXT} {P:Wk} {w:Wr} {K:W0} {mg:Str→Option Value} {base:Heap} {k:Nat} {f:Addr} {name qual:Str} {params:Arguments} {body:List Stmt} {scope:Scope} {dV kV doc pm cdv ct oc:Value} {an od:Option Addr}
  {osl:Array (Option Value)} {N ps:List Str} {sp:Sp} (lk:K.lookup f=some ⟨oc,od,.func (Qk name qual params body scope dV kV doc pm an cdv ct),osl⟩) (hcd:PySem.W.codeIn K cdv qual=true) (S:FnScope N ps scope)
  (len:∀ vs H Q E,sp vs H Q E→vs.length=ps.length)
  (hbody:∀ (A:Wp) (outer:List Env) (s:W2) (H:Hp) (vs:List V) (Q:VK) (E:XK),Room k (A.deeper (QO qual scope s.heap.objs.size f cdv))→sp vs H Q E →
   ∃ t,PSs (cxOf CX P w K mg base N qual scope f cdv A outer s H E) body t∧t { nx:=fun _ H'=>Q .non H',rt:=Q } (start N vs) H) :
  FnOk P w K mg base CX (k + 1) f (Qk name qual params body scope dV kV doc pm an cdv ct) ps sp:=by
 refine ⟨len,fun A outer s H args us vs Q E hr e0 hb r hsp=>?_⟩
 have hl:=len _ _ _ _ hsp
 have KX:K.In s.heap:=e0.mod.kin.keeps fun b o e=>(e0.bs b o e).1
 have lim:s.heap.NoLimit:=e0.mod.nolimit.keeps fun b o e=>(e0.bs b o e).1
 have hkind:∀ y ∈ ps.zip us,scope.names.lookup y.1=some .local∨(scope.names.lookup y.1=some .cell∧((Qf (s.heap.objs.size + 1) scope.names []).lookup y.1).isSome=true):=fun ⟨n,v⟩ hy=>by
  rcases S.par n (Jx hy).1 with q | q
  ·exact .inl q
  ·exact .inr ⟨q,J1 _ _ _ (.inl q)⟩
 refine codeAny_call_function hr.depth (KX _ _ lk) rfl S.co S.gen rfl (PySem.W.codeRec_of KX hcd) (hb _ _ _ _ ?_)
 refine wpAny_newFunctionEnv_cells S.kind hkind fun env he s1 x=>?_
 subst he
 refine ⟨lim.keeps x.toInCall.keep,codeAny_func ?_⟩
 obtain ⟨t,ht,hq⟩:=hbody A outer s H vs Q E (hr.deeper _) hsp
 have I:Inv (cxOf CX P w K mg base N qual scope f cdv A outer s H E) [] (start N vs) H s1:=z8d S hr.hd e0 hl r x
 refine WO (ht [] s1 (start N vs) H _ I hq) (fun fl s' hs=>?_) fun e s' hs=>hs
 have fin:∀ {σ':St} {H':Hp} {v:V} {u:Value},Inv (cxOf CX P w K mg base N qual scope f cdv A outer s H E) [] σ' H' s'→RelV v u→Q v H'→CE outer P w H s Q u s' :=
  fun {σ' H' v u} J rv q=>⟨v,H',J.os,J.bare,J.base,J.hok,rv,q⟩
 cases fl with
 | ret u =>
  obtain ⟨v,σ',H',J,rv,q⟩:=hs
  exact fin J rv q
 | next =>
  obtain ⟨σ',H',J,q⟩:=hs
  exact fin (v:=V.non) (u:=Value.none) J rfl q
 | brk =>
  obtain ⟨_,_,_,q⟩:=hs
  exact False.elim q
 | cont =>
  obtain ⟨_,_,_,q⟩:=hs
  exact False.elim q
section
variable {X:Cx} {x:Str} {p pos:Pos} {e:Expr} {es:List Expr} {t:TA} {id T:String} {r:List V→Hp→VK→Prop}
def tCB (r:List V→Hp→VK→Prop) (t:TA):TE:=fun σ H Q=>t σ H fun vs H1=>r vs H1 Q
theorem z4y (hc:CallR X (.builtin id) r) (hg:Gl X x) (hm:X.mg x=none) (hv:Q1 x=some (.builtin id)) (ha:PA X (e :: es) t) (hn:x≠"__name__":=by decide) (hdb:(x == ("__debug__" : Str))=false:=by decide)
  (he:W4 (e :: es) X.env=(false,eval e X.env) :: W4 es X.env:=by rfl) (hpl:(WF pos (W4 es X.env)).any (·.1)=false:=by rfl):PE X (.Call (.Name x p) (e :: es) [] pos) (tCB r t):=by
 intro pins s σ H Q I h
 refine QC (z5Z I hg hm hv ?_ hn hdb)
 exact PyProof.Rows.callWith_builtin1 (thn (ha pos pins s σ H _ I h) fun us s1 ⟨vs,H1,I1,r1,q1⟩=>hc pins s1 σ H1 vs us Q I1 r1 q1) he hpl
theorem zaK (hc:CallR X (.type T) r) (hg:Gl X x) (hm:X.mg x=none) (hv:Q1 x=some (.type T)) (ha:PA X (e :: es) t) (hn:x≠"__name__":=by decide) (hdb:(x == ("__debug__" : Str))=false:=by decide)
  (he:W4 (e :: es) X.env=(false,eval e X.env) :: W4 es X.env:=by rfl) (hpl:(WF pos (W4 es X.env)).any (·.1)=false:=by rfl):PE X (.Call (.Name x p) (e :: es) [] pos) (tCB r t):=by
 intro pins s σ H Q I h
 refine QC (z5Z I hg hm hv ?_ hn hdb)
 exact QB (thn (ha pos pins s σ H _ I h) fun us s1 ⟨vs,H1,I1,r1,q1⟩=>hc pins s1 σ H1 vs us Q I1 r1 q1) he hpl
end
end L2
namespace HT
open PySem PyProof.Rows
section
open PySem.SeqAt
open PySem.AutoSeq1 (wpAny_loadPart')
open PySem.MeetsSeq PySem.MeetsSeq2 PySem.MeetsSeq3
end
section
variable {prog:Wk} {w:Wr} {A:Wp} {E:Value→W2→Prop} {s:W2}
theorem cat_tup (ht:IsTup s.heap t vs.toArray) (hb:IsTup s.heap b ws.toArray) (hv:vs≠[])
  (h1:ws=[]→Q (.ref t) s) (h2:ws≠[]→Q (.ref s.heap.objs.size) { s with heap:=s.heap.push { cls:=.type "tuple",data:=.seq (vs ++ ws).toArray } })
  (hsz:vs.length + ws.length≤W8):Wa (model prog w) A (Q7 .Add (.ref t) (.ref b)) Q E s:=by
 obtain ⟨⟨cls,dd,data,sl⟩,ho,hc,n,hd⟩:=id ht
 obtain ⟨⟨cls2,dd2,data2,sl2⟩,ho2,hc2,n2,hd2⟩:=id hb
 simp only at hc hd hc2 hd2
 subst hc hd hc2 hd2
 have e:vs.toArray ++ ws.toArray=(vs ++ ws).toArray:=by simp
 by_cases hw:ws=[]
 ·exact concat_meets ⟨_,ho,rfl⟩ ⟨_,ho2,rfl⟩ noFill_tuple_add seq_tuple_add PySem.F.slot_tuple_add PySem.F.entry_tuple_add (PySem.F.args_tuple_add_2 _ _)
   (tuple_addW1 t b vs.toArray ws.toArray n n2 dd dd2 sl sl2 (by simpa using hv) (by simp [hw])) ⟨ho,ho2,h1 hw⟩
 ·refine concat_meets ⟨_,ho,rfl⟩ ⟨_,ho2,rfl⟩ noFill_tuple_add seq_tuple_add PySem.F.slot_tuple_add PySem.F.entry_tuple_add (PySem.F.args_tuple_add_2 _ _)
   (tuple_addW2 t b vs.toArray ws.toArray n n2 dd dd2 sl sl2 (by simpa using hv) (by simpa using hw) (by rw [Wf,Wf]; exact hsz)) ⟨ho,ho2,?_⟩
  rw [e]
  exact h2 hw
def sIx (n d:Nat):Option Int→Nat
 | none=>d
 | some v=>if v < 0 then (v + (n:Int)).toNat else min v.toNat n
theorem sIx_le (n d:Nat) (hd:d≤n) (o:Option Int):sIx n d o≤n:=by
 cases o with
 | none=>exact hd
 | some v =>
  show (if v < 0 then (v + (n:Int)).toNat else min v.toNat n)≤n
  by_cases hv:v < 0
  ·rw [if_pos hv]; omega
  ·rw [if_neg hv]; exact Nat.min_le_right _ _
theorem zbv (v:Int) (n d:Nat):(if v < 0 then max (v + (n:Int)) 0 else min v (n:Int))=((sIx n d (some v):Nat):Int):=by
 show (if v < 0 then max (v + (n:Int)) 0 else min v (n:Int))=(((if v < 0 then (v + (n:Int)).toNat else min v.toNat n):Nat):Int)
 by_cases hv:v < 0
 ·simp only [if_pos hv]; omega
 ·simp only [if_neg hv]; omega
theorem za4 (lo hi:Option Int) (n:Nat):Builtin.Slice.sliceAdjust lo hi 1 (n:Int)=(((sIx n 0 lo:Nat):Int),((sIx n n hi:Nat):Int)):=by
 have h1:¬ ((1:Int) < 0):=by omega
 unfold Builtin.Slice.sliceAdjust
 simp only [h1,if_false]
 refine Prod.ext ?_ ?_
 ·cases lo with
  | none=>rfl
  | some v=>exact zbv v n 0
 ·cases hi with
  | none=>rfl
  | some v=>exact zbv v n n
theorem z9L (i j:Nat):QJ (i:Int) (j:Int) 1=j - i:=by
 unfold QJ
 have h1:(1:Int) > 0:=by omega
 simp only [h1,if_true,Int.ediv_one]
 split <;> omega
theorem z6y (p:IsPart v o) (h:Q o s):Wa (model prog w) A (Builtin.Slice.slicePartIndex v) Q E s:=by
 cases p with
 | none=>exact slicePart_none h
 | int i t=>exact slicePart_int h
theorem sliceApplied_gen {sl:Addr} {vl vu:Value} {lo hi:Option Int} {n:Nat} {Q:Int×Int×Nat→W2→Prop} (hs:s.heap.IsSliceOf sl vl vu .none) (pl:IsPart vl lo) (pu:IsPart vu hi)
  (h:Q (((sIx n 0 lo:Nat):Int),1,sIx n n hi - sIx n 0 lo) s):Wa (model prog w) A (Builtin.Slice.sliceApplied (.ref sl) (pure (n:Int))) Q E s:=by
 obtain ⟨os,hos,hcs,hds⟩:=id hs
 unfold Builtin.Slice.sliceApplied Builtin.Slice.sliceFields
 refine W1 (W1 (Q4 hos hds (x:=vl) rfl (W1 (Q4 hos hds (x:=vu) rfl (W1 (Q4 hos hds (x:=.none) rfl (Wd ?_)))))))
 refine W1 (slicePart_none ?_)
 show Wa _ _ (if ((1:Int) == 0)=true then _ else _) _ _ s
 rw [if_neg (by decide)]
 refine W1 (z6y pl (W1 (z6y pu (W1 (Wd ?_)))))
 show Wa _ _ (match Builtin.Slice.sliceAdjust lo hi 1 (n:Int) with | (lo,hi)=>pure (lo,(1:Int),QJ lo hi 1)) _ _ s
 rw [za4 lo hi n]
 show Wa _ _ (pure (((sIx n 0 lo:Nat):Int),(1:Int),QJ ((sIx n 0 lo:Nat):Int) ((sIx n n hi:Nat):Int) 1)) _ _ s
 rw [z9L]
 exact Wd h
theorem zcd (xs:Array Value) (i k:Nat):((Ql k).filterMap fun (m:Nat)=>xs[((i:Int) + (m:Int) * 1).toNat]?).toArray=((xs.toList.drop i).take k).toArray:=by
 have e:(fun (m:Nat)=>xs[((i:Int) + (m:Int) * 1).toNat]?)=fun m=>xs[i + m]?:=by
  funext m
  have:((i:Int) + (m:Int) * 1).toNat=i + m:=by omega
  rw [this]
 rw [e]
 have:=pick_run xs i k
 rw [List.filterMap_map] at this
 have e2:((fun x=>xs[x]?) ∘ fun x=>i + x)=fun m=>xs[i + m]?:=rfl
 rw [e2] at this
 rw [this]
theorem getItem_tuple_cut {t sl:Addr} {items:Array Value} {vl vu:Value} {lo hi:Option Int} {Q:Value→W2→Prop} (ht:IsTup s.heap t items) (hs:s.heap.IsSliceOf sl vl vu .none) (pl:IsPart vl lo) (pu:IsPart vu hi)
  (hw:¬ (sIx items.size 0 lo=0∧sIx items.size items.size hi=items.size))
  (h:Q (.ref s.heap.objs.size) { s with heap:=s.heap.push { cls:=.type "tuple",data:=.seq ((items.toList.drop (sIx items.size 0 lo)).take (sIx items.size items.size hi - sIx items.size 0 lo)).toArray } })
  (hsz:items.size≤W8):Wa (model prog w) A (getItem (.ref t) (.ref sl)) Q E s:=by
 have htake:sizeOk (.seq ((items.toList.drop (sIx items.size 0 lo)).take (sIx items.size items.size hi - sIx items.size 0 lo)).toArray):=by
  show ((items.toList.drop (sIx items.size 0 lo)).take (sIx items.size items.size hi - sIx items.size 0 lo)).toArray.size≤W8
  rw [Wf,Jc,Jd,Array.length_toList]
  omega
 have hj:sIx items.size items.size hi≤items.size:=sIx_le _ _ (W7 _) hi
 obtain ⟨os,hos,hcs,hds⟩:=id hs
 have hTs:s.TypeIs (.ref sl) "slice":=⟨os,hos,hcs⟩
 unfold getItem
 try with_reducible refine WX ?_
 first | refine W1 (Wd ?_) | skip
 refine W1 (wpAny_sequenceKey ht.typeIs (by decide) ?_)
 refine W1 (QT (name:=Str.ofString "__getitem__") ht.typeIs Qt
  (wpAny_call_entry Qt ht.typeIs entry_tuple_getitem ?_ (args_tuple_getitem _ _)))
 show Wa _ _ (Builtin.Tuple.tupleItemsOf (.ref t) >>= _) _ _ s
 refine W1 (tupleItemsOf_ ht ?_)
 refine W1 (J5 hTs ?_)
 rw [if_pos (by decide)]
 refine W1 (sliceApplied_gen hs pl pu ?_)
 have hno:¬ ((((sIx items.size 0 lo:Nat):Int) == 0 && (1:Int) == 1 && (sIx items.size items.size hi - sIx items.size 0 lo) == items.size)=true):=by
  intro q
  rw [We,We] at q
  have q1:((sIx items.size 0 lo:Nat):Int)=0:=eq_of_beq q.1.1
  have q2:sIx items.size items.size hi - sIx items.size 0 lo=items.size:=eq_of_beq q.2
  exact hw ⟨by omega,by omega⟩
 show Wa _ _ (if (((sIx items.size 0 lo:Nat):Int) == 0 && (1:Int) == 1 && (sIx items.size items.size hi - sIx items.size 0 lo) == items.size)=true then _ else _) _ _ s
 rw [if_neg hno,zcd]
 first
  | exact W1 (m:=QQ _) (Qe (Wd ⟨_,rfl,Wd h⟩) htake)
  | exact W1 (m:=QQ _) (Qe (W1 (Wd (Wd ⟨_,rfl,Wd h⟩))) htake)
  | exact W1 (W1 (m:=QQ _) (Qe (Wd (Wd ⟨_,rfl,Wd h⟩)) htake))
  | exact W1 (W1 (m:=QQ _) (Qe (Wd ⟨_,rfl,Wd h⟩) htake))
end
end HT
namespace L2
open PySem PySem.Spec PyProof.Rows
abbrev TO:=St→Hp→(Option Int→Hp→Prop)→Prop
def PO (X:Cx) (e:Option Expr) (t:TO):Prop :=
 ∀ (pins:List (Addr×Obj)) (s:W2) (σ:St) (H:Hp) (Q:Option Int→Hp→Prop),Inv X pins σ H s→t σ H Q →
  Wa (model X.prog X.w) X.A (evalPart e X.env) (fun u s'=>∃ o H',Inv X pins σ H' s'∧IsPart u o∧Q o H') X.xe s
def zdA:TO:=fun _ H Q=>Q none H
def tPart (t:TE):TO:=fun σ H Q=>t σ H fun x H1=>∃ i,x = .int i∧Q (some i) H1
section
variable {X:Cx} {e:Expr} {te:TE} {lo hi:Option Expr} {tl th:TO} {pos p2:Pos}
theorem zee:PO X none zdA:=by
 intro pins s σ H Q I h
 rw [evalPart_none]
 exact Wd ⟨none,H,I,.none,h⟩
theorem zed (h:PE X e te):PO X (some e) (tPart te):=by
 intro pins s σ H Q I hw
 rw [evalPart_some]
 refine thn (h pins s σ H _ I hw) fun u s1 ⟨x,H1,I1,r1,q1⟩=>?_
 obtain ⟨i,rfl,q⟩:=q1
 obtain ⟨t,rfl⟩:=r1
 exact ⟨some i,H1,I1,.int i t,q⟩
def SlR (X:Cx) (r:V→Option Int→Option Int→Hp→VK→Prop):Prop :=
 ∀ (pins:List (Addr×Obj)) (s:W2) (σ:St) (H:Hp) (x:V) (v vl vu:Value) (lo hi:Option Int) (sl:Addr) (Q:VK),Inv X pins σ H s→RelV x v→s.heap.IsSliceOf sl vl vu .none→IsPart vl lo→IsPart vu hi→r x lo hi H Q →
  ∃ T id,typeLookup (.type T) "__getitem__" = pure (some (.builtin id))∧s.TypeIs v T∧Wa (model X.prog X.w) X.A (getItem v (.ref sl)) (EP X pins σ Q) X.xe s
theorem SlR.or (h:SlR X r) (h':SlR X r'):SlR X (fun x lo hi H Q=>r x lo hi H Q∨r' x lo hi H Q):=by
 intro pins s σ H x v vl vu lo hi sl Q I rx hs pl pu q
 rcases q with q | q
 ·exact h pins s σ H x v vl vu lo hi sl Q I rx hs pl pu q
 ·exact h' pins s σ H x v vl vu lo hi sl Q I rx hs pl pu q
def tSl (r:V→Option Int→Option Int→Hp→VK→Prop) (te:TE) (tl th:TO):TE:=fun σ H Q=>te σ H fun x H1=>tl σ H1 fun l H2=>th σ H2 fun u H3=>r x l u H3 Q
theorem z9d (hr:SlR X r) (he:PE X e te) (hl:PO X lo tl) (hu:PO X hi th):PE X (.Subscript e (.Slice lo hi none p2) pos) (tSl r te tl th):=by
 intro pins s σ H Q I h
 refine Subscript_ (thn (he pins s σ H _ I h) fun v s1 ⟨x,H1,I1,r1,q1⟩=>?_)
 refine wpAny_Slice (thn (hl pins s1 σ H1 _ I1 q1) fun vl s2 ⟨l,H2,I2,pl,q2⟩=>thn (hu pins s2 σ H2 _ I2 q2) fun vu s3 ⟨u,H3,I3,pu,q3⟩=>?_)
 rw [evalPart_none]
 refine Wd ?_
 have I4:Inv X pins σ H3 { s3 with heap:=s3.heap.push { cls:=.type "slice",data:=.fields #[vl,vu,.none] } }:=I3.kept (t':=s3.toks) fun b ob q=>W6 _ q
 obtain ⟨T,id,hT,ht,hg⟩:=hr pins { s3 with heap:=s3.heap.push { cls:=.type "slice",data:=.fields #[vl,vu,.none] } } σ H3 x v vl vu l u s3.heap.objs.size Q I4 r1 (Heap.IsSliceOf.new ..) pl pu q3
 show Wa (model X.prog X.w) X.A (subscriptTail e (.Slice lo hi none p2) v (.ref s3.heap.objs.size)) (EP X pins σ Q) X.xe { s3 with heap:=s3.heap.push { cls:=.type "slice",data:=.fields #[vl,vu,.none] } }
 exact tail_any (ops:=[.ref s3.heap.objs.size,v]) ht hT hg (by with_unfolding_all rfl)
def cutV (xs:List V) (lo hi:Option Int):List V:=(xs.drop (HT.sIx xs.length 0 lo)).take (HT.sIx xs.length xs.length hi - HT.sIx xs.length 0 lo)
theorem z6c (xs:List V) (lo hi:Option Int):(cutV xs lo hi).length≤xs.length:=by
 unfold cutV
 rw [Jc,Jd]
 omega
def rSlT (K:W0):V→Option Int→Option Int→Hp→VK→Prop:=fun x lo hi H Q=>∃ a xs,x = .ref a∧SqT K H a xs ∧
 ¬ (HT.sIx xs.length 0 lo=0∧HT.sIx xs.length xs.length hi=xs.length)∧∀ p,H p=none→Q (.ref p) (upd H p (.tup (cutV xs lo hi)))
theorem zfa:SlR X (rSlT X.K):=by
 intro pins s σ H x v vl vu lo hi sl Q I rx hs pl pu h
 obtain ⟨a,xs,rfl,hx,hw,q⟩:=h
 cases rx
 obtain ⟨its,r,ht,hz⟩:=I.tuple hx
 have hlen:its.toArray.size=xs.length:=by rw [Wf]; exact r.length.symm
 refine ⟨"tuple",_,PyProof.Rows.slot_tuple_getitem.lookup,ht.typeIs,?_⟩
 refine HT.getItem_tuple_cut ht hs pl pu (by rw [hlen]; exact hw) ?_ (by rw [hlen]; exact hz)
 rw [hlen]
 refine ⟨.ref s.heap.objs.size,_,I.laid (t':=s.toks) (o:=.tup (cutV xs lo hi)) (fun b ob q=>W6 _ q) (W7 _) ?_,rfl,q _ (I.hok.fresh (W7 _))⟩
 exact ⟨Wn (z6c xs lo hi) hz,_,(r.drop (HT.sIx xs.length 0 lo)).take (HT.sIx xs.length xs.length hi - HT.sIx xs.length 0 lo),IsTupN.new _ _⟩
def zfz (K:W0):R2:=fun x y H Q=>∃ a b xs ys,x = .ref a∧y = .ref b∧SqT K H a xs∧SqT K H b ys∧xs≠[]∧xs.length + ys.length≤W8 ∧
 (ys=[]→Q (.ref a) H)∧(ys≠[]→∀ p,H p=none→Q (.ref p) (upd H p (.tup (xs ++ ys))))
theorem Vals.nil_iff (r:Vals xs us):us=[] ↔ xs=[]:=by
 cases r with
 | nil=>simp
 | cons _ _=>simp
theorem op_catT:OpR X (Q7 .Add) (zfz X.K):=by
 intro pins s σ H x y v u Q I rx ry h
 obtain ⟨a,b,xs,ys,rfl,rfl,ha,hb,hx,hz,q1,q2⟩:=h
 cases rx
 cases ry
 obtain ⟨its,r1,p1,_⟩:=I.tuple ha
 obtain ⟨its2,r2,p2,_⟩:=I.tuple hb
 refine HT.cat_tup p1 p2 (fun z=>hx (r1.nil_iff.mp z)) (fun z=>⟨.ref a,H,I,rfl,q1 (r2.nil_iff.mp z)⟩) (fun z=>?_) (by rw [← r1.length,← r2.length]; exact hz)
 refine ⟨.ref s.heap.objs.size,_,I.laid (t':=s.toks) (o:=.tup (xs ++ ys)) (fun b ob q=>W6 _ q) (W7 _) ?_,rfl,q2 (fun w=>z (r2.nil_iff.mpr w)) _ (I.hok.fresh (W7 _))⟩
 exact ⟨by rw [WP]; exact hz,_,r1.append r2,IsTupN.new _ _⟩
end
def ixN (n:Nat) (i:Int):Option Nat:=if 0≤i then (if i < n then some i.toNat else none) else if -(n:Int)≤i then some (i + n).toNat else none
def atI {α:Type} (xs:List α) (i:Int):Option α:=(ixN xs.length i).bind fun j=>xs[j]?
theorem zb7 (h:ixN n i=some j):seqIndex? i n=some j∧j < n∧-(n:Int)≤i∧i < n:=by
 unfold ixN at h
 by_cases h0:0≤i
 ·rw [if_pos h0] at h
  by_cases h1:i < n
  ·rw [if_pos h1] at h
   have e:i.toNat=j:=WA h
   exact ⟨by rw [seqIndex_of h0 h1,e],by omega,by omega,h1⟩
  ·rw [if_neg h1] at h; cases h
 ·rw [if_neg h0] at h
  by_cases h1 : -(n:Int)≤i
  ·rw [if_pos h1] at h
   have e:(i + n).toNat=j:=WA h
   exact ⟨by rw [seqIndex_neg (by omega) h1,e],by omega,h1,by omega⟩
  ·rw [if_neg h1] at h; cases h
theorem z8U (h:atI xs i=some v):∃ j,seqIndex? i xs.length=some j∧xs[j]? = some v∧j < xs.length∧-(xs.length:Int)≤i∧i < xs.length:=by
 unfold atI at h
 cases e:ixN xs.length i with
 | none=>rw [e] at h; cases h
 | some j =>
  rw [e] at h
  obtain ⟨h1,h2,h3,h4⟩:=zb7 e
  exact ⟨j,h1,h,h2,h3,h4⟩
def z8V (b:Expr):Prop:=∀ o i,subscripted b false o i=operate [o,i] (getItem o i)
def IxR (X:Cx) (r:R2):Prop :=
 ∀ (value slice:Expr) (pins:List (Addr×Obj)) (s:W2) (σ:St) (H:Hp) (x y:V) (v u:Value) (Q:VK),Inv X pins σ H s→RelV x v→RelV y u→r x y H Q →
  subscripted slice false v u=operate [v,u] (getItem v u)→Wa (model X.prog X.w) X.A (subscriptTail value slice v u) (EP X pins σ Q) X.xe s
def MtR (X:Cx) (id:String) (r:V→List V→Hp→VK→Prop):Prop :=
 ∀ (pins:List (Addr×Obj)) (s:W2) (σ:St) (H:Hp) (x:V) (xs:List V) (v:Value) (us:List Value) (Q:VK),Inv X pins σ H s→RelV x v→Vals xs us→r x xs H Q →
  Wa (model X.prog X.w) X.A (call (.builtin id) (v :: us)) (EP X pins σ Q) X.xe s
section
variable {X:Cx} {a b:Expr} {ta tb:TE} {pos:Pos}
theorem IxR.or (h:IxR X r) (h':IxR X r'):IxR X (fun x y H Q=>r x y H Q∨r' x y H Q):=by
 intro value slice pins s σ H x y v u Q I rx ry q hs
 rcases q with q | q
 ·exact h value slice pins s σ H x y v u Q I rx ry q hs
 ·exact h' value slice pins s σ H x y v u Q I rx ry q hs
theorem zfT (hr:IxR X r) (ha:PE X a ta) (hb:PE X b tb) (hs:z8V b):PE X (.Subscript a b pos) (tOp r ta tb):=by
 intro pins s σ H Q I h
 exact Subscript_ (binT ha hb I h fun v u s2 x y H2 I2 rx ry q=>hr a b pins s2 σ H2 x y v u Q I2 rx ry q (hs _ _))
def rIxL (K:W0):R2:=fun x y H Q=>∃ p xs i v,x = .ref p∧y = .int i∧SqL K H p xs∧atI xs i=some v∧Q v H
def rIxT (K:W0):R2:=fun x y H Q=>∃ p xs i v,x = .ref p∧y = .int i∧SqT K H p xs∧atI xs i=some v∧Q v H
def rIxS:R2:=fun x y H Q=>∃ z i c,x = .str z∧y = .int i∧z.length≤W8∧atI z.cps.toList i=some c∧Q (.str ⟨#[c]⟩) H
theorem ix_list:IxR X (rIxL X.K):=by
 intro value slice pins s σ H x y v u Q I rx ry h hs
 obtain ⟨p,xs,i,z,rfl,rfl,hq,he,q⟩:=h
 cases rx
 obtain ⟨t,rfl⟩:=ry
 obtain ⟨its,r,pl,hz⟩:=I.list hq
 obtain ⟨j,h1,h2,h3,h4,h5⟩:=z8U he
 obtain ⟨w,ew,rw'⟩:=r.get h2
 have hl:=r.length
 have hn:=z6I
 have fin:EP X pins σ Q w s:=⟨z,H,I,rw',q⟩
 by_cases h0:0≤i
 ·have hj:i.toNat=j:=by
   rw [seqIndex_of h0 h5] at h1
   exact WA h1
  exact item_listR pl.isList h0 (by omega) (by rw [hj]; simpa using ew) fin hs
 ·have hj:(i + (its.toArray.size:Int)).toNat=j:=by
   rw [seqIndex_neg (by omega) h4] at h1
   rw [Wf,← hl]
   exact WA h1
  exact subscriptTail_builtinR (x:=w) pl.isList.typeIs slot_list_getitem.lookup
   (wpAny_getItem_list_neg (Q:=fun r s'=>r=w∧EP X pins σ Q r s') pl.isList (by omega) (by rw [Wf] <;> omega) (by omega) (by rw [hj]; simpa using ew) ⟨rfl,fin⟩) hs
theorem ix_tup:IxR X (rIxT X.K):=by
 intro value slice pins s σ H x y v u Q I rx ry h hs
 obtain ⟨p,xs,i,z,rfl,rfl,hq,he,q⟩:=h
 cases rx
 obtain ⟨t,rfl⟩:=ry
 obtain ⟨its,r,pl,hz⟩:=I.tuple hq
 obtain ⟨j,h1,h2,h3,h4,h5⟩:=z8U he
 obtain ⟨w,ew,rw'⟩:=r.get h2
 have hl:=r.length
 have hn:=z6I
 have fin:EP X pins σ Q w s:=⟨z,H,I,rw',q⟩
 exact subscriptTail_builtinR (x:=w) pl.typeIs slot_tuple_getitem.lookup
  (getItem_tuple (j:=j) (Q:=fun r s'=>r=w∧EP X pins σ Q r s') pl (by omega) (by omega) (by rw [Wf,← hl]; exact h1) (by simpa using ew) ⟨rfl,fin⟩) hs
theorem ix_str:IxR X rIxS:=by
 intro value slice pins s σ H x y v u Q I rx ry h hs
 obtain ⟨z,i,c,rfl,rfl,hz,he,q⟩:=h
 obtain ⟨t,rfl⟩:=rx
 obtain ⟨t',rfl⟩:=ry
 obtain ⟨j,h1,h2,h3,h4,h5⟩:=z8U he
 have hl:z.cps.toList.length=z.length:=by simp [Str.length]
 rw [hl] at h1 h4 h5
 have hn:=z6I
 exact tail_any (typeIs_str s z t) slot_str_getitem.lookup (getItem_str (c:=c) (by
  have e1:decide (i < -(2 ^ 63:Int))=false:=decide_eq_false (by omega)
  have e2:decide (i ≥ 2 ^ 63)=false:=decide_eq_false (by omega)
  rw [e1,e2,Bool.or_false]) (by rw [h1]; simpa using h2) ⟨.str ⟨#[c]⟩,H,I.tok _,⟨_,rfl⟩,q⟩) hs
def rIx (K:W0):R2:=fun x y H Q=>rIxL K x y H Q∨rIxT K x y H Q∨rIxS x y H Q
theorem z0v:IxR X (rIx X.K):=ix_list.or (ix_tup.or ix_str)
theorem z9S (its:List Value) (n j:Nat) (u:Value):Obj.mapSeq (·.setIfInBounds j u) { cls:=.type "list",data:=.seq its.toArray n } = { cls:=.type "list",data:=.seq (its.set j u).toArray n }:=by
 simp [Obj.mapSeq]
theorem Inv.lst (I:Inv X pins σ H s) (h:H p=some (.lst xs)) :
  ∃ (its:List Value) (n:Nat),Vals xs its∧s.heap.get? p=some { cls:=.type "list",data:=.seq its.toArray n }∧xs.length≤W8:=by
 obtain ⟨z,its,n,r,e⟩:=I.hok p _ h
 exact ⟨its,n,r,e,z⟩
theorem Inv.lstUpd {pins:List (Addr×Obj)} {σ:St} {H:Hp} {s:W2} {p:Addr} {xs ys:List V} {its its':List Value} {n n':Nat} {f:Obj→Obj} (I:Inv X pins σ H s) (h:H p=some (.lst xs))
  (ho:s.heap.get? p=some { cls:=.type "list",data:=.seq its.toArray n }) (hf:f { cls:=.type "list",data:=.seq its.toArray n } = { cls:=.type "list",data:=.seq its'.toArray n' }) (r:Vals ys its') (hz:ys.length≤W8) (t:Nat) :
  Inv X pins σ (upd H p (.lst ys)) { s with heap:=s.heap.update p f,toks:=t }:=by
 have e:(s.heap.update p f).get? p=some { cls:=.type "list",data:=.seq its'.toArray n' }:=by
  rw [Qp f ho (by rw [hf] <;> rfl),hf]
 refine I.write (x:=p) (e:=p) (by rw [h]; trivial) (.inl rfl) (fun b u hb q=>(Q5 _ _ (Ne.symm hb)).trans q) ⟨_,e⟩ ?_
 exact ⟨hz,its',n',r,e⟩
def rSetL:V→V→V→Hp→(Hp→Prop)→Prop:=fun o i v H Q=>∃ p xs k j,o = .ref p∧i = .int k∧H p=some (.lst xs)∧ixN xs.length k=some j∧Q (upd H p (.lst (xs.set j v)))
theorem zbV:PSet X rSetL:=by
 intro pins s σ H o i v ov iv u Q I ro ri rv h
 obtain ⟨p,xs,k,j,rfl,rfl,hp,hj,q⟩:=h
 cases ro
 obtain ⟨t,rfl⟩:=ri
 obtain ⟨its,n,r,ho,hz⟩:=I.lst hp
 obtain ⟨h1,h2,h3,h4⟩:=zb7 hj
 have hl:=r.length
 have hn:=z6I
 have I':Inv X pins σ (upd H p (.lst (xs.set j v))) { s with heap:=s.heap.update p (Obj.mapSeq (·.setIfInBounds j u)) } :=
  I.lstUpd hp ho (z9S its n j u) (r.set rv j) (by rw [WY]; exact hz) s.toks
 by_cases h0:0≤k
 ·have hk:k.toNat=j:=by
   rw [seqIndex_of h0 h4] at h1
   exact WA h1
  exact PySem.W.ki_setAt ho h0 (by omega) (by rw [Wf,← hl]; exact h4) (by rw [hk]; exact ⟨_,I',q⟩)
 ·have hk:(k + (its.toArray.size:Int)).toNat=j:=by
   rw [seqIndex_neg (by omega) h3] at h1
   rw [Wf,← hl]
   exact WA h1
  exact PySem.W.ki_setBack ho (by omega) (by rw [Wf,← hl]; exact h3) (by omega) (by rw [hk]; exact ⟨_,I',q⟩)
theorem z7B (lo hi:Option Int) (n:Nat):(Jh lo hi none n).1=((HT.sIx n 0 lo:Nat):Int)∧(Jh lo hi none n).2.1=((HT.sIx n n hi:Nat):Int)∧(Jh lo hi none n).2.2=1:=by
 refine ⟨?_,?_,rfl⟩
 ·cases lo with
  | none=>simp [Jh,HT.sIx]
  | some i =>
   simp only [Jh,HT.sIx,Option.getD_none,show (1:Int) > 0 by decide,if_true]
   by_cases h:i < 0
   ·simp only [h,if_true] <;> omega
   ·simp only [h,if_false] <;> omega
 ·cases hi with
  | none=>simp [Jh,HT.sIx]
  | some i =>
   simp only [Jh,HT.sIx,Option.getD_none,show (1:Int) > 0 by decide,if_true]
   by_cases h:i < 0
   ·simp only [h,if_true] <;> omega
   ·simp only [h,if_false] <;> omega
theorem z6Y (its:List Value) (lo hi:Option Int):slicePick its.toArray lo hi none=((its.drop (HT.sIx its.length 0 lo)).take (HT.sIx its.length its.length hi - HT.sIx its.length 0 lo)).toArray:=by
 obtain ⟨h1,h2,h3⟩:=z7B lo hi its.toArray.size
 unfold slicePick
 rw [h1,h2,h3]
 simp only [sliceRange_one,pick_run,Wf] <;> rfl
def rSlL (K:W0):V→Option Int→Option Int→Hp→VK→Prop:=fun x lo hi H Q=>∃ a xs,x = .ref a∧SqL K H a xs∧∀ p,H p=none→Q (.ref p) (upd H p (.lst (cutV xs lo hi)))
theorem zdM:SlR X (rSlL X.K):=by
 intro pins s σ H x v vl vu lo hi sl Q I rx hs pl pu h
 obtain ⟨a,xs,rfl,hx,q⟩:=h
 cases rx
 obtain ⟨its,r,ht,hz⟩:=I.list hx
 have hlen:=r.length
 refine ⟨"list",_,slot_list_getitem.lookup,ht.isList.typeIs,?_⟩
 refine wpAny_getItem_list_slice ht.isList hs pl pu .none (by simp) ?_ (by rw [Wf] <;> omega)
 rw [z6Y,← hlen]
 refine ⟨.ref s.heap.objs.size,_,I.laid (t':=s.toks) (o:=.lst (cutV xs lo hi)) (fun b ob q=>W6 _ q) (W7 _) ?_,rfl,q _ (I.hok.fresh (W7 _))⟩
 exact ⟨Wn (z6c xs lo hi) hz,_,0,(r.drop (HT.sIx xs.length 0 lo)).take (HT.sIx xs.length xs.length hi - HT.sIx xs.length 0 lo),Wm _ rfl⟩
def z6r:V→Bool
 | .non=>true
 | .bl _=>true
 | .int _=>true
 | .str _=>true
 | _=>false
def eqV:V→V→Bool
 | .non,.non=>true
 | .bl a,.bl b=>a == b
 | .bl a,.int b=>(if a then 1 else 0) == b
 | .int a,.bl b=>a == (if b then 1 else 0)
 | .int a,.int b=>a == b
 | .str a,.str b=>a == b
 | _,_=>false
theorem zgB (ry:RelV y u) (rx:RelV x v) (fy:z6r y=true) (fx:z6r x=true):SeqAt.EqAt A s u v (eqV y x):=by
 cases y with
 | non =>
  cases ry
  cases x with
  | non=>cases rx; exact SeqAt.EqAt.same _
  | bl b=>cases rx; exact SeqAt.EqAt.none_bool b
  | int b=>obtain ⟨t,rfl⟩:=rx; exact SeqAt.EqAt.none_int b t
  | str b=>obtain ⟨t,rfl⟩:=rx; exact SeqAt.EqAt.none_str b t
  | _=>exact absurd (show false=true from fx) WL
 | bl a =>
  cases ry
  cases x with
  | non=>cases rx; exact SeqAt.EqAt.bool_none a
  | bl b=>cases rx; exact SeqAt.EqAt.bool_bool a b
  | int b=>obtain ⟨t,rfl⟩:=rx; exact SeqAt.EqAt.bool_int a b t
  | str b=>obtain ⟨t,rfl⟩:=rx; exact SeqAt.EqAt.bool_str a b t
  | _=>exact absurd (show false=true from fx) WL
 | int a =>
  obtain ⟨t',rfl⟩:=ry
  cases x with
  | non=>cases rx; exact SeqAt.EqAt.int_none a t'
  | bl b=>cases rx; exact SeqAt.EqAt.int_bool a t' b
  | int b=>obtain ⟨t,rfl⟩:=rx; exact SeqAt.EqAt.int_int a t' b t
  | str b=>obtain ⟨t,rfl⟩:=rx; exact SeqAt.EqAt.int_str a t' b t
  | _=>exact absurd (show false=true from fx) WL
 | str a =>
  obtain ⟨t',rfl⟩:=ry
  cases x with
  | non=>cases rx; exact SeqAt.EqAt.str_none a t'
  | bl b=>cases rx; exact SeqAt.EqAt.str_bool a t' b
  | int b=>obtain ⟨t,rfl⟩:=rx; exact SeqAt.EqAt.str_int a t' b t
  | str b=>obtain ⟨t,rfl⟩:=rx; exact SeqAt.EqAt.str_str a t' b t
  | _=>exact absurd (show false=true from fx) WL
 | _=>exact absurd (show false=true from fy) WL
def eqU (x:V) (u:Value):Bool:=match u with
 | .none=>eqV .non x
 | .bool b=>eqV (.bl b) x
 | .int i _=>eqV (.int i) x
 | .str z _=>eqV (.str z) x
 | _=>false
theorem zdn (r:RelV y u) (f:z6r y=true):eqU x u=eqV y x:=by
 cases y with
 | non=>cases r; rfl
 | bl b=>cases r; rfl
 | int i=>obtain ⟨t,rfl⟩:=r; rfl
 | str z=>obtain ⟨t,rfl⟩:=r; rfl
 | _=>exact absurd (show false=true from f) WL
theorem z6j:∀ {xs:List V} {us:List Value},Vals xs us→xs.all z6r=true→us.any (eqU x)=xs.any fun y=>eqV y x
 | _,_,.nil,_=>rfl
 | y :: xs,u :: us,.cons r t,f=>by
  rw [Qb,We] at f
  rw [Q2,Q2,zdn r f.1,z6j t f.2]
theorem z4C (rx:RelV x v) (fx:z6r x=true):∀ {xs:List V} {us:List Value},Vals xs us→xs.all z6r=true→∀ u ∈ us,SeqAt.EqAt A s u v (eqU x u)
 | _,_,.nil,_=>fun u hu=>by cases hu
 | y :: xs,u :: us,.cons r t,f=>fun u' hu=>by
  rw [Qb,We] at f
  rcases Wh.mp hu with rfl | hu
  ·rw [zdn r f.1]; exact zgB r rx f.1 fx
  ·exact z4C rx fx t f.2 u' hu
def inV (x:V) (xs:List V):Bool:=xs.any fun y=>eqV y x
def rIn (K:W0) (neg:Bool):R2:=fun x y H Q=>∃ p xs,y = .ref p∧(SqL K H p xs∨SqT K H p xs)∧z6r x=true∧xs.all z6r=true∧Q (.bl (if neg then !inV x xs else inV x xs)) H
theorem zaR:OpR X (Wt .In) (rIn X.K false):=by
 intro pins s σ H x y v u Q I rx ry h
 obtain ⟨p,xs,rfl,hq,fx,fs,q⟩:=h
 cases ry
 rcases hq with hq | hq
 ·obtain ⟨its,r,pl,hz⟩:=I.list hq
  refine SeqAt.in_listAt (eqU x) pl.isList (fun w hw=>z4C rx fx r fs w (by simpa using hw)) ⟨.bl _,H,I,rfl,?_⟩
  rw [show its.toArray.any (eqU x)=its.any (eqU x) by simp,z6j r fs]
  exact q
 ·obtain ⟨its,r,pl,hz⟩:=I.tuple hq
  refine SeqAt.in_tupleAt (eqU x) pl (fun w hw=>z4C rx fx r fs w (by simpa using hw)) ⟨.bl _,H,I,rfl,?_⟩
  rw [show its.toArray.any (eqU x)=its.any (eqU x) by simp,z6j r fs]
  exact q
theorem op_notIn_seq:OpR X (Wt .NotIn) (rIn X.K true):=by
 intro pins s σ H x y v u Q I rx ry h
 obtain ⟨p,xs,rfl,hq,fx,fs,q⟩:=h
 cases ry
 rcases hq with hq | hq
 ·obtain ⟨its,r,pl,hz⟩:=I.list hq
  refine SeqAt.notIn_listAt (eqU x) pl.isList (fun w hw=>z4C rx fx r fs w (by simpa using hw)) ⟨.bl _,H,I,rfl,?_⟩
  rw [show its.toArray.any (eqU x)=its.any (eqU x) by simp,z6j r fs]
  exact q
 ·obtain ⟨its,r,pl,hz⟩:=I.tuple hq
  refine SeqAt.notIn_tupleAt (eqU x) pl (fun w hw=>z4C rx fx r fs w (by simpa using hw)) ⟨.bl _,H,I,rfl,?_⟩
  rw [show its.toArray.any (eqU x)=its.any (eqU x) by simp,z6j r fs]
  exact q
theorem call_len_seq:CallR X (.builtin "len") (fun xs H Q=>∃ p ys,xs=[.ref p]∧(SqL X.K H p ys∨SqT X.K H p ys)∧Q (.int ys.length) H):=by
 intro pins s σ H xs us Q I r h
 obtain ⟨p,ys,rfl,hq,q⟩:=h
 obtain ⟨u,rfl,rx⟩:=z4p r
 cases rx
 have hn:=z6I
 rcases hq with hq | hq
 ·obtain ⟨its,r',pl,hz⟩:=I.list hq
  have hlen:=r'.length
  exact Calls.call_len_list pl.isList (by simp only [Wf] <;> omega) ⟨.int ys.length,H,I.tok _,⟨s.toks + 1,by rw [Wf,hlen]⟩,q⟩
 ·obtain ⟨its,r',pl,hz⟩:=I.tuple hq
  have hlen:=r'.length
  exact len_tuple pl (by simp only [Wf] <;> omega) ⟨.int ys.length,H,I.tok _,⟨s.toks + 1,by rw [Wf,hlen]⟩,q⟩
theorem z8s:CallR X (.builtin "len") (fun xs H Q=>∃ z,xs=[.str z]∧z.length≤W8∧Q (.int z.length) H):=by
 intro pins s σ H xs us Q I r h
 obtain ⟨z,rfl,hz,q⟩:=h
 obtain ⟨u,rfl,t,rfl⟩:=z4p r
 have hn:=z6I
 exact len_str (by omega) ⟨.int z.length,H,I.tok _,⟨_,rfl⟩,q⟩
theorem CallR.or (h:CallR X f r) (h':CallR X f r'):CallR X f (fun xs H Q=>r xs H Q∨r' xs H Q):=by
 intro pins s σ H xs us Q I rs q
 rcases q with q | q
 ·exact h pins s σ H xs us Q I rs q
 ·exact h' pins s σ H xs us Q I rs q
theorem call_list_of:CallR X (.type "list") (fun xs H Q=>∃ p ys,xs=[.ref p]∧(SqL X.K H p ys∨SqT X.K H p ys)∧∀ l,H l=none→Q (.ref l) (upd H l (.lst ys))):=by
 intro pins s σ H xs us Q I r h
 obtain ⟨p,ys,rfl,hq,q⟩:=h
 obtain ⟨u,rfl,rx⟩:=z4p r
 cases rx
 have fin:∀ (its:List Value),Vals ys its→ys.length≤W8→∀ (h':Heap) (c':Nat),(∀ b o',s.heap.get? b=some o'→h'.get? b=some o') →
   h'.get? s.heap.objs.size=some { cls:=.type "list",dict:=none,data:=.seq its.toArray c',slots:=#[] }→EP X pins σ Q (.ref s.heap.objs.size) { s with heap:=h' }:=fun its r' hz h' c' kp e =>
  ⟨.ref s.heap.objs.size,_,I.laid (t':=s.toks) kp (W7 _) (show ObjOk X.prog X.w _ h' _ (.lst ys) from ⟨hz,its,c',r',e⟩),rfl,q _ (I.hok.fresh (W7 _))⟩
 rcases hq with hq | hq
 ·obtain ⟨its,r',pl,hz⟩:=I.list hq
  have hlen:=r'.length
  obtain ⟨o,ho,hc,n,hd⟩:=pl.isList
  exact call_list_seq p (.inl rfl) ho hc hd (fun h' c' kp e=>fin its r' hz h' c' kp e) (by simp only [Wf] <;> omega)
 ·obtain ⟨its,r',pl,hz⟩:=I.tuple hq
  have hlen:=r'.length
  obtain ⟨o,ho,hc,n,hd⟩:=pl
  exact call_list_seq p (.inr rfl) ho hc hd (fun h' c' kp e=>fin its r' hz h' c' kp e) (by simp only [Wf] <;> omega)
theorem z7v:CallR X (.type "tuple") (fun xs H Q=>∃ p ys,xs=[.ref p]∧((SqL X.K H p ys∧∀ l,H l=none→Q (.ref l) (upd H l (.tup ys)))∨(SqT X.K H p ys∧Q (.ref p) H))):=by
 intro pins s σ H xs us Q I r h
 obtain ⟨p,ys,rfl,h⟩:=h
 obtain ⟨u,rfl,rx⟩:=z4p r
 cases rx
 rcases h with ⟨hq,q⟩ | ⟨hq,q⟩
 ·obtain ⟨its,r',pl,hz⟩:=I.list hq
  have hlen:=r'.length
  refine call_tuple_list pl.isList (fun h' kp=>?_) (by simp only [Wf] <;> omega)
  have I1:Inv X pins σ H { s with heap:=h' }:=I.kept (t':=s.toks) kp
  have I2:Inv X pins σ (upd H h'.objs.size (.tup ys)) { s with heap:=h'.push { cls:=.type "tuple",data:=.seq its.toArray } } :=
   I1.laid (t':=s.toks) (fun b o e=>W6 _ e) (W7 _) (show ObjOk X.prog X.w _ _ _ (.tup ys) from ⟨hz,its,r',IsTupN.new _ _⟩)
  exact ⟨.ref h'.objs.size,_,I2,rfl,q _ (I1.hok.fresh (W7 _))⟩
 ·obtain ⟨its,r',pl,hz⟩:=I.tuple hq
  exact call_tuple_same pl ⟨.ref p,H,I,rfl,q⟩
def tyV (K:W0) (T:String) (x:V) (H:Hp):Prop:=match x with
 | .str _=>T = "str"
 | .int _=>T = "int"
 | .ref p=>(T = "list"∧∃ xs,SqL K H p xs)∨(T = "tuple"∧∃ o,K.lookup p=some o∧o.cls = .type "tuple"∧o.dict=none) ∨
   (T = "dict"∧((∃ kvs,H p=some (.dK kvs))∨∃ kvs,H p=some (.dT kvs)))∨(T = "set"∧∃ S n,H p=some (.set S n))
 | _=>False
theorem zd2 (I:Inv X pins σ H s) (r:RelV x v) (ty:tyV X.K T x H) :
  s.TypeIs v T∧∀ a,v = .ref a→∃ ob,s.heap.get? a=some ob∧ob.dict=none:=by
 cases x with
 | str z =>
  obtain ⟨t,rfl⟩:=r
  cases (show T = "str" from ty)
  exact ⟨typeIs_str s z t,fun _ e=>nomatch e⟩
 | int i =>
  obtain ⟨t,rfl⟩:=r
  cases (show T = "int" from ty)
  exact ⟨QZ s i t,fun _ e=>nomatch e⟩
 | ref p =>
  cases r
  rcases ty with ⟨rfl,xs,hq⟩ | ⟨rfl,o,hk,hc,hd⟩ | ⟨rfl,hk⟩ | ⟨rfl,S,n,hk⟩
  ·obtain ⟨its,_,pl,_⟩:=I.list hq
   refine ⟨pl.isList.typeIs,fun a e=>?_⟩
   cases e
   obtain ⟨o,n,e,c,hd,_⟩:=pl
   exact ⟨o,e,hd⟩
  ·refine ⟨⟨o,I.kIn p o hk,hc⟩,fun a e=>?_⟩
   cases e
   exact ⟨o,I.kIn _ o hk,hd⟩
  ·have z:∃ o,s.heap.get? p=some o∧o.ExactDict:=by
    rcases hk with ⟨kvs,hk⟩ | ⟨kvs,hk⟩
    ·obtain ⟨_,_,_,_,o,_,_,e,ex,_⟩:=I.hok p _ hk
     exact ⟨o,e,ex⟩
    ·obtain ⟨_,_,_,_,o,_,_,e,ex,_⟩:=I.hok p _ hk
     exact ⟨o,e,ex⟩
   obtain ⟨o,e,ex⟩:=z
   refine ⟨⟨o,e,ex.1⟩,fun a e2=>?_⟩
   cases e2
   exact ⟨o,e,ex.2.1⟩
  ·obtain ⟨o,_,_,_,e,ex,_⟩:=I.hok p _ hk
   refine ⟨⟨o,e,ex.1⟩,fun a e2=>?_⟩
   cases e2
   exact ⟨o,e,ex.2.1⟩
 | _=>exact False.elim ty
def tBM0 (K:W0) (T:String) (r:V→List V→Hp→VK→Prop) (to:TE):TE:=fun σ H Q=>to σ H fun x H1=>tyV K T x H1∧r x [] H1 Q
def tBM (K:W0) (T:String) (r:V→List V→Hp→VK→Prop) (to:TE) (t:TA):TE:=fun σ H Q=>to σ H fun x H1=>tyV K T x H1∧t σ H1 fun xs H2=>r x xs H2 Q
variable {o e:Expr} {es:List Expr} {to:TE} {t:TA} {name:Str} {apos cpos:Pos} {T id:String} {r:V→List V→Hp→VK→Prop}
theorem zfV (pa:PlainAttrs T) (slot:Slot T name id) (hty:typeOf (.builtin id)=pure (.type "method_descriptor")) (hm:MtR X id r) (ho:PE X o to)
  (hbase:WS o name X.env (eval o X.env)=eval o X.env:=by rfl) (hline:(apos.endLine == cpos.line)=true:=by rfl):PE X (.Call (.Attribute o name apos) [] [] cpos) (tBM0 X.K T r to):=by
 intro pins s σ H Q I h
 refine wpAny_Call_method0_late hbase hline (thn (ho pins s σ H _ I h) fun v s1 ⟨x,H1,I1,r1,ty,q1⟩=>?_)
 obtain ⟨h1,h2⟩:=zd2 I1 r1 ty
 exact ⟨T,id,pa,slot,hty,h1,h2,Calls.callWith_builtin rfl (PySem.evalArgs_none (hm pins s1 σ H1 x [] v [] Q I1 r1 .nil q1))⟩
theorem z9M (pa:PlainAttrs T) (slot:Slot T name id) (hty:typeOf (.builtin id)=pure (.type "method_descriptor")) (hm:MtR X id r) (ho:PE X o to) (ha:PA X (e :: es) t)
  (hbase:WS o name X.env (eval o X.env)=eval o X.env:=by rfl)
  (hfew:((WF cpos (W4 (e :: es) X.env)).all (fun x=>!x.1) && (Qn cpos (WV [] X.env)).all (fun x=>x.1.isSome)
   && decide ((e :: es).length + ([]:List Keyword).length + (if ([]:List Keyword).isEmpty then 0 else 1) < 30))=true:=by rfl)
  (hline:(apos.endLine == cpos.line)=true:=by rfl) (hs:W4 (e :: es) X.env=(false,eval e X.env) :: W4 es X.env:=by rfl) (hplain:(WF cpos (W4 es X.env)).any (·.1)=false:=by rfl) :
  PE X (.Call (.Attribute o name apos) (e :: es) [] cpos) (tBM X.K T r to t):=by
 intro pins s σ H Q I h
 refine wpAny_Call_method_late hbase hfew hline rfl (thn (ho pins s σ H _ I h) fun v s1 ⟨x,H1,I1,r1,ty,q1⟩=>?_)
 obtain ⟨h1,h2⟩:=zd2 I1 r1 ty
 refine ⟨T,id,pa,slot,hty,h1,h2,?_⟩
 have hA:=ha cpos pins s1 σ H1 _ I1 q1
 rw [hs] at hA ⊢
 refine Calls.callWith_builtin (by show (false || (WF cpos (W4 es X.env)).any (·.1))=false; rw [hplain] <;> rfl) (Calls.evalArgs_plain ?_)
 exact thn hA fun us s2 ⟨vs,H2,I2,r2,q2⟩=>hm pins s2 σ H2 x vs v us Q I2 r1 r2 q2
end
def MtM (X:Cx) (id:String) (r:V→List V→Hp→VK→Prop):Prop :=
 ∀ (pins:List (Addr×Obj)) (s:W2) (σ:St) (H:Hp) (x:V) (xs:List V) (v:Value) (us:List Value) (Q:VK),Inv X pins σ H s→RelV x v→Vals xs us→r x xs H Q →
  Wa (model X.prog X.w) X.A (call (.builtin id) (v :: us)) (EP X pins σ Q) X.xe s
theorem Vals.one:∀ {x:V} {us:List Value},Vals [x] us→∃ u,us=[u]∧RelV x u
 | _,_,.cons r .nil=>⟨_,rfl,r⟩
theorem Vals.two:∀ {x y:V} {us:List Value},Vals [x,y] us→∃ u v,us=[u,v]∧RelV x u∧RelV y v
 | _,_,_,.cons r (.cons q .nil)=>⟨_,_,rfl,r,q⟩
theorem Vals.rep (h:Vals xs us):∀ k:Nat,Vals (W3 k xs).flatten (W3 k us).flatten
 | 0=>.nil
 | k + 1=>by
  rw [WW,WW,QG,QG]
  exact Vals.append h (Vals.rep h k)
theorem z68 (its:List Value):∀ (k:Nat) (acc:List Value),
  List.foldl (fun x1 x2=>x1 ++ x2) acc.toArray (W3 k its.toArray)=(acc ++ (W3 k its).flatten).toArray
 | 0,acc=>by simp
 | k + 1,acc=>by
  have e:acc.toArray ++ its.toArray=(acc ++ its).toArray:=by simp
  have e2:(acc ++ its) ++ (W3 k its).flatten=acc ++ (W3 (k + 1) its).flatten:=by
   rw [WW,QG,List.append_assoc]
  rw [← e2,← z68 its k (acc ++ its),← e,WW,Qg]
section
variable {X:Cx} {pins:List (Addr×Obj)} {σ:St} {H:Hp} {s:W2} {l b:Addr} {xs ys zs:List V}
theorem Inv.lset {its its':List Value} {n:Nat} {f:Array Value→Array Value} {t':Nat} (I:Inv X pins σ H s) (hH:H l=some (.lst xs))
  (e:s.heap.get? l=some { cls:=.type "list",data:=.seq its.toArray n }) (hf:f its.toArray=its'.toArray) (hv:Vals ys its') (hz:ys.length≤W8) :
  Inv X pins σ (upd H l (.lst ys)) { s with heap:=s.heap.update l (Obj.mapSeq f),toks:=t' }:=by
 have q:=PySem.IsL.update e f
 rw [hf] at q
 refine I.write (x:=l) (e:=l) (by rw [hH]; exact trivial) (.inl rfl) (fun b' u hb hu=>(Q5 s.heap (Obj.mapSeq f) (Ne.symm hb)).trans hu) ⟨_,q⟩ ?_
 exact ⟨hz,its',_,hv,q⟩
theorem Inv.lnew (I:Inv X pins σ H s) (hv:Vals ys its) (hz:ys.length≤W8) :
  Inv X pins σ (upd H s.heap.objs.size (.lst ys)) { s with heap:=s.heap.push { cls:=.type "list",data:=.seq its.toArray },toks:=t' } :=
 I.laid (fun _ _ q=>W6 _ q) (W7 _) ⟨hz,its,0,hv,Wm _ rfl⟩
theorem Inv.fresh (I:Inv X pins σ H s):H s.heap.objs.size=none:=I.hok.fresh (W7 _)
theorem Inv.lstM (I:Inv X pins σ H s) (hH:H l=some (.lst xs)):xs.length≤W8∧∃ (its:List Value) (n:Nat),Vals xs its∧xs.length=its.length∧s.heap.get? l=some { cls:=.type "list",data:=.seq its.toArray n }:=by
 obtain ⟨z,its,n,r,e⟩:=I.hok l _ hH
 exact ⟨z,its,n,r,r.length,e⟩
theorem zcw (h:n≤W8):QR n=false:=by
 unfold QR
 exact decide_eq_false (by omega)
end
section
variable {X:Cx}
def zay:V→List V→Hp→VK→Prop:=fun x vs H Q=>∃ l xs y,x = .ref l∧vs=[y]∧H l=some (.lst xs)∧xs.length < W8∧Q .non (upd H l (.lst (xs ++ [y])))
theorem z86:MtM X "list.append" zay:=by
 intro pins s σ H x vs v us Q I rx rv h
 obtain ⟨l,xs,y,rfl,rfl,hH,hz,q⟩:=h
 cases rx
 obtain ⟨u,rfl,ru⟩:=rv.one
 obtain ⟨z,its,n,r,hl,e⟩:=I.lstM hH
 refine Qm F.slot_list_append ⟨_,e,rfl⟩ F.entry_list_append (F.args_list_append_2 _ _) (PySem.list_append l its.toArray n u (by rw [Wf]; omega)) ⟨e,?_⟩
 refine ⟨.non,_,I.lset (its':=its ++ [u]) hH e (by simp) (r.append (.cons ru .nil)) ?_,rfl,q⟩
 rw [WP,List.length_singleton]
 omega
def ze2:V→List V→Hp→VK→Prop:=fun x vs H Q=>∃ l b xs zs,x = .ref l∧vs=[.ref b]∧H l=some (.lst xs)∧H b=some (.lst zs)∧xs.length + zs.length≤W8∧Q .non (upd H l (.lst (xs ++ zs)))
theorem zb0:MtM X "list.extend" ze2:=by
 intro pins s σ H x vs v us Q I rx rv h
 obtain ⟨l,b,xs,zs,rfl,rfl,hH,hB,hz,q⟩:=h
 cases rx
 obtain ⟨u,rfl,ru⟩:=rv.one
 cases ru
 obtain ⟨z,its,n,r,hl,e⟩:=I.lstM hH
 obtain ⟨z2,its2,n2,r2,hl2,e2⟩:=I.lstM hB
 have hsz:its.toArray.size + its2.toArray.size≤W8:=by rw [Wf,Wf]; omega
 have hlong:¬ (!its.toArray.isEmpty && QR (its.toArray.size + its2.toArray.size))=true:=by
  rw [zcw hsz,Bool.and_false]
  exact WL
 refine Qm F.slot_list_extend ⟨_,e,rfl⟩ F.entry_list_extend (F.args_list_extend_2 _ _)
  (AutoSeq1.list_extend_list_list_0 l its.toArray n b its2.toArray n2 hlong (by rw [Wf]; omega) (by omega)) ⟨e,e2,?_⟩
 refine ⟨.non,_,I.lset (its':=its ++ its2) hH e (by simp) (r.append r2) ?_,rfl,q⟩
 rw [WP]
 omega
theorem z7m (xs:List α) (k:Nat):(W3 k xs).flatten.length=k * xs.length:=by
 induction k with
 | zero=>simp
 | succ k ih=>rw [WW,QG,WP,ih,Nat.succ_mul,Nat.add_comm]
end
section
variable {prog:Wk} {w:Wr} {A:Wp} {E:Value→W2→Prop} {s:W2}
set_option maxRecDepth 100000 in
end
section
variable {X:Cx}
end
section
variable {κ:Type} [DecidableEq κ]
def valV (kvs:List (κ×V)) (k:κ):Option V:=(kvs.find? fun kv=>decide (kv.1=k)).map (·.2)
def putK (kvs:List (κ×V)) (k:κ) (v:V):List (κ×V) :=
 if (kvs.any fun kv=>decide (kv.1=k))=true then kvs.map (fun kv=>if kv.1=k then (kv.1,v) else kv) else kvs ++ [(k,v)]
theorem z6R {p:κ×V} {r:List (κ×V)} {k:κ} (e:p.1=k):valV (p :: r) k=some p.2:=by simp [valV,Qu,e]
theorem z6S {p:κ×V} {r:List (κ×V)} {k:κ} (e:¬ p.1=k):valV (p :: r) k=valV r k:=by simp [valV,Qu,e]
theorem z5Y (kvs:List (κ×V)) (k:κ) (v:V):(putK kvs k v).length≤kvs.length + 1:=by
 unfold putK
 split
 ·rw [Wu]; omega
 ·rw [WP,Ws,Q8]; omega
theorem RelO.isSome_eq (r:RelO o u):o.isSome=u.isSome:=by
 cases o with
 | none=>cases u with
  | none=>rfl
  | some _=>exact (show False from r).elim
 | some _=>cases u with
  | none=>exact (show False from r).elim
  | some _=>rfl
theorem KV.val {kvs:List (κ×V)} {vs:List (κ×Value)} (r:KV kvs vs) (k:κ):RelO (valV kvs k) (valueAt vs k):=by
 unfold KV at r
 induction r with
 | nil=>exact True.intro
 | @cons p q ps qs h t ih =>
  obtain ⟨h1,h2⟩:=h
  by_cases e:p.1=k
  ·have e':q.1=k:=h1.symm.trans e
   have b:valueAt (q :: qs) k=some q.2:=by simp [valueAt,Qu,e']
   rw [z6R e,b]; exact h2
  ·have e':¬ q.1=k:=fun z=>e (h1.trans z)
   have b:valueAt (q :: qs) k=valueAt qs k:=by simp [valueAt,Qu,e']
   rw [z6S e,b]; exact ih
theorem KV.any (r:KV kvs vs) (k:κ):(kvs.any fun kv=>decide (kv.1=k))=vs.any fun kv=>decide (kv.1=k):=by
 unfold KV at r
 induction r with
 | nil=>rfl
 | cons h t ih=>rw [Q2,Q2,ih,h.1]
theorem KV.repl (r:KV kvs vs) (k:κ) (ry:RelV y u) :
  KV (kvs.map fun kv=>if kv.1=k then (kv.1,y) else kv) (vs.map fun kv=>if kv.1=k then (kv.1,u) else kv):=by
 unfold KV at r ⊢
 induction r with
 | nil=>exact .nil
 | @cons p q ps qs h t ih =>
  rw [WB,WB]
  refine .cons ?_ ih
  obtain ⟨h1,h2⟩:=h
  by_cases e:p.1=k
  ·rw [if_pos e,if_pos (h1.symm.trans e)]; exact ⟨h1,ry⟩
  ·rw [if_neg e,if_neg (fun z=>e (h1.trans z))]; exact ⟨h1,h2⟩
theorem KV.put (r:KV kvs vs) (k:κ) (ry:RelV y u):KV (putK kvs k y) (stored vs k u):=by
 unfold putK stored
 rw [r.any k]
 by_cases e:(vs.any fun kv=>decide (kv.1=k))=true
 ·rw [if_pos e,if_pos e]; exact r.repl k ry
 ·rw [if_neg e,if_neg e]; exact Paired.snoc r ⟨rfl,ry⟩
theorem KV.length (r:KV kvs vs):kvs.length=vs.length:=Paired.length r
end
theorem zcD (r:RelV (kV k) u):(z2b P w).is k u=true:=by
 cases k with
 | inl i=>obtain ⟨t,e⟩:=(show ∃ t,u=Value.int i t from r); subst e; exact z8P P w i t
 | inr x=>obtain ⟨t,e⟩:=(show ∃ t,u=Value.str x t from r); subst e; exact z8O P w x t
theorem z8c:∀ {ks:List Key} {us:List Value},Vals (ks.map kV) us→ItemsAre (z2b P w) ks us
 | [],_,r=>by rw [Jy] at r; cases r; exact .nil
 | k :: ks,_,r=>by
  rw [WB] at r
  cases r with
  | cons h t=>exact .cons (zcD h) (z8c t)
abbrev KT (H:Hp):List (List Key×V)→List (List Key×Addr×Value)→Prop:=Paired fun p q=>p.1=q.1∧H q.2.1=some (.tup (p.1.map kV))∧RelV p.2 q.2.2
theorem KT.val {H:Hp} {kvs:List (List Key×V)} {xs:List (List Key×Addr×Value)} (r:KT H kvs xs) (k:List Key):RelO (valV kvs k) ((atKey xs k).map (·.2)):=by
 induction r with
 | nil=>exact True.intro
 | @cons p q ps qs h t ih =>
  obtain ⟨h1,_,h2⟩:=h
  by_cases e:p.1=k
  ·have e':q.1=k:=h1.symm.trans e
   have b:atKey (q :: qs) k=some q.2:=by simp [atKey,Qu,e']
   rw [z6R e,b]; exact h2
  ·have e':¬ q.1=k:=fun z=>e (h1.trans z)
   have b:atKey (q :: qs) k=atKey qs k:=by simp [atKey,Qu,e']
   rw [z6S e,b]; exact ih
section
variable {P:Wk} {w:Wr} {H:Hp} {h:Heap} {a:Addr}
theorem zfj (ok:HOk P w H h) (e:Rd H a u):ObjOk P w H h a u:=e.ok ok
theorem zcS (ok:HOk P w H h) (e:Rd H a (.dK kvs)):kvs.length≤W8∧(a == J9)=false∧∃ vs,KV kvs vs∧h.DictOf (z2b P w) a vs :=
 show ObjOk P w H h a (.dK kvs) from zfj ok e
theorem dk_of (ok:HOk P w H h) (e:H a=some (.dK kvs)):kvs.length≤W8∧(a == J9)=false∧∃ vs,KV kvs vs∧h.DictOf (z2b P w) a vs:=zcS ok (.inl e)
theorem zb3 (ok:HOk P w H h) (e:H a=some (.tup (ks.map kV))):(tupleKind (z2b P w)).is h ks a:=by
 obtain ⟨_,its,r,p⟩:=(show ObjOk P w H h a (.tup (ks.map kV)) from ok a _ e)
 obtain ⟨o,h1,h2,n,h3⟩:=p.tup
 exact ⟨o,its.toArray,n,h1,h2,h3,by simpa using z8c r⟩
theorem zgC (ok:HOk P w H h) (e:Rd H a (.dT kvs)):kvs.length≤W8∧(a == J9)=false ∧
  ∃ xs,KT H kvs xs∧h.DictOfH (tupleKind (z2b P w)) a xs:=by
 obtain ⟨z,y,xs,r,o,es,ep,h1,h2,h3,h4,h5⟩:=(show ObjOk P w H h a (.dT kvs) from zfj ok e)
 refine ⟨z,y,xs,r,o,es,ep,h1,h2,h3,h4,fun x hx=>?_,h5⟩
 have all:∀ {l:List (List Key×V)} {m:List (List Key×Addr×Value)},KT H l m→∀ x ∈ m,(tupleKind (z2b P w)).is h x.1 x.2.1:=by
  intro l m q
  induction q with
  | nil=>intro x hx; exact nomatch hx
  | @cons p q ps qs hq t ih =>
   intro x hx
   rcases Wh.mp hx with e | hx
   ·subst e
    exact zb3 ok (by rw [← hq.1]; exact hq.2.1)
   ·exact ih x hx
 exact all r x hx
end
def DGet (H:Hp) (a:Addr) (y:V) (r:Option V):Prop :=
 (∃ kvs k,Rd H a (.dK kvs)∧y=kV k∧r=valV kvs k)∨∃ kvs k b,Rd H a (.dT kvs)∧y = .ref b∧H b=some (.tup (k.map kV))∧r=valV kvs k
theorem DGet.k {H:Hp} {a:Addr} {kvs:List (Key×V)} {k:Key} (e:H a=some (.dK kvs)):DGet H a (kV k) (valV kvs k):=.inl ⟨kvs,k,.inl e,rfl,rfl⟩
section
variable {X:Cx} {pins:List (Addr×Obj)} {σ:St} {H:Hp} {s:W2} {a:Addr} {y v:V} {u r:Value} {o:Option V} {A:Wp} {E:Value→W2→Prop}
theorem Inv.big (I:Inv X pins σ H s):J9 < s.heap.objs.size:=by
 have h:Wl < s.heap.objs.size:=(I.mod.glob.keeps I.bk).lt
 exact Nat.lt_trans (by decide) h
theorem d_in (hu:A.units + 1 < QD) (I:Inv X pins σ H s) (g:DGet H a y o) (ry:RelV y u) (h:∀ s',Inv X pins σ H s'→Q (.bool o.isSome) s') :
  Wa (model X.prog X.w) A (Wt .In u (.ref a)) Q E s:=by
 rcases g with ⟨kvs,k,e,ey,l⟩ | ⟨kvs,k,b,e,ey,eb,l⟩
 ·subst ey
  obtain ⟨z,hd,vs,rel,dd⟩:=zcS I.hok e
  refine wpAny_in_of (zcD ry) hd dd.mapOf ?_
  rw [← (rel.val k).isSome_eq,← l]
  exact h _ (I.tok _)
 ·subst ey
  cases (show u=Value.ref b from ry)
  obtain ⟨z,hd,xs,rel,dd⟩:=zgC I.hok e
  refine wpAny_in_heap (tupleKind_room_in1 hu) (zb3 I.hok eb) hd dd ?_
  have q:=(rel.val k).isSome_eq
  rw [Option.isSome_map] at q
  rw [← q,← l]
  exact h _ (I.tok _)
theorem zeO (hu:A.units + 1 < QD) (I:Inv X pins σ H s) (g:DGet H a y o) (ry:RelV y u) (h:∀ s',Inv X pins σ H s'→Q (.bool (!o.isSome)) s') :
  Wa (model X.prog X.w) A (Wt .NotIn u (.ref a)) Q E s:=by
 rcases g with ⟨kvs,k,e,ey,l⟩ | ⟨kvs,k,b,e,ey,eb,l⟩
 ·subst ey
  obtain ⟨z,hd,vs,rel,dd⟩:=zcS I.hok e
  refine wpAny_notIn_of (zcD ry) hd dd.mapOf ?_
  rw [← (rel.val k).isSome_eq,← l]
  exact h _ (I.tok _)
 ·subst ey
  cases (show u=Value.ref b from ry)
  obtain ⟨z,hd,xs,rel,dd⟩:=zgC I.hok e
  refine wpAny_notIn_heap (tupleKind_room_in1 hu) (zb3 I.hok eb) hd dd ?_
  have q:=(rel.val k).isSome_eq
  rw [Option.isSome_map] at q
  rw [← q,← l]
  exact h _ (I.tok _)
theorem zeN (I:Inv X pins σ H s) (mu:Mut (H a)) (hs:Heap.SameBut a s.heap h') (he:∃ q,h'.get? a=some q) (new:ObjOk X.prog X.w (upd H a ob) h' a ob) :
  Inv X pins σ (upd H a ob) { s with heap:=h',toks:=t' } :=
 I.write (x:=a) (e:=a) mu (.inl rfl) (fun b q hb z=>(hs.2 b hb).trans z) he new
theorem zgD (z:kvs.length≤W8) (hd:(a == J9)=false) (rel:KV kvs vs) (dd:h'.DictOf (z2b P w) a vs) :
  ObjOk P w H' h' a (.dK kvs):=⟨z,hd,vs,rel,dd⟩
end
section
variable {X:Cx} {pins:List (Addr×Obj)} {σ:St} {H:Hp} {s:W2} {a:Addr} {kvs:List (Key×V)} {k:Key} {u:Value} {A:Wp} {E:Value→W2→Prop}
theorem d_len (I:Inv X pins σ H s) (e:Rd H a (.dK kvs)) (h:∀ t s',Inv X pins σ H s'→Q (.int kvs.length t) s'):Wa (model X.prog X.w) A (call (.builtin "len") [.ref a]) Q E s:=by
 obtain ⟨z,hd,vs,rel,dd⟩:=zcS I.hok e
 refine call_len_dict hd dd (by rw [← rel.length]; rw [sizeLine_eq] at z; omega) ?_
 rw [← rel.length]
 exact h _ _ (I.tok _)
end
section
variable {X:Cx} {o i e value:Expr} {pos pos' tpos:Pos} {td ty tv:TE}
end
theorem z9v (h:Heap) (hb:J9 < h.objs.size):ObjOk P w H (h.push { cls:=.type "dict",data:=.dict #[] }) h.objs.size (.dK []) :=
 ⟨QL _,beq_eq_false_iff_ne.mpr (Ne.symm (Wy hb)),[],.nil,Heap.DictOf.new h⟩
def zf4:TE:=fun _ H Q=>∀ p,H p=none→Q (.ref p) (upd H p (.dK []))
section
variable {X:Cx} {pos:Pos}
theorem zch:PE X (.Dict [] [] pos) zf4:=fun pins s σ H Q I h =>
 wpAny_Dict_empty ⟨.ref s.heap.objs.size,_,I.laid (a:=s.heap.objs.size) (o:=.dK []) (t':=s.toks) (fun _ _ q=>W6 _ q) (W7 _) (z9v s.heap I.big),rfl,h _ (I.hok.fresh (W7 _))⟩
end
structure M1 (X:Cx) (o:Expr) (m:Str) (apos:Pos) (e:Expr) (cpos:Pos):Prop where
 base:WS o m X.env (eval o X.env)=eval o X.env
 few:((WF cpos (W4 [e] X.env)).all (fun x=>!x.1) && (Qn cpos (WV [] X.env)).all (fun x=>x.1.isSome)
  && decide (([e]:List Expr).length + ([]:List Keyword).length + (if ([]:List Keyword).isEmpty then 0 else 1) < 30))=true
 line:(apos.endLine == cpos.line)=true
 trees:WF cpos (W4 [e] X.env)=[(false,eval e X.env)]
structure M2 (X:Cx) (o:Expr) (m:Str) (apos:Pos) (e f:Expr) (cpos:Pos):Prop where
 base:WS o m X.env (eval o X.env)=eval o X.env
 few:((WF cpos (W4 [e,f] X.env)).all (fun x=>!x.1) && (Qn cpos (WV [] X.env)).all (fun x=>x.1.isSome)
  && decide (([e,f]:List Expr).length + ([]:List Keyword).length + (if ([]:List Keyword).isEmpty then 0 else 1) < 30))=true
 line:(apos.endLine == cpos.line)=true
 trees:WF cpos (W4 [e,f] X.env)=[(false,eval e X.env),(false,eval f X.env)]
section
variable {X:Cx} {pins:List (Addr×Obj)} {σ:St} {H:Hp} {s:W2} {a:Addr} {y d:V} {u r:Value} {o:Option V} {A:Wp} {E:Value→W2→Prop}
end
section
variable {X:Cx} {o e f:Expr} {apos cpos:Pos} {td ty tx:TE}
end
section
variable {X:Cx} {pins:List (Addr×Obj)} {σ:St} {H:Hp} {s:W2} {a:Addr} {kvs:List (Key×V)} {A:Wp} {E:Value→W2→Prop}
end
section
variable {X:Cx} {pins:List (Addr×Obj)} {σ:St} {H:Hp} {s:W2} {a:Addr} {y:V} {u:Value} {A:Wp} {E:Value→W2→Prop}
end
end L2
namespace Att
open PySem PySem.W PySem.Calls PyProof.Rows
theorem z66:∀ (ns:List Int) (vs:List Value),WellAll P h vs (ns.map WData.int)→IntsAre vs ns:=by
 intro ns
 induction ns with
 | nil =>
  intro vs w
  rw [Jy] at w
  cases w
  exact .nil
 | cons n ns ih =>
  intro vs w
  rw [WB] at w
  cases w with
  | cons a b =>
   cases a
   exact .cons _ _ (ih _ b)
theorem zam {l:OpenLaw} {n:Nat} (hn:l.most=some n) {P:Params} {h:Heap} {args:List WData} {vals:List Value}
  (hpre:l.row.toRowW.claim.pre args=true) (hwl:WellAll P h vals args) :
  ∃ a vs ns,vals=[Value.ref a]∧args=[WData.list (ns.map WData.int)]∧h.get? a=some { cls:=.type "list",data:=.seq vs.toArray }∧IntsAre vs ns∧ns.length≤n:=by
 have hsh:WShape.hasAll [] args [.list .int]=true:=(pre_splitW hpre).1
 have hc:l.pre.holds [] { args:=args } = true:=(pre_splitW hpre).2
 obtain ⟨d,r,rfl,h1,h2⟩:=hasAllW_cons hsh
 obtain rfl:=hasAllW_nil h2
 obtain ⟨xs,rfl,h3⟩:=hasW_list h1
 obtain ⟨ns,rfl⟩:=items_int h3
 have hlen:ns.length≤n:=by
  unfold OpenLaw.pre at hc
  have h4:(WTm.not (.lt (.lit (.int (n:Int))) (.len (.arg 0)))).holds [] { args:=[.list (ns.map .int)] } = true:=by
   have h4:=(holds_andW hc).1
   rw [hn] at h4
   exact h4
  have h5:=condW_of h4 (w_not (w_lt w_lit (w_len_list (w_arg rfl))))
  rw [Wu] at h5
  refine Nat.le_of_not_lt fun q=>?_
  have q':(n:Int) < ((ns.length:Nat):Int):=by omega
  first
   | (rw [decide_eq_true q'] at h5; exact absurd h5 (by decide))
   | (simp at h5; omega)
 cases hwl with
 | cons w1 w2 =>
  cases w2
  cases w1 with
  | list ho hall=>exact ⟨_,_,ns,rfl,rfl,ho,z66 ns _ hall,hlen⟩
theorem zaD (l:OpenLaw) (args:List WData):l.row.toRowW.claim.post args (.bool true) args=true :=
 postW_of (r:=l.row.toRowW) (X:=(true == true))
  (show WShape.has [] (.bool true) .bool=true by first | rfl | decide | simp [WShape.has,WShape.arms,WShape.armsAll])
  (show (WTm.eq .res (.lit (.bool true))).value [] { args:=args,res:=some (.bool true),after:=args } = some (.bool (true == true)) from w_eq_bool (w_res rfl) w_lit) rfl
theorem attach_call {l:OpenLaw} {n:Nat} {q:Wk} {loose:List Str} {XP:(Str→Option Value)→Heap→Prop} {YP:Wr→Heap→Prop} {d:DefRec}
  (hn:l.most=some n) (hdf:d.params.defaults=[])
  (call:∀ (w:Wr) (s₀ s₁:W2) (mg mb:Str→Option Value) (fa:Addr) (o:Obj) (pm cd doc:Value) (a:Addr) (vs:List Value) (ns:List Int),
   Ground q loose [] XP w s₀ mg mb s₁.heap→YP w s₁.heap →
   s₁.heap.get? fa=some o→o.data = .func (docDef d.name d.params d.body d.scope pm cd doc)→s₁.heap.CodeRec cd d.name→mg d.name=some (.ref fa) →
   s₁.heap.get? a=some { cls:=.type "list",data:=.seq vs.toArray }→IntsAre vs ns→ns.length≤n→s₁.gens = #[] →
   QA (model l.prog w) callerA (.call (.ref fa) ⟨[.ref a],[]⟩) (fun r s'=>r = .ok (.ret (.bool true))∧OldK s₁.heap s'.heap∧s'.os=s₁.os∧AllBare s'.gens) s₁) :
  WalkO q loose XP YP l.row.toRowW d [] (fun f vs=>PySem.call f vs):=by
 intro w s₀ s₁ mg mb G Y fa o pm cd doc dV kV ho hd hcd hD hmg hg args vals as hpre hlay hrd hwl hlo
 obtain rfl:dV = .none:=Dflts.none hD hdf
 obtain rfl:kV = .none:=Dflts.noKw hD
 obtain ⟨a,vs,ns,rfl,rfl,hobj,hints,hlen⟩:=zam hn hpre hwl
 refine enter_call (QN (call w s₀ s₁ mg mb fa o pm cd doc a vs ns G Y ho (fd_plain hd) hcd hmg hobj hints hlen hg) fun r s' hq=>?_)
 obtain ⟨rfl,h2,h3,h4⟩:=hq
 exact ⟨.inl ⟨.bool true,.bool true,[],rfl,fun _=>rfl,.bool true,zaD l _,fun _=>⟨List.Pairwise.nil,fun _ hm=>(nomatch hm)⟩⟩,h2,h3,h4⟩
section
variable {prog:Wk} {w:Wr} {A:Wp} {E:Value→W2→Prop} {s:W2} {K:Frag}
end
end Att
namespace L2
open PySem PySem.Spec PyProof.Rows
theorem vals_ints:∀ {vs:List Value} {ns:List Int},IntsAre vs ns→Vals (ns.map V.int) vs
 | _,_,.nil=>.nil
 | _,_,.cons n t h=>.cons ⟨t,rfl⟩ (vals_ints h)
def Only (H:Hp):Prop:=∀ b,H b=none∨∃ o xs,H b=some (.frz o (.lst xs))
theorem zcB {P:Wk} {w:Wr} {K:W0} {mg mb:Str→Option Value} {CX:CXT} {k:Nat} {fa a:Addr} {fd:WD} {x:Str} {sp:Sp} {s₁:W2} {vs:List Value} {ns:List Int}
  (KX:K.In s₁.heap) (hns:s₁.heap.Ns Wl mg) (hb:s₁.heap.Ns builtinsNs mb) (hbb:∀ x:Str,x≠"__name__"→mb x=Q1 x) (hlim:s₁.heap.NoLimit) (hg:s₁.gens = #[])
  (ha:s₁.heap.get? a=some { cls:=.type "list",data:=.seq vs.toArray }) (hi:IntsAre vs ns) (hl:ns.length≤W8) (hr:Room k callerA)
  (F:∀ base:Heap,K.In base→base.Ns Wl mg→FnOk P w K mg base CX k fa fd [x] sp) (hbind:∀ (s:W2) (u:Value),BindsTo s fd ⟨[u],[]⟩ [(x,u)])
  (hsp:∀ H:Hp,Only H→SqL K H a (ns.map V.int)→sp [.ref a] H (fun v _=>v = .bl true) fun _ _ _=>False)
  (hCX:∀ H e s',CX [] H s₁ (fun _ _ _=>False) e s'→False) :
  QA (model P w) callerA (.call (.ref fa) ⟨[.ref a],[]⟩) (fun r s'=>r = .ok (.ret (.bool true))∧OldK s₁.heap s'.heap∧s'.os=s₁.os∧AllBare s'.gens) s₁:=by
 have rv:=vals_ints hi
 have lenV:=hi.length
 -- from an abstract heap in which nothing but the script may be tracked
 have core:∀ H:Hp,Only H→SqL K H a (ns.map V.int)→HOk P w H s₁.heap→(∀ b,H b≠none→b=a)→(H a≠none→K.lookup a=none) →
   QA (model P w) callerA (.call (.ref fa) ⟨[.ref a],[]⟩) (fun r s'=>r = .ok (.ret (.bool true))∧OldK s₁.heap s'.heap∧s'.os=s₁.os∧AllBare s'.gens) s₁:=by
  intro H hO hS hok hA hK
  have base_of:∀ {b:Addr} {o:Obj},s₁.heap.get? b=some o→H b=none→(hidT s₁.heap H).get? b=some o:=fun e n=>zcH e n
  have noA:∀ {b:Addr} {o:Obj} {es:Array DictEntry} {ep:Nat},s₁.heap.get? b=some o→o.data = .dict es ep→H b=none:=fun {b o es ep} e d=>by
   cases q:H b with
   | none=>rfl
   | some u =>
    have e':b=a:=hA b (by rw [q]; simp)
    subst e'
    rw [ha] at e; cases e
    have d':Data.seq vs.toArray _=Data.dict es ep:=d
    cases d'
  have nsK:∀ {b:Addr} {m:Str→Option Value},s₁.heap.Ns b m→(hidT s₁.heap H).Ns b m:=fun {b m} ⟨o,es,ep,e,d,r⟩=>⟨o,es,ep,base_of e (noA e d),d,r⟩
  have hKb:K.In (hidT s₁.heap H):=fun b o e=>base_of (KX b o e) (by
   cases q:H b with
   | none=>rfl
   | some u =>
    have e':b=a:=hA b (by rw [q]; simp)
    subst e'
    rw [hK (by rw [q]; simp)] at e; cases e)
  have hM:Mod K mg (hidT s₁.heap H):=⟨hKb,nsK hns,⟨mb,nsK hb,hbb⟩,let ⟨mc,h1,h2⟩:=hlim; ⟨mc,nsK h1,h2⟩⟩
  have e0:Env0 P w K mg (hidT s₁.heap H) callerA [] s₁ H:=⟨rfl,hM,fun b o e=>zer e,Nat.le_of_eq (zbb _ _),trivial,fun b hb=>absurd (show b ∈ ([]:List Addr) from hb) (by simp),hok,.of_eq hg⟩
  refine QN ((F _ hKb (nsK hns)).run callerA [] s₁ H ⟨[.ref a],[]⟩ [.ref a] [.ref a] _ _ hr e0 (hbind s₁ (.ref a)) (.cons rfl .nil) (hsp H hO hS)) fun r s' h=>?_
  cases r with
  | error e=>exact (hCX H e s' h).elim
  | ok fl =>
   cases fl with
   | next=>exact False.elim h
   | brk=>exact False.elim h
   | cont=>exact False.elim h
   | ret u =>
    obtain ⟨v,H',os,bare,un,hok',r',q⟩:=h
    have q':v = .bl true:=q
    subst q'
    obtain rfl:u=Value.bool true:=r'
    refine ⟨rfl,OldK.of_keep fun b o e=>?_,os,bare⟩
    cases q:H b with
    | none=>exact un.keep b o e q (by intro z; exact absurd (show b ∈ ([]:List Addr) from z) (by simp)) (by simp)
    | some u =>
     rcases hO b with z | ⟨ob,xs,z⟩
     ·rw [q] at z; cases z
     ·have z2:=un.frzs b ob _ z
      obtain ⟨e1,_⟩:=hok b _ z
      obtain ⟨e2,_⟩:=hok' b _ z2
      rw [e] at e1; cases e1
      exact e2
 cases hk:K.lookup a with
 | some o =>
  -- the script is one of the module's own objects
  have e:=KX a o hk
  rw [ha] at e
  cases e
  refine core (fun _=>none) (fun _=>.inl rfl) (.inr ⟨_,vs.toArray,_,hk,rfl,rfl,rfl,by rw [Wf,lenV]; exact hl,by simpa using rv⟩) (fun b u z=>by have z':(none:Option HO)=some u:=z; cases z') (fun b z=>absurd rfl z) fun z=>absurd rfl z
 | none =>
  refine core (fun b=>if b=a then some (.frz { cls:=.type "list",data:=.seq vs.toArray } (.lst (ns.map V.int))) else none) (fun b=>?_) (.inl (.inr ⟨{ cls:=.type "list",data:=.seq vs.toArray },if_pos rfl⟩)) (fun b u z=>?_) (fun b z=>?_) fun _=>hk
  ·by_cases hb:b=a
   ·exact .inr ⟨_,_,if_pos hb⟩
   ·exact .inl (if_neg hb)
  ·by_cases hb:b=a
   ·have z':=(if_pos hb).symm.trans z
    cases z'
    subst hb
    exact ⟨ha,by rw [Wu]; exact hl,vs,_,rv,ha⟩
   ·have z':=(if_neg hb).symm.trans z
    cases z'
  ·by_cases hb:b=a
   ·exact hb
   ·exact absurd (if_neg hb) z
abbrev KOf {K:W0} {h:Heap} (_:K.In h):W0:=K
theorem walk_of {l:PySem.W.OpenLaw} {n k:Nat} {q:Wk} {loose:List Str} {XP:(Str→Option Value)→Heap→Prop} {YP:Wr→Heap→Prop} {d:DefRec} {K:Params→W0} {CX:Wr→CXT} {sp:Wr→Sp} {x:Str}
  (hn:l.most=some n) (hn2:n≤W8) (hdf:d.params.defaults=[]) (hr:Room k callerA)
  (hY:∀ (w:Wr) (h:Heap),YP w h→(K w.params).In h)
  (F:∀ (w:Wr) (mg:Str→Option Value) (fa:Addr) (h:Heap),(K w.params).In h→h.Ns Wl mg→mg d.name=some (.ref fa) →
   ∃ fd:WD,(∀ (s:W2) (u:Value),BindsTo s fd ⟨[u],[]⟩ [(x,u)]) ∧
    ∀ base:Heap,(K w.params).In base→base.Ns Wl mg→FnOk l.prog w (K w.params) mg base (CX w) k fa fd [x] (sp w))
  (hsp:∀ (w:Wr) (H:Hp) (a:Addr) (ns:List Int),ns.length≤n→Only H→SqL (K w.params) H a (ns.map V.int)→sp w [.ref a] H (fun v _=>v = .bl true) fun _ _ _=>False)
  (hCX:∀ (w:Wr) (H:Hp) (s:W2) (e:Value) (s':W2),CX w [] H s (fun _ _ _=>False) e s'→False) :
  PySem.W.WalkO q loose XP YP l.row.toRowW d [] (fun f vs=>PySem.call f vs):=by
 refine Att.attach_call hn hdf fun w s₀ s₁ mg mb fa o pm cd doc a vs ns G Y ho hd hcd hmg hobj hints hlen hg=>?_
 have KX:=hY w _ Y
 obtain ⟨fd,hb,hF⟩:=F w mg fa _ KX G.T.g hmg
 exact zcB KX G.T.g G.T.b G.T.builtins G.T.nolimit hg hobj hints (Wn hlen hn2) hr hF hb (fun H hO hS=>hsp w H a ns hlen hO hS) fun H e s'=>hCX w H s₁ e s'
def z35 (s:Stmt):Arguments:=match s with
 | .FunctionDef _ a _ _ _ _ _ _ _ _=>a
 | _=>{ posonlyargs:=[],args:=[],vararg:=none,kwonlyargs:=[],kw_defaults:=[],kwarg:=none,defaults:=[] }
def z1n (s:Stmt):List Stmt:=match s with
 | .FunctionDef _ _ b _ _ _ _ _ _ _=>b
 | _=>[]
def z05 (s:Stmt):Scope:=match s with
 | .FunctionDef _ _ _ _ _ _ sc _ _ _=>sc
 | _=>{ kind:=.function,names:=[],isGenerator:=false,isCoroutine:=false }
abbrev CX0:CXT:=fun _ _ _ _ _ _=>False
abbrev E0:XK:=fun _ _ _=>False
theorem pass0:zbJ CX0 X E0:=fun _ _ _ _ _ _ _ h=>h.elim
structure Fun (K:W0) (x qual:Str) (st:Stmt) (f:Addr) (fd:WD):Prop where
 ex:∃ (oc:Value) (od:Option Addr) (kV doc pm:Value) (an:Option Addr) (cdv ct:Value) (osl:Array (Option Value)),
  fd=Qk x qual (z35 st) (z1n st) (z05 st) .none kV doc pm an cdv ct∧K.lookup f=some ⟨oc,od,.func fd,osl⟩∧PySem.W.codeIn K cdv qual=true
 kp:Q3 K (.ref f)=true
section
variable {P:Wk} {w:Wr} {K:W0} {mg:Str→Option Value} {base:Heap}
theorem Fun.ok {x qual:Str} {st:Stmt} {f:Addr} {fd:WD} {N ps:List Str} {k:Nat} {sp:Sp} (F:Fun K x qual st f fd) (S:FnScope N ps (z05 st)) (len:∀ vs H Q E,sp vs H Q E→vs.length=ps.length)
  (hbody:∀ (cdv:Value) (A:Wp) (outer:List Env) (s:W2) (H:Hp) (vs:List V) (Q:VK) (E:XK),Room k (A.deeper (QO qual (z05 st) s.heap.objs.size f cdv))→sp vs H Q E →
   ∃ t,PSs (cxOf CX0 P w K mg base N qual (z05 st) f cdv A outer s H E).nox (z1n st) t∧t { nx:=fun _ H'=>Q .non H',rt:=Q } (start N vs) H):FnOk P w K mg base CX0 (k + 1) f fd ps sp:=by
 obtain ⟨oc,od,kV,doc,pm,an,cdv,ct,osl,rfl,lk,hcd⟩:=F.ex
 refine zgu lk hcd S len fun A outer s H vs Q E hr hsp=>?_
 obtain ⟨t,h,q⟩:=hbody cdv A outer s H vs Q E hr hsp
 exact ⟨t,h.nox,q⟩
theorem Fun.binds {x qual:Str} {st:Stmt} {f:Addr} {fd:WD} {ps:List Str} (F:Fun K x qual st f fd)
  (h:∀ (kV doc pm:Value) (an:Option Addr) (cdv ct:Value) (us:List Value),us.length=ps.length→bindArgs (Qk x qual (z35 st) (z1n st) (z05 st) .none kV doc pm an cdv ct) ⟨us,[]⟩=pure (ps.zip us)):Binds K fd ps []:=by
 obtain ⟨oc,od,kV,doc,pm,an,cdv,ct,osl,rfl,lk,hcd⟩:=F.ex
 exact .all (h kV doc pm an cdv ct)
theorem zbf {x qual:Str} {st:Stmt} {f:Addr} {oc:Value} {od an:Option Addr} {osl:Array (Option Value)} {kV doc pm cdv ct:Value} (l:K.lookup f=some ⟨oc,od,.func (Qk x qual (z35 st) (z1n st) (z05 st) .none kV doc pm an cdv ct),osl⟩)
  (c:PySem.W.codeIn K cdv qual=true) (k:Q3 K (.ref f)=true):Fun K x qual st f (Qk x qual (z35 st) (z1n st) (z05 st) .none kV doc pm an cdv ct):=⟨⟨oc,od,kV,doc,pm,an,cdv,ct,osl,rfl,l,c⟩,k⟩
end
theorem zag (h:n≤1000):n < W8:=Nat.lt_of_le_of_lt h (by decide)
section
variable {X:Cx}
theorem pv (i:Nat) (hN:X.N[i]? = some x:=by rfl) (hv:Vis X.env.scope x:=by first | exact Or.inl rfl | exact Or.inr (Or.inl rfl) | exact Or.inr (Or.inr rfl)) (hd:(x == ("__debug__" : Str))=false:=by decide)
  (hcd:(x == ("__classdict__" : Str))=false:=by decide):PE X (.Name x pos) (tVar i):=zfM hN hv hd hcd
theorem zbz:CallR X (.builtin "len") (fun xs H Q=>∃ a kvs,xs=[V.ref a]∧H a=some (.dK kvs)∧Q (.int kvs.length) H):=by
 intro pins s σ H xs us Q I r h
 obtain ⟨a,kvs,rfl,ha,q⟩:=h
 obtain ⟨u,rfl,ru⟩:=z4p r
 cases ru
 exact d_len I (.inl ha) fun t s' I'=>⟨.int kvs.length,H,I',⟨t,rfl⟩,q⟩
end
section
variable {κ:Type} [DecidableEq κ]
end
def z24 (cells:List (Str×Addr)):List (Str×NameKind)→List (Str×Addr)→List (Str×Addr)
 | [],acc=>acc
 | (n,k) :: r,acc=>z24 cells r (if k == .free then (match cells.lookup n with | some a=>(n,a) :: acc | none=>acc) else acc)
theorem z4g (f:Str×NameKind→List (Str×Addr)→Sem (ForInStep (List (Str×Addr))))
  (hf:∀ name kind cs,f (name,kind) cs=if kind == .free then (do let a ← cellOf env name; pure (.yield ((name,a) :: cs))) else pure (.yield cs)) :
  ∀ (names:List (Str×NameKind)) (acc:List (Str×Addr)),(∀ x ∈ names,x.2=NameKind.free→∃ c,env.cells.lookup x.1=some c)→(forIn names acc f:Sem (List (Str×Addr)))=pure (z24 env.cells names acc)
 | [],acc,_=>by rw [List.forIn_nil]; rfl
 | (n,k) :: r,acc,h=>by
  rw [List.forIn_cons,hf]
  unfold z24
  by_cases hk:(k == NameKind.free)=true
  ·obtain ⟨c,hc⟩:=h (n,k) Wi (by simpa using hk)
   have hc':env.cells.lookup n=some c:=hc
   have e:cellOf env n=pure c:=by unfold cellOf; rw [hc']
   rw [if_pos hk,if_pos hk,e,hc']
   exact z4g f hf r _ fun x hx=>h x (Wc _ hx)
  ·rw [if_neg hk,if_neg hk]
   exact z4g f hf r _ fun x hx=>h x (Wc _ hx)
theorem z6N (h:∀ x ∈ scope.names,x.2=NameKind.free→∃ c,env.cells.lookup x.1=some c):closureFor scope env=pure (z24 env.cells scope.names []):=by
 unfold closureFor
 dsimp only
 rw [z4g (env:=env) _ (fun name kind cs=>by cases hkc:kind == NameKind.free <;> simp [hkc]) scope.names [] h]
 rfl
theorem z6M:∀ (names:List (Str×NameKind)) (acc:List (Str×Addr)),(n,c) ∈ z24 cells names acc→(n,c) ∈ acc∨((n,NameKind.free) ∈ names∧cells.lookup n=some c)
 | [],acc,h=>.inl h
 | (y,k) :: r,acc,h=>by
  unfold z24 at h
  rcases z6M r _ h with q | ⟨q,e⟩
  ·by_cases hk:(k == NameKind.free)=true
   ·rw [if_pos hk] at q
    have hk':k=NameKind.free:=by simpa using hk
    cases e:cells.lookup y with
    | none=>rw [e] at q; exact .inl q
    | some a =>
     rw [e] at q
     rcases Wh.mp q with z | z
     ·cases z
      exact .inr ⟨by rw [hk']; exact Wi,e⟩
     ·exact .inl z
   ·rw [if_neg hk] at q; exact .inl q
  ·exact .inr ⟨Wc _ q,e⟩
theorem z6e:∀ (names:List (Str×NameKind)) (acc:List (Str×Addr)),(acc.lookup n).isSome=true∨((n,NameKind.free) ∈ names∧(cells.lookup n).isSome=true)→((z24 cells names acc).lookup n).isSome=true
 | [],acc,h=>h.elim id fun z=>absurd z.1 (by simp)
 | (y,k) :: r,acc,h=>by
  unfold z24
  apply z6e r
  by_cases hk:(k == NameKind.free)=true
  ·rw [if_pos hk]
   cases e:cells.lookup y with
   | none =>
    rcases h with h | ⟨h1,h2⟩
    ·exact .inl h
    ·rcases Wh.mp h1 with z | z
     ·cases z
      rw [e] at h2; cases h2
     ·exact .inr ⟨z,h2⟩
   | some a =>
    by_cases hn:(n == y)=true
    ·refine .inl ?_
     show (List.lookup n ((y,a) :: acc)).isSome=true
     rw [WJ,hn]
     rfl
    ·rcases h with h | ⟨h1,h2⟩
     ·refine .inl ?_
      show (List.lookup n ((y,a) :: acc)).isSome=true
      have hn':(n == y)=false:=by simpa using hn
      rw [WJ,hn']
      exact h
     ·rcases Wh.mp h1 with z | z
      ·cases z
       exact absurd (by simp) hn
      ·exact .inr ⟨z,h2⟩
  ·rw [if_neg hk]
   rcases h with h | ⟨h1,h2⟩
   ·exact .inl h
   ·rcases Wh.mp h1 with z | z
    ·cases z
     exact absurd rfl hk
    ·exact .inr ⟨z,h2⟩
theorem zbw:∀ (names:List (Str×NameKind)) (h:Heap) (acc:List (Str×Addr)),(n,c) ∈ Qf h.objs.size names acc →
  (n,c) ∈ acc∨((n,NameKind.cell) ∈ names∧h.objs.size≤c∧(Jl h names).IsCell c none)
 | [],_,_,h=>.inl h
 | (y,k) :: r,h,acc,hm=>by
  unfold Qf at hm
  unfold Jl
  by_cases hk:(k == NameKind.cell)=true
  ·rw [if_pos hk] at hm
   rw [if_pos hk]
   have hk':k=NameKind.cell:=by simpa using hk
   have sz:(h.push { cls:=.type "cell",data:=.cell none }).objs.size=h.objs.size + 1:=QM ..
   rw [← sz] at hm
   rcases zbw r _ _ hm with q | ⟨q1,q2,q3⟩
   ·rcases Wh.mp q with z | z
    ·cases z
     refine .inr ⟨by rw [hk']; exact Wi,W7 _,?_⟩
     exact Heap.IsCell.keeps ⟨_,Wm _ rfl,rfl⟩ (pushCells_keeps r _)
    ·exact .inl z
   ·exact .inr ⟨Wc _ q1,by rw [sz] at q2; omega,q3⟩
  ·rw [if_neg hk] at hm
   rw [if_neg hk]
   rcases zbw r _ _ hm with q | ⟨q1,q2,q3⟩
   ·exact .inl q
   ·exact .inr ⟨Wc _ q1,q2,q3⟩
theorem zbx:∀ (names:List (Str×NameKind)) (k:Nat) (acc:List (Str×Addr)),(∀ n n' c,(n,c) ∈ acc→(n',c) ∈ acc→n=n')→(∀ n c,(n,c) ∈ acc→c < k) →
  ∀ n n' c,(n,c) ∈ Qf k names acc→(n',c) ∈ Qf k names acc→n=n'
 | [],_,_,h,_=>h
 | (y,kd) :: r,k,acc,h,hb=>by
  unfold Qf
  by_cases hk:(kd == NameKind.cell)=true
  ·rw [if_pos hk]
   refine zbx r (k + 1) _ (fun n n' c h1 h2=>?_) fun n c hm=>?_
   ·rcases Wh.mp h1 with e | h1 <;> rcases Wh.mp h2 with e' | h2
    ·cases e; cases e'; rfl
    ·cases e; exact absurd (hb _ _ h2) (Q0 _)
    ·cases e'; exact absurd (hb _ _ h1) (Q0 _)
    ·exact h n n' c h1 h2
   ·rcases Wh.mp hm with e | hm
    ·cases e; exact Nat.lt_succ_self _
    ·exact J3 (hb _ _ hm)
  ·rw [if_neg hk]
   exact zbx r k acc h hb
theorem z0X {env:Env} {x:Str}:∀ {names:List (Str×NameKind)} {k:NameKind},
  (names.map fun (y:Str×NameKind)=>if (y.2 == NameKind.free && env.scope.kind == .function && env.kindOf y.1 == some .cell) then (y.1,NameKind.cell) else (y.1,y.2)).lookup x=some k →
  names.lookup x=some k∨(k=NameKind.cell∧names.lookup x=some .free)
 | [],_,h=>by simp at h
 | (n,kd) :: r,k,h=>by
  rw [WB] at h
  have ih:=@z0X env x r k
  cases hx:x == n with
  | true =>
   by_cases hc:(kd == NameKind.free && env.scope.kind == .function && env.kindOf n == some .cell)=true
   ·rw [if_pos hc,WJ,hx] at h
    cases h
    simp only [We] at hc
    have:kd=NameKind.free:=by simpa using hc.1.1
    exact .inr ⟨rfl,by rw [WJ,hx,this]⟩
   ·rw [if_neg hc,WJ,hx] at h
    cases h
    exact .inl (by rw [WJ,hx])
  | false =>
   have h':(r.map fun (y:Str×NameKind)=>if (y.2 == NameKind.free && env.scope.kind == .function && env.kindOf y.1 == some .cell) then (y.1,NameKind.cell) else (y.1,y.2)).lookup x=some k:=by
    by_cases hc:(kd == NameKind.free && env.scope.kind == .function && env.kindOf n == some .cell)=true
    ·rw [if_pos hc,WJ,hx] at h; exact h
    ·rw [if_neg hc,WJ,hx] at h; exact h
   rw [WJ,hx]
   exact ih h'
def z1I (X:Cx) (scope:Scope) (s₀:W2) (H₀:Hp) (ex:List Addr):Cx :=
 { X with
  env:={ scope:=relabel scope X.env,locals:=s₀.heap.objs.size,globals:=X.env.globals,cells:=Qf (s₀.heap.objs.size + 1) scope.names (z24 X.env.cells scope.names []),qual:=X.env.qual,func:=none,code:=X.env.code,frame:=X.env.frame,builtins:=X.env.builtins }
  s₀:=s₀
  H₀:=H₀
  outer:=X.stack
  ex:=ex
  fn:=fun x=>scope.names.lookup x == some .cell
  pn:=[]
  xe:=fun _ _=>False }
structure CScope (X:Cx) (scope:Scope) (cs:List Nat):Prop where
 kind:scope.kind = .function
 names:∀ x ∈ scope.names,x.2 = .local→scope.names.lookup x.1=some .local
 free:∀ x ∈ scope.names,x.2 = .free→X.env.kindOf x.1=some .cell∨X.env.kindOf x.1=some .free
 nd:(scope.names.map (·.1)).Nodup
 own:∀ (i:Nat) x,X.N[i]? = some x→scope.names.lookup x=some .local∨scope.names.lookup x=some .cell→i ∈ cs
def clr (cs:List Nat) (σ:St):St:=cs.foldl (fun σ i=>σ.set i none) σ
theorem z7u (cs:List Nat):∀ σ:St,(clr cs σ).length=σ.length:=by
 induction cs with
 | nil=>intro σ; rfl
 | cons i r ih =>
  intro σ
  show (clr r (σ.set i none)).length=_
  rw [ih]; simp
theorem z3A:∀ (cs:List Nat) (σ:St) (i:Nat) (v:V),(clr cs σ)[i]? = some (some v)→σ[i]? = some (some v)∧i ∉ cs:=by
 intro cs
 induction cs with
 | nil=>intro σ i v h; exact ⟨h,by simp⟩
 | cons j r ih =>
  intro σ i v h
  have h':(clr r (σ.set j none))[i]? = some (some v):=h
  obtain ⟨h1,h2⟩:=ih _ i v h'
  by_cases e:j=i
  ·subst e
   rw [WK] at h1
   simp at h1
  ·rw [W9 e] at h1
   exact ⟨h1,by simp only [Wh,not_or]; exact ⟨Ne.symm e,h2⟩⟩
theorem z5V:∀ {l:List (Str×α)},(l.map (·.1)).Nodup→(x,k) ∈ l→(x,k') ∈ l→k=k'
 | (y,j) :: r,nd,h1,h2=>by
  rw [WB,List.nodup_cons] at nd
  rcases Wh.mp h1 with e | g1 <;> rcases Wh.mp h2 with e' | g2
  ·cases e; cases e'; rfl
  ·cases e; exact absurd (QS (f:=(·.1)) g2) nd.1
  ·cases e'; exact absurd (QS (f:=(·.1)) g1) nd.1
  ·exact z5V nd.2 g1 g2
section
variable {X:Cx} {pins:List (Addr×Obj)} {σ:St} {H:Hp} {s:W2} {scope:Scope} {cs:List Nat} {fp:List Addr}
theorem za1 (I:Inv X pins σ H s) (S:CScope X scope cs) (hf:∀ b ∈ fp,FpOk X pins H b) (hlt:∀ b ∈ fp,b < s.heap.objs.size) :
  Inv (z1I X scope s H fp) [] (clr cs σ) H { s with heap:=Jl (s.heap.push { cls:=.type "dict",data:=.dict #[] }) scope.names }:=by
 have sz:(s.heap.push { cls:=.type "dict",data:=.dict #[] }).objs.size=s.heap.objs.size + 1:=QM ..
 have kp:∀ b o,s.heap.get? b=some o→(Jl (s.heap.push { cls:=.type "dict",data:=.dict #[] }) scope.names).get? b=some o:=fun b o e=>pushCells_keeps _ _ b o (W6 _ e)
 have clo:∀ n c,(n,c) ∈ z24 X.env.cells scope.names []→(n,NameKind.free) ∈ scope.names∧X.env.cells.lookup n=some c:=fun n c h=>(z6M _ _ h).elim (fun z=>absurd z (by simp)) id
 have cltm:∀ n c,(n,c) ∈ z24 X.env.cells scope.names []→c < s.heap.objs.size:=fun n c h=>by
  obtain ⟨v,q⟩:=I.cell n c (clo n c h).2
  exact q.lt
 have cel:∀ n c,(n,c) ∈ Qf (s.heap.objs.size + 1) scope.names (z24 X.env.cells scope.names []) →
   ((n,NameKind.free) ∈ scope.names∧X.env.cells.lookup n=some c)∨((n,NameKind.cell) ∈ scope.names∧s.heap.objs.size + 1≤c∧(Jl (s.heap.push { cls:=.type "dict",data:=.dict #[] }) scope.names).IsCell c none):=fun n c h=>by
  rw [← sz] at h
  rcases zbw _ _ _ h with q | q
  ·exact .inl (clo n c q)
  ·rw [sz] at q; exact .inr q
 have cinj:=zbx scope.names (s.heap.objs.size + 1) (z24 X.env.cells scope.names []) (fun n n' c h1 h2=>I.ok.inj n n' c (clo n c h1).2 (clo n' c h2).2) (fun n c h=>J3 (cltm n c h))
 have hasC:∀ x ∈ scope.names,x.2 = .free→∃ c,X.env.cells.lookup x.1=some c:=fun x hx hk=>I.ok.has x.1 (S.free x hx hk)
 have fpn:∀ b ∈ fp,b ∉ frs X.stack:=fun b hb z=>by
  obtain ⟨_,f1,f2,_⟩:=hf b hb
  rcases Wh.mp (I.stkSub b z) with e | e
  ·exact f1 e
  ·exact f2 e
 have kindC:∀ x,(z1I X scope s H fp).env.kindOf x=some .cell∨(z1I X scope s H fp).env.kindOf x=some .free→scope.names.lookup x=some .cell∨scope.names.lookup x=some .free:=fun x h=>by
  rcases h with h | h
  ·have h':(relabel scope X.env).names.lookup x=some .cell:=h
   rcases z0X (env:=X.env) (names:=scope.names) h' with q | ⟨_,q⟩
   ·exact .inl q
   ·exact .inr q
  ·have h':(relabel scope X.env).names.lookup x=some .free:=h
   rcases z0X (env:=X.env) (names:=scope.names) h' with q | ⟨q,_⟩
   ·exact .inr q
   ·cases q
 have hasIt:∀ x,scope.names.lookup x=some .cell∨scope.names.lookup x=some .free→∃ c,(Qf (s.heap.objs.size + 1) scope.names (z24 X.env.cells scope.names [])).lookup x=some c:=fun x h=>by
  refine QP.mp (J1 scope.names _ _ ?_)
  rcases h with h | h
  ·exact .inl h
  ·refine .inr (z6e _ _ (.inr ⟨Wv h,?_⟩))
   obtain ⟨c,hc⟩:=hasC _ (Wv h) rfl
   exact Option.isSome_iff_exists.mpr ⟨c,hc⟩
 have ns0:(Jl (s.heap.push { cls:=.type "dict",data:=.dict #[] }) scope.names).Ns s.heap.objs.size fun _=>none:=(Heap.Ns.new s.heap (.type "dict")).keeps (pushCells_keeps _ _)
 refine ⟨⟨I.ok.mod,S.kind,I.ok.glob,I.ok.blt,W7 _,fun y z c h1 h2=>cinj y z c (Wv h1) (Wv h2),fun x hx=>hasIt x (kindC x hx),fun x c hfn h=>?_,I.ok.hd,I.ok.frames,.inl rfl,
  fun b hb=>⟨Wy (hlt b hb),fun x c h e=>?_⟩,I.bs,Wn I.ok.bsz I.sz,fun b o e hb=>?_,fpn,I.stack,I.stkFree⟩,
  rfl,I.bare,Un.kept kp,⟨fun _=>none,ns0,fun i x v h1 h2 h3=>?_⟩,fun x c h=>?_,I.hok.fresh (W7 _),fun x c h=>?_,fun p hp=>absurd (show p ∈ ([]:List (Addr×Obj)) from hp) (by simp),I.hok.kept kp,(z7u cs σ).trans I.len⟩
 ·rcases cel x c (Wv h) with q | q
  ·have hfn':scope.names.lookup x=some .cell:=by
    have:(scope.names.lookup x == some .cell)=true:=hfn
    exact eq_of_beq this
   have:=z5V S.nd q.1 (Wv hfn')
   cases this
  ·exact Nat.le_of_succ_le q.2.1
 ·subst e
  rcases cel x c (Wv h) with q | q
  ·exact (hf c hb).2.2.2.2.1 x c q.2 rfl
  ·exact absurd (Wx (hlt c hb) (Nat.le_of_succ_le q.2.1)) (Q0 _)
 ·obtain ⟨_,_,_,f3,_⟩:=hf b hb
  rcases f3 with z | z
  ·exact I.ok.noex b o e z
  ·exact absurd (Wx (Wg (I.ok.bs b o e).1) z) (Q0 _)
 ·obtain ⟨h2',hni⟩:=z3A cs σ i v h2
  have hni':¬ (scope.names.lookup x=some .local∨scope.names.lookup x=some .cell):=fun z=>hni (S.own i x h1 z)
  have hfree:scope.names.lookup x=some .free:=by
   rcases h3 with h3 | h3 | h3
   ·rcases z0X (env:=X.env) (names:=scope.names) h3 with q | ⟨q,_⟩
    ·exact absurd (.inl q) hni'
    ·cases q
   ·rcases z0X (env:=X.env) (names:=scope.names) h3 with q | ⟨_,q⟩
    ·exact absurd (.inr q) hni'
    ·exact q
   ·rcases z0X (env:=X.env) (names:=scope.names) h3 with q | ⟨q,_⟩
    ·exact q
    ·cases q
  have hk:=S.free _ (Wv hfree) rfl
  obtain ⟨m,hn,hl⟩:=I.loc
  have hvis:Vis X.env.scope x:=by
   rcases hk with hk | hk
   ·exact .inr (.inl hk)
   ·exact .inr (.inr hk)
  obtain ⟨u,r,l⟩:=hl i x v h1 h2' hvis
  refine ⟨u,r,?_⟩
  rcases l with ⟨k,_⟩ | ⟨_,c,hc,hcell⟩
  ·have k':X.env.kindOf x=some .local:=k
   rcases hk with hk | hk
   ·rw [show X.env.kindOf x=some .cell from hk] at k'; cases k'
   ·rw [show X.env.kindOf x=some .free from hk] at k'; cases k'
  ·obtain ⟨c',hc'⟩:=hasIt x (.inr hfree)
   have e:c'=c:=by
    rcases cel x c' (Wv hc') with q | q
    ·have q2:=q.2
     rw [hc] at q2; exact (WA q2).symm
    ·have:=z5V S.nd q.1 (Wv hfree)
     cases this
   subst e
   refine .inr ⟨?_,c',hc',hcell.keeps kp⟩
   rcases h3 with h3 | h3 | h3
   ·rcases z0X (env:=X.env) (names:=scope.names) h3 with q | ⟨q,_⟩
    ·rw [hfree] at q; cases q
    ·cases q
   ·exact .inl h3
   ·exact .inr h3
 ·rcases cel x c (Wv h) with q | q
  ·obtain ⟨v,z⟩:=I.cell x c q.2
   exact ⟨v,z.keeps kp⟩
  ·exact ⟨none,q.2.2⟩
 ·rcases cel x c (Wv h) with q | q
  ·exact I.freeC x c q.2
  ·exact I.hok.fresh (Nat.le_of_succ_le q.2.1)
end
abbrev NoX:Value→W2→Prop:=fun _ _=>False
def zdp (ifs:List Expr) (env:Env):Sem Bool:=forIn ifs true fun c r=>if r=true then do let ok ← isTrue c env (eval c env); pure (ForInStep.yield ok) else pure (ForInStep.yield r)
theorem z8o (I:Nat→W2→Prop)
  (turn:∀ n s,I n s→Wa (model prog w) A (pyNext it) (fun r s₁=>match r with
   | none=>R (.ok .next) s₁
   | some v=>Wa (model prog w) A (letOwnedTupleGo target it v) (fun _ s₁'=>Wa (model prog w) A (assign target env v) (fun _ s₂ =>
     Wa (model prog w) A (zdp ifs env) (fun ok s₃ =>
      if ok=true then Wa (model prog w) A (eval elt env) (fun x s₄ =>
       Wa (model prog w) A (call (.builtin "list.append") [acc,x]) (fun _ s₅=>∃ m,m < n∧I m s₅) NoX s₄) NoX s₃
      else ∃ m,m < n∧I m s₃) NoX s₂) NoX s₁') NoX s₁) NoX s)
  (n:Nat) (h:I n s) :
  QA (model prog w) A (.compLoop (.ListComp elt [⟨target,iter,ifs,0⟩] scope pos) 0 it acc env) R s:=by
 refine codeAny_loop rfl I (fun n s hI=>?_) n h
 show Wa _ A ((compTurn (.ListComp elt [⟨target,iter,ifs,0⟩] scope pos) 0 it acc env).onRaise (fun x=>do Jm x env; theTreesLotGoes x)) _ _ s
 refine wpAny_noted ?_
 rw [compTurn_list]
 refine W1 (Jf (W1 (WO (turn n s hI) (fun r s₁ h₁=>?_) fun _ _ h'=>h'.elim)))
 cases r with
 | none=>exact Wd h₁
 | some v =>
  refine W1 (WO h₁ (fun _ s₁' h₁'=>?_) fun _ _ h'=>h'.elim)
  refine W1 (WO h₁' (fun _ s₂ h₂=>W1 (WO h₂ (fun ok s₃ h₃=>?_) fun _ _ h'=>h'.elim)) fun _ _ h'=>h'.elim)
  cases ok with
  | false=>exact Wd ⟨rfl,h₃⟩
  | true =>
   exact W1 (W1 (WO h₃ (fun x s₄ h₄=>W1 (WO h₄ (fun _ s₅ h₅=>Wd (Wd ⟨rfl,h₅⟩)) fun _ _ h'=>h'.elim)) fun _ _ h'=>h'.elim))
theorem z9R
  (h:Q { scope,locals:=s.heap.objs.size,globals,cells:=Qf (s.heap.objs.size + 1) scope.names cl,qual,func:=none,code:=env.code,frame:=env.frame,builtins:=env.builtins }
   { s with heap:=Jl (s.heap.push { cls:=.type "dict",data:=.dict #[] }) scope.names }):Wa M A (newFunctionEnv scope globals cl [] qual none .none (some env)) Q E s:=by
 simp only [newFunctionEnv,Option.isSome_some,if_true]
 refine W1 (wpAny_alloc ?_)
 refine W1 (wpAny_layCells _ (fun name kind cells=>by cases hkc:kind == NameKind.cell <;> simp [hkc]) _ _ _ _ ?_)
 rw [show ({ s with heap:=s.heap.push { cls:=.type "dict",data:=.dict #[] } }:W2).heap.objs.size=s.heap.objs.size + 1 from QM ..]
 exact W1 (Wd (Wd h))
def PTs (X:Cx) (ifs:List Expr) (t:TT):Prop :=
 ∀ (pins:List (Addr×Obj)) (s:W2) (σ:St) (H:Hp) (Q:Bool→Hp→Prop),Inv X pins σ H s→t σ H Q→Wa (model X.prog X.w) X.A (zdp ifs X.env) (TP X pins σ Q) X.xe s
def tYes:TT:=fun _ H Q=>Q true H
theorem ze9:PTs X [] tYes:=fun pins s σ H Q I h=>wpAny_tests_nil ⟨H,I,h⟩
theorem ze8 (h:PT X c t):PTs X [c] t:=fun pins s σ H Q I q=>wpAny_tests_one (h pins s σ H Q I q)
def Le (σ σ':St):Prop:=σ'.length=σ.length∧∀ (i:Nat) (v:V),σ[i]? = some (some v)→σ'[i]? = some (some v)
def zdq (cs:List Nat) (g:TG) (tt:TT) (te:TE) (σ:St) (Q:VK) (J:It) (H1:Hp):Prop :=
 ∀ l,H1 l=none→∃ W:Nat→Nat→Hp→Prop,(∃ m,W 0 m (upd H1 l (.lst [])))∧∀ i m H2,W i m H2 →
  (J.stop i H2∧Q (.ref l) H2) ∨
  (J.go i H2∧∀ x H3,J.yld i H2 x H3→g x (clr cs σ) H3 fun σ4 H4=>Le (clr cs σ) σ4∧tt σ4 H4 fun b H5 =>
   if b=true then te σ4 H5 fun v H6=>∃ ys m',H6 l=some (.lst ys)∧ys.length < W8∧m' < m∧W (i + 1) m' (upd H6 l (.lst (ys ++ [v]))) else ∃ m',m' < m∧W (i + 1) m' H5)
def zdC (cs:List Nat) (wi:TI) (g:TG) (tt:TT) (te:TE):TE:=fun σ H Q=>wi σ H fun J H1=>zdq cs g tt te σ Q J H1
section
variable {X:Cx} {pins:List (Addr×Obj)} {σ:St} {H:Hp} {s:W2} {scope:Scope} {cs:List Nat} {elt tg iter:Expr} {ifs:List Expr} {pos:Pos} {g:TG} {tt:TT} {te:TE}
theorem z6L {it:Addr} {fp:List Addr} {tn:Nat→Heap→Prop} {J:It} {Q:VK} {E:Value→W2→Prop} {RR:Value→Addr→Result→W2→Prop} (hc:X.calm=true) (I:Inv X pins σ H s) (S:CScope X scope cs)
  (T:Turn X.prog X.w X.K tg J fp it tn) (st:tn 0 s.heap) (hf:∀ b ∈ fp,FpOk X pins H b)
  (hg:∀ s₀ H₀ ex,PG (z1I X scope s₀ H₀ ex) tg g) (ht:∀ s₀ H₀ ex,PTs (z1I X scope s₀ H₀ ex) ifs tt) (he:∀ s₀ H₀ ex,PE (z1I X scope s₀ H₀ ex) elt te) (q:zdq cs g tt te σ Q J H)
  (hRR:∀ l C s' H',Inv X pins σ H' s'→FpOk X pins H' C→(∃ m,s'.heap.Ns C m)→Q (.ref l) H'→RR (.ref l) C (.ok .next) s') :
  Wa (model X.prog X.w) X.A (newList []) (fun acc s₃=>Wa (model X.prog X.w) X.A (newFunctionEnv scope X.env.globals (z24 X.env.cells scope.names []) [] X.env.qual none .none (some X.env)) (fun cenv s₄ =>
   QA (model X.prog X.w) X.A (.compStart (.ListComp elt [⟨tg,iter,ifs,0⟩] scope pos) 0 (.ref it) acc { cenv with scope:=relabel scope X.env }) (RR acc cenv.locals) s₄) E s₃) E s:=by
 refine Qe ?_
 have hfr:H s.heap.objs.size=none:=I.hok.fresh (W7 _)
 obtain ⟨W,⟨m0,w0⟩,turn⟩:=q s.heap.objs.size hfr
 generalize hl:s.heap.objs.size=l at *
 have I3:Inv X pins σ (upd H l (.lst [])) { s with heap:=s.heap.push { cls:=.type "list",dict:=none,data:=.seq ([]:List Value).toArray } } :=
  I.laid (t':=s.toks) (fun b u e=>W6 _ e) (Nat.le_of_eq hl) ⟨QL _,[],0,.nil,by rw [← hl]; exact Wm _ rfl⟩
 have kp3:∀ b o,s.heap.get? b=some o→(s.heap.push { cls:=.type "list",dict:=none,data:=.seq ([]:List Value).toArray }).get? b=some o:=fun b o e=>W6 _ e
 have hfl:∀ b ∈ fp,b≠l:=fun b hb e=>by
  obtain ⟨o,ho,_⟩:=T.obj 0 _ st b hb
  exact absurd (Wg ho) (by rw [e,hl]; exact Q0 _)
 have hf3:∀ b ∈ fp,FpOk X pins (upd H l (.lst [])) b:=fun b hb=>⟨by rw [z0q (hfl b hb)]; exact (hf b hb).1,(hf b hb).2⟩
 have st3:tn 0 (s.heap.push { cls:=.type "list",dict:=none,data:=.seq ([]:List Value).toArray }):=T.keep 0 _ _ st fun b _ o e=>kp3 b o e
 generalize hs3:({ s with heap:=s.heap.push { cls:=.type "list",dict:=none,data:=.seq ([]:List Value).toArray } }:W2)=s3 at I3
 have st3':tn 0 s3.heap:=by rw [← hs3]; exact st3
 have hlt3:∀ b ∈ fp,b < s3.heap.objs.size:=fun b hb=>by
  obtain ⟨o,ho,_⟩:=T.obj 0 _ st3' b hb
  exact Wg ho
 refine z9R ?_
 have I4:=za1 I3 S hf3 hlt3
 generalize hX:z1I X scope s3 (upd H l (.lst [])) fp=X' at I4
 generalize hs4:({ s3 with heap:=Jl (s3.heap.push { cls:=.type "dict",data:=.dict #[] }) scope.names }:W2)=s4 at I4 ⊢
 have hg':=hg s3 (upd H l (.lst [])) fp
 have ht':=ht s3 (upd H l (.lst [])) fp
 have he':=he s3 (upd H l (.lst [])) fp
 rw [hX] at hg' ht' he'
 have st4:tn 0 s4.heap:=T.keep 0 _ _ st3' fun b _ o e=>by rw [← hs4]; exact pushCells_keeps _ _ b o (W6 _ e)
 have hP:X'.prog=X.prog:=by rw [← hX]; rfl
 have hw:X'.w=X.w:=by rw [← hX]; rfl
 have hA:X'.A=X.A:=by rw [← hX]; rfl
 have hK:X'.K=X.K:=by rw [← hX]; rfl
 have hc':X'.calm=true:=by rw [← hX]; exact hc
 have hxe:X'.xe=NoX:=by rw [← hX]; rfl
 have hloc:X'.env.locals=s3.heap.objs.size:=by rw [← hX]; rfl
 have henv:({ scope:=relabel scope X.env,locals:=s3.heap.objs.size,globals:=X.env.globals,cells:=Qf (s3.heap.objs.size + 1) scope.names (z24 X.env.cells scope.names []),qual:=X.env.qual,func:=none,code:=X.env.code,frame:=X.env.frame,builtins:=X.env.builtins }:Env)=X'.env:=by rw [← hX]; rfl
 have fpx:∀ {H':Hp},(∀ b ∈ fp,H' b=none)→∀ b ∈ fp,FpOk X' [] H' b:=fun {H'} hn b hb=>by
  have ex:X'.ex=fp:=by rw [← hX]; rfl
  have pn:X'.pn=[]:=by rw [← hX]; rfl
  refine ⟨hn b hb,(I4.ok.exf b (by rw [ex]; exact hb)).1,I4.ok.exfs b (by rw [ex]; exact hb),.inl (by rw [ex]; exact hb),(I4.ok.exf b (by rw [ex]; exact hb)).2,fun p hp=>?_⟩
  rw [pn] at hp
  simp at hp
 show QA (model X.prog X.w) X.A (.compStart (.ListComp elt [⟨tg,iter,ifs,0⟩] scope pos) 0 (.ref it) (.ref l) ({ scope:=relabel scope X.env,locals:=s3.heap.objs.size,globals:=X.env.globals,cells:=Qf (s3.heap.objs.size + 1) scope.names (z24 X.env.cells scope.names []),qual:=X.env.qual,func:=none,code:=X.env.code,frame:=X.env.frame,builtins:=X.env.builtins }:Env)) (RR (.ref l) s3.heap.objs.size) s4
 rw [henv]
 have loop:QA (model X.prog X.w) X.A (.compLoop (.ListComp elt [⟨tg,iter,ifs,0⟩] scope pos) 0 (.ref it) (.ref l) X'.env) (RR (.ref l) s3.heap.objs.size) s4:=by
  refine z8o (fun n s'=>∃ i H',Inv X' [] (clr cs σ) H' s'∧tn i s'.heap∧(∀ b ∈ fp,H' b=none)∧W i n H') ?_ m0 ⟨0,_,I4,st4,fun b hb=>(hf3 b hb).1,w0⟩
  rintro n s5 ⟨i,H5,I5,st5,fr5,w5⟩
  rcases turn i n H5 w5 with ⟨stop,qn⟩ | ⟨go,step⟩
  ·have:=T.done X' hP hw hK hc' i [] s5 (clr cs σ) H5 NoX I5 (fpx fr5) st5 stop
   rw [hA] at this
   refine thn this fun r s6 ⟨hr,I6⟩=>?_
   subst hr
   have b6:=I6.base
   have e1:X'.fs=frs X.stack:=by rw [← hX]; rfl
   have e2:X'.ex=fp:=by rw [← hX]; rfl
   have e3:X'.H₀=upd H l (.lst []):=by rw [← hX]; rfl
   have e4:X'.s₀=s3:=by rw [← hX]; rfl
   rw [e1,e2,e3,e4] at b6
   have o6:s6.os=s3.os:=by rw [← e4]; exact I6.os
   have hok6:HOk X.prog X.w H5 s6.heap:=by rw [← hP,← hw]; exact I6.hok
   have J6:Inv X pins σ H5 s6:=I3.call' o6 b6 hok6 I6.bare fun b hb=>by
    obtain ⟨_,f1,_,f3,f4,f5⟩:=hf3 b hb
    exact ⟨f3,f1,f4,f5⟩
   obtain ⟨m6,n6,_⟩:=I6.loc
   rw [hloc] at n6
   refine hRR l s3.heap.objs.size s6 H5 J6 (I3.fpOk (W7 _) ?_) ⟨m6,n6⟩ qn
   rw [← hloc]
   exact I6.free
  ·have:=T.item X' hP hw hK hc' i [] s5 (clr cs σ) H5 NoX I5 (fpx fr5) st5 go
   rw [hA] at this
   refine thn this fun r s6 ⟨u,hr,h6⟩=>?_
   subst hr
   refine thn h6 fun _ s7 ⟨x,H7,I7,r7,y7,st7,fr7⟩=>?_
   have I7':=I7.pinned (fpx fr7) (T.obj _ _ st7)
   have a8:=hg' _ s7 (clr cs σ) H7 x u _ I7' r7 (step x H7 y7)
   rw [hP,hw,hA,hxe] at a8
   refine thn a8 fun _ s8 ⟨σ8,H8,I8,le8,q8⟩=>?_
   have a9:=ht' _ s8 σ8 H8 _ I8 q8
   rw [hP,hw,hA,hxe] at a9
   refine thn a9 fun ok s9 ⟨H9,I9,q9⟩=>?_
   have back:∀ {H':Hp} {s':W2},Inv X' ([] ++ z6E fp s7.heap) σ8 H' s'→Inv X' [] (clr cs σ) H' s'∧tn (i + 1) s'.heap∧∀ b ∈ fp,H' b=none:=fun {H' s'} J=>by
    refine ⟨J.unpinned.weak (le8.1.symm) le8.2,T.keep _ _ _ st7 fun b hb o e=>(J.pin (b,o) (Wz _ (Wz _ (z2i hb e)))).1,fun b hb=>?_⟩
    obtain ⟨o,e,d⟩:=T.obj _ _ st7 b hb
    exact (J.pin (b,o) (Wz _ (Wz _ (z2i hb e)))).2.1
   cases ok with
   | false =>
    rw [if_neg WL] at q9 ⊢
    obtain ⟨m',hm,w9⟩:=q9
    obtain ⟨b1,b2,b3⟩:=back I9
    exact ⟨m',hm,i + 1,H9,b1,b2,b3,w9⟩
   | true =>
    rw [if_pos rfl] at q9 ⊢
    have a10:=he' _ s9 σ8 H9 _ I9 q9
    rw [hP,hw,hA,hxe] at a10
    refine thn a10 fun x10 s10 ⟨v,H10,I10,r10,ys,m',hy,hz,hm,w10⟩=>?_
    have a11:=z86 (X:=X') _ s10 σ8 H10 (.ref l) [v] (.ref l) [x10] (fun _ H'=>W (i + 1) m' H') I10 rfl (.cons r10 .nil) ⟨l,ys,v,rfl,rfl,hy,hz,w10⟩
    rw [hP,hw,hA,hxe] at a11
    refine thn a11 fun _ s11 ⟨_,H11,I11,_,w11⟩=>?_
    obtain ⟨b1,b2,b3⟩:=back I11
    exact ⟨m',hm,i + 1,H11,b1,b2,b3,w11⟩
 exact codeAny_compStart_list loop (T.self X.A 0 s4 _ _ st4 loop)
theorem zei (hc:X.calm=true) (S:CScope X scope cs) (hi:PI X tg iter wi) (hg:∀ s₀ H₀ ex,PG (z1I X scope s₀ H₀ ex) tg g) (ht:∀ s₀ H₀ ex,PTs (z1I X scope s₀ H₀ ex) ifs tt) (he:∀ s₀ H₀ ex,PE (z1I X scope s₀ H₀ ex) elt te)
  (hs:∀ x,Qd iter X.env x=pure x:=by intro _; rfl):PE X (.ListComp elt [⟨tg,iter,ifs,0⟩] scope pos) (zdC cs wi g tt te):=by
 intro pins s σ H Q I h
 have hasC:∀ x ∈ scope.names,x.2 = .free→∃ c,X.env.cells.lookup x.1=some c:=fun x hx hk=>I.ok.has x.1 (S.free x hx hk)
 rw [eval_ListComp]
 refine wpAny_comprehension_free (use:=none) rfl hs (z6N hasC) S.kind S.names (thn (hi pins s σ H _ I h) fun xv s1 h1=>thn h1 fun itv s2 h2=>?_)
 obtain ⟨it,fp,tn,J,H2,e,I2,T,st2,f2,q2⟩:=h2
 subst e
 refine z6L (RR:=fun acc C=>compPost (model X.prog X.w) X.A X.xe none (EP X pins σ Q) acc C) hc I2 S T st2 f2 hg ht he q2 ?_
 intro l C s' H' I' fC ⟨m,n⟩ q
 exact ⟨m,n,fun h' hs'=>⟨.ref l,H',I'.turned (t':=s'.toks) (fun b o hb e=>(hs'.2 b hb).trans e) fC.1 fC.2.1 fC.2.2.2.1 fC.2.2.2.2.1 fC.2.2.2.2.2,rfl,q⟩⟩
theorem z9K (hc:X.calm=true) (S:CScope X scope cs) (hN:X.N.Nodup) (hi':X.N[i]? = some y) (hy:X.env.scope.names.lookup y=some .local)
  (hi:PI X tg iter wi) (hg:∀ s₀ H₀ ex,PG (z1I X scope s₀ H₀ ex) tg g) (ht:∀ s₀ H₀ ex,PTs (z1I X scope s₀ H₀ ex) ifs tt) (he:∀ s₀ H₀ ex,PE (z1I X scope s₀ H₀ ex) elt te)
  (hsw:QX (.ListComp elt [⟨tg,iter,ifs,0⟩] scope pos) (some (.Name y py)) spos.line X.env=pure true:=by rfl)
  (hs:∀ x,Qd iter X.env x=pure x:=by intro _; rfl):PS X (.Assign [.Name y py] (.ListComp elt [⟨tg,iter,ifs,0⟩] scope pos) spos) (tAsg (zdC cs wi g tt te) (zcJ i)):=by
 intro pins s σ H D I h
 have hasC:∀ x ∈ scope.names,x.2 = .free→∃ c,X.env.cells.lookup x.1=some c:=fun x hx hk=>I.ok.has x.1 (S.free x hx hk)
 rw [exec_Assign_Name_used _ _ _ _ hsw]
 refine W1 (Jf (W1 ?_))
 show Wa _ X.A (do let _ ← comprehension (.ListComp elt [⟨tg,iter,ifs,0⟩] scope pos) scope X.env _ (newList []) false (eval iter X.env) (some (assign (.Name y py) X.env))) _ _ s
 refine W1 (WO (wpAny_comprehension_free (use:=some (assign (.Name y py) X.env)) (Q:=fun _ s'=>SP X pins D .next s') rfl hs (z6N hasC) S.kind S.names
  (thn (hi pins s σ H _ I h) fun xv s1 h1=>thn h1 fun itv s2 h2=>?_)) (fun _ s' hq=>Wd (Wd hq)) fun _ _ e=>e)
 obtain ⟨it,fp,tn,J,H2,e,I2,T,st2,f2,q2⟩:=h2
 subst e
 refine z6L (RR:=fun acc C=>compPost (model X.prog X.w) X.A X.xe (some (assign (.Name y py) X.env)) (fun _ s'=>SP X pins D .next s') acc C) hc I2 S T st2 f2 hg ht he q2 ?_
 intro l C s' H' I' fC ⟨m,n⟩ q
 show Wa _ X.A (assign (.Name y py) X.env (.ref l)) _ _ _
 refine wpAny_assign_Name (z4q I' hN hi' (.inl hy) (v:=.ref l) rfl (fun s'' I'' ⟨a,hsb,ha⟩=>?_) (.inr hy))
 have hne:C≠a:=by
  rcases ha with rfl | ha
  ·exact fC.2.1
  ·exact fun e=>fC.2.2.2.2.1 y a ha e.symm
 refine ⟨m,n.sameBut hsb hne,fun h' hs'=>⟨_,H',I''.turned (t':=s''.toks) (fun b o hb e=>(hs'.2 b hb).trans e) fC.1 fC.2.1 fC.2.2.2.1 fC.2.2.2.2.1 fC.2.2.2.2.2,q⟩⟩
end
end L2
set_option maxHeartbeats 4000000
namespace DV
open PySem PySem.Spec PyProof.Rows L2
abbrev Tx:=List Nat
def toS (x:Tx):Str:=⟨x.toArray⟩
theorem z4N (x:Tx):(toS x).cps.toList=x:=by simp [toS]
theorem z1O (x:Tx):(toS x).length=x.length:=by simp [toS,Str.length]
theorem z6V (h:toS x=toS y):x=y:=by
 have:=congrArg (fun z:Str=>z.cps.toList) h
 simpa [toS] using this
theorem zf1 (z:Str):z=toS z.cps.toList:=by simp [toS]
abbrev DKey:=Sum Int Tx
def kOf:DKey→Key
 | .inl i=>.inl i
 | .inr x=>.inr (toS x)
inductive D where
 | non | bl (b:Bool) | int (i:Int) | str (x:Tx) | tup (xs:List D) | lst (xs:List D) | dct (kvs:List (DKey×D)) | exc (n:Nat) (fl:D) | xd (fs:List (Tx×D))
def excAt (C:Addr) (v:V) (a:Addr):Heap→Prop:=fun h=>∃ o,h.get? a=some o∧o.cls = .ref C∧(∀ x,v = .ref x→o.dict=some x)∧∃ vs,o.data = .fields vs
def xdAt (fs:List (Str×V)) (x:Addr):Heap→Prop:=fun h=>∃ mA,h.Ns1 x mA∧∀ f,RelO (fs.lookup f) (mA f)
inductive S where
 | pure (d:D)
 | own (d:D)
def S.d:S→D
 | .pure d=>d
 | .own d=>d
abbrev Dl:=List (Option S)
abbrev St:=L2.St
inductive Rep (H:Hp) (O:Addr→Prop):V→D→Prop
 | non:Rep H O .non .non
 | bl (b:Bool):Rep H O (.bl b) (.bl b)
 | int (i:Int):Rep H O (.int i) (.int i)
 | str (x:Tx):Rep H O (.str (toS x)) (.str x)
 | tup {a:Addr} {vs:List V} {ds:List D}:¬ O a→H a=some (.tup vs)→vs.length=ds.length→(∀ (i:Nat) v d,vs[i]? = some v→ds[i]? = some d→Rep H O v d)→Rep H O (.ref a) (.tup ds)
 | lst {a:Addr} {vs:List V} {ds:List D}:¬ O a→Rd H a (.lst vs)→vs.length=ds.length→(∀ (i:Nat) v d,vs[i]? = some v→ds[i]? = some d→Rep H O v d)→Rep H O (.ref a) (.lst ds)
 | dct {a:Addr} {ws:List (Key×V)} {ds:List (DKey×D)}:¬ O a→H a=some (.dK ws)→ws.map (·.1)=ds.map (fun p=>kOf p.1)→(∀ (i:Nat) p q,ws[i]? = some p→ds[i]? = some q→Rep H O p.2 q.2)→Rep H O (.ref a) (.dct ds)
 | exc {a:Addr} {n:Nat} {v:V} {fl:D}:¬ O a→H a=some (.ext (excAt n v a))→Rep H O v fl→Rep H O (.ref a) (.exc n fl)
 | xd {x:Addr} {fs:List (Str×V)} {ds:List (Tx×D)}:¬ O x→H x=some (.ext (xdAt fs x))→fs.map (·.1)=ds.map (fun p=>toS p.1)→(∀ (i:Nat) p q,fs[i]? = some p→ds[i]? = some q→Rep H O p.2 q.2)→Rep H O (.ref x) (.xd ds)
abbrev Reps (H:Hp) (O:Addr→Prop) (vs:List V) (ds:List D):Prop:=vs.length=ds.length∧∀ (i:Nat) v d,vs[i]? = some v→ds[i]? = some d→Rep H O v d
def OwnAt (H:Hp) (O:Addr→Prop) (a:Addr):D→Prop
 | .lst ds=>∃ vs,H a=some (.lst vs)∧Reps H O vs ds
 | .dct ds=>∃ ws:List (Key×V),H a=some (.dK ws)∧ws.map (·.1)=ds.map (fun p=>kOf p.1)∧∀ (i:Nat) p q,ws[i]? = some p→ds[i]? = some q→Rep H O p.2 q.2
 | _=>False
section
variable {H H':Hp} {O O':Addr→Prop} {v:V} {d:D} {vs:List V} {ds:List D} {a:Addr}
theorem Rd.keep (h:Rd H a u) (k:∀ o,H a=some o→H' a=some o):Rd H' a u:=by
 rcases h with h | ⟨o,h⟩
 ·exact .inl (k _ h)
 ·exact .inr ⟨o,k _ h⟩
theorem Rd.some (h:Rd H a u):∃ o,H a=some o:=by
 rcases h with h | ⟨o,h⟩
 ·exact ⟨_,h⟩
 ·exact ⟨_,h⟩
theorem Rep.keep (h:Rep H O v d) (k:∀ a o,H a=some o→¬ O a→H' a=some o):Rep H' O v d:=by
 induction h with
 | non=>exact .non
 | bl b=>exact .bl b
 | int i=>exact .int i
 | str x=>exact .str x
 | tup h1 h2 h3 _ ih=>exact .tup h1 (k _ _ h2 h1) h3 ih
 | lst h1 h2 h3 _ ih=>exact .lst h1 (Rd.keep h2 fun o e=>k _ o e h1) h3 ih
 | dct h1 h2 h3 _ ih=>exact .dct h1 (k _ _ h2 h1) h3 ih
 | exc h1 h2 _ ih=>exact .exc h1 (k _ _ h2 h1) ih
 | xd h1 h2 h3 _ ih=>exact .xd h1 (k _ _ h2 h1) h3 ih
theorem Rep.anti (h:Rep H O v d) (k:∀ a,O' a→O a∨H a=none):Rep H O' v d:=by
 have no:∀ {a:Addr} {u:HO},¬ O a→Rd H a u→¬ O' a:=fun {a u} h1 h2 z=>by
  rcases k a z with q | q
  ·exact h1 q
  ·obtain ⟨o,e⟩:=Rd.some h2
   rw [q] at e; cases e
 induction h with
 | non=>exact .non
 | bl b=>exact .bl b
 | int i=>exact .int i
 | str x=>exact .str x
 | tup h1 h2 h3 _ ih=>exact .tup (no h1 (.inl h2)) h2 h3 ih
 | lst h1 h2 h3 _ ih=>exact .lst (no h1 h2) h2 h3 ih
 | dct h1 h2 h3 _ ih=>exact .dct (no h1 (.inl h2)) h2 h3 ih
 | exc h1 h2 _ ih=>exact .exc (no h1 (.inl h2)) h2 ih
 | xd h1 h2 h3 _ ih=>exact .xd (no h1 (.inl h2)) h2 h3 ih
theorem Reps.keep (h:Reps H O vs ds) (k:∀ a o,H a=some o→¬ O a→H' a=some o):Reps H' O vs ds:=⟨h.1,fun i v d e1 e2=>(h.2 i v d e1 e2).keep k⟩
theorem Reps.anti (h:Reps H O vs ds) (k:∀ a,O' a→O a∨H a=none):Reps H O' vs ds:=⟨h.1,fun i v d e1 e2=>(h.2 i v d e1 e2).anti k⟩
theorem Reps.nil:Reps H O [] []:=⟨rfl,fun i v d e _=>by simp at e⟩
theorem Reps.cons (h:Rep H O v d) (r:Reps H O vs ds):Reps H O (v :: vs) (d :: ds):=by
 refine ⟨by simp [r.1],fun i v' d' e1 e2=>?_⟩
 cases i with
 | zero=>simp at e1 e2; subst e1; subst e2; exact h
 | succ i=>exact r.2 i v' d' (by simpa using e1) (by simpa using e2)
theorem Reps.head (r:Reps H O (v :: vs) (d :: ds)):Rep H O v d:=r.2 0 v d rfl rfl
theorem Reps.tail (r:Reps H O (v :: vs) (d :: ds)):Reps H O vs ds:=⟨by simpa using r.1,fun i v' d' e1 e2=>r.2 (i + 1) v' d' (by simpa using e1) (by simpa using e2)⟩
theorem Reps.append (h:Reps H O vs ds) (h':Reps H O vs' ds'):Reps H O (vs ++ vs') (ds ++ ds'):=by
 induction vs generalizing ds with
 | nil =>
  cases ds with
  | nil=>exact h'
  | cons d r=>have:=h.1; simp at this
 | cons v r ih =>
  cases ds with
  | nil=>have:=h.1; simp at this
  | cons d q=>exact .cons h.head (ih h.tail)
theorem Reps.get {i:Nat} (h:Reps H O vs ds) (e:ds[i]? = some d):∃ v,vs[i]? = some v∧Rep H O v d:=by
 have hi:i < ds.length:=(Wb.mp e).1
 have hv:i < vs.length:=by rw [h.1]; exact hi
 exact ⟨vs[i],by simp [hv],h.2 i _ d (by simp [hv]) e⟩
theorem Reps.take (n:Nat) (h:Reps H O vs ds):Reps H O (vs.take n) (ds.take n):=by
 refine ⟨by simp [h.1],fun i v d e1 e2=>?_⟩
 by_cases hi:i < n
 ·rw [List.getElem?_take_of_lt hi] at e1 e2
  exact h.2 i v d e1 e2
 ·rw [List.getElem?_take_eq_none (by omega)] at e1; cases e1
theorem Reps.drop (n:Nat) (h:Reps H O vs ds):Reps H O (vs.drop n) (ds.drop n):=by
 refine ⟨by simp [h.1],fun i v d e1 e2=>?_⟩
 rw [List.getElem?_drop] at e1 e2
 exact h.2 (n + i) v d e1 e2
theorem Reps.set (h:Reps H O vs ds) (r:Rep H O v d) (j:Nat):Reps H O (vs.set j v) (ds.set j d):=by
 refine ⟨by simp [h.1],fun i v' d' e1 e2=>?_⟩
 by_cases hi:j=i
 ·subst hi
  rw [WK] at e1 e2
  simp at e1 e2
  obtain ⟨_,rfl⟩:=e1
  obtain ⟨_,rfl⟩:=e2
  exact r
 ·rw [W9 hi] at e1 e2
  exact h.2 i v' d' e1 e2
theorem OwnAt.keep (h:OwnAt H O a d) (hk:∀ b o,H b=some o→¬ O b→H' b=some o) (ha:∀ o,H a=some o→H' a=some o):OwnAt H' O a d:=by
 cases d <;> first
  | exact h.elim
  | (obtain ⟨vs,e,r⟩:=h; exact ⟨vs,ha _ e,Reps.keep r hk⟩)
  | (obtain ⟨ws,e,r,q⟩:=h; exact ⟨ws,ha _ e,r,fun i p p' e1 e2=>(q i p p' e1 e2).keep hk⟩)
theorem OwnAt.anti (h:OwnAt H O a d) (k:∀ a,O' a→O a∨H a=none):OwnAt H O' a d:=by
 cases d <;> first
  | exact h.elim
  | (obtain ⟨vs,e,r⟩:=h; exact ⟨vs,e,Reps.anti r k⟩)
  | (obtain ⟨ws,e,r,q⟩:=h; exact ⟨ws,e,r,fun i p p' e1 e2=>(q i p p' e1 e2).anti k⟩)
theorem OwnAt.some (h:OwnAt H O a d):∃ o,H a=some o:=by
 cases d <;> first
  | exact h.elim
  | (obtain ⟨vs,e,r⟩:=h; exact ⟨_,e⟩)
theorem OwnAt.rep (h:OwnAt H O a d) (ho:¬ O a):Rep H O (.ref a) d:=by
 cases d with
 | lst ds=>obtain ⟨vs,e,r⟩:=h; exact .lst ho (.inl e) r.1 r.2
 | dct ds=>obtain ⟨ws,e,r,q⟩:=h; exact .dct ho e r q
 | _=>exact h.elim
end
structure Xc where
 cls:Tx
 flds:D
structure Fc where
 H₀:Hp
 B:Addr→Prop
 pin:List (Nat×Addr)
 xc:Xc→Dl→Prop:=fun _ _=>False
def Fc.plus (c:Fc) (p:Addr):Fc:={ c with B:=fun a=>c.B a∨a=p }
def Fc.I (c:Fc) (a:Addr):Prop:=∃ i,(i,a) ∈ c.pin
def Own (σ:St) (δ:Dl) (a:Addr):Prop:=∃ (i:Nat) (d:D),δ[i]? = some (some (.own d))∧σ[i]? = some (some (.ref a))
def Av (c:Fc) (σ:St) (δ:Dl) (a:Addr):Prop:=c.B a∨Own σ δ a
structure Ok (c:Fc) (σ:St) (δ:Dl) (H:Hp):Prop where
 keep:∀ a o,c.H₀ a=some o→¬ c.I a→H a=some o
 bd:∀ a,c.B a→∃ o,H a=some o
 ith:∀ a,c.I a→∃ o,H a=some o
 len:δ.length=σ.length
 slot:∀ (i:Nat) d,δ[i]? = some (some (.pure d))→∃ v,σ[i]? = some (some v)∧Rep H (Av c σ δ) v d
 own:∀ (i:Nat) d,δ[i]? = some (some (.own d))→∃ a,σ[i]? = some (some (.ref a))∧OwnAt H (Av c σ δ) a d∧(c.I a∨c.H₀ a=none)∧¬ c.B a
 inj:∀ (i j:Nat) a d d',δ[i]? = some (some (.own d))→δ[j]? = some (some (.own d'))→σ[i]? = some (some (.ref a))→σ[j]? = some (some (.ref a))→i=j
 pinned:∀ p ∈ c.pin,σ[p.1]? = some (some (.ref p.2))
structure Aft (c:Fc) (σ:St) (δ:Dl) (H:Hp) (σ':St) (δ':Dl) (H':Hp):Prop where
 ok:Ok c σ' δ' H'
 keep:∀ a o,H a=some o→¬ Own σ δ a→H' a=some o
 own:∀ a,Own σ' δ' a→Own σ δ a∨H a=none
 there:∀ a o,H a=some o→∃ o',H' a=some o'
section
variable {c:Fc} {σ σ' σ'':St} {δ δ' δ'':Dl} {H H' H'':Hp} {v:V} {d:D} {a p:Addr}
theorem Ok.bthere (k:Ok c σ δ H) (h:c.B a):∃ o,H a=some o:=k.bd a h
theorem Ok.othere (k:Ok c σ δ H) (h:Own σ δ a):∃ o,H a=some o:=by
 obtain ⟨i,d,e1,e2⟩:=h
 obtain ⟨b,e3,q,_⟩:=k.own i d e1
 rw [e2] at e3; cases e3
 exact q.some
theorem Ok.avthere (k:Ok c σ δ H) (h:Av c σ δ a):∃ o,H a=some o:=h.elim k.bthere k.othere
theorem Ok.nav (k:Ok c σ δ H) (h:H a=none):¬ Av c σ δ a:=fun z=>by
 obtain ⟨o,e⟩:=k.avthere z
 rw [h] at e; cases e
theorem Aft.refl (k:Ok c σ δ H):Aft c σ δ H σ δ H:=⟨k,fun _ _ e _=>e,fun _ h=>.inl h,fun _ o e=>⟨o,e⟩⟩
theorem Aft.trans (x:Aft c σ δ H σ' δ' H') (y:Aft c σ' δ' H' σ'' δ'' H''):Aft c σ δ H σ'' δ'' H'':=by
 refine ⟨y.ok,fun a o e n=>?_,fun a h=>?_,fun a o e=>?_⟩
 ·refine y.keep a o (x.keep a o e n) fun z=>?_
  rcases x.own a z with q | q
  ·exact n q
  ·rw [q] at e; cases e
 ·rcases y.own a h with q | q
  ·exact x.own a q
  ·right
   cases e:H a with
   | none=>rfl
   | some o =>
    obtain ⟨o',e'⟩:=x.there a o e
    rw [q] at e'; cases e'
 ·obtain ⟨o',e'⟩:=x.there a o e
  exact y.there a o' e'
theorem Aft.av (x:Aft c σ δ H σ' δ' H'):∀ a,Av c σ' δ' a→Av c σ δ a∨H a=none:=fun a h=>by
 rcases h with h | h
 ·exact .inl (.inl h)
 ·rcases x.own a h with q | q
  ·exact .inl (.inr q)
  ·exact .inr q
theorem Rep.aft (h:Rep H (Av c σ δ) v d) (x:Aft c σ δ H σ' δ' H'):Rep H' (Av c σ' δ') v d:=by
 have h1:Rep H (fun a=>Av c σ δ a∨Av c σ' δ' a) v d:=Rep.anti h fun a z=>z.elim .inl (x.av a)
 exact (h1.keep fun a o e n=>x.keep a o e fun z=>n (.inl (.inr z))).anti fun a z=>.inl (.inr z)
theorem Reps.aft (h:Reps H (Av c σ δ) vs ds) (x:Aft c σ δ H σ' δ' H'):Reps H' (Av c σ' δ') vs ds:=⟨h.1,fun i v d e1 e2=>Rep.aft (h.2 i v d e1 e2) x⟩
def RepS (c:Fc) (σ:St) (δ:Dl) (Hs H:Hp) (v:V):S→Prop
 | .pure d=>Rep H (Av c σ δ) v d
 | .own d=>∃ a,v = .ref a∧OwnAt H (Av (c.plus a) σ δ) a d∧¬ c.B a∧c.H₀ a=none∧Ok (c.plus a) σ δ H∧Hs a=none
theorem z4x (k:Ok (c.plus a) σ δ H):¬ Own σ δ a:=fun ⟨i,d,e1,e2⟩=>by
 obtain ⟨b,e3,_,_,n⟩:=k.own i d e1
 rw [e2] at e3; cases e3
 exact n (.inr rfl)
theorem RepS.rep (h:RepS c σ δ Hs H v r):Rep H (Av c σ δ) v r.d:=by
 cases r with
 | pure d=>exact h
 | own d =>
  obtain ⟨a,rfl,o,n,f,k,_⟩:=h
  refine (o.anti fun b z=>.inl ?_).rep fun z=>z.elim n (z4x k)
  exact z.elim (fun z=>.inl (.inl z)) .inr
theorem RepS.back (h:RepS c σ δ Hs H v r) (x:Aft c σ₀ δ₀ H' σ' δ' Hs):RepS c σ δ H' H v r:=by
 cases r with
 | pure d=>exact h
 | own d =>
  obtain ⟨a,e,o,n,f,k,hs⟩:=h
  refine ⟨a,e,o,n,f,k,?_⟩
  cases q:H' a with
  | none=>rfl
  | some o =>
   obtain ⟨o',e'⟩:=x.there a o q
   rw [hs] at e'; cases e'
theorem RepS.home (h:RepS c σ δ Hs H v r):RepS c σ δ c.H₀ H v r:=by
 cases r with
 | pure d=>exact h
 | own d =>
  obtain ⟨a,e,o,n,f,k,hs⟩:=h
  exact ⟨a,e,o,n,f,k,f⟩
theorem Ok.alloc (k:Ok c σ δ H) (hp:H p=none) (o:HO):Ok c σ δ (upd H p o):=by
 have up:∀ a w,H a=some w→upd H p o a=some w:=fun a w e=>by
  rw [z0q (z0L e hp)]; exact e
 refine ⟨fun a w e n=>up a w (k.keep a w e n),fun a z=>(k.bd a z).elim fun w e=>⟨w,up a w e⟩,fun a z=>(k.ith a z).elim fun w e=>⟨w,up a w e⟩,k.len,fun i d e=>?_,fun i d e=>?_,k.inj,k.pinned⟩
 ·obtain ⟨v,e1,r⟩:=k.slot i d e
  exact ⟨v,e1,r.keep fun a w q _=>up a w q⟩
 ·obtain ⟨a,e1,r,q⟩:=k.own i d e
  exact ⟨a,e1,r.keep (fun b w q _=>up b w q) fun w q=>up a w q,q⟩
theorem Aft.alloc (k:Ok c σ δ H) (hp:H p=none) (o:HO):Aft c σ δ H σ δ (upd H p o):=by
 have up:∀ a w,H a=some w→upd H p o a=some w:=fun a w e=>by
  rw [z0q (z0L e hp)]; exact e
 exact ⟨k.alloc hp o,fun a w e _=>up a w e,fun a h=>.inl h,fun a w e=>⟨w,up a w e⟩⟩
theorem Ok.fresh₀ (k:Ok c σ δ H) (hp:H p=none):c.H₀ p=none:=by
 cases e:c.H₀ p with
 | none=>rfl
 | some o =>
  by_cases q:c.I p
  ·obtain ⟨w,e'⟩:=k.ith p q
   rw [hp] at e'; cases e'
  ·have:=k.keep p o e q
   rw [hp] at this; cases this
theorem Ok.plus (k:Ok c σ δ H) (hp:H p=none) (o:HO):Ok (c.plus p) σ δ (upd H p o):=by
 have k':=k.alloc hp o
 have sub:∀ b,Av (c.plus p) σ δ b→Av c σ δ b∨b=p:=fun b z=>by
  rcases z with (z | z) | z
  ·exact .inl (.inl z)
  ·exact .inr z
  ·exact .inl (.inr z)
 have sub2:∀ b,Av (c.plus p) σ δ b→Av c σ δ b∨H b=none:=fun b z=>(sub b z).elim .inl fun e=>.inr (by rw [e]; exact hp)
 have up:∀ a w,H a=some w→upd H p o a=some w:=fun a w e=>by
  rw [z0q (z0L e hp)]; exact e
 refine ⟨k'.keep,fun a z=>?_,k'.ith,k.len,fun i d e=>?_,fun i d e=>?_,k.inj,k.pinned⟩
 ·rcases z with z | z
  ·exact k'.bd a z
  ·exact ⟨o,by rw [z]; exact z0y⟩
 ·obtain ⟨v,e1,r⟩:=k.slot i d e
  exact ⟨v,e1,(r.anti sub2).keep fun a w q _=>up a w q⟩
 ·obtain ⟨a,e1,r,q,nb⟩:=k.own i d e
  refine ⟨a,e1,(r.anti sub2).keep (fun b w q _=>up b w q) (fun w q=>up a w q),q,fun z=>?_⟩
  rcases z with z | z
  ·exact nb z
  ·obtain ⟨w,ew⟩:=r.some
   rw [z,hp] at ew; cases ew
theorem RepS.newL (k:Ok c σ δ H) (r:Reps H (Av c σ δ) vs ds) (hp:H p=none):RepS c σ δ H (upd H p (.lst vs)) (.ref p) (.own (.lst ds)):=by
 have up:∀ a w,H a=some w→upd H p (.lst vs) a=some w:=fun a w e=>by
  rw [z0q (z0L e hp)]; exact e
 refine ⟨p,rfl,⟨vs,z0y,?_⟩,fun z=>k.nav hp (.inl z),k.fresh₀ hp,k.plus hp _,hp⟩
 have r1:Reps H (Av (c.plus p) σ δ) vs ds:=Reps.anti r fun b z=>by
  rcases z with (z | z) | z
  ·exact .inl (.inl z)
  ·exact .inr (by rw [z]; exact hp)
  ·exact .inl (.inr z)
 exact Reps.keep r1 fun b w e _=>up b w e
theorem RepS.newT (k:Ok c σ δ H) (r:Reps H (Av c σ δ) vs ds) (hp:H p=none):RepS c σ δ H (upd H p (.tup vs)) (.ref p) (.pure (.tup ds)):=by
 have up:∀ a w,H a=some w→upd H p (.tup vs) a=some w:=fun a w e=>by
  rw [z0q (z0L e hp)]; exact e
 have r1:=Reps.keep r (H':=upd H p (.tup vs)) fun b w e _=>up b w e
 exact .tup (k.nav hp) z0y r1.1 r1.2
end
inductive Rs (α:Type) where
 | ok (a:α) (δ:Dl)
 | exc (x:Xc) (δ:Dl)
 | stuck
def Rs.bind {α β:Type} (r:Rs α) (f:α→Dl→Rs β):Rs β:=match r with
 | .ok a δ=>f a δ
 | .exc x δ=>.exc x δ
 | .stuck=>.stuck
abbrev DE:=Dl→Rs S
def XC (c:Fc) (x:Xc) (δ:Dl):Prop:=c.xc x δ
def post {α:Type} (c:Fc) (r:Rs α) (k:α→Dl→Prop):Prop:=match r with
 | .ok a δ=>k a δ
 | .exc x δ=>XC c x δ
 | .stuck=>False
theorem z03:post c (r.bind f) k ↔ post c r fun a δ=>post c (f a δ) k:=by
 cases r <;> exact Iff.rfl
theorem z00 (h:post c r k) (m:∀ a δ,k a δ→k' a δ):post c r k':=by
 cases r with
 | ok a δ=>exact m a δ h
 | exc x δ=>exact h
 | stuck=>exact h
def tD (c:Fc) (f:DE):TE:=fun σ H Q=>∃ δ,Ok c σ δ H∧post c (f δ) fun r δ'=>∀ v H',Aft c σ δ H σ δ' H'→RepS c σ δ' H H' v r→Q v H'
abbrev SE (X:Cx) (c:Fc) (e:Expr) (f:DE):Prop:=PE X e (tD c f)
def RepB (c:Fc) (σ:St) (δ:Dl) (H:Hp) (v:V) (d:D):Prop:=Rep H (Av c σ δ) v d∨∃ a,v = .ref a∧OwnAt H (Av c σ δ) a d
abbrev BE:=Dl→Rs D
def tB (c:Fc) (f:BE):TE:=fun σ H Q=>∃ δ,Ok c σ δ H∧post c (f δ) fun d δ'=>∀ v H',Aft c σ δ H σ δ' H'→RepB c σ δ' H' v d→Q v H'
abbrev SB (X:Cx) (c:Fc) (e:Expr) (f:BE):Prop:=PE X e (tB c f)
theorem PE.weak (h:PE X e t) (w:∀ σ H Q,t' σ H Q→t σ H Q):PE X e t':=fun pins s σ H Q I q=>h pins s σ H Q I (w σ H Q q)
def bOf (f:DE):BE:=fun δ=>(f δ).bind fun r δ'=>.ok r.d δ'
theorem RepS.b (h:RepS c σ δ Hs H v r):RepB c σ δ H v r.d:=.inl h.rep
theorem z06 {X:Cx} {c:Fc} {e:Expr} {f:DE} (h:SE X c e f):SB X c e (bOf f):=PE.weak h fun σ H Q ⟨δ,k,p⟩=>⟨δ,k,by
 unfold bOf at p
 rw [z03] at p
 exact z00 p fun r δ' q v H' a s=>q v H' a s.b⟩
def bVar (i:Nat):BE:=fun δ=>match δ[i]? with
 | some (some r)=>.ok r.d δ
 | _=>.stuck
def eVar (i:Nat):DE:=fun δ=>match δ[i]? with
 | some (some (.pure d))=>.ok (.pure d) δ
 | some (some (.own d))=>.ok (.pure d) (δ.set i (some (.pure d)))
 | _=>.stuck
def eD (d:D):DE:=fun δ=>.ok (.pure d) δ
section
variable {X:Cx} {c:Fc}
theorem z09 {i:Nat} {e:Expr} (h:PE X e (tVar i)):SB X c e (bVar i):=PE.weak h fun σ H Q ⟨δ,k,p⟩=>by
 unfold bVar at p
 cases e:δ[i]? with
 | none=>rw [e] at p; exact p.elim
 | some o =>
  cases o with
  | none=>rw [e] at p; exact p.elim
  | some r =>
   rw [e] at p
   cases r with
   | pure d =>
    obtain ⟨v,e1,r⟩:=k.slot i d e
    exact ⟨v,e1,p v H (.refl k) (.inl r)⟩
   | own d =>
    obtain ⟨a,e1,r,_⟩:=k.own i d e
    exact ⟨.ref a,e1,p _ H (.refl k) (.inr ⟨a,rfl,r⟩)⟩
theorem Own.sub (h:Own σ (δ.set i (some (.pure d))) a):Own σ δ a:=by
 obtain ⟨j,d',e1,e2⟩:=h
 by_cases hj:i=j
 ·subst hj
  rw [WK] at e1
  simp at e1
 ·rw [W9 hj] at e1
  exact ⟨j,d',e1,e2⟩
theorem Ok.give (k:Ok c σ δ H) (e:δ[i]? = some (some (.own d))) :
  ∃ a,σ[i]? = some (some (.ref a))∧Aft c σ δ H σ (δ.set i (some (.pure d))) H∧Rep H (Av c σ (δ.set i (some (.pure d)))) (.ref a) d:=by
 obtain ⟨a,e1,r,q,nb⟩:=k.own i d e
 have hi:i < δ.length:=(Wb.mp e).1
 have sub:∀ b,Av c σ (δ.set i (some (.pure d))) b→Av c σ δ b:=fun b z=>z.elim .inl fun z=>.inr z.sub
 have na:¬ Av c σ (δ.set i (some (.pure d))) a:=by
  rintro (z | ⟨j,d',f1,f2⟩)
  ·exact nb z
  ·by_cases hj:i=j
   ·subst hj
    rw [WK] at f1
    simp at f1
   ·rw [W9 hj] at f1
    exact hj (k.inj i j a d d' e f1 e1 f2)
 have rep:Rep H (Av c σ (δ.set i (some (.pure d)))) (.ref a) d:=(r.anti fun b z=>.inl (sub b z)).rep na
 refine ⟨a,e1,⟨⟨k.keep,k.bd,k.ith,by rw [WY]; exact k.len,fun j d' f=>?_,fun j d' f=>?_,fun j l b d1 d2 f1 f2=>?_,k.pinned⟩,fun _ _ w _=>w,fun b z=>.inl z.sub,fun _ o w=>⟨o,w⟩⟩,rep⟩
 ·by_cases hj:i=j
  ·subst hj
   rw [Wq hi] at f
   cases f
   exact ⟨.ref a,e1,rep⟩
  ·rw [W9 hj] at f
   obtain ⟨v,g1,g2⟩:=k.slot j d' f
   exact ⟨v,g1,g2.anti fun b z=>.inl (sub b z)⟩
 ·by_cases hj:i=j
  ·subst hj
   rw [Wq hi] at f
   cases f
  ·rw [W9 hj] at f
   obtain ⟨b,g1,g2,g3⟩:=k.own j d' f
   exact ⟨b,g1,g2.anti fun b z=>.inl (sub b z),g3⟩
 ·have h1:δ[j]? = some (some (.own d1)):=by
   by_cases hj:i=j
   ·subst hj; rw [Wq hi] at f1; cases f1
   ·rw [W9 hj] at f1; exact f1
  have h2:δ[l]? = some (some (.own d2)):=by
   by_cases hj:i=l
   ·subst hj; rw [Wq hi] at f2; cases f2
   ·rw [W9 hj] at f2; exact f2
  exact k.inj j l b d1 d2 h1 h2
theorem z0h {i:Nat} {e:Expr} (h:PE X e (tVar i)):SE X c e (eVar i):=PE.weak h fun σ H Q ⟨δ,k,p⟩=>by
 unfold eVar at p
 cases e:δ[i]? with
 | none=>rw [e] at p; exact p.elim
 | some o =>
  cases o with
  | none=>rw [e] at p; exact p.elim
  | some r =>
   rw [e] at p
   cases r with
   | pure d =>
    obtain ⟨v,e1,r⟩:=k.slot i d e
    exact ⟨v,e1,p v H (.refl k) r⟩
   | own d =>
    obtain ⟨a,e1,x,r⟩:=k.give e
    exact ⟨.ref a,e1,p _ H x r⟩
theorem z02 {i j pos}:SE X c (.Constant (.int i) j pos) (eD (.int i)):=PE.weak zdb fun σ H Q ⟨δ,k,p⟩=>p _ H (.refl k) (.int i)
theorem z3W {b j pos}:SE X c (.Constant (.bool b) j pos) (eD (.bl b)):=PE.weak zek fun σ H Q ⟨δ,k,p⟩=>p _ H (.refl k) (.bl b)
theorem z2U {j pos}:SE X c (.Constant .none j pos) (eD .non):=PE.weak zfR fun σ H Q ⟨δ,k,p⟩=>p _ H (.refl k) .non
theorem z0x {x j pos} (y:Tx) (h:x=toS y:=by decide +kernel):SE X c (.Constant (.str x) j pos) (eD (.str y)):=by
 subst h
 exact PE.weak zaI fun σ H Q ⟨δ,k,p⟩=>p _ H (.refl k) (.str y)
theorem z9I (hg:Gl X x) (hm:X.mg x=some (.int i t)) (hd:(x == ("__debug__" : Str))=false:=by decide):SE X c (.Name x pos) (eD (.int i)) :=
 PE.weak (zeh (v:=.int i) hg hm ⟨t,rfl⟩ hd) fun σ H Q ⟨δ,k,p⟩=>p _ H (.refl k) (.int i)
end
open PySem PySem.Spec PyProof.Rows L2 PySem.SeqAt
mutual
def eqD:D→D→Bool
 | .non,.non=>true
 | .bl a,.bl b=>a == b
 | .int a,.int b=>a == b
 | .bl a,.int b=>(if a then 1 else 0) == b
 | .int a,.bl b=>a == (if b then 1 else 0)
 | .str a,.str b=>a == b
 | .tup xs,.tup ys=>eqDs xs ys
 | .lst xs,.lst ys=>eqDs xs ys
 | _,_=>false
def eqDs:List D→List D→Bool
 | [],[]=>true
 | x :: xs,y :: ys=>eqD x y && eqDs xs ys
 | _,_=>false
end
mutual
def flat:Nat→D→Bool
 | _,.non=>true
 | _,.bl _=>true
 | _,.int _=>true
 | _,.str _=>true
 | 0,.tup _=>false
 | n + 1,.tup xs=>z69 n xs
 | 0,.lst _=>false
 | n + 1,.lst xs=>z69 n xs
 | _,.dct _=>false
 | _,.exc _ _=>false
 | _,.xd _=>false
def z69:Nat→List D→Bool
 | _,[]=>true
 | n,x :: xs=>flat n x && z69 n xs
end
example:eqD (.tup [.int 1,.str [2]]) (.tup [.int 1,.str [2]])=true:=by decide +kernel
theorem z2p:∀ {xs:List D} {x:D},z69 n xs=true→x ∈ xs→flat n x=true
 | [],_,_,h=>by simp at h
 | y :: ys,x,h,hm=>by
  simp only [z69,We] at h
  rcases Wh.mp hm with e | hm
  ·rw [e]; exact h.1
  ·exact z2p h.2 hm
theorem z5D:∀ {xs ys:List D} {f:Nat→Bool},xs.length=ys.length→(∀ (j:Nat) x y,xs[j]? = some x→ys[j]? = some y→f j=eqD x y)→(Ql xs.length).all f=eqDs xs ys
 | [],[],f,_,_=>rfl
 | [],y :: ys,f,h,_=>by simp at h
 | x :: xs,[],f,h,_=>by simp at h
 | x :: xs,y :: ys,f,h,hf=>by
  simp only [eqDs]
  rw [Ws,List.range_succ_eq_map,Qb,hf 0 x y rfl rfl,Jz]
  rw [← z5D (f:=fun j=>f (j + 1)) (by simpa using h) (fun j a b e1 e2=>hf (j + 1) a b (by simpa using e1) (by simpa using e2))]
  rfl
theorem z5C:∀ {xs ys:List D},xs.length≠ys.length→eqDs xs ys=false
 | [],[],h=>absurd rfl h
 | [],y :: ys,_=>rfl
 | x :: xs,[],_=>rfl
 | x :: xs,y :: ys,h=>by
  simp only [eqDs]
  rw [z5C (xs:=xs) (ys:=ys) (by intro e; exact h (by simp [e]))]
  simp
mutual
theorem z7s:∀ {n:Nat} {d:D},flat n d=true→eqD d d=true
 | _,.non,_=>rfl
 | _,.bl b,_=>by simp [eqD]
 | _,.int i,_=>by simp [eqD]
 | _,.str x,_=>by simp [eqD]
 | 0,.tup xs,h=>by simp [flat] at h
 | n + 1,.tup xs,h=>by simp only [eqD]; exact z6a (n:=n) (by simpa [flat] using h)
 | 0,.lst xs,h=>by simp [flat] at h
 | n + 1,.lst xs,h=>by simp only [eqD]; exact z6a (n:=n) (by simpa [flat] using h)
 | _,.dct xs,h=>by simp [flat] at h
 | _,.exc n _,h=>by simp [flat] at h
 | _,.xd n,h=>by simp [flat] at h
theorem z6a:∀ {n:Nat} {ds:List D},z69 n ds=true→eqDs ds ds=true
 | _,[],_=>rfl
 | n,x :: xs,h=>by
  simp only [z69,We] at h
  simp only [eqDs]
  rw [z7s h.1,z6a h.2]
  rfl
end
abbrev NoO:Addr→Prop:=fun _=>False
theorem Rep.un (h:Rep H O v d):Rep H NoO v d:=Rep.anti h fun _ z=>z.elim
theorem RepB.un (h:RepB c σ δ H v d):Rep H NoO v d:=by
 rcases h with h | ⟨a,rfl,o⟩
 ·exact Rep.un h
 ·exact (o.anti (O':=NoO) fun _ z=>z.elim).rep fun z=>z
section
variable {X:Cx} {pins:List (Addr×Obj)} {σ:St} {H:Hp} {s:W2}
theorem Inv.rdL (I:Inv X pins σ H s) (h:Rd H a (.lst vs)):∃ its:List Value,Vals vs its∧s.heap.IsList a its.toArray:=by
 obtain ⟨its,r,p,_⟩:=I.list (.inl h)
 exact ⟨its,r,p.isList⟩
theorem Inv.rdT (I:Inv X pins σ H s) (h:H a=some (.tup vs)):∃ its:List Value,Vals vs its∧s.heap.IsTuple a its.toArray:=by
 obtain ⟨its,r,p,_⟩:=I.tuple (.of h)
 exact ⟨its,r,p⟩
theorem z8A (x y:Tx):((toS x:Str) == toS y)=(x == y):=by
 rw [Qh]
 simp only [beq_iff_eq]
 exact ⟨z6V,fun e=>by rw [e]⟩
theorem zba (A:Wp):A.in1.units=A.units + 1:=rfl
theorem Rd.inj (h:Rd H a u) (k:Rd H a w) (hu:∀ o z,u≠.frz o z) (hw:∀ o z,w≠.frz o z):u=w:=by
 rcases h with h | ⟨o,h⟩ <;> rcases k with k | ⟨o',k⟩
 ·rw [h] at k; exact WA k
 ·rw [h] at k; exact absurd (WA k) (hu _ _)
 ·rw [h] at k; exact absurd (WA k).symm (hw _ _)
 ·rw [h] at k
  have:=WA k
  injection this
theorem Reps.inj {vs:List V}:∀ {ds es:List D},vs.length=ds.length→vs.length=es.length→(∀ (i:Nat) v d e,vs[i]? = some v→ds[i]? = some d→es[i]? = some e→d=e)→ds=es:=by
 intro ds es h1 h2 h
 apply List.ext_getElem?
 intro i
 by_cases hi:i < vs.length
 ·have a1:i < ds.length:=by omega
  have a2:i < es.length:=by omega
  rw [WE a1,WE a2]
  rw [h i vs[i] ds[i] es[i] (by simp [hi]) (by simp [a1]) (by simp [a2])]
 ·rw [Qq (by omega),Qq (by omega)]
theorem Rep.inj {O:Addr→Prop} {v:V} {d:D} (h:Rep H O v d):∀ {n:Nat} {e:D},flat n d=true→flat n e=true→Rep H O v e→d=e:=by
 induction h with
 | non=>intro n e _ _ k; cases k; rfl
 | bl b=>intro n e _ _ k; cases k; rfl
 | int i=>intro n e _ _ k; cases k; rfl
 | str x =>
  intro n e _ _ k
  generalize hz:V.str (toS x)=z at k
  cases k with
  | str y=>injection hz with hz; rw [z6V hz]
  | _=>cases hz
 | @tup a vs ds h1 h2 h3 h4 ih =>
  intro n e fd fe k
  cases n with
  | zero=>simp [flat] at fd
  | succ n =>
   simp only [flat] at fd
   cases k with
   | @tup _ ws es k1 k2 k3 k4 =>
    simp only [flat] at fe
    have e1:=Rd.inj (.inl h2) (.inl k2) (fun _ _ z=>by cases z) (fun _ _ z=>by cases z)
    injection e1 with e1
    subst e1
    rw [Reps.inj h3 k3 fun i v d e q1 q2 q3=>ih i v d q1 q2 (z2p fd (Ww q2)) (z2p fe (Ww q3)) (k4 i v e q1 q3)]
   | lst k1 k2=>exact absurd (Rd.inj (.inl h2) k2 (fun _ _ z=>by cases z) (fun _ _ z=>by cases z)) (fun z=>by cases z)
   | dct k1 k2=>exact absurd (Rd.inj (.inl h2) (.inl k2) (fun _ _ z=>by cases z) (fun _ _ z=>by cases z)) (fun z=>by cases z)
   | exc k1 k2=>simp [flat] at fe
   | xd k1 k2=>simp [flat] at fe
 | @lst a vs ds h1 h2 h3 h4 ih =>
  intro n e fd fe k
  cases n with
  | zero=>simp [flat] at fd
  | succ n =>
   simp only [flat] at fd
   cases k with
   | @lst _ ws es k1 k2 k3 k4 =>
    simp only [flat] at fe
    have e1:=Rd.inj h2 k2 (fun _ _ z=>by cases z) (fun _ _ z=>by cases z)
    injection e1 with e1
    subst e1
    rw [Reps.inj h3 k3 fun i v d e q1 q2 q3=>ih i v d q1 q2 (z2p fd (Ww q2)) (z2p fe (Ww q3)) (k4 i v e q1 q3)]
   | tup k1 k2=>exact absurd (Rd.inj h2 (.inl k2) (fun _ _ z=>by cases z) (fun _ _ z=>by cases z)) (fun z=>by cases z)
   | dct k1 k2=>exact absurd (Rd.inj h2 (.inl k2) (fun _ _ z=>by cases z) (fun _ _ z=>by cases z)) (fun z=>by cases z)
   | exc k1 k2=>simp [flat] at fe
   | xd k1 k2=>simp [flat] at fe
 | dct h1 h2 h3 h4 ih =>
  intro n e fd _ _
  cases n <;> simp [flat] at fd
 | exc h1 h2 =>
  intro n e fd _ _
  cases n <;> simp [flat] at fd
 | xd h1 h2 =>
  intro n e fd _ _
  cases n <;> simp [flat] at fd
def EqIt (H:Hp) (s:W2) (n:Nat):Prop:=∀ (A:Wp) (x y:V) (u w:Value) (d e:D),A.units + n + 1 < QD→flat n d=true→flat n e=true→Rep H NoO x d→Rep H NoO y e→RelV x u→RelV y w→EqAt A s u w (eqD d e)
def z8W (H:Hp) (s:W2) (A:Wp) (n:Nat):Prop:=match n with
 | 0=>True
 | m + 1=>A.units + m + 2 < QD∧EqIt H s m
def itE (ds es:List D) (j:Nat):Bool:=match ds[j]?,es[j]? with
 | some p,some q=>eqD p q
 | _,_=>false
theorem z9l (j:Nat) (p q:D) (e1:ds[j]? = some p) (e2:es[j]? = some q):itE ds es j=eqD p q:=by unfold itE; rw [e1,e2]
theorem z5y {n:Nat} {A:Wp} {vs ws:List V} {ds es:List D} {its jts:List Value} (hu:A.units + n + 2 < QD) (ih:EqIt H s n) (r1:Vals vs its) (r2:Vals ws jts) (l1:vs.length=ds.length) (l2:ws.length=es.length)
  (g1:∀ (i:Nat) v d,vs[i]? = some v→ds[i]? = some d→Rep H NoO v d) (g2:∀ (i:Nat) v d,ws[i]? = some v→es[i]? = some d→Rep H NoO v d) (f1:z69 n ds=true) (f2:z69 n es=true) :
  ∀ j (h1:j < its.toArray.size) (h2:j < jts.toArray.size),EqAt A.in1 s its.toArray[j] jts.toArray[j] (itE ds es j):=by
 intro j h1 h2
 have e1:=r1.length
 have e2:=r2.length
 simp at h1 h2
 have hd:j < ds.length:=by omega
 have he:j < es.length:=by omega
 have hv:j < vs.length:=by omega
 have hw:j < ws.length:=by omega
 obtain ⟨u',hu',ru'⟩:=r1.get (i:=j) (x:=vs[j]) (by simp [hv])
 obtain ⟨w',hw',rw''⟩:=r2.get (i:=j) (x:=ws[j]) (by simp [hw])
 have eu:its.toArray[j]=u':=by simpa [h1] using hu'
 have ew:jts.toArray[j]=w':=by simpa [h2] using hw'
 rw [eu,ew,z9l j ds[j] es[j] (by simp [hd]) (by simp [he])]
 exact ih A.in1 vs[j] ws[j] u' w' ds[j] es[j] (by rw [zba]; omega) (z2p f1 (Jv hd)) (z2p f2 (Jv he)) (g1 j _ _ (by simp [hv]) (by simp [hd])) (g2 j _ _ (by simp [hw]) (by simp [he])) ru' rw''
theorem zbH (h1:n=ds.length) (h2:m=es.length):((Ql (min n m)).all (itE ds es) && n == m)=eqDs ds es:=by
 subst h1 h2
 by_cases hl:ds.length=es.length
 ·rw [← hl,Nat.min_self,z5D hl z9l]
  simp
 ·rw [z5C hl]
  simp [hl]
theorem rcT (I:Inv X pins σ H s) (n:Nat) (A:Wp) (hu0:A.units < QD) (t1:s.heap.IsTuple a its.toArray) (t2:s.heap.IsTuple b jts.toArray) (r1:Vals vs its) (r2:Vals ws jts) (l1:vs.length=ds.length) (l2:ws.length=es.length)
  (g1:∀ (i:Nat) v d,vs[i]? = some v→ds[i]? = some d→Rep H NoO v d) (g2:∀ (i:Nat) v d,ws[i]? = some v→es[i]? = some d→Rep H NoO v d) (f1:flat n (.tup ds)=true) (f2:flat n (.tup es)=true) (ih:z8W H s A n) :
  RcAt A s (.ref a) (.ref b) (eqDs ds es):=by
 cases n with
 | zero=>simp [flat] at f1
 | succ n =>
  simp only [flat] at f1 f2
  obtain ⟨hu,ih⟩:=ih
  have q:=RcAt.tuples (A:=A) (s:=s) t1 t2 hu0 (z5y hu ih r1 r2 l1 l2 g1 g2 f1 f2)
  rw [zbH (by have:=r1.length; simp; omega) (by have:=r2.length; simp; omega)] at q
  exact q
theorem rnT (I:Inv X pins σ H s) (n:Nat) (A:Wp) (hu0:A.units < QD) (t1:s.heap.IsTuple a its.toArray) (t2:s.heap.IsTuple b jts.toArray) (r1:Vals vs its) (r2:Vals ws jts) (l1:vs.length=ds.length) (l2:ws.length=es.length)
  (g1:∀ (i:Nat) v d,vs[i]? = some v→ds[i]? = some d→Rep H NoO v d) (g2:∀ (i:Nat) v d,ws[i]? = some v→es[i]? = some d→Rep H NoO v d) (f1:flat n (.tup ds)=true) (f2:flat n (.tup es)=true) (ih:z8W H s A n) :
  RcNeAt A s (.ref a) (.ref b) (!eqDs ds es):=by
 cases n with
 | zero=>simp [flat] at f1
 | succ n =>
  simp only [flat] at f1 f2
  obtain ⟨hu,ih⟩:=ih
  have q:=RcNeAt.tuples (A:=A) (s:=s) t1 t2 hu0 (z5y hu ih r1 r2 l1 l2 g1 g2 f1 f2)
  rw [zbH (by have:=r1.length; simp; omega) (by have:=r2.length; simp; omega)] at q
  exact q
theorem rcL (I:Inv X pins σ H s) (n:Nat) (A:Wp) (hu0:A.units < QD) (t1:s.heap.IsList a its.toArray) (t2:s.heap.IsList b jts.toArray) (r1:Vals vs its) (r2:Vals ws jts) (l1:vs.length=ds.length) (l2:ws.length=es.length)
  (g1:∀ (i:Nat) v d,vs[i]? = some v→ds[i]? = some d→Rep H NoO v d) (g2:∀ (i:Nat) v d,ws[i]? = some v→es[i]? = some d→Rep H NoO v d) (f1:flat n (.lst ds)=true) (f2:flat n (.lst es)=true) (ih:z8W H s A n) :
  RcAt A s (.ref a) (.ref b) (eqDs ds es):=by
 cases n with
 | zero=>simp [flat] at f1
 | succ n =>
  simp only [flat] at f1 f2
  obtain ⟨hu,ih⟩:=ih
  have z1:its.toArray.size=ds.length:=by have:=r1.length; simp; omega
  have z2:jts.toArray.size=es.length:=by have:=r2.length; simp; omega
  by_cases hl:ds.length=es.length
  ·have q:=RcAt.lists (A:=A) (s:=s) t1 t2 (by rw [z1,z2]; exact hl) hu0 (z5y hu ih r1 r2 l1 l2 g1 g2 f1 f2)
   rw [z1,z5D hl z9l] at q
   exact q
  ·rw [z5C hl]
   exact RcAt.lists_lengths (A:=A) (s:=s) t1 t2 (by rw [z1,z2]; simpa using hl) hu0
theorem rnL (I:Inv X pins σ H s) (n:Nat) (A:Wp) (hu0:A.units < QD) (t1:s.heap.IsList a its.toArray) (t2:s.heap.IsList b jts.toArray) (r1:Vals vs its) (r2:Vals ws jts) (l1:vs.length=ds.length) (l2:ws.length=es.length)
  (g1:∀ (i:Nat) v d,vs[i]? = some v→ds[i]? = some d→Rep H NoO v d) (g2:∀ (i:Nat) v d,ws[i]? = some v→es[i]? = some d→Rep H NoO v d) (f1:flat n (.lst ds)=true) (f2:flat n (.lst es)=true) (ih:z8W H s A n) :
  RcNeAt A s (.ref a) (.ref b) (!eqDs ds es):=by
 cases n with
 | zero=>simp [flat] at f1
 | succ n =>
  simp only [flat] at f1 f2
  obtain ⟨hu,ih⟩:=ih
  have z1:its.toArray.size=ds.length:=by have:=r1.length; simp; omega
  have z2:jts.toArray.size=es.length:=by have:=r2.length; simp; omega
  by_cases hl:ds.length=es.length
  ·have q:=RcNeAt.lists (A:=A) (s:=s) t1 t2 (by rw [z1,z2]; exact hl) hu0 (z5y hu ih r1 r2 l1 l2 g1 g2 f1 f2)
   rw [z1,z5D hl z9l] at q
   exact q
  ·rw [z5C hl]
   exact RcNeAt.lists_lengths (A:=A) (s:=s) t1 t2 (by rw [z1,z2]; simpa using hl) hu0
theorem rcD (I:Inv X pins σ H s) (n:Nat) (A:Wp) (x y:V) (u w:Value) (d e:D) (hu0:A.units < QD) (fd:flat n d=true) (fe:flat n e=true) (ih:z8W H s A n) (rx:Rep H NoO x d) (ry:Rep H NoO y e) (ru:RelV x u) (rw':RelV y w):RcAt A s u w (eqD d e):=by
 cases rx with
 | non =>
  cases ru
  cases ry with
  | non =>
   cases rw'
   simp only [eqD]; exact RcAt.none_none
  | bl q =>
   cases rw'
   simp only [eqD]; exact RcAt.none_bool _
  | int q =>
   obtain ⟨t2,rfl⟩:=rw'
   simp only [eqD]; exact RcAt.none_int _ _
  | str q =>
   obtain ⟨t2,rfl⟩:=rw'
   simp only [eqD]; exact RcAt.none_str _ _
  | tup k1 k2 k3 k4 =>
   cases rw'; obtain ⟨its2,r2,t2⟩:=Inv.rdT I k2
   simp only [eqD]; exact RcAt.none_tuple t2 hu0
  | lst k1 k2 k3 k4 =>
   cases rw'; obtain ⟨its2,r2,t2⟩:=Inv.rdL I k2
   simp only [eqD]; exact RcAt.none_list t2 hu0
  | dct k1 k2 k3 k4=>(cases n <;> simp [flat] at fe)
  | exc k1 k2=>(cases n <;> simp [flat] at fe)
  | xd k1 k2=>(cases n <;> simp [flat] at fe)
 | bl p =>
  cases ru
  cases ry with
  | non =>
   cases rw'
   simp only [eqD]; exact RcAt.bool_none _
  | bl q =>
   cases rw'
   simp only [eqD]; exact RcAt.bool_bool _ _
  | int q =>
   obtain ⟨t2,rfl⟩:=rw'
   simp only [eqD]; exact RcAt.bool_int _ _ _
  | str q =>
   obtain ⟨t2,rfl⟩:=rw'
   simp only [eqD]; exact RcAt.bool_str _ _ _
  | tup k1 k2 k3 k4 =>
   cases rw'; obtain ⟨its2,r2,t2⟩:=Inv.rdT I k2
   simp only [eqD]; exact RcAt.bool_tuple _ t2 hu0
  | lst k1 k2 k3 k4 =>
   cases rw'; obtain ⟨its2,r2,t2⟩:=Inv.rdL I k2
   simp only [eqD]; exact RcAt.bool_list _ t2 hu0
  | dct k1 k2 k3 k4=>(cases n <;> simp [flat] at fe)
  | exc k1 k2=>(cases n <;> simp [flat] at fe)
  | xd k1 k2=>(cases n <;> simp [flat] at fe)
 | int p =>
  obtain ⟨t1,rfl⟩:=ru
  cases ry with
  | non =>
   cases rw'
   simp only [eqD]; exact RcAt.int_none _ _
  | bl q =>
   cases rw'
   simp only [eqD]; exact RcAt.int_bool _ _ _
  | int q =>
   obtain ⟨t2,rfl⟩:=rw'
   simp only [eqD]; exact RcAt.int_int _ _ _ _
  | str q =>
   obtain ⟨t2,rfl⟩:=rw'
   simp only [eqD]; exact RcAt.int_str _ _ _ _
  | tup k1 k2 k3 k4 =>
   cases rw'; obtain ⟨its2,r2,t2⟩:=Inv.rdT I k2
   simp only [eqD]; exact RcAt.int_tuple _ _ t2 hu0
  | lst k1 k2 k3 k4 =>
   cases rw'; obtain ⟨its2,r2,t2⟩:=Inv.rdL I k2
   simp only [eqD]; exact RcAt.int_list _ _ t2 hu0
  | dct k1 k2 k3 k4=>(cases n <;> simp [flat] at fe)
  | exc k1 k2=>(cases n <;> simp [flat] at fe)
  | xd k1 k2=>(cases n <;> simp [flat] at fe)
 | str p =>
  obtain ⟨t1,rfl⟩:=ru
  cases ry with
  | non =>
   cases rw'
   simp only [eqD]; exact RcAt.str_none _ _
  | bl q =>
   cases rw'
   simp only [eqD]; exact RcAt.str_bool _ _ _
  | int q =>
   obtain ⟨t2,rfl⟩:=rw'
   simp only [eqD]; exact RcAt.str_int _ _ _ _
  | str q =>
   obtain ⟨t2,rfl⟩:=rw'
   simp only [eqD]; rw [← z8A]; exact RcAt.str_str _ _ _ _
  | tup k1 k2 k3 k4 =>
   cases rw'; obtain ⟨its2,r2,t2⟩:=Inv.rdT I k2
   simp only [eqD]; exact RcAt.str_tuple _ _ t2 hu0
  | lst k1 k2 k3 k4 =>
   cases rw'; obtain ⟨its2,r2,t2⟩:=Inv.rdL I k2
   simp only [eqD]; exact RcAt.str_list _ _ t2 hu0
  | dct k1 k2 k3 k4=>(cases n <;> simp [flat] at fe)
  | exc k1 k2=>(cases n <;> simp [flat] at fe)
  | xd k1 k2=>(cases n <;> simp [flat] at fe)
 | tup h1 h2 h3 h4 =>
  cases ru; obtain ⟨its1,r1,t1⟩:=Inv.rdT I h2
  cases ry with
  | non =>
   cases rw'
   simp only [eqD]; exact RcAt.tuple_none t1 hu0
  | bl q =>
   cases rw'
   simp only [eqD]; exact RcAt.tuple_bool _ t1 hu0
  | int q =>
   obtain ⟨t2,rfl⟩:=rw'
   simp only [eqD]; exact RcAt.tuple_int _ _ t1 hu0
  | str q =>
   obtain ⟨t2,rfl⟩:=rw'
   simp only [eqD]; exact RcAt.tuple_str _ _ t1 hu0
  | tup k1 k2 k3 k4 =>
   cases rw'; obtain ⟨its2,r2,t2⟩:=Inv.rdT I k2
   simp only [eqD]; exact rcT I n A hu0 t1 t2 r1 r2 h3 k3 h4 k4 fd fe ih
  | lst k1 k2 k3 k4 =>
   cases rw'; obtain ⟨its2,r2,t2⟩:=Inv.rdL I k2
   simp only [eqD]; exact RcAt.tuple_list t1 t2 hu0
  | dct k1 k2 k3 k4=>(cases n <;> simp [flat] at fe)
  | exc k1 k2=>(cases n <;> simp [flat] at fe)
  | xd k1 k2=>(cases n <;> simp [flat] at fe)
 | lst h1 h2 h3 h4 =>
  cases ru; obtain ⟨its1,r1,t1⟩:=Inv.rdL I h2
  cases ry with
  | non =>
   cases rw'
   simp only [eqD]; exact RcAt.list_none t1 hu0
  | bl q =>
   cases rw'
   simp only [eqD]; exact RcAt.list_bool _ t1 hu0
  | int q =>
   obtain ⟨t2,rfl⟩:=rw'
   simp only [eqD]; exact RcAt.list_int _ _ t1 hu0
  | str q =>
   obtain ⟨t2,rfl⟩:=rw'
   simp only [eqD]; exact RcAt.list_str _ _ t1 hu0
  | tup k1 k2 k3 k4 =>
   cases rw'; obtain ⟨its2,r2,t2⟩:=Inv.rdT I k2
   simp only [eqD]; exact RcAt.list_tuple t1 t2 hu0
  | lst k1 k2 k3 k4 =>
   cases rw'; obtain ⟨its2,r2,t2⟩:=Inv.rdL I k2
   simp only [eqD]; exact rcL I n A hu0 t1 t2 r1 r2 h3 k3 h4 k4 fd fe ih
  | dct k1 k2 k3 k4=>(cases n <;> simp [flat] at fe)
  | exc k1 k2=>(cases n <;> simp [flat] at fe)
  | xd k1 k2=>(cases n <;> simp [flat] at fe)
 | dct h1 h2 h3 h4=>(cases n <;> simp [flat] at fd)
 | exc h1 h2=>(cases n <;> simp [flat] at fd)
 | xd h1 h2=>(cases n <;> simp [flat] at fd)
theorem rnD (I:Inv X pins σ H s) (n:Nat) (A:Wp) (x y:V) (u w:Value) (d e:D) (hu0:A.units < QD) (fd:flat n d=true) (fe:flat n e=true) (ih:z8W H s A n) (rx:Rep H NoO x d) (ry:Rep H NoO y e) (ru:RelV x u) (rw':RelV y w):RcNeAt A s u w (!eqD d e):=by
 cases rx with
 | non =>
  cases ru
  cases ry with
  | non =>
   cases rw'
   simp only [eqD]; exact RcNeAt.none_none
  | bl q =>
   cases rw'
   simp only [eqD]; exact RcNeAt.none_bool _
  | int q =>
   obtain ⟨t2,rfl⟩:=rw'
   simp only [eqD]; exact RcNeAt.none_int _ _
  | str q =>
   obtain ⟨t2,rfl⟩:=rw'
   simp only [eqD]; exact RcNeAt.none_str _ _
  | tup k1 k2 k3 k4 =>
   cases rw'; obtain ⟨its2,r2,t2⟩:=Inv.rdT I k2
   simp only [eqD]; exact RcNeAt.none_tuple t2 hu0
  | lst k1 k2 k3 k4 =>
   cases rw'; obtain ⟨its2,r2,t2⟩:=Inv.rdL I k2
   simp only [eqD]; exact RcNeAt.none_list t2 hu0
  | dct k1 k2 k3 k4=>(cases n <;> simp [flat] at fe)
  | exc k1 k2=>(cases n <;> simp [flat] at fe)
  | xd k1 k2=>(cases n <;> simp [flat] at fe)
 | bl p =>
  cases ru
  cases ry with
  | non =>
   cases rw'
   simp only [eqD]; exact RcNeAt.bool_none _
  | bl q =>
   cases rw'
   simp only [eqD]; exact RcNeAt.bool_bool _ _
  | int q =>
   obtain ⟨t2,rfl⟩:=rw'
   simp only [eqD]; exact RcNeAt.bool_int _ _ _
  | str q =>
   obtain ⟨t2,rfl⟩:=rw'
   simp only [eqD]; exact RcNeAt.bool_str _ _ _
  | tup k1 k2 k3 k4 =>
   cases rw'; obtain ⟨its2,r2,t2⟩:=Inv.rdT I k2
   simp only [eqD]; exact RcNeAt.bool_tuple _ t2 hu0
  | lst k1 k2 k3 k4 =>
   cases rw'; obtain ⟨its2,r2,t2⟩:=Inv.rdL I k2
   simp only [eqD]; exact RcNeAt.bool_list _ t2 hu0
  | dct k1 k2 k3 k4=>(cases n <;> simp [flat] at fe)
  | exc k1 k2=>(cases n <;> simp [flat] at fe)
  | xd k1 k2=>(cases n <;> simp [flat] at fe)
 | int p =>
  obtain ⟨t1,rfl⟩:=ru
  cases ry with
  | non =>
   cases rw'
   simp only [eqD]; exact RcNeAt.int_none _ _
  | bl q =>
   cases rw'
   simp only [eqD]; exact RcNeAt.int_bool _ _ _
  | int q =>
   obtain ⟨t2,rfl⟩:=rw'
   simp only [eqD]; exact RcNeAt.int_int _ _ _ _
  | str q =>
   obtain ⟨t2,rfl⟩:=rw'
   simp only [eqD]; exact RcNeAt.int_str _ _ _ _
  | tup k1 k2 k3 k4 =>
   cases rw'; obtain ⟨its2,r2,t2⟩:=Inv.rdT I k2
   simp only [eqD]; exact RcNeAt.int_tuple _ _ t2 hu0
  | lst k1 k2 k3 k4 =>
   cases rw'; obtain ⟨its2,r2,t2⟩:=Inv.rdL I k2
   simp only [eqD]; exact RcNeAt.int_list _ _ t2 hu0
  | dct k1 k2 k3 k4=>(cases n <;> simp [flat] at fe)
  | exc k1 k2=>(cases n <;> simp [flat] at fe)
  | xd k1 k2=>(cases n <;> simp [flat] at fe)
 | str p =>
  obtain ⟨t1,rfl⟩:=ru
  cases ry with
  | non =>
   cases rw'
   simp only [eqD]; exact RcNeAt.str_none _ _
  | bl q =>
   cases rw'
   simp only [eqD]; exact RcNeAt.str_bool _ _ _
  | int q =>
   obtain ⟨t2,rfl⟩:=rw'
   simp only [eqD]; exact RcNeAt.str_int _ _ _ _
  | str q =>
   obtain ⟨t2,rfl⟩:=rw'
   simp only [eqD]; rw [← z8A]; exact RcNeAt.str_str _ _ _ _
  | tup k1 k2 k3 k4 =>
   cases rw'; obtain ⟨its2,r2,t2⟩:=Inv.rdT I k2
   simp only [eqD]; exact RcNeAt.str_tuple _ _ t2 hu0
  | lst k1 k2 k3 k4 =>
   cases rw'; obtain ⟨its2,r2,t2⟩:=Inv.rdL I k2
   simp only [eqD]; exact RcNeAt.str_list _ _ t2 hu0
  | dct k1 k2 k3 k4=>(cases n <;> simp [flat] at fe)
  | exc k1 k2=>(cases n <;> simp [flat] at fe)
  | xd k1 k2=>(cases n <;> simp [flat] at fe)
 | tup h1 h2 h3 h4 =>
  cases ru; obtain ⟨its1,r1,t1⟩:=Inv.rdT I h2
  cases ry with
  | non =>
   cases rw'
   simp only [eqD]; exact RcNeAt.tuple_none t1 hu0
  | bl q =>
   cases rw'
   simp only [eqD]; exact RcNeAt.tuple_bool _ t1 hu0
  | int q =>
   obtain ⟨t2,rfl⟩:=rw'
   simp only [eqD]; exact RcNeAt.tuple_int _ _ t1 hu0
  | str q =>
   obtain ⟨t2,rfl⟩:=rw'
   simp only [eqD]; exact RcNeAt.tuple_str _ _ t1 hu0
  | tup k1 k2 k3 k4 =>
   cases rw'; obtain ⟨its2,r2,t2⟩:=Inv.rdT I k2
   simp only [eqD]; exact rnT I n A hu0 t1 t2 r1 r2 h3 k3 h4 k4 fd fe ih
  | lst k1 k2 k3 k4 =>
   cases rw'; obtain ⟨its2,r2,t2⟩:=Inv.rdL I k2
   simp only [eqD]; exact RcNeAt.tuple_list t1 t2 hu0
  | dct k1 k2 k3 k4=>(cases n <;> simp [flat] at fe)
  | exc k1 k2=>(cases n <;> simp [flat] at fe)
  | xd k1 k2=>(cases n <;> simp [flat] at fe)
 | lst h1 h2 h3 h4 =>
  cases ru; obtain ⟨its1,r1,t1⟩:=Inv.rdL I h2
  cases ry with
  | non =>
   cases rw'
   simp only [eqD]; exact RcNeAt.list_none t1 hu0
  | bl q =>
   cases rw'
   simp only [eqD]; exact RcNeAt.list_bool _ t1 hu0
  | int q =>
   obtain ⟨t2,rfl⟩:=rw'
   simp only [eqD]; exact RcNeAt.list_int _ _ t1 hu0
  | str q =>
   obtain ⟨t2,rfl⟩:=rw'
   simp only [eqD]; exact RcNeAt.list_str _ _ t1 hu0
  | tup k1 k2 k3 k4 =>
   cases rw'; obtain ⟨its2,r2,t2⟩:=Inv.rdT I k2
   simp only [eqD]; exact RcNeAt.list_tuple t1 t2 hu0
  | lst k1 k2 k3 k4 =>
   cases rw'; obtain ⟨its2,r2,t2⟩:=Inv.rdL I k2
   simp only [eqD]; exact rnL I n A hu0 t1 t2 r1 r2 h3 k3 h4 k4 fd fe ih
  | dct k1 k2 k3 k4=>(cases n <;> simp [flat] at fe)
  | exc k1 k2=>(cases n <;> simp [flat] at fe)
  | xd k1 k2=>(cases n <;> simp [flat] at fe)
 | dct h1 h2 h3 h4=>(cases n <;> simp [flat] at fd)
 | exc h1 h2=>(cases n <;> simp [flat] at fd)
 | xd h1 h2=>(cases n <;> simp [flat] at fd)
theorem zbo (h:RcAt A s u w k) (hs:u=w→k=true) (hf:∀ b t,u≠Value.float b t):EqAt A s u w k:=fun prog w' E Q hq=>by
 unfold eqBool
 refine WX ?_
 refine wpAny_ite_split (fun hab=>?_) (fun _=>?_)
 ·have e:=eq_of_beq hab
  rw [hs e] at hq
  exact W1 (Jr (Wd hq))
 ·cases u with
  | float b t=>exact absurd rfl (hf b t)
  | _=>exact W1 (h prog w' E _ (WR hq))
theorem zaY (r:Rep H NoO x d) (ru:RelV x u) (b:UInt64) (t:Tok):u≠Value.float b t:=by
 intro e
 subst e
 cases r <;> first | (cases ru; done) | (obtain ⟨t',e⟩:=ru; cases e)
theorem eqAtD (I:Inv X pins σ H s) (n:Nat):EqIt H s n:=by
 induction n with
 | zero =>
  intro A x y u w d e hu fd fe rx ry ru rw'
  refine zbo (rcD I 0 A x y u w d e (by omega) fd fe trivial rx ry ru rw') (fun h=>?_) (zaY rx ru)
  subst h
  have:=ru.inj rw'
  subst this
  rw [Rep.inj rx fd fe ry]
  exact z7s fe
 | succ n ih =>
  intro A x y u w d e hu fd fe rx ry ru rw'
  refine zbo (rcD I (n + 1) A x y u w d e (by omega) fd fe ⟨by omega,ih⟩ rx ry ru rw') (fun h=>?_) (zaY rx ru)
  subst h
  have:=ru.inj rw'
  subst this
  rw [Rep.inj rx fd fe ry]
  exact z7s fe
theorem zgA (I:Inv X pins σ H s):∀ n:Nat,A.units + n + 1 < QD→z8W H s A n
 | 0,_=>trivial
 | n + 1,h=>⟨by omega,eqAtD I n⟩
def rEqD:R2:=fun x y H Q=>∃ d e,Rep H NoO x d∧Rep H NoO y e∧flat 50 d=true∧flat 50 e=true∧Q (.bl (eqD d e)) H
def rNeD:R2:=fun x y H Q=>∃ d e,Rep H NoO x d∧Rep H NoO y e∧flat 50 d=true∧flat 50 e=true∧Q (.bl (!eqD d e)) H
theorem z21 (hu:X.A.units + 64 < QD):OpR X (Wt .Eq) rEqD:=by
 intro pins s σ H x y v u Q I rx ry h
 obtain ⟨d,e,r1,r2,f1,f2,q⟩:=h
 exact rcD I 50 X.A x y v u d e (by omega) f1 f2 (zgA I 50 (by omega)) r1 r2 rx ry X.prog X.w X.xe _ ⟨.bl _,H,I,rfl,q⟩
theorem z1G (hu:X.A.units + 64 < QD):OpR X (Wt .NotEq) rNeD:=by
 intro pins s σ H x y v u Q I rx ry h
 obtain ⟨d,e,r1,r2,f1,f2,q⟩:=h
 exact rnD I 50 X.A x y v u d e (by omega) f1 f2 (zgA I 50 (by omega)) r1 r2 rx ry X.prog X.w X.xe _ ⟨.bl _,H,I,rfl,q⟩
end
def cutL {α:Type} (xs:List α) (lo hi:Option Int):List α:=(xs.drop (HT.sIx xs.length 0 lo)).take (HT.sIx xs.length xs.length hi - HT.sIx xs.length 0 lo)
theorem zdo (xs:List V) (lo hi:Option Int):cutL xs lo hi=cutV xs lo hi:=rfl
theorem zcW (xs:List α) (lo hi:Option Int):(cutL xs lo hi).length≤xs.length:=by
 unfold cutL
 rw [Jc,Jd]
 omega
theorem Reps.cut (lo hi:Option Int) (h:Reps H O vs ds):Reps H O (cutL vs lo hi) (cutL ds lo hi):=by
 unfold cutL
 rw [h.1]
 exact Reps.take _ (Reps.drop _ h)
theorem zbu {α:Type} {xs:List α} {lo hi:Option Int} (h:HT.sIx xs.length 0 lo=0∧HT.sIx xs.length xs.length hi=xs.length):cutL xs lo hi=xs:=by
 unfold cutL
 rw [h.1,h.2]
 simp
section
variable {prog:Wk} {w:Wr} {A:Wp} {E:Value→W2→Prop} {s:W2}
theorem z4e {t sl:Addr} {items:Array Value} {vl vu:Value} {lo hi:Option Int} {Q:Value→W2→Prop} (ht:IsTup s.heap t items) (hs:s.heap.IsSliceOf sl vl vu .none) (pl:IsPart vl lo) (pu:IsPart vu hi)
  (hw:HT.sIx items.size 0 lo=0∧HT.sIx items.size items.size hi=items.size) (h:Q (.ref t) s):Wa (model prog w) A (getItem (.ref t) (.ref sl)) Q E s:=by
 obtain ⟨os,hos,hcs,hds⟩:=id hs
 have hTs:s.TypeIs (.ref sl) "slice":=⟨os,hos,hcs⟩
 unfold getItem
 try with_reducible refine WX ?_
 first | refine W1 (Wd ?_) | skip
 refine W1 (wpAny_sequenceKey ht.typeIs (by decide) ?_)
 refine W1 (QT (name:=Str.ofString "__getitem__") ht.typeIs Qt
  (wpAny_call_entry Qt ht.typeIs entry_tuple_getitem ?_ (args_tuple_getitem _ _)))
 show Wa _ _ (Builtin.Tuple.tupleItemsOf (.ref t) >>= _) _ _ s
 refine W1 (tupleItemsOf_ ht ?_)
 refine W1 (J5 hTs ?_)
 rw [if_pos (by decide)]
 refine W1 (HT.sliceApplied_gen hs pl pu ?_)
 show Wa _ _ (if (((HT.sIx items.size 0 lo:Nat):Int) == 0 && (1:Int) == 1 && (HT.sIx items.size items.size hi - HT.sIx items.size 0 lo) == items.size)=true then _ else _) _ _ s
 rw [hw.1,hw.2]
 rw [if_pos (by simp)]
 refine W1 (m:=Builtin.Tuple.tupleIsExact (.ref t)) ?_
 unfold Builtin.Tuple.tupleIsExact
 refine W1 (J5 ht.typeIs (Wd ?_))
 rw [if_pos (by decide)]
 exact W1 (Jr (W1 (Wd (Wd ⟨_,rfl,Wd h⟩))))
end
section
variable {X:Cx}
def zfu (K:W0):V→Option Int→Option Int→Hp→VK→Prop:=fun x lo hi H Q=>∃ a xs,x = .ref a∧SqT K H a xs ∧
 ((HT.sIx xs.length 0 lo=0∧HT.sIx xs.length xs.length hi=xs.length)→Q (.ref a) H)∧(¬ (HT.sIx xs.length 0 lo=0∧HT.sIx xs.length xs.length hi=xs.length)→∀ p,H p=none→Q (.ref p) (upd H p (.tup (cutV xs lo hi))))
theorem sl_tup2:SlR X (zfu X.K):=by
 intro pins s σ H x v vl vu lo hi sl Q I rx hs pl pu h
 obtain ⟨a,xs,rfl,hx,q1,q2⟩:=h
 by_cases hw:HT.sIx xs.length 0 lo=0∧HT.sIx xs.length xs.length hi=xs.length
 ·cases rx
  obtain ⟨its,r,ht,hz⟩:=I.tuple hx
  have hlen:its.toArray.size=xs.length:=by rw [Wf]; exact r.length.symm
  refine ⟨"tuple",_,PyProof.Rows.slot_tuple_getitem.lookup,ht.typeIs,?_⟩
  exact z4e ht hs pl pu (by rw [hlen]; exact hw) ⟨.ref a,H,I,rfl,q1 hw⟩
 ·exact zfa pins s σ H (.ref a) v vl vu lo hi sl Q I rx hs pl pu ⟨a,xs,rfl,hx,hw,q2 hw⟩
theorem zau (a b:Nat):sliceRange (a:Int) (b:Int) 1=(Ql (b - a)).map (fun k=>a + k):=by
 have h0:((1:Int) > 0)=True:=by simp
 unfold sliceRange
 simp only [h0,if_true]
 by_cases hlt:(a:Int) < (b:Int)
 ·rw [if_pos hlt]
  have e3:(((b:Int) - (a:Int) + 1 - 1) / 1).toNat=b - a:=by
   rw [Int.ediv_one]; omega
  rw [e3]
  refine List.map_congr_left fun k _=>?_
  omega
 ·rw [if_neg hlt]
  have:b - a=0:=by omega
  rw [this]
  rfl
theorem z6w (lo hi:Option Int) (n:Nat):Qi lo hi 1 n=(Ql (HT.sIx n n hi - HT.sIx n 0 lo)).map (fun k=>HT.sIx n 0 lo + k):=by
 have c:∀ (i:Int) (d:Nat),max 0 (min (if i < 0 then i + (n:Int) else i) (n:Int))=((HT.sIx n d (some i):Nat):Int):=by
  intro i d
  show max 0 (min (if i < 0 then i + (n:Int) else i) (n:Int))=(((if i < 0 then (i + (n:Int)).toNat else min i.toNat n):Nat):Int)
  by_cases hi:i < 0
  ·simp only [if_pos hi]; omega
  ·simp only [if_neg hi]; omega
 have h0:((1:Int) > 0)=True:=by simp
 rw [← zau]
 unfold Qi
 simp only [h0,if_true]
 cases lo with
 | none =>
  cases hi with
  | none=>rfl
  | some j=>show sliceRange 0 (max 0 (min (if j < 0 then j + (n:Int) else j) (n:Int))) 1=_; rw [c j n]; rfl
 | some i =>
  cases hi with
  | none=>show sliceRange (max 0 (min (if i < 0 then i + (n:Int) else i) (n:Int))) (n:Int) 1=_; rw [c i 0]; rfl
  | some j=>show sliceRange (max 0 (min (if i < 0 then i + (n:Int) else i) (n:Int))) (max 0 (min (if j < 0 then j + (n:Int) else j) (n:Int))) 1=_; rw [c i 0,c j n]
theorem zdH (x:Tx) (lo hi:Option Int):(⟨((Qi lo hi 1 (toS x).length).filterMap ((toS x).cps[·]?)).toArray⟩:Str)=toS (cutL x lo hi):=by
 unfold toS
 congr 1
 rw [z6w]
 have:=pick_run (x.toArray) (HT.sIx x.length 0 lo) (HT.sIx x.length x.length hi - HT.sIx x.length 0 lo)
 have hl:({ cps:=x.toArray }:Str).length=x.length:=by simp [Str.length]
 rw [hl]
 rw [this]
 rfl
def rSlS:V→Option Int→Option Int→Hp→VK→Prop:=fun x lo hi H Q=>∃ z:Tx,x = .str (toS z)∧z.length≤W8∧Q (.str (toS (cutL z lo hi))) H
theorem zaM (p:IsPart v o):∃ q:Option (Int×Tok),v=partValue q∧q.map (·.1)=o:=by
 cases p with
 | none=>exact ⟨none,rfl,rfl⟩
 | int i t=>exact ⟨some (i,t),rfl,rfl⟩
theorem sl_str:SlR X rSlS:=by
 intro pins s σ H x v vl vu lo hi sl Q I rx hs pl pu h
 obtain ⟨z,rfl,hz,q⟩:=h
 obtain ⟨t,rfl⟩:=rx
 obtain ⟨l,rfl,el⟩:=zaM pl
 obtain ⟨u,rfl,eu⟩:=zaM pu
 obtain ⟨o,ho,hc,hd⟩:=hs
 refine ⟨"str",_,F.slot_str_getitem.lookup,typeIs_str s _ t,?_⟩
 refine wpAny_getItem_str_slice (l:=l) (u:=u) (st:=none) ⟨o,ho,hc,hd⟩ rfl ?_
 unfold sliceMade
 have e:(slicePicked (toS z) l u none)=Qi lo hi 1 (toS z).length:=by
  unfold slicePicked
  rw [el,eu]
  rfl
 rw [e]
 by_cases hw:(((none:Option (Int×Tok)).map (·.1)).getD 1 == 1 && (Qi lo hi 1 (toS z).length).length == (toS z).length)=true
 ·rw [if_pos hw]
  refine ⟨.str (toS (cutL z lo hi)),H,I,⟨t,?_⟩,q⟩
  congr 1
  rw [We] at hw
  have hw2:=eq_of_beq hw.2
  rw [z6w,Wu,List.length_range,z1O] at hw2
  have h1:=HT.sIx_le z.length 0 (QL _) lo
  have h2:=HT.sIx_le z.length z.length (W7 _) hi
  unfold cutL
  congr 1
  by_cases h0:z.length=0
  ·have:z=[]:=List.eq_nil_of_length_eq_zero h0
   subst this
   simp
  ·have a1:HT.sIx z.length 0 lo=0:=by omega
   rw [a1] at hw2 ⊢
   rw [hw2]
   simp
 ·rw [if_neg hw]
  show Made.post (.str _) _ _
  rw [zdH]
  exact ⟨by rw [z1O]; exact Wn (zcW z lo hi) hz,.str (toS (cutL z lo hi)),H,I.tok _,⟨_,rfl⟩,q⟩
theorem op_catT0:OpR X (Q7 .Add) (fun x y H Q=>∃ a b ys,x = .ref a∧y = .ref b∧SqT X.K H a []∧SqT X.K H b ys∧Q (.ref b) H):=by
 intro pins s σ H x y v u Q I rx ry h
 obtain ⟨a,b,ys,rfl,rfl,ha,hb,q⟩:=h
 cases rx
 cases ry
 obtain ⟨its,r1,p1,_⟩:=I.tuple ha
 obtain ⟨its2,r2,p2,_⟩:=I.tuple hb
 cases r1
 obtain ⟨⟨cls,dd,data,sl⟩,ho,hc,n,hd⟩:=id p1
 obtain ⟨⟨cls2,dd2,data2,sl2⟩,ho2,hc2,n2,hd2⟩:=id p2
 simp only at hc hd hc2 hd2
 subst hc hd hc2 hd2
 exact concat_meets ⟨_,ho,rfl⟩ ⟨_,ho2,rfl⟩ noFill_tuple_add seq_tuple_add PySem.F.slot_tuple_add PySem.F.entry_tuple_add (PySem.F.args_tuple_add_2 _ _)
   (tuple_addW0 a b #[] its2.toArray n n2 dd dd2 sl sl2 rfl) ⟨ho,ho2,.ref b,H,I,rfl,q⟩
def zfA (K:W0):R2:=fun x y H Q=>∃ l b xs zs,x = .ref l∧y = .ref b∧SqL K H l xs∧SqL K H b zs∧xs.length + zs.length≤W8∧∀ p,H p=none→Q (.ref p) (upd H p (.lst (xs ++ zs)))
theorem zeq:OpR X (Q7 .Add) (zfA X.K):=by
 intro pins s σ H x y v u Q I rx ry h
 obtain ⟨l,b,xs,zs,rfl,rfl,hH,hB,hz,q⟩:=h
 cases rx
 cases ry
 obtain ⟨its,r,⟨⟨cls,dd,data,sl⟩,n,e,hc,hdd,hd⟩,z⟩:=I.list hH
 obtain ⟨its2,r2,⟨⟨cls2,dd2,data2,sl2⟩,n2,e2,hc2,hdd2,hd2⟩,z2⟩:=I.list hB
 simp only at hc hd hdd hc2 hd2 hdd2
 subst hc hd hdd hc2 hd2 hdd2
 have hl:=r.length
 have hl2:=r2.length
 refine concat_meets ⟨_,e,rfl⟩ ⟨_,e2,rfl⟩ noFill_list_add seq_list_add PySem.F.slot_list_add PySem.F.entry_list_add (PySem.F.args_list_add_2 _ _)
   (list_addW l b its.toArray its2.toArray n n2 none none sl sl2 (by rw [Wf,Wf]; omega)) ⟨e,e2,?_⟩
 have ea:its.toArray ++ its2.toArray=(its ++ its2).toArray:=by simp
 rw [ea]
 exact ⟨.ref _,_,I.lnew (t':=s.toks) (r.append r2) (by rw [WP]; omega),rfl,q _ I.fresh⟩
theorem z4P:∀ {ys:List Str} {us:List Value},Vals (ys.map V.str) us→StrsAre us ys
 | [],us,r=>by cases r; exact .nil
 | y :: ys,us,r=>by
  cases r with
  | cons r1 r2 =>
   obtain ⟨t,rfl⟩:=r1
   exact .cons y t (z4P r2)
def zc8 (K:W0):V→List V→Hp→VK→Prop:=fun x vs H Q=>∃ (z:Str) (a:Addr) (ys:List Str),x = .str z∧vs=[.ref a]∧(SqL K H a (ys.map V.str)∨SqT K H a (ys.map V.str)) ∧
 (ys.map (·.length)).sum + ys.length * z.length≤16777216∧Q (.str (Txt.join z ys)) H
theorem zev:MtR X "str.join" (zc8 X.K):=by
 intro pins s σ H x vs v us Q I rx rv h
 obtain ⟨z,a,ys,rfl,rfl,hq,hz,q⟩:=h
 obtain ⟨t,rfl⟩:=rx
 obtain ⟨u,rfl,ru⟩:=rv.one
 cases ru
 rcases hq with hq | hq
 ·obtain ⟨its,r,p,_⟩:=I.list hq
  exact join_list p.isList (by simpa using z4P r) hz fun t' k=>⟨.str _,H,I.tok _,⟨t',rfl⟩,q⟩
 ·obtain ⟨its,r,p,_⟩:=I.tuple hq
  exact join_tuple p (by simpa using z4P r) hz fun t' k=>⟨.str _,H,I.tok _,⟨t',rfl⟩,q⟩
theorem z8t:∀ {bs:List Bool} {us:List Value},Vals (bs.map V.bl) us→∀ (i:Nat) v,us[i]? = some v→∃ b,bs[i]? = some b∧v = .bool b
 | [],us,r,i,v,e=>by cases r; simp at e
 | b :: bs,us,r,i,v,e=>by
  cases r with
  | cons r1 r2 =>
   cases i with
   | zero =>
    simp at e
    subst e
    exact ⟨b,rfl,r1⟩
   | succ i=>exact z8t r2 i v (by simpa using e)
theorem z6C:∀ bs:List Bool,((Ql bs.length).all fun i=>(bs[i]?).getD true)=bs.all id
 | []=>rfl
 | b :: bs=>by
  rw [Ws,List.range_succ_eq_map,Qb,Jz]
  have:=z6C bs
  simp only [QU,Option.getD_some,Qb,id]
  rw [← this]
  rfl
theorem zcZ (hc:X.calm=true):CallR X (.builtin "all") (fun xs H Q=>∃ (a:Addr) (bs:List Bool),xs=[.ref a]∧SqL X.K H a (bs.map V.bl)∧Q (.bl (bs.all (fun b=>b))) H):=by
 intro pins s σ H xs us Q I r h
 obtain ⟨a,bs,rfl,hq,q⟩:=h
 obtain ⟨u,rfl,ru⟩:=z4p r
 cases ru
 obtain ⟨its,r',p,_⟩:=I.list hq
 have hl:=p.isList
 have hlt:a < s.heap.objs.size:=by obtain ⟨_,e,_⟩:=hl; exact Wg e
 have hlen:=r'.length
 rw [Wu] at hlen
 refine call_all_walk (QH hl ?_)
 refine ⟨s.heap.objs.size,[s.heap.objs.size,a],[s.heap.objs.size],its.toArray.size,_,_,fun i=>(bs[i]?).getD true,rfl,Walks.list (A:=X.A.in1) (I.ok.hd hc) _ a (Wy hlt) its.toArray,
  ⟨⟨_,Wm _ rfl,rfl,rfl⟩,hl.push _⟩,fun i v s' Q' E' hP hQ=>?_,fun h' tk hk=>?_⟩
 ·obtain ⟨b,e,rfl⟩:=z8t r' i v (by simpa using hP)
  simp only [e,Option.getD_some] at hQ
  exact WR hQ
 ·have e:((Ql its.toArray.size).all fun i=>(bs[i]?).getD true)=bs.all id:=by
   rw [Wf,← hlen]; exact z6C bs
  rw [e]
  exact ⟨.bl _,H,I.kept fun b o e=>hk b o (fun hm=>by rw [List.mem_singleton.mp hm] at e; exact Q0 _ (Wg e)) (W6 _ e),rfl,q⟩
end
def p2 (p:D→D→Option S) (x y:D) (δ:Dl):Rs S:=match p x y with
 | some s=>.ok s δ
 | none=>.stuck
def eOp (p:D→D→Option S) (fa:DE) (fb:BE):DE:=fun δ=>(fa δ).bind fun x δ1=>(fb δ1).bind fun y δ2=>p2 p x.d y δ2
def eOpN (p:D→D→Option S) (i:Nat) (fb:BE):DE:=fun δ=>(fb δ).bind fun y δ1=>(bVar i δ1).bind fun x δ2=>p2 p x y δ2
def Op2 (r:R2) (p:D→D→Option S):Prop:=∀ (c:Fc) (σ:St) (δ:Dl) (H:Hp) (x y:V) (d e:D) (s:S) (Q:VK),Ok c σ δ H→RepB c σ δ H x d→RepB c σ δ H y e→p d e=some s →
 (∀ v H',Aft c σ δ H σ δ H'→RepS c σ δ H H' v s→Q v H')→r x y H Q
section
variable {X:Cx} {c:Fc} {a b:Expr} {fa:DE} {fb:BE} {r:R2} {p:D→D→Option S} {pos:Pos}
theorem z7c (hp:Op2 r p) (k:Ok c σ δ H) (rx:RepB c σ δ H x d) (ry:RepB c σ δ H y e)
  (h:post c (p2 p d e δ) fun s δ'=>∀ v H',Aft c σ δ H σ δ' H'→RepS c σ δ' H H' v s→Q v H'):r x y H Q:=by
 unfold p2 at h
 cases e1:p d e with
 | none=>rw [e1] at h; exact h.elim
 | some s=>rw [e1] at h; exact hp c σ δ H x y d e s Q k rx ry e1 h
theorem z7d (hp:Op2 r p) (h:tD c (eOp p fa fb) σ H Q):tOp r (tD c fa) (tB c fb) σ H Q:=by
 obtain ⟨δ,k,q⟩:=h
 refine ⟨δ,k,?_⟩
 unfold eOp at q
 rw [z03] at q
 refine z00 q fun x δ1 q1 v H1 a1 r1=>⟨δ1,a1.ok,?_⟩
 rw [z03] at q1
 refine z00 q1 fun y δ2 q2 u H2 a2 r2=>?_
 exact z7c hp a2.ok (.inl (Rep.aft r1.rep a2)) r2 (z00 q2 fun s δ3 q3 v' H3 a3 r3=>q3 v' H3 (a1.trans (a2.trans a3)) (RepS.back r3 (a1.trans a2)))
theorem zcp (hp:Op2 r p) (h:tD c (eOpN p i fb) σ H Q) (hv:∀ δ,Ok c σ δ H→post c (fb δ) (fun _ _=>True)→∃ v,σ[i]? = some (some v)):tOp r (tVar i) (tB c fb) σ H Q:=by
 obtain ⟨δ,k,q⟩:=h
 unfold eOpN at q
 rw [z03] at q
 obtain ⟨v,ev⟩:=hv δ k (z00 q fun _ _ _=>trivial)
 refine ⟨v,ev,δ,k,z00 q fun y δ1 q1 u H1 a1 r1=>?_⟩
 rw [z03] at q1
 unfold bVar at q1
 cases e:δ1[i]? with
 | none=>rw [e] at q1; exact q1.elim
 | some o =>
  cases o with
  | none=>rw [e] at q1; exact q1.elim
  | some w =>
   rw [e] at q1
   have q1':post c (p2 p w.d y δ1) fun s δ'=>∀ v H',Aft c σ δ H σ δ' H'→RepS c σ δ' H H' v s→Q v H':=q1
   have rb:RepB c σ δ1 H1 v w.d:=by
    cases w with
    | pure d =>
     obtain ⟨v',e1,r⟩:=a1.ok.slot i d e
     rw [ev] at e1; cases e1
     exact .inl r
    | own d =>
     obtain ⟨a,e1,r,_⟩:=a1.ok.own i d e
     rw [ev] at e1; cases e1
     exact .inr ⟨a,rfl,r⟩
   exact z7c hp a1.ok rb r1 (z00 q1' fun s δ3 q3 v' H3 a3 r3=>q3 v' H3 (a1.trans a3) (RepS.back r3 a1))
theorem z3H {i:Nat} {σ:St} {δ:Dl} {H:Hp} (k:Ok c σ δ H) {w:S} (e:δ[i]? = some (some w)):∃ v,σ[i]? = some (some v):=by
 cases w with
 | pure d=>obtain ⟨v,e1,_⟩:=k.slot i d e; exact ⟨v,e1⟩
 | own d=>obtain ⟨a,e1,_⟩:=k.own i d e; exact ⟨_,e1⟩
end
def eOpF (p:D→D→Option S) (i:Nat) (fb:BE):DE:=fun δ=>match δ[i]? with
 | some (some _)=>eOpN p i fb δ
 | _=>.stuck
section
variable {X:Cx} {c:Fc} {a b:Expr} {fa:DE} {fb:BE} {r:R2} {p:D→D→Option S} {pos:Pos}
theorem z5x (hp:Op2 r p) {i:Nat} {σ:St} {H:Hp} {Q:VK} (h:tD c (eOpF p i fb) σ H Q):tOp r (tVar i) (tB c fb) σ H Q:=by
 obtain ⟨δ,k,q⟩:=h
 unfold eOpF at q
 cases e:δ[i]? with
 | none=>rw [e] at q; exact q.elim
 | some o =>
  cases o with
  | none=>rw [e] at q; exact q.elim
  | some w =>
   rw [e] at q
   obtain ⟨v,ev⟩:=z3H k e
   exact zcp hp (i:=i) ⟨δ,k,q⟩ fun _ _ _=>⟨v,ev⟩
theorem z12 {op:Operator} (ho:OpR X (Q7 op) r) (hp:Op2 r p) (ha:SE X c a fa) (hb:SB X c b fb):SE X c (.BinOp a op b pos) (eOp p fa fb):=PE.weak (zfO ho ha hb) fun _ _ _ h=>z7d hp h
theorem z0K {op:Operator} {i:Nat} (ho:OpR X (Q7 op) r) (hp:Op2 r p) (ha:PE X a (tVar i)) (hb:SB X c b fb):SE X c (.BinOp a op b pos) (eOpF p i fb):=PE.weak (zfO ho ha hb) fun _ _ _ h=>z5x hp h
theorem z92 {op:CmpOp} (ho:OpR X (Wt op) r) (hp:Op2 r p) (ha:SE X c a fa) (hb:SB X c b fb) (hm:Qa op b=false):SE X c (.Compare a [op] [b] pos) (eOp p fa fb):=PE.weak (zaJ ho ha hb hm) fun _ _ _ h=>z7d hp h
theorem z5G {op:CmpOp} {i:Nat} (ho:OpR X (Wt op) r) (hp:Op2 r p) (ha:PE X a (tVar i)) (hb:SB X c b fb) (hm:Qa op b=false):SE X c (.Compare a [op] [b] pos) (eOpF p i fb):=PE.weak (zaJ ho ha hb hm) fun _ _ _ h=>z5x hp h
theorem zaj (hr:IxR X r) (hp:Op2 r p) (ha:SE X c a fa) (hb:SB X c b fb) (hs:z8V b):SE X c (.Subscript a b pos) (eOp p fa fb):=PE.weak (zfT hr ha hb hs) fun _ _ _ h=>z7d hp h
theorem z0A {i:Nat} (hr:IxR X r) (hp:Op2 r p) (ha:PE X a (tVar i)) (hb:SB X c b fb) (hs:z8V b):SE X c (.Subscript a b pos) (eOpF p i fb):=PE.weak (zfT hr ha hb hs) fun _ _ _ h=>z5x hp h
end
abbrev DT:=Dl→Rs Bool
def tT (c:Fc) (f:DT):TT:=fun σ H Q=>∃ δ,Ok c σ δ H∧post c (f δ) fun b δ'=>∀ H',Aft c σ δ H σ δ' H'→Q b H'
abbrev ST (X:Cx) (c:Fc) (e:Expr) (f:DT):Prop:=PT X e (tT c f)
theorem PT.weak (h:PT X e t) (w:∀ σ H Q,t' σ H Q→t σ H Q):PT X e t':=fun pins s σ H Q I q=>h pins s σ H Q I (w σ H Q q)
def dTr (f:DE):DT:=fun δ=>(f δ).bind fun r δ'=>match r with
 | .pure (.bl b)=>.ok b δ'
 | _=>.stuck
section
variable {X:Cx} {c:Fc} {a b:Expr} {fa f:DE} {fb:BE} {r:R2} {p:D→D→Option S} {pos:Pos}
theorem z6U (h:tT c (dTr f) σ H Q):tD c f σ H fun x H'=>∃ k,x = .bl k∧Q k H':=by
 obtain ⟨δ,k,q⟩:=h
 refine ⟨δ,k,?_⟩
 unfold dTr at q
 rw [z03] at q
 refine z00 q fun r δ1 q1 v H1 a1 r1=>?_
 cases r with
 | own d=>exact q1.elim
 | pure d =>
  cases d <;> first | exact q1.elim | skip
  rename_i b
  cases r1
  exact ⟨b,rfl,q1 H1 a1⟩
theorem z0J {op:CmpOp} (ho:OpR X (Wt op) r) (hp:Op2 r p) (ha:SE X c a fa) (hb:SB X c b fb) (hm:Qa op b=false):ST X c (.Compare a [op] [b] pos) (dTr (eOp p fa fb)) :=
 PT.weak (zaz ho ha hb hm) fun σ H Q h=>z7d hp (z6U h)
theorem z2F {op:CmpOp} {i:Nat} (ho:OpR X (Wt op) r) (hp:Op2 r p) (ha:PE X a (tVar i)) (hb:SB X c b fb) (hm:Qa op b=false):ST X c (.Compare a [op] [b] pos) (dTr (eOpF p i fb)) :=
 PT.weak (zaz ho ha hb hm) fun σ H Q h=>z5x hp (z6U h)
theorem z1E {e:Expr} (h:SE X c e f) (he:∀ whole,isTrue e X.env whole=(do let v ← whole; standAt e.pos; holding [v] (truthy v)):=by intro _; rfl):ST X c e (dTr f) :=
 PT.weak (zfF h he) fun σ H Q h=>z6U h
def dAnd (t u:DT):DT:=fun δ=>(t δ).bind fun b δ1=>if b then u δ1 else .ok false δ1
def dOr (t u:DT):DT:=fun δ=>(t δ).bind fun b δ1=>if b then .ok true δ1 else u δ1
def dNot (t:DT):DT:=fun δ=>(t δ).bind fun b δ1=>.ok (!b) δ1
abbrev SW (X:Cx) (c:Fc) (e:Expr) (f:DT):Prop:=PW X e (tT c f)
theorem PW.weak (h:PW X e t) (w:∀ σ H Q,t' σ H Q→t σ H Q):PW X e t':=fun wh pins s σ H Q I q=>h wh pins s σ H Q I (w σ H Q q)
variable {t u:DT} {rest:List Expr}
theorem z8B (ha:ST X c a t):SW X c (.BoolOp .And [a] pos) t:=ze7 ha
theorem z1L (ha:ST X c a t):SW X c (.BoolOp .Or [a] pos) t:=zfD ha
theorem zac (ha:ST X c a t) (hb:SW X c (.BoolOp .And (b :: rest) pos) u):SW X c (.BoolOp .And (a :: b :: rest) pos) (dAnd t u):=PW.weak (zfE ha hb) fun σ H Q ⟨δ,k,q⟩=>by
 unfold dAnd at q
 rw [z03] at q
 refine ⟨δ,k,z00 q fun x δ1 q1 H1 a1=>?_⟩
 cases x with
 | true=>exact ⟨δ1,a1.ok,z00 q1 fun y δ2 q2 H2 a2=>q2 H2 (a1.trans a2)⟩
 | false=>exact q1 H1 a1
theorem z2D (ha:ST X c a t) (hb:SW X c (.BoolOp .Or (b :: rest) pos) u):SW X c (.BoolOp .Or (a :: b :: rest) pos) (dOr t u):=PW.weak (pw_or ha hb) fun σ H Q ⟨δ,k,q⟩=>by
 unfold dOr at q
 rw [z03] at q
 refine ⟨δ,k,z00 q fun x δ1 q1 H1 a1=>?_⟩
 cases x with
 | false=>exact ⟨δ1,a1.ok,z00 q1 fun y δ2 q2 H2 a2=>q2 H2 (a1.trans a2)⟩
 | true=>exact q1 H1 a1
theorem z2E (h:SW X c a t):ST X c a t:=PW.pt h
theorem z1r (ha:ST X c a t):ST X c (.UnaryOp .Not a pos) (dNot t):=PT.weak (zfG ha) fun σ H Q ⟨δ,k,q⟩=>by
 unfold dNot at q
 rw [z03] at q
 exact ⟨δ,k,q⟩
def eAnd (f g:DE):DE:=fun δ=>(f δ).bind fun r δ1=>match r with
 | .pure (.bl true)=>g δ1
 | .pure (.bl false)=>.ok (.pure (.bl false)) δ1
 | _=>.stuck
def eOr (f g:DE):DE:=fun δ=>(f δ).bind fun r δ1=>match r with
 | .pure (.bl false)=>g δ1
 | .pure (.bl true)=>.ok (.pure (.bl true)) δ1
 | _=>.stuck
def eNot (f:DE):DE:=fun δ=>(f δ).bind fun r δ1=>match r with
 | .pure (.bl b)=>.ok (.pure (.bl (!b))) δ1
 | _=>.stuck
def eIf (t:DT) (f g:DE):DE:=fun δ=>(t δ).bind fun b δ1=>if b then f δ1 else g δ1
variable {g:DE}
theorem z7E {op} (h:SE X c a f):SE X c (.BoolOp op [a] pos) f:=zfP h
theorem z7H (ha:SE X c a f) (hb:SE X c (.BoolOp .And (b :: rest) pos) g):SE X c (.BoolOp .And (a :: b :: rest) pos) (eAnd f g):=PE.weak (zfW ha hb) fun σ H Q ⟨δ,k,q⟩=>by
 unfold eAnd at q
 rw [z03] at q
 refine ⟨δ,k,z00 q fun r δ1 q1 v H1 a1 r1=>?_⟩
 cases r with
 | own d=>exact q1.elim
 | pure d =>
  cases d <;> first | exact q1.elim | skip
  rename_i b
  cases r1
  refine ⟨b,rfl,?_⟩
  cases b with
  | true=>exact ⟨δ1,a1.ok,z00 q1 fun y δ2 q2 v H2 a2 r2=>q2 v H2 (a1.trans a2) (RepS.back r2 a1)⟩
  | false=>exact q1 _ H1 a1 (.bl false)
theorem se_or (ha:SE X c a f) (hb:SE X c (.BoolOp .Or (b :: rest) pos) g):SE X c (.BoolOp .Or (a :: b :: rest) pos) (eOr f g):=PE.weak (pe_or ha hb) fun σ H Q ⟨δ,k,q⟩=>by
 unfold eOr at q
 rw [z03] at q
 refine ⟨δ,k,z00 q fun r δ1 q1 v H1 a1 r1=>?_⟩
 cases r with
 | own d=>exact q1.elim
 | pure d =>
  cases d <;> first | exact q1.elim | skip
  rename_i b
  cases r1
  refine ⟨b,rfl,?_⟩
  cases b with
  | false=>exact ⟨δ1,a1.ok,z00 q1 fun y δ2 q2 v H2 a2 r2=>q2 v H2 (a1.trans a2) (RepS.back r2 a1)⟩
  | true=>exact q1 _ H1 a1 (.bl true)
theorem zd3 (ha:SE X c a f):SE X c (.UnaryOp .Not a pos) (eNot f):=PE.weak (zfQ ha) fun σ H Q ⟨δ,k,q⟩=>by
 unfold eNot at q
 rw [z03] at q
 refine ⟨δ,k,z00 q fun r δ1 q1 v H1 a1 r1=>?_⟩
 cases r with
 | own d=>exact q1.elim
 | pure d =>
  cases d <;> first | exact q1.elim | skip
  rename_i b
  cases r1
  exact ⟨b,rfl,q1 _ H1 a1 (.bl _)⟩
theorem se_if {e:Expr} (ht:ST X c e t) (ha:SE X c a f) (hb:SE X c b g):SE X c (.IfExp e a b pos) (eIf t f g):=PE.weak (zcg ht ha hb) fun σ H Q ⟨δ,k,q⟩=>by
 unfold eIf at q
 rw [z03] at q
 refine ⟨δ,k,z00 q fun x δ1 q1 H1 a1=>?_⟩
 cases x with
 | true=>exact ⟨δ1,a1.ok,z00 q1 fun y δ2 q2 v H2 a2 r2=>q2 v H2 (a1.trans a2) (RepS.back r2 a1)⟩
 | false=>exact ⟨δ1,a1.ok,z00 q1 fun y δ2 q2 v H2 a2 r2=>q2 v H2 (a1.trans a2) (RepS.back r2 a1)⟩
def z2Y (p p':D→D→Option S) (fa:DE) (fb:DE) (fc:BE):DE:=fun δ=>(fa δ).bind fun x δ1=>(fb δ1).bind fun y δ2=>(p2 p x.d y.d δ2).bind fun z δ3=>match z with
 | .pure (.bl true)=>(fc δ3).bind fun w δ4=>p2 p' y.d w δ4
 | .pure (.bl false)=>.ok (.pure (.bl false)) δ3
 | _=>.stuck
theorem z6O {r':R2} {p':D→D→Option S} {fb:DE} {fc:BE} (hp:Op2 r p) (hp':Op2 r' p') {σ:St} {H:Hp} {Q:VK} (h:tD c (z2Y p p' fa fb fc) σ H Q):zab r r' (tD c fa) (tD c fb) (tB c fc) σ H Q:=by
 obtain ⟨δ,k,q⟩:=h
 unfold z2Y at q
 rw [z03] at q
 refine ⟨δ,k,z00 q fun x δ1 q1 v H1 a1 r1=>⟨δ1,a1.ok,?_⟩⟩
 rw [z03] at q1
 refine z00 q1 fun y δ2 q2 u H2 a2 r2=>?_
 rw [z03] at q2
 refine z7c hp a2.ok (.inl (Rep.aft r1.rep a2)) (.inl r2.rep) (z00 q2 fun s δ3 q3 v' H3 a3 r3=>?_)
 cases s with
 | own d=>exact q3.elim
 | pure d =>
  cases d <;> first | exact q3.elim | skip
  rename_i b
  cases r3
  refine ⟨b,rfl,?_⟩
  cases b with
  | false=>exact q3 _ H3 (a1.trans (a2.trans a3)) (.bl false)
  | true =>
   rw [if_pos rfl]
   have q3':post c ((fc δ3).bind fun w δ4=>p2 p' y.d w δ4) fun r δ'=>∀ v H',Aft c σ δ H σ δ' H'→RepS c σ δ' H H' v r→Q v H':=q3
   rw [z03] at q3'
   refine ⟨δ3,a3.ok,z00 q3' fun w δ4 q4 v4 H4 a4 r4=>?_⟩
   exact z7c hp' a4.ok (.inl (Rep.aft r2.rep (a3.trans a4))) r4 (z00 q4 fun s5 δ5 q5 v5 H5 a5 r5=>q5 v5 H5 (a1.trans (a2.trans (a3.trans (a4.trans a5)))) (RepS.back r5 (a1.trans (a2.trans (a3.trans a4)))))
theorem z93 {op op':CmpOp} {r':R2} {p':D→D→Option S} {e:Expr} {fb:DE} {fc:BE} (ho:OpR X (Wt op) r) (ho':OpR X (Wt op') r') (hp:Op2 r p) (hp':Op2 r' p') (ha:SE X c a fa) (hb:SE X c b fb) (he:SB X c e fc)
  (hm:lastMarks [op,op'] [b,e]=false:=by with_unfolding_all rfl):SE X c (.Compare a [op,op'] [b,e] pos) (z2Y p p' fa fb fc):=PE.weak (zci ho ho' ha hb he hm) fun _ _ _ h=>z6O hp hp' h
theorem z6W {op op':CmpOp} {r':R2} {p':D→D→Option S} {e:Expr} {fb:DE} {fc:BE} (ho:OpR X (Wt op) r) (ho':OpR X (Wt op') r') (hp:Op2 r p) (hp':Op2 r' p') (ha:SE X c a fa) (hb:SE X c b fb) (he:SB X c e fc)
  (hm:lastMarks [op,op'] [b,e]=false:=by with_unfolding_all rfl):ST X c (.Compare a [op,op'] [b,e] pos) (dTr (z2Y p p' fa fb fc)):=PT.weak (zcb ho ho' ha hb he hm) fun _ _ _ h=>z6O hp hp' (z6U h)
end
section
variable {c:Fc} {σ:St} {δ:Dl} {H:Hp} {x:V}
theorem RepB.int (h:RepB c σ δ H x (.int i)):x = .int i:=by
 rcases h with h | ⟨_,_,h⟩
 ·cases h; rfl
 ·exact h.elim
theorem RepB.bl (h:RepB c σ δ H x (.bl b)):x = .bl b:=by
 rcases h with h | ⟨_,_,h⟩
 ·cases h; rfl
 ·exact h.elim
theorem RepB.non (h:RepB c σ δ H x .non):x = .non:=by
 rcases h with h | ⟨_,_,h⟩
 ·cases h; rfl
 ·exact h.elim
theorem RepB.str (h:RepB c σ δ H x (.str z)):x = .str (toS z):=by
 rcases h with h | ⟨_,_,h⟩
 ·cases h; rfl
 ·exact h.elim
theorem RepB.tup (h:RepB c σ δ H x (.tup ds)):∃ a vs,x = .ref a∧H a=some (.tup vs)∧Reps H (Av c σ δ) vs ds:=by
 rcases h with h | ⟨_,_,h⟩
 ·cases h with
  | tup h1 h2 h3 h4=>exact ⟨_,_,rfl,h2,h3,h4⟩
 ·exact h.elim
theorem RepB.lst (h:RepB c σ δ H x (.lst ds)):∃ a vs,x = .ref a∧Rd H a (.lst vs)∧Reps H (Av c σ δ) vs ds:=by
 rcases h with h | ⟨a,e,h⟩
 ·cases h with
  | lst h1 h2 h3 h4=>exact ⟨_,_,rfl,h2,h3,h4⟩
 ·obtain ⟨vs,h1,h2⟩:=h
  exact ⟨a,vs,e,.inl h1,h2⟩
theorem RepB.dct (h:RepB c σ δ H x (.dct ds)):∃ a ws,x = .ref a∧H a=some (.dK ws)∧ws.map (·.1)=ds.map (fun p=>kOf p.1)∧∀ (i:Nat) p q,ws[i]? = some p→ds[i]? = some q→Rep H (Av c σ δ) p.2 q.2:=by
 rcases h with h | ⟨a,e,h⟩
 ·cases h with
  | dct h1 h2 h3 h4=>exact ⟨_,_,rfl,h2,h3,h4⟩
 ·obtain ⟨ws,h1,h2,h3⟩:=h
  exact ⟨a,ws,e,h1,h2,h3⟩
end
theorem z6v (h:z.length≤W8):(toS z).length≤W8:=by rw [z1O]; exact h
theorem zdx (x y:Tx):toS x ++ toS y=toS (x ++ y):=by
 show Str.append (toS x) (toS y)=_
 simp [toS,Str.append]
def pAdd:D→D→Option S
 | .int i,.int j=>some (.pure (.int (i + j)))
 | .str x,.str y=>if x.length + y.length≤W8 then some (.pure (.str (x ++ y))) else none
 | .tup xs,.tup ys=>if xs.length + ys.length≤W8 then some (.pure (.tup (xs ++ ys))) else none
 | .lst xs,.lst ys=>if xs.length + ys.length≤W8 then some (.own (.lst (xs ++ ys))) else none
 | _,_=>none
def zfB (K:W0):R2:=fun x y H Q=>rI0 (fun i j=>V.int (i + j)) x y H Q∨(∃ i j,x = .str i∧y = .str j∧i.length + j.length≤W8∧Q (.str (i ++ j)) H) ∨
 (∃ a b ys,x = .ref a∧y = .ref b∧SqT K H a []∧SqT K H b ys∧Q (.ref b) H)∨zfz K x y H Q∨zfA K x y H Q
theorem z0f:OpR X (Q7 .Add) (zfB X.K):=op_add.or (op_add_str.or (op_catT0.or (op_catT.or zeq)))
theorem z0k {K:W0}:Op2 (zfB K) pAdd:=by
 intro c σ δ H x y d e s Q k rx ry hp q
 cases d <;> cases e <;> first
  | (simp [pAdd] at hp; done)
  | skip
 ·rename_i i j
  simp only [pAdd,W5] at hp
  subst hp
  exact .inl ⟨i,j,rx.int,ry.int,q _ H (.refl k) (.int _)⟩
 ·rename_i u w
  simp only [pAdd] at hp
  split at hp
  ·rename_i hz
   simp only [W5] at hp
   subst hp
   refine .inr (.inl ⟨toS u,toS w,rx.str,ry.str,by rw [z1O,z1O]; exact hz,?_⟩)
   rw [zdx]
   exact q _ H (.refl k) (.str _)
  ·cases hp
 ·rename_i us ws
  simp only [pAdd] at hp
  split at hp
  ·rename_i hz
   simp only [W5] at hp
   subst hp
   obtain ⟨a,vs,ea,ha,ra⟩:=rx.tup
   obtain ⟨b,zs,eb,hb,rb⟩:=ry.tup
   cases vs with
   | nil =>
    have:us=[]:=by have:=ra.1; simpa using this.symm
    subst this
    refine .inr (.inr (.inl ⟨a,b,zs,ea,eb,.of ha,.of hb,?_⟩))
    rw [eb] at ry
    rcases ry with ry | ⟨_,_,ry⟩
    ·exact q _ H (.refl k) ry
    ·exact ry.elim
   | cons v0 vr =>
    refine .inr (.inr (.inr (.inl ⟨a,b,_,zs,ea,eb,.of ha,.of hb,by simp,by rw [ra.1,rb.1]; exact hz,fun e0=>?_,fun _ p hp=>?_⟩)))
    ·subst e0
     have:ws=[]:=by have:=rb.1; simpa using this.symm
     subst this
     rw [ea] at rx
     rcases rx with rx | ⟨_,_,rx⟩
     ·rw [WU] at q
      exact q _ H (.refl k) rx
     ·exact rx.elim
    ·exact q _ _ (.alloc k hp _) (RepS.newT k (ra.append rb) hp)
  ·cases hp
 ·rename_i us ws
  simp only [pAdd] at hp
  split at hp
  ·rename_i hz
   simp only [W5] at hp
   subst hp
   obtain ⟨a,vs,ea,ha,ra⟩:=rx.lst
   obtain ⟨b,zs,eb,hb,rb⟩:=ry.lst
   exact .inr (.inr (.inr (.inr ⟨a,b,vs,zs,ea,eb,.inl ha,.inl hb,by rw [ra.1,rb.1]; exact hz,fun p hp=>q _ _ (.alloc k hp _) (RepS.newL k (ra.append rb) hp)⟩)))
  ·cases hp
def pII (C:Int→Int→Bool) (g:Int→Int→D):D→D→Option S
 | .int i,.int j=>if C i j then some (.pure (g i j)) else none
 | _,_=>none
theorem zcr (hC:∀ i j,C' i j=true→C i j) (hg:∀ i j H O,Rep H O (g i j) (g' i j)):Op2 (rI C g) (pII C' g'):=by
 intro c σ δ H x y d e s Q k rx ry hp q
 cases d <;> cases e <;> first
  | (simp [pII] at hp; done)
  | skip
 rename_i i j
 simp only [pII] at hp
 split at hp
 ·rename_i hc
  simp only [W5] at hp
  subst hp
  exact ⟨i,j,rx.int,ry.int,hC i j hc,q _ H (.refl k) (hg i j H _)⟩
 ·cases hp
theorem zg7 (hg:∀ i j H O,Rep H O (g i j) (g' i j)):Op2 (rI0 g) (pII (fun _ _=>true) g'):=by
 intro c σ δ H x y d e s Q k rx ry hp q
 cases d <;> cases e <;> first
  | (simp [pII] at hp; done)
  | skip
 rename_i i j
 simp only [pII,if_true,W5] at hp
 subst hp
 exact ⟨i,j,rx.int,ry.int,q _ H (.refl k) (hg i j H _)⟩
def pSub:=pII (fun _ _=>true) fun i j=>.int (i - j)
theorem zde:Op2 (rI0 fun i j=>V.int (i - j)) pSub:=zg7 fun _ _ _ _=>.int _
def cMul (i j:Int):Bool:=(decide (-(2 ^ 64) < i) && decide (i < 2 ^ 64)) || (decide (-(2 ^ 64) < j) && decide (j < 2 ^ 64))
def pMul:=pII cMul fun i j=>.int (i * j)
theorem zg4:Op2 (rI CMul fun i j=>V.int (i * j)) pMul:=zcr (fun i j h=>by
 unfold cMul at h
 simp only [Bool.or_eq_true,We,decide_eq_true_eq] at h
 exact h) fun _ _ _ _=>.int _
def cDiv (_ j:Int):Bool:=decide (0 < j) && decide (j < 1073741824)
def pDiv:=pII cDiv fun i j=>.int (i / j)
theorem zaV:Op2 (rI CDiv fun i j=>V.int (i / j)) pDiv:=zcr (fun i j h=>by
 unfold cDiv at h
 simp only [We,decide_eq_true_eq] at h
 exact h) fun _ _ _ _=>.int _
def pMod:=pII (fun _ j=>decide (0 < j)) fun i j=>.int (i % j)
theorem z84:Op2 (rI (fun _ j=>0 < j) fun i j=>V.int (i % j)) pMod:=zcr (fun i j h=>by simpa using h) fun _ _ _ _=>.int _
def cPow (i j:Int):Bool:=decide (0≤j) && decide (j≤1000000) && decide (i.natAbs < 2 ^ 64)
def pPow:=pII cPow fun i j=>.int (i ^ j.toNat)
theorem zg3:Op2 (rI CPow fun i j=>V.int (i ^ j.toNat)) pPow:=zcr (fun i j h=>by
 unfold cPow at h
 simp only [We,decide_eq_true_eq] at h
 exact ⟨h.1.1,h.1.2,h.2⟩) fun _ _ _ _=>.int _
def pEq (d e:D):Option S:=if flat 50 d && flat 50 e then some (.pure (.bl (eqD d e))) else none
def pNe (d e:D):Option S:=if flat 50 d && flat 50 e then some (.pure (.bl (!eqD d e))) else none
theorem z3n:Op2 rEqD pEq:=by
 intro c σ δ H x y d e s Q k rx ry hp q
 unfold pEq at hp
 split at hp
 ·rename_i hf
  rw [We] at hf
  simp only [W5] at hp
  subst hp
  exact ⟨d,e,rx.un,ry.un,hf.1,hf.2,q _ H (.refl k) (.bl _)⟩
 ·cases hp
theorem z33:Op2 rNeD pNe:=by
 intro c σ δ H x y d e s Q k rx ry hp q
 unfold pNe at hp
 split at hp
 ·rename_i hf
  rw [We] at hf
  simp only [W5] at hp
  subst hp
  exact ⟨d,e,rx.un,ry.un,hf.1,hf.2,q _ H (.refl k) (.bl _)⟩
 ·cases hp
def pCmp (f:Int→Int→Bool) (g:Tx→Tx→Bool):D→D→Option S
 | .int i,.int j=>some (.pure (.bl (f i j)))
 | .str x,.str y=>some (.pure (.bl (g x y)))
 | _,_=>none
def rCmp (f:Int→Int→Bool) (g:List Nat→List Nat→Bool):R2:=fun x y H Q=>rI0 (fun i j=>V.bl (f i j)) x y H Q∨∃ i j,x = .str i∧y = .str j∧Q (.bl (g i.cps.toList j.cps.toList)) H
theorem z1N:Op2 (rCmp f g) (pCmp f g):=by
 intro c σ δ H x y d e s Q k rx ry hp q
 cases d <;> cases e <;> first
  | (simp [pCmp] at hp; done)
  | skip
 ·rename_i i j
  simp only [pCmp,W5] at hp
  subst hp
  exact .inl ⟨i,j,rx.int,ry.int,q _ H (.refl k) (.bl _)⟩
 ·rename_i i j
  simp only [pCmp,W5] at hp
  subst hp
  refine .inr ⟨toS i,toS j,rx.str,ry.str,?_⟩
  rw [z4N,z4N]
  exact q _ H (.refl k) (.bl _)
theorem z8J {X:Cx} {op:CmpOp} {g:List Nat→List Nat→Bool} (rule:∀ (i j:Str) (t u:Tok) (Q:Value→W2→Prop) (s:W2),Q (.bool (g i.cps.toList j.cps.toList)) s→Wa (model X.prog X.w) X.A (Wt op (.str i t) (.str j u)) Q X.xe s) :
  OpR X (Wt op) (fun x y H Q=>∃ i j,x = .str i∧y = .str j∧Q (.bl (g i.cps.toList j.cps.toList)) H):=by
 intro pins s σ H x y v u Q I rx ry h
 obtain ⟨i,j,rfl,rfl,q⟩:=h
 obtain ⟨t,rfl⟩:=rx
 obtain ⟨t',rfl⟩:=ry
 exact rule i j t t' _ s ⟨.bl _,H,I,rfl,q⟩
def pLt:=pCmp (fun i j=>decide (i < j)) fun x y=>decide (x < y)
theorem zfY:OpR X (Wt .Lt) (rCmp (fun i j=>decide (i < j)) fun x y=>decide (x < y)):=op_lt.or zaQ
theorem o2_lt:Op2 (rCmp (fun i j=>decide (i < j)) fun x y=>decide (x < y)) pLt:=z1N
def pIx:D→D→Option S
 | .lst ds,.int i=>(atI ds i).map .pure
 | .tup ds,.int i=>(atI ds i).map .pure
 | .str x,.int i=>if x.length≤W8 then (atI x i).map fun n=>.pure (.str [n]) else none
 | _,_=>none
theorem z98 (r:Reps H O vs ds) (h:atI ds i=some d):∃ v,atI vs i=some v∧Rep H O v d:=by
 unfold atI at h ⊢
 rw [r.1]
 cases e:ixN ds.length i with
 | none=>rw [e] at h; cases h
 | some j =>
  rw [e] at h
  exact r.get h
theorem z0O {K:W0}:Op2 (rIx K) pIx:=by
 intro c σ δ H x y d e s Q k rx ry hp q
 cases d <;> cases e <;> first
  | (simp [pIx] at hp; done)
  | skip
 ·rename_i z i
  simp only [pIx] at hp
  split at hp
  ·rename_i hz
   cases e1:atI z i with
   | none=>rw [e1] at hp; cases hp
   | some n =>
    rw [e1] at hp
    simp only [WI,W5] at hp
    subst hp
    refine .inr (.inr ⟨toS z,i,n,rx.str,ry.int,z6v hz,by rw [z4N]; exact e1,?_⟩)
    exact q (.str (toS [n])) H (.refl k) (.str [n])
  ·cases hp
 ·rename_i ds i
  simp only [pIx] at hp
  cases e1:atI ds i with
  | none=>rw [e1] at hp; cases hp
  | some n =>
   rw [e1] at hp
   simp only [WI,W5] at hp
   subst hp
   obtain ⟨a,vs,ea,ha,ra⟩:=rx.tup
   obtain ⟨v,e2,r2⟩:=z98 ra e1
   exact .inr (.inl ⟨a,vs,i,v,ea,ry.int,.of ha,e2,q v H (.refl k) r2⟩)
 ·rename_i ds i
  simp only [pIx] at hp
  cases e1:atI ds i with
  | none=>rw [e1] at hp; cases hp
  | some n =>
   rw [e1] at hp
   simp only [WI,W5] at hp
   subst hp
   obtain ⟨a,vs,ea,ha,ra⟩:=rx.lst
   obtain ⟨v,e2,r2⟩:=z98 ra e1
   exact .inl ⟨a,vs,i,v,ea,ry.int,.inl ha,e2,q v H (.refl k) r2⟩
def pLe:=pCmp (fun i j=>decide (i≤j)) fun x y=>!decide (y < x)
def pGt:=pCmp (fun i j=>decide (j < i)) fun x y=>decide (y < x)
def pGe:=pCmp (fun i j=>decide (j≤i)) fun x y=>!decide (x < y)
theorem z2x:OpR X (Wt .LtE) (rCmp (fun i j=>decide (i≤j)) fun x y=>!decide (y < x)):=op_le.or (z8J (g:=fun x y=>!decide (y < x)) fun _ _ _ _ _ _ h=>PySem.P.le_str h)
theorem zdd:OpR X (Wt .Gt) (rCmp (fun i j=>decide (j < i)) fun x y=>decide (y < x)):=op_gt.or (z8J (g:=fun x y=>decide (y < x)) fun _ _ _ _ _ _ h=>PySem.P.gt_str h)
theorem zg0:OpR X (Wt .GtE) (rCmp (fun i j=>decide (j≤i)) fun x y=>!decide (x < y)):=op_ge.or (z8J (g:=fun x y=>!decide (x < y)) fun _ _ _ _ _ _ h=>PySem.P.ge_str h)
abbrev DA:=Dl→Rs (List D)
def tAD (c:Fc) (f:DA):TA:=fun σ H Q=>∃ δ,Ok c σ δ H∧post c (f δ) fun ds δ'=>∀ vs H',Aft c σ δ H σ δ' H'→Reps H' (Av c σ δ') vs ds→Q vs H'
structure SA (X:Cx) (c:Fc) (es:List Expr) (f:DA):Prop where
 pa:PA X es (tAD c f)
 len:∀ δ ds δ',f δ = .ok ds δ'→ds.length=es.length
theorem PA.weak (h:PA X es t) (w:∀ σ H Q,t' σ H Q→t σ H Q):PA X es t':=fun pos pins s σ H Q I q=>h pos pins s σ H Q I (w σ H Q q)
def aNil:DA:=fun δ=>.ok [] δ
def z0m (f:DE) (g:DA):DA:=fun δ=>(f δ).bind fun x δ1=>(g δ1).bind fun xs δ2=>.ok (x.d :: xs) δ2
section
variable {X:Cx} {c:Fc} {e:Expr} {es:List Expr} {f:DE} {g:DA} {pos:Pos}
theorem z0H:SA X c [] aNil:=⟨PA.weak z1M fun σ H Q ⟨δ,k,q⟩=>q [] H (.refl k) .nil,fun δ ds δ' h=>by cases h; rfl⟩
theorem zan (ha:SE X c e f) (hr:SA X c es g) (hs:W4 (e :: es) X.env=(false,eval e X.env) :: W4 es X.env:=by rfl):SA X c (e :: es) (z0m f g):=by
 refine ⟨PA.weak (z0M ha hr.pa hs) fun σ H Q ⟨δ,k,q⟩=>?_,fun δ ds δ' h=>?_⟩
 ·unfold z0m at q
  rw [z03] at q
  refine ⟨δ,k,z00 q fun x δ1 q1 v H1 a1 r1=>⟨δ1,a1.ok,?_⟩⟩
  rw [z03] at q1
  exact z00 q1 fun xs δ2 q2 vs H2 a2 r2=>q2 (v :: vs) H2 (a1.trans a2) (.cons (Rep.aft r1.rep a2) r2)
 ·unfold z0m at h
  cases h1:f δ with
  | ok x δ1 =>
   rw [h1] at h
   cases h2:g δ1 with
   | ok xs δ2 =>
    simp only [Rs.bind,h2] at h
    cases h
    simp [hr.len _ _ _ h2]
   | exc x δx=>simp only [Rs.bind,h2] at h; cases h
   | stuck=>simp only [Rs.bind,h2] at h; cases h
  | exc x δx=>rw [h1] at h; cases h
  | stuck=>rw [h1] at h; cases h
def eTup (f:DA):DE:=fun δ=>(f δ).bind fun ds δ'=>.ok (.pure (.tup ds)) δ'
def eLst (f:DA):DE:=fun δ=>(f δ).bind fun ds δ'=>.ok (.own (.lst ds)) δ'
theorem z6x (h:n≤1000):n≤W8:=Nat.le_of_lt (zag h)
theorem z7P (h:post c r k):post c r fun a δ=>r = .ok a δ∧k a δ:=by
 cases r with
 | ok a δ=>exact ⟨rfl,h⟩
 | exc x δx=>exact h
 | stuck=>exact h
theorem z4s {x1} (h:SA X c es g) (hz:es.length≤1000:=by decide):SE X c (.Tuple es x1 pos) (eTup g):=PE.weak (zfN h.pa) fun σ H Q ⟨δ,k,q⟩=>by
 unfold eTup at q
 rw [z03] at q
 refine ⟨δ,k,z00 (z7P q) fun ds δ1 ⟨e1,q1⟩ vs H1 a1 r1=>?_⟩
 have hl:=h.len _ _ _ e1
 exact ⟨by rw [r1.1,hl]; exact z6x hz,fun p hp=>q1 _ _ (a1.trans (.alloc a1.ok hp _)) (RepS.back (RepS.newT a1.ok r1 hp) a1)⟩
theorem z1z (h:SA X c es g) (hz:es.length≤1000:=by decide):SE X c (.List es pos) (eLst g):=PE.weak (zfS h.pa) fun σ H Q ⟨δ,k,q⟩=>by
 unfold eLst at q
 rw [z03] at q
 refine ⟨δ,k,z00 (z7P q) fun ds δ1 ⟨e1,q1⟩ vs H1 a1 r1=>?_⟩
 have hl:=h.len _ _ _ e1
 exact ⟨by rw [r1.1,hl]; exact z6x hz,fun p hp=>q1 _ _ (a1.trans (.alloc a1.ok hp _)) (RepS.back (RepS.newL a1.ok r1 hp) a1)⟩
end
def p1 (p:D→Option S) (x:D) (δ:Dl):Rs S:=match p x with
 | some s=>.ok s δ
 | none=>.stuck
def eC1 (p:D→Option S) (fb:BE):DE:=fun δ=>(fb δ).bind fun x δ1=>p1 p x δ1
def Op1 (r:V→Hp→VK→Prop) (p:D→Option S):Prop:=∀ (c:Fc) (σ:St) (δ:Dl) (H:Hp) (x:V) (d:D) (s:S) (Q:VK),Ok c σ δ H→RepB c σ δ H x d→p d=some s →
 (∀ v H',Aft c σ δ H σ δ H'→RepS c σ δ H H' v s→Q v H')→r x H Q
section
variable {X:Cx} {c:Fc} {e:Expr} {fb:BE} {r:V→Hp→VK→Prop} {p:D→Option S} {x:Str} {id T:String} {pp pos:Pos}
theorem z8I (hp:Op1 r p) (k:Ok c σ δ H) (rx:RepB c σ δ H v d)
  (h:post c (p1 p d δ) fun s δ'=>∀ v H',Aft c σ δ H σ δ' H'→RepS c σ δ' H H' v s→Q v H'):r v H Q:=by
 unfold p1 at h
 cases e1:p d with
 | none=>rw [e1] at h; exact h.elim
 | some s=>rw [e1] at h; exact hp c σ δ H v d s Q k rx e1 h
theorem z3U (hp:Op1 r p) (h:tD c (eC1 p fb) σ H Q):tUn r (tB c fb) σ H Q:=by
 obtain ⟨δ,k,q⟩:=h
 unfold eC1 at q
 rw [z03] at q
 exact ⟨δ,k,z00 q fun y δ1 q1 v H1 a1 r1=>z8I hp a1.ok r1 (z00 q1 fun s δ2 q2 w H2 a2 r2=>q2 w H2 (a1.trans a2) (RepS.back r2 a1))⟩
theorem z95 (hc:CallR X (.builtin id) rl) (hl:∀ v H Q,r v H Q→rl [v] H Q) (hp:Op1 r p) (hg:Gl X x) (hm:X.mg x=none) (hv:Q1 x=some (.builtin id)) (he:SB X c e fb)
  (hn:x≠"__name__":=by decide) (hdb:(x == ("__debug__" : Str))=false:=by decide) (hs:W4 [e] X.env=(false,eval e X.env) :: W4 [] X.env:=by rfl) (hpl:(WF pos (W4 [] X.env)).any (·.1)=false:=by rfl) :
  SE X c (.Call (.Name x pp) [e] [] pos) (eC1 p fb):=PE.weak (z4y hc hg hm hv (z0M he z1M hs) hn hdb hs hpl) fun σ H Q h=>by
 obtain ⟨δ,k,q⟩:=z3U hp h
 exact ⟨δ,k,z00 q fun y δ1 q1 v H1 a1 r1=>hl _ _ _ (q1 v H1 a1 r1)⟩
theorem z2V (hc:CallR X (.type T) rl) (hl:∀ v H Q,r v H Q→rl [v] H Q) (hp:Op1 r p) (hg:Gl X x) (hm:X.mg x=none) (hv:Q1 x=some (.type T)) (he:SB X c e fb)
  (hn:x≠"__name__":=by decide) (hdb:(x == ("__debug__" : Str))=false:=by decide) (hs:W4 [e] X.env=(false,eval e X.env) :: W4 [] X.env:=by rfl) (hpl:(WF pos (W4 [] X.env)).any (·.1)=false:=by rfl) :
  SE X c (.Call (.Name x pp) [e] [] pos) (eC1 p fb):=PE.weak (zaK hc hg hm hv (z0M he z1M hs) hn hdb hs hpl) fun σ H Q h=>by
 obtain ⟨δ,k,q⟩:=z3U hp h
 exact ⟨δ,k,z00 q fun y δ1 q1 v H1 a1 r1=>hl _ _ _ (q1 v H1 a1 r1)⟩
def pLen:D→Option S
 | .lst ds=>some (.pure (.int ds.length))
 | .tup ds=>some (.pure (.int ds.length))
 | .str z=>if z.length≤W8 then some (.pure (.int z.length)) else none
 | .dct ds=>some (.pure (.int ds.length))
 | _=>none
def rLen (K:W0):V→Hp→VK→Prop:=fun v H Q=>((∃ p ys,v = .ref p∧(SqL K H p ys∨SqT K H p ys)∧Q (.int ys.length) H)∨∃ z,v = .str z∧z.length≤W8∧Q (.int z.length) H)∨∃ a kvs,v=V.ref a∧H a=some (.dK kvs)∧Q (.int kvs.length) H
theorem zg9 {K:W0}:Op1 (rLen K) pLen:=by
 intro c σ δ H x d s Q k rx hp q
 cases d with
 | lst ds =>
  simp only [pLen,W5] at hp
  subst hp
  obtain ⟨a,vs,ea,ha,ra⟩:=rx.lst
  exact .inl (.inl ⟨a,vs,ea,.inl (.inl ha),by rw [ra.1]; exact q _ H (.refl k) (.int _)⟩)
 | tup ds =>
  simp only [pLen,W5] at hp
  subst hp
  obtain ⟨a,vs,ea,ha,ra⟩:=rx.tup
  exact .inl (.inl ⟨a,vs,ea,.inr (.of ha),by rw [ra.1]; exact q _ H (.refl k) (.int _)⟩)
 | str z =>
  simp only [pLen] at hp
  split at hp
  ·rename_i hz
   simp only [W5] at hp
   subst hp
   exact .inl (.inr ⟨toS z,rx.str,z6v hz,by rw [z1O]; exact q _ H (.refl k) (.int _)⟩)
  ·cases hp
 | dct ds =>
  simp only [pLen,W5] at hp
  subst hp
  obtain ⟨a,ws,ea,ha,h1,h2⟩:=rx.dct
  have hl:ws.length=ds.length:=by have:=congrArg Ju h1; simpa using this
  exact .inr ⟨a,ws,ea,ha,by rw [hl]; exact q _ H (.refl k) (.int _)⟩
 | _=>simp [pLen] at hp
theorem z1g (hg:Gl X "len") (hm:X.mg "len" = none) (he:SB X c e fb) (hs:W4 [e] X.env=(false,eval e X.env) :: W4 [] X.env:=by rfl):SE X c (.Call (.Name "len" pp) [e] [] pos) (eC1 pLen fb) :=
 z95 ((call_len_seq.or z8s).or zbz) (fun v H Q h=>by
  rcases h with (⟨p,ys,e,h⟩ | ⟨z,e,h⟩) | ⟨a,kvs,e,h⟩
  ·exact .inl (.inl ⟨p,ys,by rw [e],h⟩)
  ·exact .inl (.inr ⟨z,by rw [e],h⟩)
  ·exact .inr ⟨a,kvs,by rw [e],h⟩) (zg9 (K:=X.K)) hg hm PySem.boot_len he (by decide) (by decide) hs
def z2m:D→Option S
 | .lst ds=>some (.pure (.tup ds))
 | .tup ds=>some (.pure (.tup ds))
 | _=>none
def zft (K:W0):V→Hp→VK→Prop:=fun v H Q=>∃ p ys,v = .ref p∧((SqL K H p ys∧∀ l,H l=none→Q (.ref l) (upd H l (.tup ys)))∨(SqT K H p ys∧Q (.ref p) H))
theorem zcs {K:W0}:Op1 (zft K) z2m:=by
 intro c σ δ H x d s Q k rx hp q
 cases d with
 | lst ds =>
  simp only [z2m,W5] at hp
  subst hp
  obtain ⟨a,vs,ea,ha,ra⟩:=rx.lst
  exact ⟨a,vs,ea,.inl ⟨.inl ha,fun l hl=>q _ _ (.alloc k hl _) (RepS.newT k ra hl)⟩⟩
 | tup ds =>
  simp only [z2m,W5] at hp
  subst hp
  obtain ⟨a,vs,ea,ha,ra⟩:=rx.tup
  refine ⟨a,vs,ea,.inr ⟨.of ha,?_⟩⟩
  rw [ea] at rx
  rcases rx with rx | ⟨_,_,rx⟩
  ·exact q _ H (.refl k) rx
  ·exact rx.elim
 | _=>simp [z2m] at hp
theorem z5w (hg:Gl X "tuple") (hm:X.mg "tuple" = none) (he:SB X c e fb) (hs:W4 [e] X.env=(false,eval e X.env) :: W4 [] X.env:=by rfl):SE X c (.Call (.Name "tuple" pp) [e] [] pos) (eC1 z2m fb) :=
 z2V z7v (fun v H Q ⟨p,ys,e,h⟩=>⟨p,ys,by rw [e],h⟩) (zcs (K:=X.K)) hg hm PyProof.Rows.boot_tuple he (by decide) (by decide) hs
def pInt:D→Option S
 | .int i=>some (.pure (.int i))
 | .bl b=>some (.pure (.int (if b then 1 else 0)))
 | _=>none
theorem zdS (hg:Gl X "int") (hm:X.mg "int" = none) (he:SB X c e fb) (hs:W4 [e] X.env=(false,eval e X.env) :: W4 [] X.env:=by rfl):SE X c (.Call (.Name "int" pp) [e] [] pos) (eC1 pInt fb) :=
 z2V (r:=fun v H Q=>(∃ i,v = .int i∧Q (.int i) H)∨∃ k,v = .bl k∧Q (.int (if k then 1 else 0)) H) zbB (fun v H Q h=>by
  rcases h with ⟨i,e,q⟩ | ⟨k,e,q⟩
  ·exact .inl ⟨i,by rw [e],q⟩
  ·exact .inr ⟨k,by rw [e],q⟩) (fun c σ δ H x d s Q k rx hp q=>by
  cases d with
  | int i =>
   simp only [pInt,W5] at hp
   subst hp
   exact .inl ⟨i,rx.int,q _ H (.refl k) (.int _)⟩
  | bl b =>
   simp only [pInt,W5] at hp
   subst hp
   exact .inr ⟨b,rx.bl,q _ H (.refl k) (.int _)⟩
  | _=>simp [pInt] at hp) hg hm PyProof.Rows.boot_int he (by decide) (by decide) hs
def z4L:List D→Option (List Bool)
 | []=>some []
 | .bl b :: r=>(z4L r).map (b :: ·)
 | _ :: _=>none
def z3M:List D→Option (List Tx)
 | []=>some []
 | .str x :: r=>(z3M r).map (x :: ·)
 | _ :: _=>none
theorem z3J:∀ {ds:List D} {vs:List V} {bs:List Bool},z4L ds=some bs→Reps H O vs ds→vs=bs.map V.bl
 | [],vs,bs,h,r=>by
  simp only [z4L,W5] at h
  subst h
  have:=r.1
  simpa using this
 | d :: ds,[],bs,h,r=>by have:=r.1; simp at this
 | d :: ds,v :: vs,bs,h,r=>by
  cases d with
  | bl b =>
   simp only [z4L] at h
   cases e:z4L ds with
   | none=>rw [e] at h; cases h
   | some bs' =>
    rw [e] at h
    simp only [WI,W5] at h
    subst h
    have:=r.head
    cases this
    rw [z3J e r.tail]
    rfl
  | _=>simp [z4L] at h
theorem z3I:∀ {ds:List D} {vs:List V} {bs:List Tx},z3M ds=some bs→Reps H O vs ds→vs=bs.map fun z=>V.str (toS z)
 | [],vs,bs,h,r=>by
  simp only [z3M,W5] at h
  subst h
  have:=r.1
  simpa using this
 | d :: ds,[],bs,h,r=>by have:=r.1; simp at this
 | d :: ds,v :: vs,bs,h,r=>by
  cases d with
  | str b =>
   simp only [z3M] at h
   cases e:z3M ds with
   | none=>rw [e] at h; cases h
   | some bs' =>
    rw [e] at h
    simp only [WI,W5] at h
    subst h
    have:=r.head
    cases this
    rw [z3I e r.tail]
    rfl
  | _=>simp [z3M] at h
theorem z4v:∀ ts:List Tx,Reps H O (ts.map fun z=>V.str (toS z)) (ts.map D.str)
 | []=>.nil
 | t :: ts=>.cons (.str t) (z4v ts)
def pAll:D→Option S
 | .lst ds=>(z4L ds).map fun bs=>.pure (.bl (bs.all (fun b=>b)))
 | _=>none
theorem zd0:Q1 "all" = some (.builtin "all"):=by decide +kernel
theorem z96 (hc:X.calm=true) (hg:Gl X "all") (hm:X.mg "all" = none) (he:SB X c e fb) (hs:W4 [e] X.env=(false,eval e X.env) :: W4 [] X.env:=by rfl):SE X c (.Call (.Name "all" pp) [e] [] pos) (eC1 pAll fb) :=
 z95 (r:=fun v H Q=>∃ (a:Addr) (bs:List Bool),v = .ref a∧SqL X.K H a (bs.map V.bl)∧Q (.bl (bs.all (fun b=>b))) H) (zcZ hc) (fun v H Q ⟨a,bs,e,h⟩=>⟨a,bs,by rw [e],h⟩) (fun c σ δ H x d s Q k rx hp q=>by
  cases d with
  | lst ds =>
   simp only [pAll] at hp
   cases e:z4L ds with
   | none=>rw [e] at hp; cases hp
   | some bs =>
    rw [e] at hp
    simp only [WI,W5] at hp
    subst hp
    obtain ⟨a,vs,ea,ha,ra⟩:=rx.lst
    have:=z3J e ra
    subst this
    exact ⟨a,bs,ea,.inl ha,q _ H (.refl k) (.bl _)⟩
  | _=>simp [pAll] at hp) hg hm zd0 he (by decide) (by decide) hs
def pMax:D→D→Option S
 | .int i,.int j=>some (.pure (.int (if j > i then j else i)))
 | _,_=>none
def eMax (f g:DE):DE:=fun δ=>(f δ).bind fun x δ1=>(g δ1).bind fun y δ2=>p2 pMax x.d y.d δ2
theorem zfb {a b:Expr} {f g:DE} (hc:X.calm=true) (hg:Gl X "max") (hm:X.mg "max" = none) (ha:SE X c a f) (hb:SE X c b g) (hs:W4 [a,b] X.env=(false,eval a X.env) :: W4 [b] X.env:=by rfl)
  (hs2:W4 [b] X.env=(false,eval b X.env) :: W4 [] X.env:=by rfl) (hpl:(WF pos (W4 [b] X.env)).any (·.1)=false:=by rfl):SE X c (.Call (.Name "max" pp) [a,b] [] pos) (eMax f g) :=
 PE.weak (z4y (zby hc) hg hm PyProof.Rows.boot_max (z0M ha (z0M hb z1M hs2) hs) (by decide) (by decide) hs hpl) fun σ H Q ⟨δ,k,q⟩=>by
  unfold eMax at q
  rw [z03] at q
  refine ⟨δ,k,z00 q fun x δ1 q1 v H1 a1 r1=>⟨δ1,a1.ok,?_⟩⟩
  rw [z03] at q1
  refine z00 q1 fun y δ2 q2 u H2 a2 r2=>?_
  unfold p2 at q2
  have hx:RepB c σ δ2 H2 v x.d:=.inl (Rep.aft r1.rep a2)
  have hy:=r2.b
  generalize x.d=dx at q2 hx
  generalize y.d=dy at q2 hy
  cases dx <;> cases dy <;> first
   | exact q2.elim
   | skip
  rename_i i j
  exact ⟨i,j,by rw [hx.int,hy.int],q2 _ H2 (a1.trans a2) (.int _)⟩
def isTy (T:String):D→Option Bool
 | .non=>some (T == "NoneType")
 | .bl _=>some (T == "bool" || T == "int")
 | .int _=>some (T == "int")
 | .str _=>some (T == "str")
 | .tup _=>some (T == "tuple")
 | .lst _=>some (T == "list")
 | .dct _=>some (T == "dict")
 | .exc _ _=>none
 | .xd _=>none
structure TyK (K:W0) (T:String):Prop where
 non:Qo K (.type "NoneType") (.type T)=some (T == "NoneType")
 bl:Qo K (.type "bool") (.type T)=some (T == "bool" || T == "int")
 int:Qo K (.type "int") (.type T)=some (T == "int")
 str:Qo K (.type "str") (.type T)=some (T == "str")
 tup:Qo K (.type "tuple") (.type T)=some (T == "tuple")
 lst:Qo K (.type "list") (.type T)=some (T == "list")
 dct:Qo K (.type "dict") (.type T)=some (T == "dict")
def eIsi (T:String) (fb:BE):DE:=fun δ=>(fb δ).bind fun d δ'=>match isTy T d with
 | some b=>.ok (.pure (.bl b)) δ'
 | none=>.stuck
theorem zcF (ty:TyK X.K T) (I:Inv X pins σ H s) (ru:RelV v u) (r:Rep H NoO v d) (e:isTy T d=some b) (q:Q (.bl b) H) :
  Wa (model X.prog X.w) X.A (call (.builtin "isinstance") [u,.type T]) (EP X pins σ Q) X.xe s:=by
 have fin:∀ tk,EP X pins σ Q (.bool b) { s with toks:=tk }:=fun tk=>⟨.bl b,H,I.tok tk,rfl,q⟩
 cases r with
 | non=>exact z22 I ru .non (ty.non.trans e) fin
 | bl x=>exact z22 I ru (.bl x) (ty.bl.trans e) fin
 | int x=>exact z22 I ru (.int x) (ty.int.trans e) fin
 | str x=>exact z22 I ru (.str _) (ty.str.trans e) fin
 | tup _ h2 _ _=>exact z22 I ru (.tup h2) (ty.tup.trans e) fin
 | lst _ h2 _ _ =>
  rcases h2 with h2 | ⟨o,h2⟩
  ·exact z22 I ru (.lst h2) (ty.lst.trans e) fin
  ·exact z22 I ru (.frz h2) (ty.lst.trans e) fin
 | dct _ h2 _ _=>exact z22 I ru (.dK h2) (ty.dct.trans e) fin
 | exc _ _=>cases e
 | xd _ _=>cases e
theorem zcY (ty:TyK X.K T):CallR X (.builtin "isinstance") (fun xs H Q=>∃ v d b,xs=[v,.ty T]∧Rep H NoO v d∧isTy T d=some b∧Q (.bl b) H):=by
 intro pins s σ H xs us Q I r h
 obtain ⟨v,d,b,rfl,rp,e,q⟩:=h
 obtain ⟨u,w',rfl,r1,r2⟩:=zdt r
 cases r2
 exact zcF ty I r1 rp e q
theorem z4t {y:Str} {py:Pos} (ty:TyK X.K T) (hg:Gl X "isinstance") (hm:X.mg "isinstance" = none) (hgy:Gl X y) (hmy:X.mg y=none) (hvy:Q1 y=some (.type T)) (he:SB X c e fb)
  (hny:y≠"__name__":=by decide) (hdy:(y == ("__debug__" : Str))=false:=by decide)
  (hs:W4 [e,.Name y py] X.env=(false,eval e X.env) :: W4 [.Name y py] X.env:=by rfl) (hpl:(WF pos (W4 [.Name y py] X.env)).any (·.1)=false:=by rfl) :
  SE X c (.Call (.Name "isinstance" pp) [e,.Name y py] [] pos) (eIsi T fb) :=
 PE.weak (z4y (zcY ty) hg hm PyProof.Rows.boot_isinstance (z0M he (z0M (zaL (v:=.ty T) hgy hmy hvy rfl hny hdy) z1M) hs) (by decide) (by decide) hs hpl) fun σ H Q ⟨δ,k,q⟩=>by
  unfold eIsi at q
  rw [z03] at q
  refine ⟨δ,k,z00 q fun d δ1 q1 v H1 a1 r1=>?_⟩
  cases e1:isTy T d with
  | none=>rw [e1] at q1; exact q1.elim
  | some b =>
   rw [e1] at q1
   exact ⟨v,d,b,rfl,r1.un,e1,q1 _ H1 a1 (.bl _)⟩
end
abbrev DOp:=Dl→Rs (Option Int)
def tOD (c:Fc) (f:DOp):TO:=fun σ H Q=>∃ δ,Ok c σ δ H∧post c (f δ) fun o δ'=>∀ H',Aft c σ δ H σ δ' H'→Q o H'
abbrev SO (X:Cx) (c:Fc) (e:Option Expr) (f:DOp):Prop:=PO X e (tOD c f)
theorem PO.weak (h:PO X e t) (w:∀ σ H Q,t' σ H Q→t σ H Q):PO X e t':=fun pins s σ H Q I q=>h pins s σ H Q I (w σ H Q q)
def z2M:DOp:=fun δ=>.ok none δ
def z1x (f:DE):DOp:=fun δ=>(f δ).bind fun r δ'=>match r with
 | .pure (.int i)=>.ok (some i) δ'
 | _=>.stuck
section
variable {X:Cx} {c:Fc} {e:Expr} {f:DE} {fb:BE} {fl fh:DOp} {lo hi:Option Expr} {pos p2:Pos}
theorem z1Q:SO X c none z2M:=PO.weak zee fun σ H Q ⟨δ,k,q⟩=>q H (.refl k)
theorem z1k (h:SE X c e f):SO X c (some e) (z1x f):=PO.weak (zed h) fun σ H Q ⟨δ,k,q⟩=>by
 unfold z1x at q
 rw [z03] at q
 refine ⟨δ,k,z00 q fun r δ1 q1 v H1 a1 r1=>?_⟩
 cases r with
 | own d=>exact q1.elim
 | pure d =>
  cases d <;> first | exact q1.elim | skip
  rename_i i
  cases r1
  exact ⟨i,rfl,q1 H1 a1⟩
def pSl (lo hi:Option Int):D→Option S
 | .str x=>if x.length≤W8 then some (.pure (.str (cutL x lo hi))) else none
 | .tup ds=>some (.pure (.tup (cutL ds lo hi)))
 | .lst ds=>some (.own (.lst (cutL ds lo hi)))
 | _=>none
def rSlD (K:W0):V→Option Int→Option Int→Hp→VK→Prop:=fun x lo hi H Q=>rSlS x lo hi H Q∨zfu K x lo hi H Q∨rSlL K x lo hi H Q
theorem sl_D:SlR X (rSlD X.K):=sl_str.or (sl_tup2.or zdM)
theorem zg8 {K:W0} (lo hi:Option Int):Op1 (fun x H Q=>rSlD K x lo hi H Q) (pSl lo hi):=by
 intro c σ δ H x d s Q k rx hp q
 cases d with
 | str z =>
  simp only [pSl] at hp
  split at hp
  ·rename_i hz
   simp only [W5] at hp
   subst hp
   exact .inl ⟨z,rx.str,hz,q _ H (.refl k) (.str _)⟩
  ·cases hp
 | tup ds =>
  simp only [pSl,W5] at hp
  subst hp
  obtain ⟨a,vs,ea,ha,ra⟩:=rx.tup
  refine .inr (.inl ⟨a,vs,ea,.of ha,fun hw=>?_,fun _ p hp=>?_⟩)
  ·rw [ra.1] at hw
   rw [zbu hw] at q
   rw [ea] at rx
   rcases rx with rx | ⟨_,_,rx⟩
   ·exact q _ H (.refl k) rx
   ·exact rx.elim
  ·rw [← zdo]
   exact q _ _ (.alloc k hp _) (RepS.newT k (ra.cut lo hi) hp)
 | lst ds =>
  simp only [pSl,W5] at hp
  subst hp
  obtain ⟨a,vs,ea,ha,ra⟩:=rx.lst
  refine .inr (.inr ⟨a,vs,ea,.inl ha,fun p hp=>?_⟩)
  rw [← zdo]
  exact q _ _ (.alloc k hp _) (RepS.newL k (ra.cut lo hi) hp)
 | _=>simp [pSl] at hp
def eSl (f:DE) (fl fh:DOp):DE:=fun δ=>(f δ).bind fun x δ1=>(fl δ1).bind fun l δ2=>(fh δ2).bind fun h δ3=>p1 (pSl l h) x.d δ3
theorem se_sl (he:SE X c e f) (hl:SO X c lo fl) (hh:SO X c hi fh):SE X c (.Subscript e (.Slice lo hi none p2) pos) (eSl f fl fh):=PE.weak (z9d sl_D he hl hh) fun σ H Q ⟨δ,k,q⟩=>by
 unfold eSl at q
 rw [z03] at q
 refine ⟨δ,k,z00 q fun x δ1 q1 v H1 a1 r1=>⟨δ1,a1.ok,?_⟩⟩
 rw [z03] at q1
 refine z00 q1 fun l δ2 q2 H2 a2=>⟨δ2,a2.ok,?_⟩
 rw [z03] at q2
 refine z00 q2 fun h δ3 q3 H3 a3=>?_
 exact z8I (zg8 l h) a3.ok (.inl (Rep.aft r1.rep (a2.trans a3))) (z00 q3 fun s δ4 q4 w H4 a4 r4=>q4 w H4 (a1.trans (a2.trans (a3.trans a4))) (RepS.back r4 (a1.trans (a2.trans a3))))
def eSlN (i:Nat) (fl fh:DOp):DE:=fun δ=>match δ[i]? with
 | some (some _)=>(fl δ).bind fun l δ2=>(fh δ2).bind fun h δ3=>(bVar i δ3).bind fun x δ4=>p1 (pSl l h) x δ4
 | _=>.stuck
theorem zdL {i:Nat} {σ:St} {δ:Dl} {H:Hp} {v:V} {w:S} (k:Ok c σ δ H) (e:δ[i]? = some (some w)) (ev:σ[i]? = some (some v)):RepB c σ δ H v w.d:=by
 cases w with
 | pure d =>
  obtain ⟨v',e1,r⟩:=k.slot i d e
  rw [ev] at e1; cases e1
  exact .inl r
 | own d =>
  obtain ⟨a,e1,r,_⟩:=k.own i d e
  rw [ev] at e1; cases e1
  exact .inr ⟨a,rfl,r⟩
theorem zbE (h:post c ((bVar i δ).bind g) kk):∃ w,δ[i]? = some (some w)∧post c (g w.d δ) kk:=by
 unfold bVar at h
 cases e:δ[i]? with
 | none=>rw [e] at h; exact h.elim
 | some o =>
  cases o with
  | none=>rw [e] at h; exact h.elim
  | some w=>rw [e] at h; exact ⟨w,rfl,h⟩
theorem z2w {i:Nat} (he:PE X e (tVar i)) (hl:SO X c lo fl) (hh:SO X c hi fh):SE X c (.Subscript e (.Slice lo hi none p2) pos) (eSlN i fl fh):=PE.weak (z9d sl_D he hl hh) fun σ H Q ⟨δ,k,q⟩=>by
 unfold eSlN at q
 cases e:δ[i]? with
 | none=>rw [e] at q; exact q.elim
 | some o =>
  cases o with
  | none=>rw [e] at q; exact q.elim
  | some w =>
   rw [e] at q
   obtain ⟨v,ev⟩:=z3H k e
   have q':post c ((fl δ).bind fun l δ2=>(fh δ2).bind fun h δ3=>(bVar i δ3).bind fun x δ4=>p1 (pSl l h) x δ4) fun r δ'=>∀ v H',Aft c σ δ H σ δ' H'→RepS c σ δ' H H' v r→Q v H':=q
   rw [z03] at q'
   refine ⟨v,ev,δ,k,z00 q' fun l δ2 q2 H2 a2=>⟨δ2,a2.ok,?_⟩⟩
   rw [z03] at q2
   refine z00 q2 fun h δ3 q3 H3 a3=>?_
   obtain ⟨w3,e3,q4⟩:=zbE q3
   exact z8I (zg8 l h) a3.ok (zdL a3.ok e3 ev) (z00 q4 fun s δ4 q4 w H4 a4 r4=>q4 w H4 (a2.trans (a3.trans a4)) (RepS.back r4 (a2.trans a3)))
def z0s (z:Tx):List Tx→Tx
 | []=>[]
 | [x]=>x
 | x :: y :: r=>x ++ z ++ z0s z (y :: r)
theorem z9q (z:Tx):∀ (r:List Tx) (acc:Tx),((r.map toS).foldl (fun (acc:Array Nat) p=>acc ++ (toS z).cps ++ p.cps) acc.toArray)=(match r with | []=>acc | x :: r'=>acc ++ z ++ z0s z (x :: r')).toArray
 | [],acc=>rfl
 | x :: r,acc=>by
  rw [WB,Qg]
  have e:acc.toArray ++ (toS z).cps ++ (toS x).cps=(acc ++ z ++ x).toArray:=by simp [toS]
  rw [e,z9q z r (acc ++ z ++ x)]
  cases r with
  | nil=>simp [z0s]
  | cons y r'=>simp [z0s]
theorem zeA (z:Tx) (ts:List Tx):Txt.join (toS z) (ts.map toS)=toS (z0s z ts):=by
 show Builtin.Str.glued _ _=_
 unfold Builtin.Str.glued
 cases ts with
 | nil=>rfl
 | cons x r =>
  rw [WB]
  show (⟨(List.foldl _ (toS x).cps (r.map toS))⟩:Str)=_
  have:=z9q z r x
  have e:(toS x).cps=x.toArray:=rfl
  rw [e,this]
  cases r with
  | nil=>rfl
  | cons y r'=>rfl
theorem z8b:∀ ts:List Tx,z0s [] ts=ts.flatten
 | []=>rfl
 | [x]=>by simp [z0s]
 | x :: y :: r=>by rw [z0s,z8b (y :: r)]; simp
def z1m (ts:List Tx):Nat:=(ts.map (·.length)).sum
def z1w (z:Tx):D→Option S
 | .lst ds=>match z3M ds with
  | some ts=>if z1m ts + ts.length * z.length≤16777216 then some (.pure (.str (z0s z ts))) else none
  | none=>none
 | .tup ds=>match z3M ds with
  | some ts=>if z1m ts + ts.length * z.length≤16777216 then some (.pure (.str (z0s z ts))) else none
  | none=>none
 | _=>none
theorem zet {K:W0} (z:Tx):Op1 (fun x H Q=>zc8 K (.str (toS z)) [x] H Q) (z1w z):=by
 intro c σ δ H x d s Q k rx hp q
 have key:∀ (a:Addr) (vs:List V) (ds:List D),x = .ref a→(SqL K H a vs∨SqT K H a vs)→Reps H (Av c σ δ) vs ds→(match z3M ds with | some ts=>if z1m ts + ts.length * z.length≤16777216 then some (S.pure (.str (z0s z ts))) else none | none=>none)=some s→zc8 K (.str (toS z)) [x] H Q:=by
  intro a vs ds ea ha ra hp
  cases e:z3M ds with
  | none=>rw [e] at hp; cases hp
  | some ts =>
   rw [e] at hp
   simp only at hp
   split at hp
   ·rename_i hz
    simp only [W5] at hp
    subst hp
    have:=z3I e ra
    subst this
    refine ⟨toS z,a,ts.map toS,rfl,by rw [ea],?_,?_,?_⟩
    ·rw [JA]; exact ha
    ·rw [JA,Wu,z1O]
     have:((fun x:Str=>x.length) ∘ toS)=fun x:Tx=>x.length:=funext fun x=>z1O x
     rw [this]
     exact hz
    ·rw [zeA]
     exact q _ H (.refl k) (.str _)
   ·cases hp
 cases d with
 | lst ds =>
  obtain ⟨a,vs,ea,ha,ra⟩:=rx.lst
  exact key a vs ds ea (.inl (.inl ha)) ra hp
 | tup ds =>
  obtain ⟨a,vs,ea,ha,ra⟩:=rx.tup
  exact key a vs ds ea (.inr (.of ha)) ra hp
 | _=>simp [z1w] at hp
theorem z3V {x:Str} {j} {p0 apos cpos:Pos} (z:Tx) (he:SB X c e fb) (hx:x=toS z:=by decide +kernel)
  (hbase:WS (.Constant (.str x) j p0) "join" X.env (eval (.Constant (.str x) j p0) X.env)=eval (.Constant (.str x) j p0) X.env:=by rfl)
  (hfew:((WF cpos (W4 [e] X.env)).all (fun x=>!x.1) && (Qn cpos (WV [] X.env)).all (fun x=>x.1.isSome)
   && decide ([e].length + ([]:List Keyword).length + (if ([]:List Keyword).isEmpty then 0 else 1) < 30))=true:=by rfl)
  (hline:(apos.endLine == cpos.line)=true:=by rfl) (hs:W4 [e] X.env=(false,eval e X.env) :: W4 [] X.env:=by rfl) :
  SE X c (.Call (.Attribute (.Constant (.str x) j p0) "join" apos) [e] [] cpos) (eC1 (z1w z) fb):=by
 subst hx
 refine PE.weak (z9M PySem.F.plainAttrs_str PySem.F.slot_str_join PySem.F.type_str_join zev zaI (z0M he z1M hs) hbase hfew hline hs rfl) fun σ H Q h=>?_
 obtain ⟨δ,k,q⟩:=z3U (r:=fun x H Q=>zc8 X.K (.str (toS z)) [x] H Q) (zet z) h
 refine ⟨?_,δ,k,q⟩
 show ("str" : String) = "str"
 rfl
end
inductive Fl where
 | next | ret (r:S) | brk | cont
abbrev DS:=Dl→Rs Fl
def fin (c:Fc) (D:Ends) (σ:St) (δ:Dl) (H:Hp):Fl→Prop
 | .next=>D.nx σ H
 | .ret r=>∀ v,RepS c σ δ c.H₀ H v r→D.rt v H
 | .brk=>D.bk σ H
 | .cont=>D.ct σ H
def z2g (c:Fc) (D:Ends) (σ:St) (δ:Dl) (H:Hp) (r:Rs Fl):Prop:=post c r fun fl δ'=>∀ σ' H',Aft c σ δ H σ' δ' H'→fin c D σ' δ' H' fl
def tDS (c:Fc) (f:DS):TS:=fun D σ H=>∃ δ,Ok c σ δ H∧z2g c D σ δ H (f δ)
abbrev SS (X:Cx) (c:Fc) (st:Stmt) (f:DS):Prop:=PS X st (tDS c f)
abbrev SSs (X:Cx) (c:Fc) (st:List Stmt) (f:DS):Prop:=PSs X st (tDS c f)
theorem PS.weak {X:Cx} {st:Stmt} {t t':TS} (h:PS X st t) (w:∀ D σ H,t' D σ H→t D σ H):PS X st t':=fun pins s σ H D I q=>h pins s σ H D I (w D σ H q)
theorem PSs.weak {X:Cx} {st:List Stmt} {t t':TS} (h:PSs X st t) (w:∀ D σ H,t' D σ H→t D σ H):PSs X st t':=fun pins s σ H D I q=>h pins s σ H D I (w D σ H q)
def z0I:DS:=fun δ=>.ok .next δ
def dSeq (f g:DS):DS:=fun δ=>(f δ).bind fun fl δ1=>match fl with
 | .next=>g δ1
 | .ret r=>.ok (.ret r) δ1
 | .brk=>.ok .brk δ1
 | .cont=>.ok .cont δ1
def z8m (f:DE):DS:=fun δ=>(f δ).bind fun _ δ1=>.ok .next δ1
def dRet (f:DE):DS:=fun δ=>(f δ).bind fun r δ1=>.ok (.ret r) δ1
def dIf (t:DT) (f g:DS):DS:=fun δ=>(t δ).bind fun b δ1=>if b then f δ1 else g δ1
def eRetN (np:List Nat) (i:Nat):DE:=fun δ=>match δ[i]? with
 | some (some (.own d))=>if np.contains i then .ok (.pure d) (δ.set i (some (.pure d))) else .ok (.own d) (δ.set i none)
 | some (some (.pure d))=>.ok (.pure d) δ
 | _=>.stuck
section
variable {X:Cx} {c:Fc} {st:Stmt} {sts:List Stmt} {e a:Expr} {f g:DS} {fe:DE} {t:DT} {pos pos':Pos}
theorem z0F:SSs X c [] z0I:=PSs.weak zea fun D σ H ⟨δ,k,q⟩=>q σ H (.refl k)
theorem z01 (h1:SS X c st f) (h2:SSs X c sts g):SSs X c (st :: sts) (dSeq f g):=PSs.weak (zcc h1 h2) fun D σ H ⟨δ,k,q⟩=>by
 unfold dSeq z2g at q
 rw [z03] at q
 refine ⟨δ,k,z00 q fun fl δ1 q1 σ1 H1 a1=>?_⟩
 cases fl with
 | next=>exact ⟨δ1,a1.ok,z00 q1 fun fl2 δ2 q2 σ2 H2 a2=>q2 σ2 H2 (a1.trans a2)⟩
 | ret r=>exact q1 σ1 H1 a1
 | brk=>exact q1 σ1 H1 a1
 | cont=>exact q1 σ1 H1 a1
theorem z0c (h1:SS X c st f):SSs X c [st] f:=PSs.weak (zaA h1) fun D σ H h=>h
theorem z0n (he:SE X c e fe):SS X c (.Return (some e) pos) (dRet fe):=PS.weak (zd8 he) fun D σ H ⟨δ,k,q⟩=>by
 unfold dRet z2g at q
 rw [z03] at q
 exact ⟨δ,k,z00 q fun r δ1 q1 v H1 a1 r1=>q1 σ H1 a1 v r1.home⟩
theorem z16 {b1 b2:List Stmt} (ht:ST X c e t) (h1:SSs X c b1 f) (h2:SSs X c b2 g):SS X c (.If e b1 b2 pos) (dIf t f g):=PS.weak (ps_if ht h1 h2) fun D σ H ⟨δ,k,q⟩=>by
 unfold dIf z2g at q
 rw [z03] at q
 refine ⟨δ,k,z00 q fun b δ1 q1 H1 a1=>?_⟩
 cases b with
 | true=>exact ⟨δ1,a1.ok,z00 q1 fun fl δ2 q2 σ2 H2 a2=>q2 σ2 H2 (a1.trans a2)⟩
 | false=>exact ⟨δ1,a1.ok,z00 q1 fun fl δ2 q2 σ2 H2 a2=>q2 σ2 H2 (a1.trans a2)⟩
theorem Own.of_set (h:Own (σ.set i (some v)) (δ.set i (some r)) b):Own σ δ b∨(v = .ref b∧∃ d,r = .own d):=by
 obtain ⟨j,d,e1,e2⟩:=h
 by_cases hj:i=j
 ·subst hj
  right
  rw [WK] at e1 e2
  simp at e1 e2
  obtain ⟨_,h1⟩:=e1
  obtain ⟨_,h2⟩:=e2
  exact ⟨h2,d,h1⟩
 ·rw [W9 hj] at e1 e2
  exact .inl ⟨j,d,e1,e2⟩
theorem Ok.set (x:Aft c σ₀ δ₀ H₁ σ δ H) (hr:RepS c σ δ H₁ H v r) (hp:∀ p ∈ c.pin,p.1≠i):Aft c σ₀ δ₀ H₁ (σ.set i (some v)) (δ.set i (some r)) H:=by
 have k:=x.ok
 -- all slots avoid the new address,too
 have all:∃ c':Fc,c'.H₀=c.H₀∧c'.pin=c.pin∧Ok c' σ δ H∧(∀ b,Av c (σ.set i (some v)) (δ.set i (some r)) b→Av c' σ δ b):=by
  cases r with
  | pure d =>
   refine ⟨c,rfl,rfl,k,fun b z=>?_⟩
   rcases z with z | z
   ·exact .inl z
   ·rcases z.of_set with z | ⟨_,d',e⟩
    ·exact .inr z
    ·cases e
  | own d =>
   obtain ⟨a,ea,o,n,f,k2,_⟩:=hr
   refine ⟨c.plus a,rfl,rfl,k2,fun b z=>?_⟩
   rcases z with z | z
   ·exact .inl (.inl z)
   ·rcases z.of_set with z | ⟨e,_⟩
    ·exact .inr z
    ·rw [ea] at e; cases e
     exact .inl (.inr rfl)
 obtain ⟨c',eH,eP,k2,sub⟩:=all
 have eI:∀ a,c'.I a ↔ c.I a:=fun a=>by unfold Fc.I; rw [eP]
 have hrep:Rep H (Av c (σ.set i (some v)) (δ.set i (some r))) v r.d∨∃ d,r = .own d:=by
  cases r with
  | pure d =>
   left
   refine Rep.anti hr fun b z=>?_
   rcases z with z | z
   ·exact .inl (.inl z)
   ·rcases z.of_set with z | ⟨_,d',e⟩
    ·exact .inl (.inr z)
    ·cases e
  | own d=>exact .inr ⟨d,rfl⟩
 refine ⟨⟨k.keep,k.bd,k.ith,by rw [WY,WY]; exact k.len,fun j d e=>?_,fun j d e=>?_,fun j l a d d' e1 e2 e3 e4=>?_,fun p hm=>?_⟩,x.keep,fun b z=>?_,x.there⟩
 ·by_cases hj:i=j
  ·subst hj
   rw [WK] at e
   simp at e
   obtain ⟨hi,rfl⟩:=e
   have hi':i < σ.length:=by rw [← k.len]; exact hi
   rcases hrep with h | ⟨_,h⟩
   ·exact ⟨v,by rw [Wq hi'],h⟩
   ·cases h
  ·rw [W9 hj] at e
   obtain ⟨w,e1,q⟩:=k2.slot j d e
   exact ⟨w,by rw [W9 hj]; exact e1,q.anti fun b z=>.inl (sub b z)⟩
 ·by_cases hj:i=j
  ·subst hj
   rw [WK] at e
   simp at e
   obtain ⟨hi,rfl⟩:=e
   have hi':i < σ.length:=by rw [← k.len]; exact hi
   obtain ⟨a,ea,o,n,f,k3,_⟩:=hr
   refine ⟨a,by rw [Wq hi',ea],o.anti fun b z=>.inl ?_,.inr f,n⟩
   rcases z with z | z
   ·exact .inl (.inl z)
   ·rcases z.of_set with z | ⟨e,_⟩
    ·exact .inr z
    ·rw [ea] at e; cases e
     exact .inl (.inr rfl)
  ·rw [W9 hj] at e
   obtain ⟨a,e1,q,q2,q3⟩:=k.own j d e
   obtain ⟨a',e1',q',_,_⟩:=k2.own j d e
   rw [e1] at e1'; cases e1'
   exact ⟨a,by rw [W9 hj]; exact e1,q'.anti fun b z=>.inl (sub b z),q2,q3⟩
 ·by_cases hj:i=j
  ·subst hj
   by_cases hl:i=l
   ·exact hl
   ·rw [W9 hl] at e2 e4
    rw [WK] at e1 e3
    simp at e1 e3
    obtain ⟨_,rfl⟩:=e1
    obtain ⟨_,rfl⟩:=e3
    obtain ⟨a',ea,o,n,f,k3,_⟩:=hr
    cases ea
    exact absurd ⟨l,d',e2,e4⟩ (z4x k3)
  ·rw [W9 hj] at e1 e3
   by_cases hl:i=l
   ·subst hl
    rw [WK] at e2 e4
    simp at e2 e4
    obtain ⟨_,rfl⟩:=e2
    obtain ⟨_,rfl⟩:=e4
    obtain ⟨a',ea,o,n,f,k3,_⟩:=hr
    cases ea
    exact absurd ⟨j,d,e1,e3⟩ (z4x k3)
   ·rw [W9 hl] at e2 e4
    exact k.inj j l a d d' e1 e2 e3 e4
 ·rw [W9 (Ne.symm (hp p hm))]
  exact k.pinned p hm
 ·rcases z.of_set with z | ⟨e,d,ed⟩
  ·exact x.own b z
  ·subst ed
   obtain ⟨a,ea,_,_,_,_,hs⟩:=hr
   rw [ea] at e; cases e
   exact .inr hs
abbrev DG:=S→Dl→Option Dl
def tGD (c:Fc) (g:DG):TG:=fun v σ H Q=>∃ σ₀ δ₀ H₁ δ r δ',Aft c σ₀ δ₀ H₁ σ δ H∧RepS c σ δ H₁ H v r∧g r δ=some δ'∧∀ σ',Aft c σ₀ δ₀ H₁ σ' δ' H→Q σ' H
abbrev SG (X:Cx) (c:Fc) (tg:Expr) (g:DG):Prop:=PG X tg (tGD c g)
def gNm (np:List Nat) (i:Nat):DG:=fun r δ=>if np.contains i then none else some (δ.set i (some r))
def Np (c:Fc) (np:List Nat):Prop:=∀ p ∈ c.pin,np.contains p.1=true
theorem z7q (hp:Np c np) (h:tGD c (gNm np i) v σ H Q):zcJ i v σ H Q:=by
 obtain ⟨σ₀,δ₀,H₁,δ,r,δ',x,rr,e,q⟩:=h
 unfold gNm at e
 split at e
 ·cases e
 ·rename_i hn
  cases e
  exact q _ (Ok.set x rr fun p hm e=>hn (by rw [← e]; exact hp p hm))
theorem PG.weak {tg:Expr} {t t':TG} (h:PG X tg t) (w:∀ v σ H Q,t' v σ H Q→t v σ H Q):PG X tg t':=fun pins s σ H v u Q I r q=>h pins s σ H v u Q I r (w v σ H Q q)
theorem PGs.weak {tg:List Expr} {t t':TGs} (h:PGs X tg t) (w:∀ v σ H Q,t' v σ H Q→t v σ H Q):PGs X tg t':=fun pins s σ H v u Q I r q=>h pins s σ H v u Q I r (w v σ H Q q)
theorem z0Q {np:List Nat} {i:Nat} {x:Str} (hp:Np c np) (hN:X.N.Nodup) (hi:X.N[i]? = some x) (hx:Loc X.env.scope x) (hf:X.fn x=true∨X.env.scope.names.lookup x=some .local):SG X c (.Name x pos) (gNm np i) :=
 PG.weak (zaH hN hi hx hf) fun v σ H Q h=>z7q hp h
abbrev DGs:=List D→Dl→Option Dl
def tGDs (c:Fc) (g:DGs):TGs:=fun vs σ H Q=>∃ δ ds δ',Ok c σ δ H∧Reps H (Av c σ δ) vs ds∧g ds δ=some δ'∧∀ σ',Aft c σ δ H σ' δ' H→Q σ' H
abbrev SGs (X:Cx) (c:Fc) (tg:List Expr) (g:DGs):Prop:=PGs X tg (tGDs c g)
def z1j:DGs:=fun ds δ=>match ds with
 | []=>some δ
 | _=>none
def z0l (g:DG) (gs:DGs):DGs:=fun ds δ=>match ds with
 | []=>none
 | d :: r=>(g (.pure d) δ).bind fun δ1=>gs r δ1
theorem z4U:SGs X c [] z1j:=PGs.weak zaG fun vs σ H Q ⟨δ,ds,δ',k,r,e,q⟩=>by
 cases ds with
 | nil =>
  cases e
  have:vs=[]:=by have:=r.1; simpa using this
  exact ⟨this,q σ (.refl k)⟩
 | cons d r=>cases e
theorem z1t {es:List Expr} {g:DG} {gs:DGs} (h1:SG X c e g) (h2:SGs X c es gs) (hs:(WZ (e :: es) X.env).map (·.2)=assign e X.env :: (WZ es X.env).map (·.2):=by rfl):SGs X c (e :: es) (z0l g gs) :=
 PGs.weak (z9c h1 h2 hs) fun vs σ H Q ⟨δ,ds,δ',k,r,e,q⟩=>by
  cases ds with
  | nil=>cases e
  | cons d ds =>
   cases vs with
   | nil=>have:=r.1; simp at this
   | cons v vs =>
    simp only [z0l] at e
    cases e1:g (.pure d) δ with
    | none=>rw [e1] at e; cases e
    | some δ1 =>
     rw [e1] at e
     refine ⟨v,vs,rfl,σ,δ,H,δ,.pure d,δ1,.refl k,r.head,e1,fun σ1 a1=>?_⟩
     exact ⟨δ1,ds,δ',a1.ok,Reps.aft r.tail a1,e,fun σ2 a2=>q σ2 (a1.trans a2)⟩
def gTp (n:Nat) (gs:DGs):DG:=fun r δ=>match r.d with
 | .tup ds=>if ds.length=n then gs ds δ else none
 | _=>none
theorem z6A {es:List Expr} {k:Nat} {gs:DGs} {n:Nat} (hc:X.calm=true) (h:SGs X c es gs) (hn:(WZ es X.env).length=n:=by rfl) (hst:(WZ es X.env).findIdx? (·.1)=none:=by rfl) :
  SG X c (.Tuple es k pos) (gTp n gs):=PG.weak (zda hc h hn hst) fun v σ H Q hw=>by
 obtain ⟨σ₀,δ₀,H₁,δ,r,δ',x,rr,e,q⟩:=hw
 have hb:=rr.b
 unfold gTp at e
 generalize r.d=d at e hb
 cases d <;> first | (cases e; done) | skip
 rename_i ds
 simp only at e
 split at e
 ·rename_i hl
  obtain ⟨a,vs,ea,ha,ra⟩:=hb.tup
  exact ⟨a,vs,ea,.of ha,by rw [ra.1]; exact hl,δ,ds,δ',x.ok,ra,e,fun σ' a1=>q σ' (x.trans a1)⟩
 ·cases e
def dAsg (f:DE) (g:DG):DS:=fun δ=>(f δ).bind fun r δ1=>match g r δ1 with
 | some δ2=>.ok .next δ2
 | none=>.stuck
theorem z7y {g:DG} {D:Ends} {σ:St} {H:Hp} {te:TE} {tg:TG} (he:∀ σ H Q,tD c fe σ H Q→te σ H Q) (hg:∀ v σ H Q,tGD c g v σ H Q→tg v σ H Q) (h:tDS c (dAsg fe g) D σ H):tAsg te tg D σ H:=by
 obtain ⟨δ,k,q⟩:=h
 unfold dAsg z2g at q
 rw [z03] at q
 refine he _ _ _ ⟨δ,k,z00 q fun r δ1 q1 v H1 a1 r1=>hg _ _ _ _ ?_⟩
 cases e:g r δ1 with
 | none=>rw [e] at q1; exact q1.elim
 | some δ2 =>
  rw [e] at q1
  exact ⟨σ,δ,H,δ1,r,δ2,a1,r1,e,fun σ' a2=>q1 σ' H1 a2⟩
theorem z90 {tg:Expr} {g:DG} (he:SE X c e fe) (hg:SG X c tg g) (hs:swapsWithSole [tg] e pos.line X.env=pure false:=by rfl) (hw:swappedStores [tg] e X.env=pure none:=by rfl)
  (h1:(WZ [tg] X.env).map (·.2)=[assign tg X.env]:=by rfl):SS X c (.Assign [tg] e pos) (dAsg fe g):=PS.weak (zd9 he hg hs hw h1) fun D σ H h=>z7y (fun _ _ _ h=>h) (fun _ _ _ _ h=>h) h
theorem z0t {np:List Nat} {i:Nat} {x:Str} (hp:Np c np) (hN:X.N.Nodup) (hi:X.N[i]? = some x) (hx:Loc X.env.scope x) (he:SE X c e fe) (hs:QX e (some (.Name x pos')) pos.line X.env=pure false) (hf:X.fn x=true∨X.env.scope.names.lookup x=some .local) :
  SS X c (.Assign [.Name x pos'] e pos) (dAsg fe (gNm np i)):=PS.weak (zfH hN hi hx he hs hf) fun D σ H h=>z7y (fun _ _ _ h=>h) (fun _ _ _ _ h=>z7q hp h) h
theorem zdK (he:SE X c e fe) (hs:∀ (x:Value),QX e none pos.line X.env=pure false:=by intro _; rfl) (hd:True:=trivial) (h:PS X (.Expr e pos) (zdB (tD c fe))):SS X c (.Expr e pos) (z8m fe):=PS.weak h fun D σ H ⟨δ,k,q⟩=>by
 unfold z8m z2g at q
 rw [z03] at q
 exact ⟨δ,k,z00 q fun r δ1 q1 v H1 a1 r1=>q1 σ H1 a1⟩
theorem Ok.mutL {σ:St} {δ:Dl} {H:Hp} {i:Nat} {ds ds':List D} {a:Addr} {vs':List V} (k:Ok c σ δ H) (e:δ[i]? = some (some (.own (.lst ds)))) (ea:σ[i]? = some (some (.ref a))) (r:Reps H (Av c σ δ) vs' ds') :
  Aft c σ δ H σ (δ.set i (some (.own (.lst ds')))) (upd H a (.lst vs')):=by
 have hi:i < δ.length:=(Wb.mp e).1
 obtain ⟨a',ea',oa,ia,nb⟩:=k.own i _ e
 rw [ea] at ea'; cases ea'
 obtain ⟨vs,ha,_⟩:=oa
 have ownA:Own σ δ a:=⟨i,_,e,ea⟩
 have avA:Av c σ δ a:=.inr ownA
 have own_iff:∀ b,Own σ (δ.set i (some (.own (.lst ds')))) b ↔ Own σ δ b:=fun b=>by
  constructor
  ·rintro ⟨j,d,e1,e2⟩
   by_cases hj:i=j
   ·subst hj
    exact ⟨i,_,e,e2⟩
   ·rw [W9 hj] at e1
    exact ⟨j,d,e1,e2⟩
  ·rintro ⟨j,d,e1,e2⟩
   by_cases hj:i=j
   ·subst hj
    exact ⟨i,_,by rw [Wq hi],e2⟩
   ·exact ⟨j,d,by rw [W9 hj]; exact e1,e2⟩
 have av_iff:∀ b,Av c σ (δ.set i (some (.own (.lst ds')))) b→Av c σ δ b:=fun b z=>z.elim .inl fun z=>.inr ((own_iff b).mp z)
 have ne:∀ b,¬ Av c σ δ b→b≠a:=fun b n z=>n (by rw [z]; exact avA)
 have kp:∀ b o,H b=some o→¬ Av c σ δ b→upd H a (.lst vs') b=some o:=fun b o h n=>by rw [z0q (ne b n)]; exact h
 have hup:∀ b o,H b=some o→∃ o',upd H a (.lst vs') b=some o':=fun b o h=>by
  by_cases hb:b=a
  ·exact ⟨_,by rw [hb]; exact z0y⟩
  ·exact ⟨o,by rw [z0q hb]; exact h⟩
 refine ⟨⟨fun b o h n=>?_,fun b z=>?_,fun b z=>?_,by rw [WY]; exact k.len,fun j d h=>?_,fun j d h=>?_,fun j l b d d' h1 h2 h3 h4=>?_,k.pinned⟩,fun b o h n=>?_,fun b z=>.inl ((own_iff b).mp z),hup⟩
 ·have hb:b≠a:=fun z=>by
   subst z
   rcases ia with z | z
   ·exact n z
   ·rw [z] at h; cases h
  rw [z0q hb]
  exact k.keep b o h n
 ·obtain ⟨o,h⟩:=k.bd b z
  exact hup b o h
 ·obtain ⟨o,h⟩:=k.ith b z
  exact hup b o h
 ·have hj:i≠j:=fun z=>by subst z; rw [Wq hi] at h; cases h
  rw [W9 hj] at h
  obtain ⟨v,h1,h2⟩:=k.slot j d h
  exact ⟨v,h1,(h2.keep kp).anti fun b z=>.inl (av_iff b z)⟩
 ·by_cases hj:i=j
  ·subst hj
   rw [Wq hi] at h
   cases h
   exact ⟨a,ea,⟨vs',z0y,Reps.anti (Reps.keep r kp) fun b z=>.inl (av_iff b z)⟩,ia,nb⟩
  ·rw [W9 hj] at h
   obtain ⟨b,h1,h2,h3,h4⟩:=k.own j d h
   have hb:b≠a:=fun z=>by subst z; exact hj (k.inj i j b _ d e h ea h1)
   exact ⟨b,h1,(h2.keep kp fun o q=>by rw [z0q hb]; exact q).anti fun b z=>.inl (av_iff b z),h3,h4⟩
 ·have f1:∃ d,δ[j]? = some (some (.own d)):=by
   by_cases hj:i=j
   ·subst hj; exact ⟨_,e⟩
   ·rw [W9 hj] at h1; exact ⟨d,h1⟩
  have f2:∃ d,δ[l]? = some (some (.own d)):=by
   by_cases hj:i=l
   ·subst hj; exact ⟨_,e⟩
   ·rw [W9 hj] at h2; exact ⟨d',h2⟩
  obtain ⟨_,f1⟩:=f1
  obtain ⟨_,f2⟩:=f2
  exact k.inj j l b _ _ f1 f2 h3 h4
 ·have hb:b≠a:=fun z=>n (by rw [z]; exact ownA)
  rw [z0q hb]; exact h
def z23 (δ:Dl) (i:Nat):Bool:=match δ[i]? with
 | some (some (.own (.lst _)))=>true
 | _=>false
def putL (δ:Dl) (i:Nat) (f:List D→Option (List D)):Rs Fl:=match δ[i]? with
 | some (some (.own (.lst ds)))=>match f ds with
  | some ds'=>.ok .next (δ.set i (some (.own (.lst ds'))))
  | none=>.stuck
 | _=>.stuck
theorem z65 (h:z23 δ i=true):∃ ds,δ[i]? = some (some (.own (.lst ds))):=by
 unfold z23 at h
 split at h
 ·rename_i ds e; exact ⟨ds,e⟩
 ·cases h
theorem z5K {δ:Dl} {i:Nat} {g:List D→Option (List D)} {kk:Fl→Dl→Prop} (h:post c (putL δ i g) kk):∃ ds ds',δ[i]? = some (some (.own (.lst ds)))∧g ds=some ds'∧kk .next (δ.set i (some (.own (.lst ds')))):=by
 unfold putL at h
 split at h
 ·rename_i ds e
  split at h
  ·rename_i ds' e2
   exact ⟨ds,ds',e,e2,h⟩
  ·exact h.elim
 ·exact h.elim
def z1o (i:Nat) (f:DE):DS:=fun δ=>if z23 δ i then (f δ).bind fun r δ1=>putL δ1 i fun ds=>if ds.length < W8 then some (ds ++ [r.d]) else none else .stuck
theorem zaf {i:Nat} {o:Expr} {p0 apos cpos:Pos} (ho:PE X o (tVar i)) (he:SE X c e fe)
  (h:PS X (.Expr (.Call (.Attribute o "append" apos) [e] [] cpos) pos) (zdB (tBM X.K "list" zay (tVar i) (zf5 (tD c fe) tNil)))):SS X c (.Expr (.Call (.Attribute o "append" apos) [e] [] cpos) pos) (z1o i fe) :=
 PS.weak h fun D σ H ⟨δ,k,q⟩=>by
  unfold z1o z2g at q
  split at q
  ·rename_i hown
   obtain ⟨ds0,e0⟩:=z65 hown
   rw [z03] at q
   obtain ⟨a,ea,oa,_⟩:=k.own i _ e0
   refine ⟨.ref a,ea,?_,δ,k,z00 q fun r δ1 q1 v H1 a1 r1=>?_⟩
   ·obtain ⟨vs,ha,_⟩:=oa
    exact .inl ⟨rfl,vs,.of ha⟩
   ·obtain ⟨ds,ds',e1,e2,q2⟩:=z5K q1
    split at e2
    ·rename_i hz
     cases e2
     obtain ⟨a',ea',oa1,_⟩:=a1.ok.own i _ e1
     rw [ea] at ea'; cases ea'
     obtain ⟨vs,ha,ra⟩:=id oa1
     refine ⟨a,vs,v,rfl,rfl,ha,by rw [ra.1]; exact hz,?_⟩
     exact q2 σ _ (a1.trans (Ok.mutL a1.ok e1 ea (ra.append (.cons r1.rep .nil))))
    ·cases e2
  ·exact q.elim
def z4K (i:Nat) (fi:DE) (fe:DE):DS:=fun δ=>if z23 δ i then (fe δ).bind fun r δ1=>(fi δ1).bind fun k δ2=>match k with
 | .pure (.int j)=>putL δ2 i fun ds=>(ixN ds.length j).map fun n=>ds.set n r.d
 | _=>.stuck else .stuck
theorem z4R {i:Nat} {o ix:Expr} {fi:DE} {sp:Pos} (ho:PE X o (tVar i)) (hi:SE X c ix fi) (he:SE X c e fe)
  (ha:∀ v,assign (.Subscript o ix sp) X.env v=(do
   let ov ← holding [v] (eval o X.env)
   let iv ← holding [v,ov] (eval ix X.env)
   standAt sp
   holding [v,ov,iv] (setItem ov iv v)
   release [v,ov,iv] []):=by intro _; rfl)
  (hs:swapsWithSole [.Subscript o ix sp] e pos.line X.env=pure false:=by rfl) (hw:swappedStores [.Subscript o ix sp] e X.env=pure none:=by rfl)
  (h1:(WZ [.Subscript o ix sp] X.env).map (·.2)=[assign (.Subscript o ix sp) X.env]:=by rfl):SS X c (.Assign [.Subscript o ix sp] e pos) (z4K i fi fe) :=
 PS.weak (zd9 he (zfK ho hi zbV ha) hs hw h1) fun D σ H ⟨δ,k,q⟩=>by
  unfold z4K z2g at q
  split at q
  ·rename_i hown
   obtain ⟨ds0,e0⟩:=z65 hown
   rw [z03] at q
   obtain ⟨a,ea,_,_⟩:=k.own i _ e0
   refine ⟨δ,k,z00 q fun r δ1 q1 v H1 a1 r1=>⟨.ref a,ea,δ1,a1.ok,?_⟩⟩
   rw [z03] at q1
   refine z00 q1 fun kx δ2 q2 u H2 a2 r2=>?_
   cases kx with
   | own d=>exact q2.elim
   | pure d =>
    cases d <;> first | exact q2.elim | skip
    rename_i j
    cases r2
    obtain ⟨ds,ds',e1,e2,q3⟩:=z5K q2
    cases e3:ixN ds.length j with
    | none=>rw [e3] at e2; cases e2
    | some n =>
     rw [e3] at e2
     cases e2
     obtain ⟨a',ea',oa1,_⟩:=a2.ok.own i _ e1
     rw [ea] at ea'; cases ea'
     obtain ⟨vs,ha,ra⟩:=id oa1
     refine ⟨a,vs,j,n,rfl,rfl,ha,by rw [ra.1]; exact e3,?_⟩
     exact q3 σ _ (a1.trans (a2.trans (Ok.mutL a2.ok e1 ea (ra.set (Rep.aft r1.rep a2) n))))
  ·exact q.elim
end
abbrev DI:=Dl→Rs (List D)
def ItOk (c:Fc) (σ:St) (δ:Dl) (H:Hp) (J:It) (ds:List D):Prop:=∀ H2,(∀ a o,H a=some o→¬ Own σ δ a→H2 a=some o)→J.stop ds.length H2 ∧
 ∀ (i:Nat) d,ds[i]? = some d→J.go i H2∧∀ x H3,J.yld i H2 x H3→(H3=H2∧Rep H (Av c σ δ) x d) ∨
  ∃ p vs es,H2 p=none∧H3=upd H2 p (.tup vs)∧x = .ref p∧d = .tup es∧Reps H (Av c σ δ) vs es
def tI (c:Fc) (f:DI):TI:=fun σ H R=>∃ δ,Ok c σ δ H∧post c (f δ) fun ds δ'=>∀ J H',Aft c σ δ H σ δ' H'→ItOk c σ δ' H' J ds→R J H'
abbrev SI (X:Cx) (c:Fc) (tg iter:Expr) (f:DI):Prop:=PI X tg iter (tI c f)
theorem PI.weak (h:PI X tg iter t) (w:∀ σ H R,t' σ H R→t σ H R):PI X tg iter t':=fun pins s σ H R I q=>h pins s σ H R I (w σ H R q)
section
variable {X:Cx} {c:Fc} {tg e:Expr} {fe:DE} {pos pp:Pos}
theorem zgo (K:W0) (h:H a=some (.tup vs)) (n:¬ Own σ δ a) (r:Reps H (Av c σ δ) vs ds):ItOk c σ δ H (Itt K a) ds:=by
 intro H2 kp
 have h2:=kp a _ h n
 refine ⟨⟨vs,.of h2,by rw [r.1]; exact W7 _⟩,fun i d e=>?_⟩
 obtain ⟨v,ev,rv⟩:=r.get e
 refine ⟨⟨vs,v,.of h2,ev⟩,fun x H3 ⟨e3,y⟩=>.inl ⟨e3,?_⟩⟩
 have:=y vs (.of h2)
 rw [ev] at this
 cases this
 exact rv
def z1h (lo:Int) (n:Nat):List D:=(Ql n).map fun k:Nat=>D.int (lo + k)
theorem z6D {lo:Int} {n i:Nat} {d:D} (h:(z1h lo n)[i]? = some d):i < n∧d = .int (lo + i):=by
 unfold z1h at h
 rw [WN] at h
 by_cases hi:i < n
 ·rw [List.getElem?_range hi] at h
  simp at h
  exact ⟨hi,h.symm⟩
 ·rw [Qq (by simpa using hi)] at h
  cases h
theorem z9k (lo:Int) (n:Nat):ItOk c σ δ H (Itr lo n) (z1h lo n):=by
 intro H2 kp
 refine ⟨by show n≤(z1h lo n).length; simp [z1h],fun i d e=>?_⟩
 obtain ⟨hi,rfl⟩:=z6D e
 exact ⟨hi,fun x H3 ⟨e3,ex⟩=>.inl ⟨e3,by rw [ex]; exact .int _⟩⟩
def z3c (j:Int):Bool:=decide (-(2 ^ 62)≤j) && decide (j < 2 ^ 62)
def z2n (f:DE):DI:=fun δ=>(f δ).bind fun r δ1=>match r with
 | .pure (.int j)=>if z3c j then .ok (z1h 0 j.toNat) δ1 else .stuck
 | _=>.stuck
theorem z5F (hg:Gl X "range") (hm:X.mg "range" = none) (he:SE X c e fe) (hs:W4 [e] X.env=[(false,eval e X.env)]:=by rfl):SI X c tg (.Call (.Name "range" pp) [e] [] pos) (z2n fe) :=
 PI.weak (zaF hg hm (z0M he z1M hs) hs) fun σ H R ⟨δ,k,q⟩=>by
  unfold z2n at q
  rw [z03] at q
  refine ⟨δ,k,z00 q fun r δ1 q1 v H1 a1 r1=>?_⟩
  cases r with
  | own d=>exact q1.elim
  | pure d =>
   cases d <;> first | exact q1.elim | skip
   rename_i j
   cases r1
   simp only at q1
   split at q1
   ·rename_i hj
    unfold z3c at hj
    simp only [We,decide_eq_true_eq] at hj
    exact ⟨j,rfl,hj.1,hj.2,q1 _ H1 a1 (z9k 0 j.toNat)⟩
   ·exact q1.elim
def z58 (f g:DE):DI:=fun δ=>(f δ).bind fun r δ1=>(g δ1).bind fun s δ2=>match r,s with
 | .pure (.int i),.pure (.int j)=>if z3c i && z3c j then .ok (z1h i (j - i).toNat) δ2 else .stuck
 | _,_=>.stuck
theorem z7C (hg:Gl X "range") (hm:X.mg "range" = none) (he:SE X c e fe) (he2:SE X c e2 fe2) (hs:W4 [e,e2] X.env=[(false,eval e X.env),(false,eval e2 X.env)]:=by rfl) (hs2:W4 [e2] X.env=[(false,eval e2 X.env)]:=by rfl)
  (hs3:W4 [e,e2] X.env=(false,eval e X.env) :: W4 [e2] X.env:=by rfl):SI X c tg (.Call (.Name "range" pp) [e,e2] [] pos) (z58 fe fe2) :=
 PI.weak (zaE hg hm (z0M he (z0M he2 z1M hs2) hs3) hs hs2) fun σ H R ⟨δ,k,q⟩=>by
  unfold z58 at q
  rw [z03] at q
  refine ⟨δ,k,z00 q fun r δ1 q1 v H1 a1 r1=>⟨δ1,a1.ok,?_⟩⟩
  rw [z03] at q1
  refine z00 q1 fun r2 δ2 q2 v2 H2 a2 r2'=>?_
  cases r with
  | own d=>exact q2.elim
  | pure d =>
   cases d <;> first | exact q2.elim | skip
   rename_i i
   cases r1
   cases r2 with
   | own d=>exact q2.elim
   | pure d =>
    cases d <;> first | exact q2.elim | skip
    rename_i j
    cases r2'
    simp only at q2
    split at q2
    ·rename_i hj
     unfold z3c at hj
     simp only [We,decide_eq_true_eq] at hj
     exact ⟨i,j,rfl,⟨hj.1.1,hj.1.2,hj.2.1,hj.2.2⟩,q2 _ H2 (a1.trans a2) (z9k i (j - i).toNat)⟩
    ·exact q2.elim
def forL (g:DG) (b:DS):List D→DS
 | [],δ=>.ok .next δ
 | d :: r,δ=>match g (.pure d) δ with
  | none=>.stuck
  | some δ1=>(b δ1).bind fun fl δ2=>match fl with
   | .next=>forL g b r δ2
   | .cont=>forL g b r δ2
   | .brk=>.ok .next δ2
   | .ret v=>.ok (.ret v) δ2
def dFor (it:DI) (g:DG) (b:DS):DS:=fun δ=>(it δ).bind fun ds δ1=>forL g b ds δ1
theorem z6T (io:ItOk c σ δ H J ds) (a:Aft c σ δ H σ2 δ2 H2) (e:ds[i]? = some d) (y:J.yld i H2 x H3):Aft c σ2 δ2 H2 σ2 δ2 H3∧Rep H3 (Av c σ2 δ2) x d:=by
 obtain ⟨_,t⟩:=io H2 a.keep
 rcases (t i d e).2 x H3 y with ⟨e3,r⟩ | ⟨p,vs,es,hp,e3,ex,ed,r⟩
 ·subst e3
  exact ⟨.refl a.ok,Rep.aft r a⟩
 ·subst e3 ex ed
  have:=RepS.newT a.ok (Reps.aft r a) hp
  exact ⟨.alloc a.ok hp _,this⟩
theorem z3f {iter:Expr} {body:List Stmt} {it:DI} {g:DG} {b:DS} (hp:PassesOwn (model X.prog X.w) X.A X.env X.xe) (hc:X.calm=true) (hi:SI X c tg iter it) (hg:SG X c tg g) (hb:SSs X c body b)
  (hs:∀ x,Qd iter X.env x=pure x:=by intro _; rfl):SS X c (.For tg iter body [] pos) (dFor it g b):=PS.weak (zfI hp hc hi hg hb hs) fun D σ H ⟨δ,k,q⟩=>by
 unfold dFor z2g at q
 rw [z03] at q
 refine ⟨δ,k,z00 q fun ds δ1 q1 J H1 a1 io=>?_⟩
 refine ⟨fun i m σ2 H2=>∃ δ2,m=ds.length - i∧i≤ds.length∧Aft c σ δ1 H1 σ2 δ2 H2∧z2g c D σ2 δ2 H2 (forL g b (ds.drop i) δ2),⟨ds.length,δ1,by simp,QL _,.refl a1.ok,?_⟩,?_⟩
 ·rw [List.drop_zero]
  exact z00 q1 fun fl δ2 q2 σ2 H2 a2=>q2 σ2 H2 (a1.trans a2)
 ·rintro i m σ2 H2 ⟨δ2,rfl,hil,a2,p2⟩
  by_cases hlt:i < ds.length
  ·right
   have e:ds[i]? = some ds[i]:=by simp [hlt]
   rw [Qs hlt] at p2
   refine ⟨((io H2 a2.keep).2 i _ e).1,fun σ4 H4=>∃ δ4,Aft c σ δ1 H1 σ4 δ4 H4∧z2g c D σ4 δ4 H4 (forL g b (ds.drop (i + 1)) δ4),fun σ4 H4 ⟨δ4,a4,p4⟩=>⟨ds.length - (i + 1),by omega,δ4,rfl,hlt,a4,p4⟩,fun x H3 y=>?_⟩
   obtain ⟨a3,r3⟩:=z6T io a2 e y
   simp only [forL,z2g] at p2
   cases eg:g (.pure ds[i]) δ2 with
   | none=>rw [eg] at p2; exact p2.elim
   | some δ3 =>
    rw [eg] at p2
    refine ⟨σ2,δ2,H3,δ2,.pure ds[i],δ3,.refl a3.ok,r3,eg,fun σ3 a3'=>?_⟩
    have p3:post c ((b δ3).bind fun fl δ2=>match fl with
     | .next=>forL g b (ds.drop (i + 1)) δ2
     | .cont=>forL g b (ds.drop (i + 1)) δ2
     | .brk=>.ok .next δ2
     | .ret v=>.ok (.ret v) δ2) fun fl δ'=>∀ σ' H',Aft c σ2 δ2 H2 σ' δ' H'→fin c D σ' δ' H' fl:=p2
    rw [z03] at p3
    have a23:Aft c σ2 δ2 H2 σ3 δ3 H3:=a3.trans a3'
    refine ⟨δ3,a3'.ok,z00 p3 fun fl δ4 p4 σ4 H4 a4=>?_⟩
    have a24:=a23.trans a4
    cases fl with
    | next=>exact ⟨δ4,a2.trans a24,z00 p4 fun fl δ5 p5 σ5 H5 a5=>p5 σ5 H5 (a24.trans a5)⟩
    | cont=>exact ⟨δ4,a2.trans a24,z00 p4 fun fl δ5 p5 σ5 H5 a5=>p5 σ5 H5 (a24.trans a5)⟩
    | brk=>exact p4 σ4 H4 a24
    | ret r=>exact p4 σ4 H4 a24
  ·left
   have hi2:i=ds.length:=by omega
   subst hi2
   rw [List.drop_length] at p2
   exact ⟨(io H2 a2.keep).1,p2 σ2 H2 (.refl a2.ok)⟩
end
def clrD (cs:List Nat) (δ:Dl):Dl:=cs.foldl (fun δ i=>δ.set i none) δ
def z26 (cs:List Nat) (δ₁ δ:Dl):Dl:=cs.foldl (fun δ i=>match δ₁[i]? with | some o=>δ.set i o | none=>δ) δ
def z0w (δ:Dl) (i:Nat):Bool:=match δ[i]? with
 | some (some (.own _))=>true
 | _=>false
theorem z9w (cs:List Nat):∀ δ:Dl,(clrD cs δ).length=δ.length:=by
 induction cs with
 | nil=>intro δ; rfl
 | cons i r ih =>
  intro δ
  show (clrD r (δ.set i none)).length=_
  rw [ih]; simp
theorem z1v:∀ (cs:List Nat) (δ:Dl) (i:Nat) (v:S),(clrD cs δ)[i]? = some (some v)→δ[i]? = some (some v)∧i ∉ cs:=by
 intro cs
 induction cs with
 | nil=>intro δ i v h; exact ⟨h,by simp⟩
 | cons j r ih =>
  intro δ i v h
  have h':(clrD r (δ.set j none))[i]? = some (some v):=h
  obtain ⟨h1,h2⟩:=ih _ i v h'
  by_cases e:j=i
  ·subst e
   rw [WK] at h1
   simp at h1
  ·rw [W9 e] at h1
   exact ⟨h1,by simp only [Wh,not_or]; exact ⟨Ne.symm e,h2⟩⟩
theorem z36:∀ (cs:List Nat) (σ:St) (i:Nat),i ∉ cs→(clr cs σ)[i]? = σ[i]?:=by
 intro cs
 induction cs with
 | nil=>intro σ i _; rfl
 | cons j r ih =>
  intro σ i h
  simp only [Wh,not_or] at h
  show (clr r (σ.set j none))[i]? = _
  rw [ih _ _ h.2,W9 (Ne.symm h.1)]
theorem zcX:∀ (cs:List Nat) (δ:Dl) (i:Nat),i ∉ cs→(clrD cs δ)[i]? = δ[i]?:=by
 intro cs
 induction cs with
 | nil=>intro σ i _; rfl
 | cons j r ih =>
  intro σ i h
  simp only [Wh,not_or] at h
  show (clrD r (σ.set j none))[i]? = _
  rw [ih _ _ h.2,W9 (Ne.symm h.1)]
theorem zbG (cs:List Nat) (δ₁:Dl):∀ δ:Dl,(z26 cs δ₁ δ).length=δ.length:=by
 induction cs with
 | nil=>intro δ; rfl
 | cons i r ih =>
  intro δ
  unfold z26
  rw [Qg]
  have:=ih (match δ₁[i]? with | some o=>δ.set i o | none=>δ)
  unfold z26 at this
  rw [this]
  cases δ₁[i]? <;> simp
theorem z4M:∀ (cs:List Nat) (δ₁ δ:Dl) (i:Nat),i ∉ cs→(z26 cs δ₁ δ)[i]? = δ[i]?:=by
 intro cs δ₁
 induction cs with
 | nil=>intro δ i _; rfl
 | cons j r ih =>
  intro δ i h
  simp only [Wh,not_or] at h
  unfold z26
  rw [Qg]
  have:=ih (match δ₁[j]? with | some o=>δ.set j o | none=>δ) i h.2
  unfold z26 at this
  rw [this]
  cases δ₁[j]? with
  | none=>rfl
  | some o=>simp only; rw [W9 (Ne.symm h.1)]
theorem z7x:∀ (cs:List Nat) (δ₁ δ:Dl) (i:Nat),δ₁.length=δ.length→i ∈ cs→(z26 cs δ₁ δ)[i]? = δ₁[i]?:=by
 intro cs δ₁
 induction cs with
 | nil=>intro δ i _ h; simp at h
 | cons j r ih =>
  intro δ i hl h
  unfold z26
  rw [Qg]
  have hl2:δ₁.length=(match δ₁[j]? with | some o=>δ.set j o | none=>δ).length:=by cases δ₁[j]? <;> simp [hl]
  by_cases hr:i ∈ r
  ·have:=ih (match δ₁[j]? with | some o=>δ.set j o | none=>δ) i hl2 hr
   unfold z26 at this
   exact this
  ·have e:i=j:=by
    rcases Wh.mp h with e | e
    ·exact e
    ·exact absurd e hr
   subst e
   have:=z4M r δ₁ (match δ₁[i]? with | some o=>δ.set i o | none=>δ) i hr
   unfold z26 at this
   rw [this]
   cases e:δ₁[i]? with
   | none =>
    simp only
    have:=List.getElem?_eq_none_iff.mp e
    exact Qq (by omega)
   | some o =>
    simp only
    have:=(Wb.mp e).1
    rw [Wq (by omega)]
section
variable {c:Fc} {σ:St} {δ δ':Dl} {H H':Hp} {l:Addr} {cs:List Nat}
theorem Ok.less (k:Ok (c.plus l) σ δ H):Ok c σ δ H:=by
 have sub:∀ b,Av c σ δ b→Av (c.plus l) σ δ b:=fun b z=>z.elim (fun z=>.inl (.inl z)) .inr
 refine ⟨k.keep,fun a z=>k.bd a (.inl z),k.ith,k.len,fun i d e=>?_,fun i d e=>?_,k.inj,k.pinned⟩
 ·obtain ⟨v,h1,h2⟩:=k.slot i d e
  exact ⟨v,h1,h2.anti fun b z=>.inl (sub b z)⟩
 ·obtain ⟨a,h1,h2,h3,h4⟩:=k.own i d e
  exact ⟨a,h1,h2.anti fun b z=>.inl (sub b z),h3,fun z=>h4 (.inl z)⟩
theorem Ok.updB (k:Ok c σ δ H) (hb:c.B l) (h0:c.H₀ l=none) (o:HO):Ok c σ δ (upd H l o):=by
 have kp:∀ b w,H b=some w→¬ Av c σ δ b→upd H l o b=some w:=fun b w e n=>by
  rw [z0q (fun z=>n (by rw [z]; exact .inl hb))]; exact e
 have hup:∀ b w,H b=some w→∃ w',upd H l o b=some w':=fun b w h=>by
  by_cases hb:b=l
  ·exact ⟨_,by rw [hb]; exact z0y⟩
  ·exact ⟨w,by rw [z0q hb]; exact h⟩
 refine ⟨fun a w e n=>?_,fun a z=>?_,fun a z=>?_,k.len,fun i d e=>?_,fun i d e=>?_,k.inj,k.pinned⟩
 ·have:a≠l:=fun z=>by rw [z,h0] at e; cases e
  rw [z0q this]; exact k.keep a w e n
 ·obtain ⟨w,e⟩:=k.bd a z; exact hup a w e
 ·obtain ⟨w,e⟩:=k.ith a z; exact hup a w e
 ·obtain ⟨v,h1,h2⟩:=k.slot i d e
  exact ⟨v,h1,h2.keep kp⟩
 ·obtain ⟨a,h1,h2,h3,h4⟩:=k.own i d e
  have:a≠l:=fun z=>h4 (by rw [z]; exact hb)
  exact ⟨a,h1,h2.keep kp fun w q=>by rw [z0q this]; exact q,h3,h4⟩
theorem Own.clr (h:Own (clr cs σ) (clrD cs δ) l):Own σ δ l:=by
 obtain ⟨i,d,e1,e2⟩:=h
 exact ⟨i,d,(z1v cs δ i _ e1).1,(z3A cs σ i _ e2).1⟩
theorem Ok.clr (k:Ok c σ δ H) (hp:∀ p ∈ c.pin,p.1 ∉ cs):Ok c (L2.clr cs σ) (clrD cs δ) H:=by
 have sub:∀ b,Av c (L2.clr cs σ) (clrD cs δ) b→Av c σ δ b:=fun b z=>z.elim .inl fun z=>.inr z.clr
 refine ⟨k.keep,k.bd,k.ith,by rw [z9w,z7u]; exact k.len,fun i d e=>?_,fun i d e=>?_,fun i j a d d' e1 e2 e3 e4=>?_,fun p hm=>?_⟩
 ·obtain ⟨e',hi⟩:=z1v cs δ i _ e
  obtain ⟨v,h1,h2⟩:=k.slot i d e'
  exact ⟨v,by rw [z36 cs σ i hi]; exact h1,h2.anti fun b z=>.inl (sub b z)⟩
 ·obtain ⟨e',hi⟩:=z1v cs δ i _ e
  obtain ⟨a,h1,h2,h3⟩:=k.own i d e'
  exact ⟨a,by rw [z36 cs σ i hi]; exact h1,h2.anti fun b z=>.inl (sub b z),h3⟩
 ·exact k.inj i j a d d' (z1v cs δ i _ e1).1 (z1v cs δ j _ e2).1 (z3A cs σ i _ e3).1 (z3A cs σ j _ e4).1
 ·rw [z36 cs σ _ (hp p hm)]; exact k.pinned p hm
theorem Aft.back (k:Ok c₀ σ δ H) (hpin:c.pin=c₀.pin) (hB:∀ b,c.B b→c₀.B b∨H b=none) (hno:cs.any (z0w δ)=false) (x:Aft c (L2.clr cs σ) (clrD cs δ) H (L2.clr cs σ) δ' H'):Aft c σ δ H σ (z26 cs δ δ') H':=by
 have len:δ.length=δ'.length:=by
  have:=x.ok.len
  rw [z7u] at this
  rw [this]; exact k.len
 have nown:∀ i d,i ∈ cs→δ[i]?≠some (some (.own d)):=fun i d hi e=>by
  have:=List.any_eq_false.mp hno i hi
  unfold z0w at this
  rw [e] at this
  simp at this
 have ownOut:∀ i d,(z26 cs δ δ')[i]? = some (some (.own d))→i ∉ cs∧δ'[i]? = some (some (.own d)):=fun i d e=>by
  by_cases hi:i ∈ cs
  ·rw [z7x cs δ δ' i len hi] at e
   exact absurd e (nown i d hi)
  ·rw [z4M cs δ δ' i hi] at e
   exact ⟨hi,e⟩
 have sub:∀ b,Own σ (z26 cs δ δ') b→Own (L2.clr cs σ) δ' b:=fun b ⟨i,d,e1,e2⟩=>by
  obtain ⟨hi,e⟩:=ownOut i d e1
  exact ⟨i,d,e,by rw [z36 cs σ i hi]; exact e2⟩
 have subA:∀ b,Av c σ (z26 cs δ δ') b→Av c (L2.clr cs σ) δ' b:=fun b z=>z.elim .inl fun z=>.inr (sub b z)
 have ownEq:∀ b,Own σ δ b→Own (L2.clr cs σ) (clrD cs δ) b:=fun b ⟨i,d,e1,e2⟩=>by
  have hi:i ∉ cs:=fun z=>nown i d z e1
  exact ⟨i,d,by rw [zcX cs δ i hi]; exact e1,by rw [z36 cs σ i hi]; exact e2⟩
 refine ⟨⟨x.ok.keep,x.ok.bd,x.ok.ith,by rw [zbG,← len]; exact k.len,fun i d e=>?_,fun i d e=>?_,fun i j a d d' e1 e2 e3 e4=>?_,by rw [hpin]; exact k.pinned⟩,fun a o e n=>?_,fun a z=>?_,x.there⟩
 ·by_cases hi:i ∈ cs
  ·rw [z7x cs δ δ' i len hi] at e
   obtain ⟨v,h1,h2⟩:=k.slot i d e
   have h3:Rep H (Av c (L2.clr cs σ) (clrD cs δ)) v d:=h2.anti fun b z=>by
    rcases z with z | z
    ·exact (hB b z).elim (fun z=>.inl (.inl z)) .inr
    ·exact .inl (.inr z.clr)
   exact ⟨v,h1,(Rep.aft h3 x).anti fun b z=>.inl (subA b z)⟩
  ·rw [z4M cs δ δ' i hi] at e
   obtain ⟨v,h1,h2⟩:=x.ok.slot i d e
   exact ⟨v,(z3A cs σ i v h1).1,h2.anti fun b z=>.inl (subA b z)⟩
 ·obtain ⟨hi,e'⟩:=ownOut i d e
  obtain ⟨a,h1,h2,h3⟩:=x.ok.own i d e'
  exact ⟨a,(z3A cs σ i _ h1).1,h2.anti fun b z=>.inl (subA b z),h3⟩
 ·obtain ⟨hi,f1⟩:=ownOut i d e1
  obtain ⟨hj,f2⟩:=ownOut j d' e2
  exact x.ok.inj i j a d d' f1 f2 (by rw [z36 cs σ i hi]; exact e3) (by rw [z36 cs σ j hj]; exact e4)
 ·exact x.keep a o e fun z=>n z.clr
 ·rcases x.own a (sub a z) with q | q
  ·exact .inl q.clr
  ·exact .inr q
end
def z2h (cs:List Nat) (g:DG) (t:DT) (el:DE):List D→Dl→List D→Rs (List D)
 | [],δ,acc=>.ok acc δ
 | d :: r,δ,acc=>match g (.pure d) δ with
  | none=>.stuck
  | some δ1=>(t δ1).bind fun b δ2=>if b then (el δ2).bind fun x δ3=>if acc.length < W8 then z2h cs g t el r (clrD cs δ3) (acc ++ [x.d]) else .stuck
   else z2h cs g t el r (clrD cs δ2) acc
def z2q (cs:List Nat) (it:DI) (g:DG) (t:DT) (el:DE):DE:=fun δ=>(it δ).bind fun ds δ1=>if cs.any (z0w δ1) then .stuck else
 (z2h cs g t el ds (clrD cs δ1) []).bind fun acc δ2=>.ok (.own (.lst acc)) (z26 cs δ1 δ2)
def dYes:DT:=fun δ=>.ok true δ
abbrev STs (X:Cx) (c:Fc) (ifs:List Expr) (t:DT):Prop:=PTs X ifs (tT c t)
theorem z4O {X:Cx} {c:Fc}:STs X c [] dYes:=fun pins s σ H Q I ⟨δ,k,q⟩=>ze9 pins s σ H Q I (q H (.refl k))
theorem zdF {X:Cx} {c:Fc} {e:Expr} {t:DT} (h:ST X c e t):STs X c [e] t:=ze8 h
section
variable {X:Cx} {c:Fc} {cs:List Nat} {tg iter elt:Expr} {ifs:List Expr} {scope:Scope} {pos:Pos} {it:DI} {g:DG} {t:DT} {el:DE}
theorem Aft.clear (x:Aft c (L2.clr cs σ) δ H σ4 δ4 H4) (le:Le (L2.clr cs σ) σ4) (hp:∀ p ∈ c.pin,p.1 ∉ cs) (hs:∀ (i:Nat) v,σ4[i]? = some (some v)→i ∉ cs→σ[i]? = some (some v)):Aft c (L2.clr cs σ) δ H (L2.clr cs σ) (clrD cs δ4) H4:=by
 have eq:∀ i,i ∉ cs→∀ v,σ4[i]? = some (some v)→(L2.clr cs σ)[i]? = some (some v):=fun i hi v e=>by rw [z36 cs σ i hi]; exact hs i v e hi
 have own:∀ b,Own (L2.clr cs σ) (clrD cs δ4) b→Own σ4 δ4 b:=fun b ⟨i,d,e1,e2⟩=>by
  exact ⟨i,d,(z1v cs δ4 i _ e1).1,le.2 i _ e2⟩
 have sub:∀ b,Av c (L2.clr cs σ) (clrD cs δ4) b→Av c σ4 δ4 b:=fun b z=>z.elim .inl fun z=>.inr (own b z)
 have k:=x.ok
 refine ⟨⟨k.keep,k.bd,k.ith,by rw [z9w,k.len]; exact le.1,fun i d e=>?_,fun i d e=>?_,fun i j a d d' e1 e2 e3 e4=>?_,fun p hm=>?_⟩,x.keep,fun a z=>x.own a (own a z),x.there⟩
 ·obtain ⟨e',hi⟩:=z1v cs δ4 i _ e
  obtain ⟨v,h1,h2⟩:=k.slot i d e'
  exact ⟨v,eq i hi v h1,h2.anti fun b z=>.inl (sub b z)⟩
 ·obtain ⟨e',hi⟩:=z1v cs δ4 i _ e
  obtain ⟨a,h1,h2,h3⟩:=k.own i d e'
  exact ⟨a,eq i hi _ h1,h2.anti fun b z=>.inl (sub b z),h3⟩
 ·exact k.inj i j a d d' (z1v cs δ4 i _ e1).1 (z1v cs δ4 j _ e2).1 (le.2 i _ e3) (le.2 j _ e4)
 ·exact eq p.1 (hp p hm) _ (k.pinned p hm)
def Out (cs:List Nat) (σ σ':St):Prop:=σ'.length=σ.length∧∀ i,i ∉ cs→σ'[i]? = σ[i]?
theorem Out.trans (a:Out cs σ σ') (b:Out cs σ' σ''):Out cs σ σ'':=⟨b.1.trans a.1,fun i h=>(b.2 i h).trans (a.2 i h)⟩
def tGC (cs:List Nat) (c:Fc) (g:DG):TG:=fun v σ H Q=>∃ σ₀ δ₀ H₁ δ r δ',Aft c σ₀ δ₀ H₁ σ δ H∧RepS c σ δ H₁ H v r∧g r δ=some δ'∧∀ σ',Aft c σ₀ δ₀ H₁ σ' δ' H→Out cs σ σ'→Q σ' H
abbrev SGC (X:Cx) (c:Fc) (cs:List Nat) (tg:Expr) (g:DG):Prop:=PG X tg (tGC cs c g)
theorem z2v {np:List Nat} {i:Nat} {x:Str} (hp:Np c np) (hN:X.N.Nodup) (hi:X.N[i]? = some x) (hx:Loc X.env.scope x) (hf:X.fn x=true∨X.env.scope.names.lookup x=some .local) (hc:i ∈ cs):SGC X c cs (.Name x pos) (gNm np i) :=
 PG.weak (zaH hN hi hx hf) fun v σ H Q ⟨σ₀,δ₀,H₁,δ,r,δ',x,rr,e,q⟩=>by
  unfold gNm at e
  split at e
  ·cases e
  ·rename_i hn
   cases e
   refine q _ (Ok.set x rr fun p hm e=>hn (by rw [← e]; exact hp p hm)) ⟨by simp,fun j hj=>?_⟩
   rw [W9 (fun z=>hj (by rw [← z]; exact hc))]
def tGCs (cs:List Nat) (c:Fc) (g:DGs):TGs:=fun vs σ H Q=>∃ δ ds δ',Ok c σ δ H∧Reps H (Av c σ δ) vs ds∧g ds δ=some δ'∧∀ σ',Aft c σ δ H σ' δ' H→Out cs σ σ'→Q σ' H
abbrev SGCs (X:Cx) (c:Fc) (cs:List Nat) (tg:List Expr) (g:DGs):Prop:=PGs X tg (tGCs cs c g)
theorem zbU:SGCs X c cs [] z1j:=PGs.weak zaG fun vs σ H Q ⟨δ,ds,δ',k,r,e,q⟩=>by
 cases ds with
 | nil =>
  cases e
  have:vs=[]:=by have:=r.1; simpa using this
  exact ⟨this,q σ (.refl k) ⟨rfl,fun _ _=>rfl⟩⟩
 | cons d r=>cases e
theorem z7D {e:Expr} {es:List Expr} {g:DG} {gs:DGs} (h1:SGC X c cs e g) (h2:SGCs X c cs es gs) (hs:(WZ (e :: es) X.env).map (·.2)=assign e X.env :: (WZ es X.env).map (·.2):=by rfl):SGCs X c cs (e :: es) (z0l g gs) :=
 PGs.weak (z9c h1 h2 hs) fun vs σ H Q ⟨δ,ds,δ',k,r,e,q⟩=>by
  cases ds with
  | nil=>cases e
  | cons d ds =>
   cases vs with
   | nil=>have:=r.1; simp at this
   | cons v vs =>
    simp only [z0l] at e
    cases e1:g (.pure d) δ with
    | none=>rw [e1] at e; cases e
    | some δ1 =>
     rw [e1] at e
     refine ⟨v,vs,rfl,σ,δ,H,δ,.pure d,δ1,.refl k,r.head,e1,fun σ1 a1 o1=>?_⟩
     exact ⟨δ1,ds,δ',a1.ok,Reps.aft r.tail a1,e,fun σ2 a2 o2=>q σ2 (a1.trans a2) (o1.trans o2)⟩
theorem zdQ {es:List Expr} {k:Nat} {gs:DGs} {n:Nat} (hc:X.calm=true) (h:SGCs X c cs es gs) (hn:(WZ es X.env).length=n:=by rfl) (hst:(WZ es X.env).findIdx? (·.1)=none:=by rfl) :
  SGC X c cs (.Tuple es k pos) (gTp n gs):=PG.weak (zda hc h hn hst) fun v σ H Q hw=>by
 obtain ⟨σ₀,δ₀,H₁,δ,r,δ',x,rr,e,q⟩:=hw
 have hb:=rr.b
 unfold gTp at e
 generalize r.d=d at e hb
 cases d <;> first | (cases e; done) | skip
 rename_i ds
 simp only at e
 split at e
 ·rename_i hl
  obtain ⟨a,vs,ea,ha,ra⟩:=hb.tup
  exact ⟨a,vs,ea,.of ha,by rw [ra.1]; exact hl,δ,ds,δ',x.ok,ra,e,fun σ' a1 o1=>q σ' (x.trans a1) o1⟩
 ·cases e
theorem Aft.less (x:Aft (c.plus l) σ δ H σ' δ' H'):Aft c σ δ H σ' δ' H':=⟨x.ok.less,x.keep,x.own,x.there⟩
theorem z8n (hwi:∀ σ H R,tI c it σ H R→wi σ H R) (hg:∀ l v σ H Q,tGC cs (c.plus l) g v σ H Q→gt v σ H Q) (ht:∀ l σ H Q,tT (c.plus l) t σ H Q→tt σ H Q) (he:∀ l σ H Q,tD (c.plus l) el σ H Q→te σ H Q)
  (hp:∀ p ∈ c.pin,p.1 ∉ cs) (h:tD c (z2q cs it g t el) σ H Q):zdC cs wi gt tt te σ H Q:=by
 obtain ⟨δ,k,q⟩:=h
 unfold z2q at q
 rw [z03] at q
 refine hwi _ _ _ ⟨δ,k,z00 q fun ds δ1 q1 J H1 a1 io=>?_⟩
 intro l hl
 split at q1
 ·exact q1.elim
 ·rename_i hno
  have hno':cs.any (z0w δ1)=false:=by simpa using hno
  rw [z03] at q1
  have k1:=a1.ok
  have kp:=k1.plus hl (.lst [])
  have k0:Ok (c.plus l) (L2.clr cs σ) (clrD cs δ1) (upd H1 l (.lst [])):=kp.clr hp
  have up:∀ a w,H1 a=some w→upd H1 l (.lst []) a=some w:=fun a w e=>by
   rw [z0q (z0L e hl)]; exact e
  have h0:c.H₀ l=none:=k1.fresh₀ hl
  -- the walked things,as the block sees them
  have io':ItOk (c.plus l) (L2.clr cs σ) (clrD cs δ1) H1 J ds:=by
   intro H2 kp2
   obtain ⟨s1,s2⟩:=io H2 fun a o e n=>kp2 a o e fun z=>n z.clr
   have cv:∀ {x:V} {d:D},Rep H1 (Av c σ δ1) x d→Rep H1 (Av (c.plus l) (L2.clr cs σ) (clrD cs δ1)) x d:=fun {x d} r =>
    r.anti fun b z=>by
     rcases z with (z | z) | z
     ·exact .inl (.inl z)
     ·exact .inr (by rw [z]; exact hl)
     ·exact .inl (.inr z.clr)
   refine ⟨s1,fun i d e=>⟨(s2 i d e).1,fun x H3 y=>?_⟩⟩
   rcases (s2 i d e).2 x H3 y with ⟨e3,r⟩ | ⟨p,vs,es,hp,e3,ex,ed,r⟩
   ·exact .inl ⟨e3,cv r⟩
   ·exact .inr ⟨p,vs,es,hp,e3,ex,ed,r.1,fun i v d e1 e2=>cv (r.2 i v d e1 e2)⟩
  let Fin:List D→Dl→Prop:=fun acc δ'=>∀ H' vs,Aft (c.plus l) (L2.clr cs σ) (clrD cs δ1) H1 (L2.clr cs σ) δ' H'→H' l=some (.lst vs)→Reps H' (Av (c.plus l) (L2.clr cs σ) δ') vs acc→Q (.ref l) H'
  have q2:post c (z2h cs g t el ds (clrD cs δ1) []) Fin:=z00 q1 fun acc δ2 q2 H' vs x hv r=>by
   have b1:Aft (c.plus l) σ δ1 H1 σ (z26 cs δ1 δ2) H':=Aft.back k1 rfl (fun b z=>z.elim .inl fun z=>.inr (by rw [z]; exact hl)) hno' x
   have b2:Aft c σ δ1 H1 σ (z26 cs δ1 δ2) H':=b1.less
   have len:δ1.length=δ2.length:=by
    have:=x.ok.len
    rw [z7u] at this
    rw [this]; exact k1.len
   have hlH:H l=none:=by
    cases e:H l with
    | none=>rfl
    | some o =>
     obtain ⟨o',e'⟩:=a1.there l o e
     rw [hl] at e'; cases e'
   refine q2 _ H' (a1.trans b2) ⟨l,rfl,⟨vs,hv,Reps.anti r fun b z=>.inl ?_⟩,fun z=>k1.nav hl (.inl z),h0,b1.ok,hlH⟩
   rcases z with z | ⟨i,d,e1,e2⟩
   ·exact .inl z
   ·have hi:i ∉ cs:=fun hi=>by
     rw [z7x cs δ1 δ2 i len hi] at e1
     have:=List.any_eq_false.mp hno' i hi
     unfold z0w at this
     rw [e1] at this
     simp at this
    rw [z4M cs δ1 δ2 i hi] at e1
    exact .inr ⟨i,d,e1,by rw [z36 cs σ i hi]; exact e2⟩
  refine ⟨fun i m H2=>∃ δ2 acc vs,m=ds.length - i∧i≤ds.length∧Aft (c.plus l) (L2.clr cs σ) (clrD cs δ1) H1 (L2.clr cs σ) δ2 H2∧H2 l=some (.lst vs)∧Reps H2 (Av (c.plus l) (L2.clr cs σ) δ2) vs acc ∧
   post c (z2h cs g t el (ds.drop i) δ2 acc) Fin,⟨ds.length,clrD cs δ1,[],[],by simp,QL _,⟨k0,fun a w e _=>up a w e,fun a z=>.inl z,fun a w e=>⟨w,up a w e⟩⟩,z0y,.nil,by rw [List.drop_zero]; exact q2⟩,?_⟩
  rintro i m H2 ⟨δ2,acc,vs,rfl,hil,a2,hv,rv,p2⟩
  by_cases hlt:i < ds.length
  ·right
   have e:ds[i]? = some ds[i]:=by simp [hlt]
   rw [Qs hlt] at p2
   refine ⟨((io' H2 a2.keep).2 i _ e).1,fun x H3 y=>hg l _ _ _ _ ?_⟩
   obtain ⟨a3,r3⟩:=z6T io' a2 e y
   simp only [z2h] at p2
   cases eg:g (.pure ds[i]) δ2 with
   | none=>rw [eg] at p2; exact p2.elim
   | some δ3 =>
    rw [eg] at p2
    have p3:post c ((t δ3).bind fun b δ2=>if b then (el δ2).bind fun x δ3=>if acc.length < W8 then z2h cs g t el (ds.drop (i + 1)) (clrD cs δ3) (acc ++ [x.d]) else .stuck
     else z2h cs g t el (ds.drop (i + 1)) (clrD cs δ2) acc) Fin:=p2
    refine ⟨L2.clr cs σ,δ2,H3,δ2,.pure ds[i],δ3,.refl a3.ok,r3,eg,fun σ4 a4 o4=>?_⟩
    have le:Le (L2.clr cs σ) σ4:=⟨o4.1,fun j v ej=>by
     rw [o4.2 j (z3A cs σ j v ej).2]; exact ej⟩
    have hs:∀ (j:Nat) v,σ4[j]? = some (some v)→j ∉ cs→σ[j]? = some (some v):=fun j v ej hj=>by
     rw [o4.2 j hj] at ej
     exact (z3A cs σ j v ej).1
    refine ⟨le,ht l _ _ _ ⟨δ3,a4.ok,?_⟩⟩
    rw [z03] at p3
    have pinp:∀ p ∈ (c.plus l).pin,p.1 ∉ cs:=hp
    have a24:=a2.trans (a3.trans a4)
    have ln:∀ {σ':St} {δ':Dl} {H':Hp},Ok (c.plus l) σ' δ' H'→¬ Own σ' δ' l:=fun {σ' δ' H'} k=>z4x k
    have p3':post (c.plus l) (t δ3) fun b δ5=>post c (if b then (el δ5).bind fun x δ3=>if acc.length < W8 then z2h cs g t el (ds.drop (i + 1)) (clrD cs δ3) (acc ++ [x.d]) else .stuck
     else z2h cs g t el (ds.drop (i + 1)) (clrD cs δ5) acc) Fin:=p3
    refine z00 p3' fun b δ5 p5 H5 a5=>?_
    have a25:=a24.trans a5
    have hv3:H3 l=some (.lst vs):=a3.keep l _ hv (ln a2.ok)
    have hv5:H5 l=some (.lst vs):=a5.keep l _ hv3 (ln a4.ok)
    have rv3:=Reps.aft (Reps.aft (Reps.aft rv a3) a4) a5
    cases b with
    | false =>
     have c5:=a25.clear le pinp hs
     refine ⟨ds.length - (i + 1),by omega,clrD cs δ5,acc,vs,rfl,hlt,c5,hv5,Reps.anti rv3 fun b z=>.inl ?_,p5⟩
     exact z.elim .inl fun ⟨j,d,e1,e2⟩=>.inr ⟨j,d,(z1v cs δ5 j _ e1).1,le.2 j _ e2⟩
    | true =>
     have p5':post c ((el δ5).bind fun x δ3=>if acc.length < W8 then z2h cs g t el (ds.drop (i + 1)) (clrD cs δ3) (acc ++ [x.d]) else .stuck) Fin:=p5
     rw [z03] at p5'
     refine he l _ _ _ ⟨δ5,a5.ok,?_⟩
     have p6:post (c.plus l) (el δ5) fun x δ6=>post c (if acc.length < W8 then z2h cs g t el (ds.drop (i + 1)) (clrD cs δ6) (acc ++ [x.d]) else .stuck) Fin:=p5'
     refine z00 p6 fun x δ6 p7 v H6 a6 r6=>?_
     split at p7
     ·rename_i hz
      have a26:=a25.trans a6
      have hv6:H6 l=some (.lst vs):=a6.keep l _ hv5 (ln a5.ok)
      have rv6:=Reps.aft rv3 a6
      have rr:Reps H6 (Av (c.plus l) σ4 δ6) (vs ++ [v]) (acc ++ [x.d]):=rv6.append (.cons r6.rep .nil)
      have c6:=a26.clear le pinp hs
      have kpl:∀ b o,H6 b=some o→¬ Av (c.plus l) σ4 δ6 b→upd H6 l (.lst (vs ++ [v])) b=some o:=fun b o e n=>by
       rw [z0q (fun z=>n (by rw [z]; exact .inl (.inr rfl)))]; exact e
      have sub6:∀ b,Av (c.plus l) (L2.clr cs σ) (clrD cs δ6) b→Av (c.plus l) σ4 δ6 b:=fun b z=>z.elim .inl fun ⟨j,d,e1,e2⟩=>.inr ⟨j,d,(z1v cs δ6 j _ e1).1,le.2 j _ e2⟩
      refine ⟨vs,ds.length - (i + 1),hv6,by rw [rv6.1]; exact hz,by omega,clrD cs δ6,acc ++ [x.d],vs ++ [v],rfl,hlt,?_,z0y,Reps.anti (Reps.keep rr kpl) fun b z=>.inl (sub6 b z),p7⟩
      -- the list that is built has grown
      refine ⟨c6.ok.updB (.inr rfl) h0 _,fun a o ea n=>?_,fun a z=>c6.own a z,fun a o ea=>?_⟩
      ·have hal:a≠l:=fun z=>by rw [z,hl] at ea; cases ea
       rw [z0q hal]; exact c6.keep a o ea n
      ·by_cases hal:a=l
       ·exact ⟨_,by rw [hal]; exact z0y⟩
       ·obtain ⟨o',e'⟩:=c6.there a o ea
        exact ⟨o',by rw [z0q hal]; exact e'⟩
     ·exact p7.elim
  ·left
   have hi2:i=ds.length:=by omega
   subst hi2
   rw [List.drop_length] at p2
   exact ⟨(io' H2 a2.keep).1,p2 H2 vs a2 hv rv⟩
theorem z4V (hc:X.calm=true) (S:CScope X scope cs) (hi:SI X c tg iter it) (hg:∀ l s₀ H₀ ex,SGC (z1I X scope s₀ H₀ ex) (c.plus l) cs tg g) (ht:∀ l s₀ H₀ ex,STs (z1I X scope s₀ H₀ ex) (c.plus l) ifs t)
  (he:∀ l s₀ H₀ ex,SE (z1I X scope s₀ H₀ ex) (c.plus l) elt el) (hp:∀ p ∈ c.pin,p.1 ∉ cs) (hs:∀ x,Qd iter X.env x=pure x:=by intro _; rfl) :
  SE X c (.ListComp elt [⟨tg,iter,ifs,0⟩] scope pos) (z2q cs it g t el) :=
 PE.weak (zei (g:=fun v σ H Q=>∃ l,tGC cs (c.plus l) g v σ H Q) (tt:=fun σ H Q=>∃ l,tT (c.plus l) t σ H Q) (te:=fun σ H Q=>∃ l,tD (c.plus l) el σ H Q) hc S hi
  (fun s₀ H₀ ex pins s σ H v u Q I r ⟨l,q⟩=>hg l s₀ H₀ ex pins s σ H v u Q I r q) (fun s₀ H₀ ex pins s σ H Q I ⟨l,q⟩=>ht l s₀ H₀ ex pins s σ H Q I q) (fun s₀ H₀ ex pins s σ H Q I ⟨l,q⟩=>he l s₀ H₀ ex pins s σ H Q I q) hs)
  fun σ H Q h=>z8n (fun _ _ _ h=>h) (fun l _ _ _ _ h=>⟨l,h⟩) (fun l _ _ _ h=>⟨l,h⟩) (fun l _ _ _ h=>⟨l,h⟩) hp h
theorem z9H {np:List Nat} {i:Nat} {y:Str} {py spos:Pos} (hnp:Np c np) (hc:X.calm=true) (S:CScope X scope cs) (hN:X.N.Nodup) (hi':X.N[i]? = some y) (hy:X.env.scope.names.lookup y=some .local)
  (hi:SI X c tg iter it) (hg:∀ l s₀ H₀ ex,SGC (z1I X scope s₀ H₀ ex) (c.plus l) cs tg g) (ht:∀ l s₀ H₀ ex,STs (z1I X scope s₀ H₀ ex) (c.plus l) ifs t)
  (he:∀ l s₀ H₀ ex,SE (z1I X scope s₀ H₀ ex) (c.plus l) elt el) (hp:∀ p ∈ c.pin,p.1 ∉ cs)
  (hsw:QX (.ListComp elt [⟨tg,iter,ifs,0⟩] scope pos) (some (.Name y py)) spos.line X.env=pure true:=by rfl) (hs:∀ x,Qd iter X.env x=pure x:=by intro _; rfl) :
  SS X c (.Assign [.Name y py] (.ListComp elt [⟨tg,iter,ifs,0⟩] scope pos) spos) (dAsg (z2q cs it g t el) (gNm np i)) :=
 PS.weak (z9K (g:=fun v σ H Q=>∃ l,tGC cs (c.plus l) g v σ H Q) (tt:=fun σ H Q=>∃ l,tT (c.plus l) t σ H Q) (te:=fun σ H Q=>∃ l,tD (c.plus l) el σ H Q) hc S hN hi' hy hi
  (fun s₀ H₀ ex pins s σ H v u Q I r ⟨l,q⟩=>hg l s₀ H₀ ex pins s σ H v u Q I r q) (fun s₀ H₀ ex pins s σ H Q I ⟨l,q⟩=>ht l s₀ H₀ ex pins s σ H Q I q) (fun s₀ H₀ ex pins s σ H Q I ⟨l,q⟩=>he l s₀ H₀ ex pins s σ H Q I q) hsw hs)
  fun D σ H h=>z7y (fun σ H Q h=>z8n (fun _ _ _ h=>h) (fun l _ _ _ _ h=>⟨l,h⟩) (fun l _ _ _ h=>⟨l,h⟩) (fun l _ _ _ h=>⟨l,h⟩) hp h) (fun _ _ _ _ h=>z7q hnp h) h
end
abbrev DF:=List S→Option (S×List S)
def z0B:Nat→List S→List V→List (Nat×Addr)
 | n,.own _ :: ss,.ref a :: vs=>(n,a) :: z0B (n + 1) ss vs
 | n,_ :: ss,_ :: vs=>z0B (n + 1) ss vs
 | _,_,_=>[]
theorem z1A:∀ {n:Nat} {ss:List S} {vs:List V} {i:Nat} {a:Addr},(i,a) ∈ z0B n ss vs→∃ j d,i=n + j∧ss[j]? = some (.own d)∧vs[j]? = some (.ref a)
 | n,[],vs,i,a,h=>by simp [z0B] at h
 | n,s :: ss,[],i,a,h=>by cases s <;> simp [z0B] at h
 | n,s :: ss,v :: vs,i,a,h=>by
  have rec':(i,a) ∈ z0B (n + 1) ss vs→∃ j d,i=n + j∧(s :: ss)[j]? = some (.own d)∧(v :: vs)[j]? = some (.ref a):=fun h=>by
   obtain ⟨j,d,e,h1,h2⟩:=z1A h
   exact ⟨j + 1,d,by omega,by simpa using h1,by simpa using h2⟩
  cases s with
  | pure d=>exact rec' h
  | own d =>
   cases v with
   | ref b =>
    rcases Wh.mp h with e | h
    ·cases e
     exact ⟨0,d,rfl,rfl,rfl⟩
    ·exact rec' h
   | _=>exact rec' h
theorem z4A:∀ {n:Nat} {ss:List S} {vs:List V} {j:Nat} {d:D} {a:Addr},ss[j]? = some (.own d)→vs[j]? = some (.ref a)→(n + j,a) ∈ z0B n ss vs
 | n,[],vs,j,d,a,h,_=>by simp at h
 | n,s :: ss,[],j,d,a,_,h=>by simp at h
 | n,s :: ss,v :: vs,0,d,a,h1,h2=>by
  simp at h1 h2
  subst h1 h2
  exact Wi
 | n,s :: ss,v :: vs,j + 1,d,a,h1,h2=>by
  have ih:=z4A (n:=n + 1) (ss:=ss) (vs:=vs) (j:=j) (d:=d) (a:=a) (by simpa using h1) (by simpa using h2)
  have e:n + 1 + j=n + (j + 1):=by omega
  rw [e] at ih
  cases s with
  | pure d=>exact ih
  | own d =>
   cases v with
   | ref b=>exact Wc _ ih
   | _=>exact ih
abbrev z11 (vs:List V):St:=vs.map some
abbrev z18 (ss:List S):Dl:=ss.map some
theorem someS_get {ss:List S} {i:Nat} {r:S}:(z18 ss)[i]? = some (some r) ↔ ss[i]? = some r:=by
 rw [WN]
 cases ss[i]? <;> simp
theorem some'_get {vs:List V} {i:Nat} {v:V}:(z11 vs)[i]? = some (some v) ↔ vs[i]? = some v:=by
 rw [WN]
 cases vs[i]? <;> simp
def spD (n:Nat) (G:DF):Sp:=fun vs H Q _=>∃ ss B,vs.length=n∧Ok ⟨H,B,z0B 0 ss vs,fun _ _=>False⟩ (z11 vs) (z18 ss) H∧∃ r outs,G ss=some (r,outs) ∧
 ∀ v H',Aft ⟨H,B,z0B 0 ss vs,fun _ _=>False⟩ (z11 vs) (z18 ss) H (z11 vs) (z18 outs) H'→RepS ⟨H,B,z0B 0 ss vs,fun _ _=>False⟩ (z11 vs) (z18 outs) H H' v r→Q v H'
def KFn (P:Wk) (w:Wr) (K:W0) (mg:Str→Option Value) (base:Heap) (k:Nat) (x:Str) (n:Nat) (G:DF):Prop :=
 ∃ (f:Addr) (fd:WD) (ps:List Str),mg x=some (.ref f)∧Q3 K (.ref f)=true∧Binds K fd ps []∧FnOk P w K mg base CX0 k f fd ps (spD n G)
def z0b (n:Nat) (ss:List S):Dl:=z18 ss ++ W3 (n - ss.length) none
def z07:Nat→List S→Dl→Option (List S)
 | _,[],_=>some []
 | n,.pure d :: ss,δ=>(z07 (n + 1) ss δ).map (.pure d :: ·)
 | n,.own _ :: ss,δ=>match δ[n]? with
  | some (some (.own d'))=>(z07 (n + 1) ss δ).map (.own d' :: ·)
  | _=>none
def z0o:Fl→Option S
 | .next=>some (.pure .non)
 | .ret r=>some r
 | _=>none
def runD (f:DS) (n:Nat) (ss:List S):Option (S×List S):=match f (z0b n ss) with
 | .ok fl δ=>(z0o fl).bind fun r=>(z07 0 ss δ).map fun outs=>(r,outs)
 | _=>none
def ioOk (np:List Nat):Nat→List S→Bool
 | _,[]=>true
 | n,.own _ :: ss=>np.contains n && ioOk np (n + 1) ss
 | n,.pure _ :: ss=>ioOk np (n + 1) ss
theorem z7p:∀ {n:Nat} {ss:List S} {j:Nat} {d:D},ioOk np n ss=true→ss[j]? = some (.own d)→np.contains (n + j)=true
 | n,[],j,d,_,h=>by simp at h
 | n,s :: ss,0,d,h,e=>by
  simp at e
  subst e
  simp only [ioOk,We] at h
  exact h.1
 | n,s :: ss,j + 1,d,h,e=>by
  have h':ioOk np (n + 1) ss=true:=by
   cases s with
   | pure d=>exact h
   | own d=>simp only [ioOk,We] at h; exact h.2
  have:=z7p (n:=n + 1) (j:=j) h' (by simpa using e)
  rw [show n + (j + 1)=n + 1 + j by omega]
  exact this
theorem z5N:∀ {n:Nat} {ss outs:List S} {δ:Dl},z07 n ss δ=some outs→outs.length=ss.length∧∀ (i:Nat) s,ss[i]? = some s→(∃ d,s = .pure d∧outs[i]? = some (.pure d))∨∃ d d',s = .own d∧δ[n + i]? = some (some (.own d'))∧outs[i]? = some (.own d')
 | n,[],outs,δ,h=>by
  simp only [z07,W5] at h
  subst h
  exact ⟨rfl,fun i s e=>by simp at e⟩
 | n,.pure d :: ss,outs,δ,h=>by
  simp only [z07] at h
  cases e:z07 (n + 1) ss δ with
  | none=>rw [e] at h; cases h
  | some os =>
   rw [e] at h
   simp only [WI,W5] at h
   subst h
   obtain ⟨h1,h2⟩:=z5N e
   refine ⟨by simp [h1],fun i s es=>?_⟩
   cases i with
   | zero=>simp at es; subst es; exact .inl ⟨d,rfl,rfl⟩
   | succ i =>
    rcases h2 i s (by simpa using es) with ⟨d,z1,z2⟩ | ⟨d,d',z1,z2,z3⟩
    ·exact .inl ⟨d,z1,by simpa using z2⟩
    ·exact .inr ⟨d,d',z1,by rw [show n + (i + 1)=n + 1 + i by omega]; exact z2,by simpa using z3⟩
 | n,.own d :: ss,outs,δ,h=>by
  simp only [z07] at h
  split at h
  ·rename_i d' ed
   cases e:z07 (n + 1) ss δ with
   | none=>rw [e] at h; cases h
   | some os =>
    rw [e] at h
    simp only [WI,W5] at h
    subst h
    obtain ⟨h1,h2⟩:=z5N e
    refine ⟨by simp [h1],fun i s es=>?_⟩
    cases i with
    | zero=>simp at es; subst es; exact .inr ⟨d,d',rfl,ed,rfl⟩
    | succ i =>
     rcases h2 i s (by simpa using es) with ⟨d,z1,z2⟩ | ⟨d,d',z1,z2,z3⟩
     ·exact .inl ⟨d,z1,by simpa using z2⟩
     ·exact .inr ⟨d,d',z1,by rw [show n + (i + 1)=n + 1 + i by omega]; exact z2,by simpa using z3⟩
  ·cases h
section
variable {c:Fc} {H H':Hp} {vs:List V} {ss outs:List S} {σ':St} {δ':Dl}
theorem z3m {α:Type} {l:List (Option α)} {k i:Nat} {v:α} (h:(l ++ W3 k none)[i]? = some (some v)):l[i]? = some (some v):=by
 by_cases hi:i < l.length
 ·rw [List.getElem?_append_left hi] at h; exact h
 ·rw [List.getElem?_append_right (by omega),List.getElem?_replicate] at h
  split at h <;> cases h
theorem z32 {α:Type} {l:List (Option α)} {k i:Nat} {v:α} (h:l[i]? = some (some v)):(l ++ W3 k none)[i]? = some (some v):=by
 have hi:i < l.length:=(Wb.mp h).1
 rw [List.getElem?_append_left hi]; exact h
theorem Own.ext {σ:St} {δ:Dl} {k:Nat} {a:Addr}:Own (σ ++ W3 k none) (δ ++ W3 k none) a ↔ Own σ δ a :=
 ⟨fun ⟨i,d,e1,e2⟩=>⟨i,d,z3m e1,z3m e2⟩,fun ⟨i,d,e1,e2⟩=>⟨i,d,z32 e1,z32 e2⟩⟩
theorem Ok.ext {σ:St} {δ:Dl} (k:Ok c σ δ H) (n:Nat):Ok c (σ ++ W3 n none) (δ ++ W3 n none) H:=by
 have sub:∀ b,Av c (σ ++ W3 n none) (δ ++ W3 n none) b→Av c σ δ b:=fun b z=>z.elim .inl fun z=>.inr (Own.ext.mp z)
 refine ⟨k.keep,k.bd,k.ith,by simp [k.len],fun i d e=>?_,fun i d e=>?_,fun i j a d d' e1 e2 e3 e4=>k.inj i j a d d' (z3m e1) (z3m e2) (z3m e3) (z3m e4),fun p hm=>z32 (k.pinned p hm)⟩
 ·obtain ⟨v,h1,h2⟩:=k.slot i d (z3m e)
  exact ⟨v,z32 h1,h2.anti fun b z=>.inl (sub b z)⟩
 ·obtain ⟨a,h1,h2,h3⟩:=k.own i d (z3m e)
  exact ⟨a,z32 h1,h2.anti fun b z=>.inl (sub b z),h3⟩
theorem z89 {B:Addr→Prop} {n:Nat} (hc:c = ⟨H,B,z0B 0 ss vs,fun _ _=>False⟩) (k:Ok c (z11 vs) (z18 ss) H) (x:Aft c (z11 vs ++ W3 n none) (z18 ss ++ W3 n none) H σ' δ' H') (ho:z07 0 ss δ'=some outs) :
  Aft c (z11 vs) (z18 ss) H (z11 vs) (z18 outs) H'∧∀ v r,RepS c σ' δ' H H' v r→RepS c (z11 vs) (z18 outs) H H' v r:=by
 obtain ⟨hlen,hat⟩:=z5N ho
 have hvs:ss.length=vs.length:=by have:=k.len; simpa using this
 have pin:∀ (i:Nat) (a:Addr) (d:D),ss[i]? = some (.own d)→vs[i]? = some (.ref a)→σ'[i]? = some (some (.ref a)):=fun i a d h1 h2=>by
  have:=z4A (n:=0) h1 h2
  rw [Jn] at this
  exact x.ok.pinned (i,a) (by rw [hc]; exact this)
 have ownS:∀ (i:Nat) (d:D),outs[i]? = some (.own d)→(∃ d₀,ss[i]? = some (.own d₀))∧δ'[i]? = some (some (.own d)):=fun i d e=>by
  have hi:i < ss.length:=by rw [← hlen]; exact (Wb.mp e).1
  rcases hat i ss[i] (by simp [hi]) with ⟨d₁,z1,z2⟩ | ⟨d₁,d',z1,z2,z3⟩
  ·rw [e] at z2; cases z2
  ·rw [e] at z3; cases z3
   rw [Jn] at z2
   exact ⟨⟨d₁,by rw [WE hi,z1]⟩,z2⟩
 have sub:∀ b,Own (z11 vs) (z18 outs) b→Own σ' δ' b:=fun b ⟨i,d,e1,e2⟩=>by
  obtain ⟨⟨d₀,h0⟩,h1⟩:=ownS i d (someS_get.mp e1)
  exact ⟨i,d,h1,pin i b d₀ h0 (some'_get.mp e2)⟩
 have subA:∀ b,Av c (z11 vs) (z18 outs) b→Av c σ' δ' b:=fun b z=>z.elim .inl fun z=>.inr (sub b z)
 have okO:∀ {c':Fc},c'.pin=c.pin→Ok c' σ' δ' H'→(∀ b,c.B b→c'.B b)→(∀ (i:Nat) d v,ss[i]? = some (.pure d)→vs[i]? = some v→Rep H' (Av c' σ' δ') v d)→Ok c' (z11 vs) (z18 outs) H':=fun {c'} ep k' hB hsl=>by
  have subA':∀ b,Av c' (z11 vs) (z18 outs) b→Av c' σ' δ' b:=fun b z=>z.elim .inl fun z=>.inr (sub b z)
  refine ⟨k'.keep,k'.bd,k'.ith,by simp [hlen,hvs],fun i d e=>?_,fun i d e=>?_,fun i j a d d' e1 e2 e3 e4=>?_,fun p hm=>?_⟩
  ·have e':=someS_get.mp e
   have hi:i < ss.length:=by rw [← hlen]; exact (Wb.mp e').1
   have hv:i < vs.length:=by omega
   rcases hat i ss[i] (by simp [hi]) with ⟨d₁,z1,z2⟩ | ⟨d₁,d',z1,z2,z3⟩
   ·rw [e'] at z2; cases z2
    exact ⟨vs[i],by simp [hv],(hsl i d vs[i] (by rw [WE hi,z1]) (by simp [hv])).anti fun b z=>.inl (subA' b z)⟩
   ·rw [e'] at z3; cases z3
  ·have e':=someS_get.mp e
   obtain ⟨⟨d₀,h0⟩,h1⟩:=ownS i d e'
   obtain ⟨a₀,h2,_⟩:=k.own i d₀ (someS_get.mpr h0)
   obtain ⟨a,h3,h4,h5⟩:=k'.own i d h1
   rw [pin i a₀ d₀ h0 (some'_get.mp h2)] at h3
   cases h3
   exact ⟨a₀,h2,h4.anti fun b z=>.inl (subA' b z),h5⟩
  ·obtain ⟨⟨d₀,h0⟩,h1⟩:=ownS i d (someS_get.mp e1)
   obtain ⟨⟨d₁,h2⟩,h3⟩:=ownS j d' (someS_get.mp e2)
   exact k'.inj i j a d d' h1 h3 (pin i a d₀ h0 (some'_get.mp e3)) (pin j a d₁ h2 (some'_get.mp e4))
  ·exact k.pinned p (by rw [← ep]; exact hm)
 have slots:∀ (i:Nat) d v,ss[i]? = some (.pure d)→vs[i]? = some v→Rep H' (Av c σ' δ') v d:=fun i d v h1 h2=>by
  obtain ⟨w,e1,r⟩:=(k.ext n).slot i d (z32 (someS_get.mpr h1))
  rw [z32 (some'_get.mpr h2)] at e1
  cases e1
  exact Rep.aft r x
 refine ⟨⟨okO rfl x.ok (fun _ z=>z) slots,fun a o e m=>x.keep a o e fun z=>m (Own.ext.mp z),fun a z=>(x.own a (sub a z)).elim (fun z=>.inl (Own.ext.mp z)) .inr,x.there⟩,fun v r hr=>?_⟩
 cases r with
 | pure d=>exact Rep.anti hr fun b z=>.inl (subA b z)
 | own d =>
  obtain ⟨a,ea,o,nb,h0,kp,hs⟩:=hr
  refine ⟨a,ea,o.anti fun b z=>.inl (z.elim .inl fun z=>.inr (sub b z)),nb,h0,okO rfl kp (fun _ z=>.inl z) fun i d v h1 h2=>?_,hs⟩
  obtain ⟨w,e1,r⟩:=(k.ext n).slot i d (z32 (someS_get.mpr h1))
  rw [z32 (some'_get.mpr h2)] at e1
  cases e1
  have hHa:H a=none:=hs
  have r1:Rep H (Av c (z11 vs ++ W3 n none) (z18 ss ++ W3 n none)) v d:=r
  have r2:Rep H (fun b=>Av c (z11 vs ++ W3 n none) (z18 ss ++ W3 n none) b∨Av (c.plus a) σ' δ' b) v d:=r1.anti fun b z=>by
   rcases z with z | (z | z) | z
   ·exact .inl z
   ·exact .inl (.inl z)
   ·exact .inr (by rw [z]; exact hHa)
   ·rcases x.own b z with q | q
    ·exact .inl (.inr q)
    ·exact .inr q
  exact (r2.keep fun b o e m=>x.keep b o e fun z=>m (.inl (.inr z))).anti fun b z=>.inl (.inr z)
end
section
variable {P:Wk} {w:Wr} {K:W0} {mg:Str→Option Value} {base:Heap}
theorem zgs {x qual:Str} {st:Stmt} {f:Addr} {fd:WD} {N ps:List Str} {k:Nat} {np:List Nat} {fb:DS} {G:DF} (F:Fun K x qual st f fd) (S:FnScope N ps (z05 st))
  (hbody:∀ (c:Fc) (cdv:Value) (A:Wp) (outer:List Env) (s:W2) (H:Hp) (E:XK),Room k (A.deeper (QO qual (z05 st) s.heap.objs.size f cdv))→Np c np→SSs (cxOf CX0 P w K mg base N qual (z05 st) f cdv A outer s H E).nox c (z1n st) fb)
  (hG:∀ ss y,G ss=some y→ioOk np 0 ss=true∧runD fb N.length ss=some y):FnOk P w K mg base CX0 (k + 1) f fd ps (spD ps.length G):=by
 refine F.ok S (fun vs H Q E h=>?_) fun cdv A outer s H vs Q E hr h=>?_
 ·obtain ⟨ss,B,hl,_⟩:=h
  exact hl
 ·obtain ⟨ss,B,hl,ok,r,outs,hg,q⟩:=h
  obtain ⟨hio,hrun⟩:=hG ss _ hg
  have hvs:ss.length=vs.length:=by have:=ok.len; simpa using this
  have np':Np ⟨H,B,z0B 0 ss vs,fun _ _=>False⟩ np:=fun p hp=>by
   obtain ⟨j,d,e,h1,_⟩:=z1A (i:=p.1) (a:=p.2) hp
   rw [e]
   exact z7p hio h1
  refine ⟨tDS ⟨H,B,z0B 0 ss vs,fun _ _=>False⟩ fb,hbody ⟨H,B,z0B 0 ss vs,fun _ _=>False⟩ cdv A outer s H E hr np',?_⟩
  have hst:start N vs=z11 vs ++ W3 (N.length - ss.length) none:=by rw [hvs]; rfl
  refine ⟨z0b N.length ss,by rw [hst]; exact ok.ext _,?_⟩
  unfold runD at hrun
  unfold z2g
  cases e:fb (z0b N.length ss) with
  | exc x δx=>rw [e] at hrun; cases hrun
  | stuck=>rw [e] at hrun; cases hrun
  | ok fl δ' =>
   rw [e] at hrun
   show ∀ σ' H',Aft _ (start N vs) (z0b N.length ss) H σ' δ' H'→fin _ _ σ' δ' H' fl
   intro σ' H' a
   rw [hst] at a
   simp only at hrun
   cases fl with
   | brk=>cases hrun
   | cont=>cases hrun
   | next =>
    simp only [z0o,WQ] at hrun
    cases eo:z07 0 ss δ' with
    | none=>rw [eo] at hrun; cases hrun
    | some os =>
     rw [eo] at hrun
     cases hrun
     obtain ⟨l1,l2⟩:=z89 rfl ok a eo
     exact q .non H' l1 .non
   | ret r' =>
    simp only [z0o,WQ] at hrun
    cases eo:z07 0 ss δ' with
    | none=>rw [eo] at hrun; cases hrun
    | some os =>
     rw [eo] at hrun
     cases hrun
     obtain ⟨l1,l2⟩:=z89 rfl ok a eo
     exact fun v rv=>q v H' l1 (l2 v _ rv)
theorem z1i {x qual:Str} {st:Stmt} {f:Addr} {fd:WD} {N ps:List Str} {k:Nat} {np:List Nat} {fb:DS} {G:DF} (F:Fun K x qual st f fd) (hm:mg x=some (.ref f)) (hb:Binds K fd ps []) (S:FnScope N ps (z05 st))
  (hbody:∀ (c:Fc) (cdv:Value) (A:Wp) (outer:List Env) (s:W2) (H:Hp) (E:XK),Room k (A.deeper (QO qual (z05 st) s.heap.objs.size f cdv))→Np c np→SSs (cxOf CX0 P w K mg base N qual (z05 st) f cdv A outer s H E).nox c (z1n st) fb)
  (hG:∀ ss y,G ss=some y→ioOk np 0 ss=true∧runD fb N.length ss=some y):KFn P w K mg base (k + 1) x ps.length G:=⟨f,fd,ps,hm,F.kp,hb,zgs F S hbody hG⟩
end
inductive Ak where
 | val (f:DE)
 | io (i:Nat)
def evX:List Ak→Dl→Rs (List (Option D))
 | [],δ=>.ok [] δ
 | .val f :: r,δ=>(f δ).bind fun x δ1=>(evX r δ1).bind fun xs δ2=>.ok (some x.d :: xs) δ2
 | .io _ :: r,δ=>(evX r δ).bind fun xs δ2=>.ok (none :: xs) δ2
inductive ArgR (c:Fc) (σ:St) (δ:Dl) (H:Hp):List V→List Ak→List (Option D)→Prop
 | nil:ArgR c σ δ H [] [] []
 | val {v:V} {d:D} {f:DE} {vs:List V} {as:List Ak} {ds:List (Option D)}:Rep H (Av c σ δ) v d→ArgR c σ δ H vs as ds→ArgR c σ δ H (v :: vs) (.val f :: as) (some d :: ds)
 | io {v:V} {i:Nat} {vs:List V} {as:List Ak} {ds:List (Option D)}:σ[i]? = some (some v)→ArgR c σ δ H vs as ds→ArgR c σ δ H (v :: vs) (.io i :: as) (none :: ds)
def tX (c:Fc) (as:List Ak):TA:=fun σ H Q=>∃ δ,Ok c σ δ H∧(∀ i,Ak.io i ∈ as→∃ v,σ[i]? = some (some v))∧post c (evX as δ) fun ds δ'=>∀ vs H',Aft c σ δ H σ δ' H'→ArgR c σ δ' H' vs as ds→Q vs H'
abbrev SX (X:Cx) (c:Fc) (es:List Expr) (as:List Ak):Prop:=PA X es (tX c as)
section
variable {X:Cx} {c:Fc} {e:Expr} {es:List Expr} {fe:DE} {as:List Ak} {pos pp:Pos}
theorem z0r:SX X c [] []:=PA.weak z1M fun σ H Q ⟨δ,k,_,q⟩=>q [] H (.refl k) .nil
theorem zf8 (ha:SE X c e fe) (hr:SX X c es as) (hs:W4 (e :: es) X.env=(false,eval e X.env) :: W4 es X.env:=by rfl):SX X c (e :: es) (.val fe :: as):=PA.weak (z0M ha hr hs) fun σ H Q ⟨δ,k,hio,q⟩=>by
 unfold evX at q
 rw [z03] at q
 refine ⟨δ,k,z00 q fun x δ1 q1 v H1 a1 r1=>⟨δ1,a1.ok,fun i hi=>hio i (Wc _ hi),?_⟩⟩
 rw [z03] at q1
 exact z00 q1 fun xs δ2 q2 vs H2 a2 r2=>q2 (v :: vs) H2 (a1.trans a2) (.val (Rep.aft r1.rep a2) r2)
theorem sx_io (ha:PE X e (tVar i)) (hr:SX X c es as) (hs:W4 (e :: es) X.env=(false,eval e X.env) :: W4 es X.env:=by rfl):SX X c (e :: es) (.io i :: as):=PA.weak (z0M ha hr hs) fun σ H Q ⟨δ,k,hio,q⟩=>by
 obtain ⟨v,ev⟩:=hio i Wi
 unfold evX at q
 rw [z03] at q
 exact ⟨v,ev,δ,k,fun i hi=>hio i (Wc _ hi),z00 q fun xs δ2 q2 vs H2 a2 r2=>q2 (v :: vs) H2 a2 (.io ev r2)⟩
end
def mkA:List Ak→List (Option D)→Dl→Option (List S)
 | [],[],_=>some []
 | .val _ :: as,some d :: ds,δ=>(mkA as ds δ).map (.pure d :: ·)
 | .io i :: as,none :: ds,δ=>match δ[i]? with
  | some (some (.own d))=>(mkA as ds δ).map (.own d :: ·)
  | _=>none
 | _,_,_=>none
def ios:List Ak→List Nat
 | []=>[]
 | .val _ :: as=>ios as
 | .io i :: as=>i :: ios as
def putA:List Ak→List S→Dl→Dl
 | .io i :: as,r :: rs,δ=>putA as rs (δ.set i (some r))
 | .val _ :: as,_ :: rs,δ=>putA as rs δ
 | _,_,δ=>δ
def ndup:List Nat→Bool
 | []=>true
 | i :: r=>!r.contains i && ndup r
def z08 (G:DF) (as:List Ak):DE:=fun δ=>if (ios as).all (z0w δ) && ndup (ios as) then (evX as δ).bind fun ds δ1=>match mkA as ds δ1 with
  | none=>.stuck
  | some ss=>match G ss with
   | none=>.stuck
   | some (r,outs)=>.ok r (putA as outs δ1)
 else .stuck
theorem z54:∀ {l:List Nat},ndup l=true→l.Nodup
 | [],_=>.nil
 | i :: r,h=>by
  simp only [ndup,We,Qx] at h
  exact List.nodup_cons.mpr ⟨fun hm=>by have:=h.1; simp at this; exact this hm,z54 h.2⟩
theorem ios_mem:∀ {as:List Ak} {i:Nat},i ∈ ios as ↔ Ak.io i ∈ as
 | [],i=>by simp [ios]
 | .val f :: as,i=>by simp [ios,ios_mem (as:=as)]
 | .io j :: as,i=>by simp [ios,ios_mem (as:=as)]
theorem zb8:∀ {as:List Ak} {i j k:Nat},(ios as).Nodup→as[j]? = some (.io i)→as[k]? = some (.io i)→j=k
 | [],i,j,k,_,h,_=>by simp at h
 | .val f :: as,i,j,k,nd,h1,h2=>by
  cases j with
  | zero=>simp at h1
  | succ j =>
   cases k with
   | zero=>simp at h2
   | succ k=>exact congrArg (· + 1) (zb8 (as:=as) nd (by simpa using h1) (by simpa using h2))
 | .io n :: as,i,j,k,nd,h1,h2=>by
  have nd':=QY.mp nd
  cases j with
  | zero =>
   simp at h1
   subst h1
   cases k with
   | zero=>rfl
   | succ k=>exact absurd (ios_mem.mpr (Ww (by simpa using h2))) nd'.1
  | succ j =>
   cases k with
   | zero =>
    simp at h2
    subst h2
    exact absurd (ios_mem.mpr (Ww (by simpa using h1))) nd'.1
   | succ k=>exact congrArg (· + 1) (zb8 (as:=as) nd'.2 (by simpa using h1) (by simpa using h2))
section
variable {c:Fc} {σ:St} {δ:Dl} {H:Hp} {vs:List V} {as:List Ak} {ds:List (Option D)} {ss:List S}
theorem z9h (h:ArgR c σ δ H vs as ds):∀ {ss:List S},mkA as ds δ=some ss→ss.length=vs.length∧as.length=vs.length∧∀ (j:Nat) s v,ss[j]? = some s→vs[j]? = some v →
  (∃ d f,s = .pure d∧as[j]? = some (.val f)∧Rep H (Av c σ δ) v d)∨∃ d i,s = .own d∧as[j]? = some (.io i)∧σ[i]? = some (some v)∧δ[i]? = some (some (.own d)):=by
 induction h with
 | nil =>
  intro ss h
  simp only [mkA,W5] at h
  subst h
  exact ⟨rfl,rfl,fun j s v e _=>by simp at e⟩
 | @val v d f vs as ds r _ ih =>
  intro ss h
  simp only [mkA] at h
  cases e:mkA as ds δ with
  | none=>rw [e] at h; cases h
  | some rs =>
   rw [e] at h
   simp only [WI,W5] at h
   subst h
   obtain ⟨h1,h2,h3⟩:=ih e
   refine ⟨by simp [h1],by simp [h2],fun j s v' e1 e2=>?_⟩
   cases j with
   | zero=>simp at e1 e2; subst e1 e2; exact .inl ⟨d,f,rfl,rfl,r⟩
   | succ j=>simpa using h3 j s v' (by simpa using e1) (by simpa using e2)
 | @io v i vs as ds ev _ ih =>
  intro ss h
  simp only [mkA] at h
  split at h
  ·rename_i d ed
   cases e:mkA as ds δ with
   | none=>rw [e] at h; cases h
   | some rs =>
    rw [e] at h
    simp only [WI,W5] at h
    subst h
    obtain ⟨h1,h2,h3⟩:=ih e
    refine ⟨by simp [h1],by simp [h2],fun j s v' e1 e2=>?_⟩
    cases j with
    | zero=>simp at e1 e2; subst e1 e2; exact .inr ⟨d,i,rfl,rfl,ev,ed⟩
    | succ j=>simpa using h3 j s v' (by simpa using e1) (by simpa using e2)
  ·cases h
theorem z78:∀ (as:List Ak) (rs:List S) (δ:Dl),(putA as rs δ).length=δ.length
 | [],rs,δ=>by simp [putA]
 | .val f :: as,[],δ=>by simp [putA]
 | .io i :: as,[],δ=>by simp [putA]
 | .val f :: as,r :: rs,δ=>by simp [putA,z78 as rs δ]
 | .io i :: as,r :: rs,δ=>by simp [putA,z78 as rs]
theorem z4w:∀ (as:List Ak) (rs:List S) (δ:Dl) (i:Nat),i ∉ ios as→(putA as rs δ)[i]? = δ[i]?
 | [],rs,δ,i,_=>by simp [putA]
 | .val f :: as,[],δ,i,_=>by simp [putA]
 | .io j :: as,[],δ,i,_=>by simp [putA]
 | .val f :: as,r :: rs,δ,i,h=>by rw [putA]; exact z4w as rs δ i h
 | .io j :: as,r :: rs,δ,i,h=>by
  simp only [ios,Wh,not_or] at h
  rw [putA,z4w as rs _ i h.2,W9 (Ne.symm h.1)]
theorem z79:∀ (as:List Ak) (rs:List S) (δ:Dl) (i j:Nat) (r:S),(ios as).Nodup→as[j]? = some (.io i)→rs[j]? = some r→i < δ.length→(putA as rs δ)[i]? = some (some r)
 | [],rs,δ,i,j,r,_,h,_,_=>by simp at h
 | a :: as,[],δ,i,j,r,_,_,h,_=>by simp at h
 | .val f :: as,r0 :: rs,δ,i,j,r,nd,h1,h2,hi=>by
  cases j with
  | zero=>simp at h1
  | succ j=>rw [putA]; exact z79 as rs δ i j r nd (by simpa using h1) (by simpa using h2) hi
 | .io k :: as,r0 :: rs,δ,i,j,r,nd,h1,h2,hi=>by
  have nd':=QY.mp nd
  cases j with
  | zero =>
   simp at h1 h2
   subst h1 h2
   rw [putA,z4w as rs _ k nd'.1,Wq hi]
  | succ j=>rw [putA]; exact z79 as rs _ i j r nd'.2 (by simpa using h1) (by simpa using h2) (by simpa using hi)
theorem zbD (k:Ok c σ δ H) (hr:ArgR c σ δ H vs as ds) (hm:mkA as ds δ=some ss) (nd:(ios as).Nodup) :
  Ok ⟨H,fun a=>Av c σ δ a∧¬ ∃ (j:Nat) (d:D),ss[j]? = some (S.own d)∧vs[j]? = some (V.ref a),z0B 0 ss vs,fun _ _=>False⟩ (z11 vs) (z18 ss) H:=by
 obtain ⟨h1,h2,h3⟩:=z9h hr hm
 have at':∀ (j:Nat) s,ss[j]? = some s→∃ v,vs[j]? = some v:=fun j s e=>by
  have:j < vs.length:=by rw [← h1]; exact (Wb.mp e).1
  exact ⟨vs[j],by simp [this]⟩
 have ownE:∀ a,Own (z11 vs) (z18 ss) a ↔ ∃ (j:Nat) (d:D),ss[j]? = some (S.own d)∧vs[j]? = some (V.ref a):=fun a =>
  ⟨fun ⟨j,d,e1,e2⟩=>⟨j,d,someS_get.mp e1,some'_get.mp e2⟩,fun ⟨j,d,e1,e2⟩=>⟨j,d,someS_get.mpr e1,some'_get.mpr e2⟩⟩
 have own2:∀ a,Own (z11 vs) (z18 ss) a→Own σ δ a:=fun a z=>by
  obtain ⟨j,d,e1,e2⟩:=(ownE a).mp z
  rcases h3 j _ _ e1 e2 with ⟨d',f,e,_⟩ | ⟨d',i,e,_,es,ed⟩
  ·cases e
  ·exact ⟨i,d',ed,es⟩
 have sub:∀ a,Av ⟨H,fun a=>Av c σ δ a∧¬ ∃ (j:Nat) (d:D),ss[j]? = some (S.own d)∧vs[j]? = some (V.ref a),z0B 0 ss vs,fun _ _=>False⟩ (z11 vs) (z18 ss) a→Av c σ δ a:=fun a z=>z.elim (fun z=>z.1) fun z=>.inr (own2 a z)
 refine ⟨fun a o e _=>e,fun a z=>k.avthere z.1,fun a ⟨i,hi⟩=>?_,by simp [h1],fun j d e=>?_,fun j d e=>?_,fun i j a d d' e1 e2 e3 e4=>?_,fun p hp=>?_⟩
 ·obtain ⟨j,d,_,e1,e2⟩:=z1A hi
  exact k.othere (own2 a ((ownE a).mpr ⟨j,d,e1,e2⟩))
 ·have e':=someS_get.mp e
  obtain ⟨v,ev⟩:=at' j _ e'
  rcases h3 j _ v e' ev with ⟨d',f,e,_,r⟩ | ⟨d',i,e,_⟩
  ·cases e
   exact ⟨v,some'_get.mpr ev,r.anti fun b z=>.inl (sub b z)⟩
  ·cases e
 ·have e':=someS_get.mp e
  obtain ⟨v,ev⟩:=at' j _ e'
  rcases h3 j _ v e' ev with ⟨d',f,e,_,r⟩ | ⟨d',i,e,_,es,ed⟩
  ·cases e
  ·cases e
   obtain ⟨a,g1,g2,g3⟩:=k.own i d ed
   rw [es] at g1
   cases g1
   refine ⟨a,some'_get.mpr ev,g2.anti fun b z=>.inl (sub b z),.inl ⟨0 + j,z4A e' ev⟩,fun z=>z.2 ⟨j,d,e',ev⟩⟩
 ·have f1:=someS_get.mp e1
  have f2:=someS_get.mp e2
  rcases h3 i _ _ f1 (some'_get.mp e3) with ⟨_,_,e,_⟩ | ⟨d1,i1,e,a1,s1,x1⟩
  ·cases e
  ·rcases h3 j _ _ f2 (some'_get.mp e4) with ⟨_,_,e',_⟩ | ⟨d2,i2,e',a2,s2,x2⟩
   ·cases e'
   ·have:=k.inj i1 i2 a d1 d2 x1 x2 s1 s2
    subst this
    exact zb8 nd a1 a2
 ·obtain ⟨j,d,e,e1,e2⟩:=z1A (i:=p.1) (a:=p.2) hp
  rw [Jn] at e
  rw [e]
  exact some'_get.mpr e2
theorem z7w (k:Ok c σ δ H) (hr:ArgR c σ δ H vs as ds) (hm:mkA as ds δ=some ss) (nd:(ios as).Nodup) (hB:B=fun a=>Av c σ δ a∧¬ ∃ (j:Nat) (d:D),ss[j]? = some (S.own d)∧vs[j]? = some (V.ref a))
  (x:Aft ⟨H,B,z0B 0 ss vs,fun _ _=>False⟩ (z11 vs) (z18 ss) H (z11 vs) (z18 outs) H') (hio:∀ (j:Nat) d,ss[j]? = some (.own d)→∃ d',outs[j]? = some (.own d')) (hpo:∀ (j:Nat) d,ss[j]? = some (.pure d)→∃ d',outs[j]? = some (.pure d')) :
  Aft c σ δ H σ (putA as outs δ) H'∧∀ v r,RepS ⟨H,B,z0B 0 ss vs,fun _ _=>False⟩ (z11 vs) (z18 outs) H H' v r→RepS c σ (putA as outs δ) H H' v r:=by
 obtain ⟨h1,h2,h3⟩:=z9h hr hm
 have inIdx:∀ i,i ∈ ios as→∃ (j:Nat) (d:D) (a:Addr),as[j]? = some (.io i)∧ss[j]? = some (.own d)∧vs[j]? = some (.ref a)∧σ[i]? = some (some (.ref a))∧δ[i]? = some (some (.own d)):=fun i hi=>by
  obtain ⟨j,hj,ej⟩:=List.mem_iff_getElem.mp (ios_mem.mp hi)
  have hv:j < vs.length:=by omega
  have hs:j < ss.length:=by omega
  have ej':as[j]? = some (.io i):=by rw [WE hj,ej]
  rcases h3 j ss[j] vs[j] (by simp [hs]) (by simp [hv]) with ⟨d,f,e,a1,_⟩ | ⟨d,i',e,a1,s1,x1⟩
  ·rw [ej'] at a1; cases a1
  ·rw [ej'] at a1; cases a1
   obtain ⟨a,g1,_⟩:=k.own i d x1
   rw [s1] at g1
   have g2:vs[j] = .ref a:=by
    have:=WA g1
    exact WA this
   exact ⟨j,d,a,ej',by rw [WE hs,e],by rw [WE hv,g2],by rw [s1,g2],x1⟩
 have passed:∀ a,(∃ (j:Nat) (d:D),ss[j]? = some (S.own d)∧vs[j]? = some (V.ref a))→Own σ δ a:=fun a ⟨j,d,e1,e2⟩=>by
  rcases h3 j _ _ e1 e2 with ⟨d',f,e,_⟩ | ⟨d',i,e,_,es,ed⟩
  ·cases e
  ·exact ⟨i,d',ed,es⟩
 have Iiff:∀ a,(⟨H,B,z0B 0 ss vs,fun _ _=>False⟩:Fc).I a ↔ ∃ (j:Nat) (d:D),ss[j]? = some (S.own d)∧vs[j]? = some (V.ref a):=fun a =>
  ⟨fun ⟨i,hi⟩=>by obtain ⟨j,d,_,e1,e2⟩:=z1A hi; exact ⟨j,d,e1,e2⟩,fun ⟨j,d,e1,e2⟩=>⟨0 + j,z4A e1 e2⟩⟩
 have ownIn:∀ a,Own (z11 vs) (z18 ss) a→∃ (j:Nat) (d:D),ss[j]? = some (S.own d)∧vs[j]? = some (V.ref a):=fun a ⟨j,d,e1,e2⟩=>⟨j,d,someS_get.mp e1,some'_get.mp e2⟩
 -- the owned addresses are the same
 have slotP:∀ (i:Nat) (d:D),(putA as outs δ)[i]? = some (some (.own d))→(i ∉ ios as∧δ[i]? = some (some (.own d)))∨(i ∈ ios as∧∃ (j:Nat) (d0:D) (a:Addr),as[j]? = some (.io i)∧ss[j]? = some (.own d0)∧vs[j]? = some (.ref a)∧σ[i]? = some (some (.ref a))∧outs[j]? = some (.own d)):=fun i d e=>by
  by_cases hi:i ∈ ios as
  ·right
   obtain ⟨j,d0,a,a1,a2,a3,a4,a5⟩:=inIdx i hi
   obtain ⟨d',ed'⟩:=hio j d0 a2
   have hlt:i < δ.length:=(Wb.mp a5).1
   have:=z79 as outs δ i j (.own d') nd a1 ed' hlt
   rw [e] at this
   cases this
   exact ⟨hi,j,d0,a,a1,a2,a3,a4,ed'⟩
  ·rw [z4w as outs δ i hi] at e
   exact .inl ⟨hi,e⟩
 have own_sub:∀ b,Own σ (putA as outs δ) b→Own σ δ b:=fun b ⟨i,d,e1,e2⟩=>by
  rcases slotP i d e1 with ⟨_,e⟩ | ⟨hi,j,d0,a,_,a2,a3,a4,_⟩
  ·exact ⟨i,d,e,e2⟩
  ·rw [e2] at a4
   have:b=a:=by injection (WA (WA a4))
   subst this
   exact passed b ⟨j,d0,a2,a3⟩
 have pureP:∀ (i:Nat) (d:D),(putA as outs δ)[i]? = some (some (.pure d))→i ∉ ios as∧δ[i]? = some (some (.pure d)):=fun i d e=>by
  by_cases hi:i ∈ ios as
  ·obtain ⟨j,d0,a,a1,a2,a3,a4,a5⟩:=inIdx i hi
   obtain ⟨d',ed'⟩:=hio j d0 a2
   have hlt:i < δ.length:=(Wb.mp a5).1
   have:=z79 as outs δ i j (.own d') nd a1 ed' hlt
   rw [e] at this
   cases this
  ·rw [z4w as outs δ i hi] at e
   exact ⟨hi,e⟩
 have kpAv:∀ a o,H a=some o→¬ Av c σ δ a→H' a=some o:=fun a o e n=>x.keep a o e fun z=>n (.inr (passed a (ownIn a z)))
 have subA:∀ b,Av c σ (putA as outs δ) b→Av c σ δ b:=fun b z=>z.elim .inl fun z=>.inr (own_sub b z)
 -- the callee's set holds ours
 have big:∀ {c':Fc},c'.B=B→∀ b,Av c σ δ b→Av c' (z11 vs) (z18 outs) b:=fun {c'} hB' b z=>by
  by_cases hp:∃ (j:Nat) (d:D),ss[j]? = some (S.own d)∧vs[j]? = some (V.ref b)
  ·obtain ⟨j,d,e1,e2⟩:=hp
   obtain ⟨d',ed'⟩:=hio j d e1
   exact .inr ⟨j,d',someS_get.mpr ed',some'_get.mpr e2⟩
  ·exact .inl (by rw [hB',hB]; exact ⟨z,hp⟩)
 have okc:∀ (c1 c2:Fc),c1.H₀=c.H₀→c1.pin=c.pin→(∀ b,c1.B b→c.B b∨(c2.B b∧H b=none))→c2.pin=z0B 0 ss vs→(∀ b,B b→c2.B b)→Ok c2 (z11 vs) (z18 outs) H'→(∀ b,c1.B b→∃ o,H' b=some o)→Ok c1 σ (putA as outs δ) H':=fun c1 c2 e0 e1 e2 e3 e4 k2 hex=>by
  have sub1:∀ b,Av c1 σ (putA as outs δ) b→Av c σ δ b∨H b=none:=fun b z=>by
   rcases z with z | z
   ·rcases e2 b z with z | ⟨_,z⟩
    ·exact .inl (.inl z)
    ·exact .inr z
   ·exact .inl (.inr (own_sub b z))
  have sub2:∀ b,Av c1 σ (putA as outs δ) b→Av c2 (z11 vs) (z18 outs) b:=fun b z=>by
   have bg:∀ b,Av c σ δ b→Av c2 (z11 vs) (z18 outs) b:=fun b z=>by
    by_cases hp:∃ (j:Nat) (d:D),ss[j]? = some (S.own d)∧vs[j]? = some (V.ref b)
    ·obtain ⟨j,d,e1,e2⟩:=hp
     obtain ⟨d',ed'⟩:=hio j d e1
     exact .inr ⟨j,d',someS_get.mpr ed',some'_get.mpr e2⟩
    ·exact .inl (e4 b (by rw [hB]; exact ⟨z,hp⟩))
   rcases z with z | z
   ·rcases e2 b z with z | ⟨z,_⟩
    ·exact bg b (.inl z)
    ·exact .inl z
   ·exact bg b (.inr (own_sub b z))
  have kp':∀ {v:V} {d:D},Rep H (Av c σ δ) v d→Rep H' (Av c1 σ (putA as outs δ)) v d:=fun {v d} r=>by
   have r1:Rep H (fun b=>Av c σ δ b∨Av c1 σ (putA as outs δ) b) v d:=r.anti fun b z=>z.elim .inl (sub1 b)
   exact (r1.keep fun b o e n=>kpAv b o e fun z=>n (.inl z)).anti fun b z=>.inl (.inr z)
  refine ⟨fun a o e n=>?_,hex,fun a z=>?_,by rw [z78]; exact k.len,fun i d e=>?_,fun i d e=>?_,fun i j a d d' f1 f2 f3 f4=>?_,by rw [e1]; exact k.pinned⟩
  ·rw [e0] at e
   have n':¬ c.I a:=fun z=>n (by unfold Fc.I at z ⊢; rw [e1]; exact z)
   refine x.keep a o (k.keep a o e n') fun z=>?_
   obtain ⟨i,d,g1,g2⟩:=passed a (ownIn a z)
   obtain ⟨a',g3,_,g4,_⟩:=k.own i d g1
   rw [g2] at g3; cases g3
   rcases g4 with g4 | g4
   ·exact n' g4
   ·rw [g4] at e; cases e
  ·have z':c.I a:=by unfold Fc.I at z ⊢; rw [← e1]; exact z
   obtain ⟨o,e⟩:=k.ith a z'
   exact x.there a o e
  ·obtain ⟨hi,e'⟩:=pureP i d e
   obtain ⟨v,g1,g2⟩:=k.slot i d e'
   exact ⟨v,g1,kp' g2⟩
  ·rcases slotP i d e with ⟨hi,e'⟩ | ⟨hi,j,d0,a,b1,b2,b3,b4,b5⟩
   ·obtain ⟨a,g1,g2,g3,g4⟩:=k.own i d e'
    have na:¬ Own (z11 vs) (z18 ss) a:=fun z=>by
     obtain ⟨j,d1,q1,q2⟩:=ownIn a z
     rcases h3 j _ _ q1 q2 with ⟨d',f,ee,_⟩ | ⟨d',i',ee,ai,es,ed⟩
     ·cases ee
     ·have:=k.inj i i' a d d' e' ed g1 es
      subst this
      exact hi (ios_mem.mpr (Ww ai))
    have g2':OwnAt H' (Av c1 σ (putA as outs δ)) a d:=by
     have o1:OwnAt H (fun b=>Av c σ δ b∨Av c1 σ (putA as outs δ) b) a d:=g2.anti fun b z=>z.elim .inl (sub1 b)
     exact (o1.keep (fun b o e n=>kpAv b o e fun z=>n (.inl z)) fun o e=>x.keep a o e na).anti fun b z=>.inl (.inr z)
    refine ⟨a,g1,g2',by unfold Fc.I at g3 ⊢; rw [e0,e1]; exact g3,fun z=>?_⟩
    rcases e2 a z with z | ⟨_,z⟩
    ·exact g4 z
    ·obtain ⟨o,eo⟩:=g2.some
     rw [z] at eo; cases eo
   ·obtain ⟨a',g1,g2,g3,g4⟩:=k2.own j d (someS_get.mpr b5)
    rw [some'_get.mpr b3] at g1
    cases g1
    obtain ⟨i0,d1,q1,q2⟩:=passed a ⟨j,d0,b2,b3⟩
    obtain ⟨a'',q3,q4,q5,q6⟩:=k.own i0 d1 q1
    rw [q2] at q3; cases q3
    refine ⟨a,b4,g2.anti fun b z=>.inl (sub2 b z),by unfold Fc.I at q5 ⊢; rw [e0,e1]; exact q5,fun z=>?_⟩
    rcases e2 a z with z | ⟨_,z⟩
    ·exact q6 z
    ·obtain ⟨o,eo⟩:=q4.some
     rw [z] at eo; cases eo
  ·obtain ⟨d1,g1⟩:∃ d1,δ[i]? = some (some (.own d1)):=by
    rcases slotP i d f1 with ⟨_,e'⟩ | ⟨hi,_⟩
    ·exact ⟨d,e'⟩
    ·obtain ⟨_,d1,_,_,_,_,_,a5⟩:=inIdx i hi
     exact ⟨d1,a5⟩
   obtain ⟨d2,g2⟩:∃ d2,δ[j]? = some (some (.own d2)):=by
    rcases slotP j d' f2 with ⟨_,e'⟩ | ⟨hi,_⟩
    ·exact ⟨d',e'⟩
    ·obtain ⟨_,d1,_,_,_,_,_,a5⟩:=inIdx j hi
     exact ⟨d1,a5⟩
   exact k.inj i j a d1 d2 g1 g2 f3 f4
 have ok1:Ok c σ (putA as outs δ) H':=okc c ⟨H,B,z0B 0 ss vs,fun _ _=>False⟩ rfl rfl (fun b z=>.inl z) rfl (fun b z=>z) x.ok fun b z=>by
  obtain ⟨o,e⟩:=k.bd b z
  exact x.there b o e
 refine ⟨⟨ok1,fun a o e n=>x.keep a o e fun z=>n (passed a (ownIn a z)),fun a z=>.inl (own_sub a z),x.there⟩,fun v r hr=>?_⟩
 cases r with
 | pure d=>exact Rep.anti hr fun b z=>.inl (big rfl b (subA b z))
 | own d =>
  obtain ⟨a,ea,o,nb,h0,kp,hs⟩:=hr
  have hHa:H a=none:=hs
  have nav:¬ Av c σ δ a:=k.nav hHa
  refine ⟨a,ea,o.anti fun b z=>.inl ?_,fun z=>nav (.inl z),k.fresh₀ hHa,?_,hHa⟩
  ·rcases z with (z | z) | z
   ·exact (big rfl b (.inl z)).elim (fun z=>.inl (.inl z)) .inr
   ·exact .inl (.inr z)
   ·exact (big rfl b (.inr (own_sub b z))).elim (fun z=>.inl (.inl z)) .inr
  ·refine okc (c.plus a) (Fc.plus ⟨H,B,z0B 0 ss vs,fun _ _=>False⟩ a) rfl rfl (fun b z=>?_) rfl (fun b z=>.inl z) kp fun b z=>?_
   ·rcases z with z | z
    ·exact .inl z
    ·exact .inr ⟨.inr z,by rw [z]; exact hHa⟩
   ·rcases z with z | z
    ·obtain ⟨o,e⟩:=k.bd b z
     exact x.there b o e
    ·rw [z]; exact o.some
end
def z1s (G:DF):Prop:=∀ ss r outs,G ss=some (r,outs)→outs.length=ss.length∧∀ (j:Nat),(∀ d,ss[j]? = some (.own d)→∃ d',outs[j]? = some (.own d'))∧∀ d,ss[j]? = some (.pure d)→∃ d',outs[j]? = some (.pure d')
theorem z9J (hG:∀ ss y,G ss=some y→runD fb n ss=some y):z1s G:=fun ss r outs h=>by
 have:=hG ss _ h
 unfold runD at this
 cases e:fb (z0b n ss) with
 | exc x δx=>rw [e] at this; cases this
 | stuck=>rw [e] at this; cases this
 | ok fl δ =>
  rw [e] at this
  simp only at this
  cases e1:z0o fl with
  | none=>rw [e1] at this; cases this
  | some r' =>
   rw [e1] at this
   simp only [WQ] at this
   cases e2:z07 0 ss δ with
   | none=>rw [e2] at this; cases this
   | some os =>
    rw [e2] at this
    cases this
    obtain ⟨h1,h2⟩:=z5N e2
    refine ⟨h1,fun j=>⟨fun d ed=>?_,fun d ed=>?_⟩⟩
    ·rcases h2 j _ ed with ⟨d',z,_⟩ | ⟨d',d'',_,_,z⟩
     ·cases z
     ·exact ⟨d'',z⟩
    ·rcases h2 j _ ed with ⟨d',z,z'⟩ | ⟨d',d'',z,_⟩
     ·exact ⟨d',z'⟩
     ·cases z
section
variable {X:Cx} {c:Fc} {e:Expr} {es:List Expr} {as:List Ak} {k n:Nat} {x:Str} {G:DF} {pp pos:Pos}
theorem z8q {ps:List Str} (hK:z1s G) {σ:St} {H:Hp} {Q:VK} (hl:as.length=n) (h:tD c (z08 G as) σ H Q):zdD (spD n G) [] E0 (tX c as) σ H Q:=by
 obtain ⟨δ,kk,q⟩:=h
 unfold z08 at q
 split at q
 ·rename_i hc
  rw [We] at hc
  have nd:=z54 hc.2
  rw [z03] at q
  refine ⟨δ,kk,fun i hi=>?_,z00 q fun ds δ1 q1 vs H1 a1 r1=>?_⟩
  ·have:=WC.mp hc.1 i (ios_mem.mpr hi)
   unfold z0w at this
   split at this
   ·rename_i d ed
    exact z3H kk ed
   ·cases this
  ·cases em:mkA as ds δ1 with
   | none=>rw [em] at q1; exact q1.elim
   | some ss =>
    rw [em] at q1
    simp only at q1
    cases eg:G ss with
    | none=>rw [eg] at q1; exact q1.elim
    | some y =>
     obtain ⟨r,outs⟩:=y
     rw [eg] at q1
     have hin:=zbD a1.ok r1 em nd
     obtain ⟨m1,m2,_⟩:=z9h r1 em
     obtain ⟨g1,g2⟩:=hK ss r outs eg
     refine ⟨ss,_,by rw [WU,← m2]; exact hl,by rw [WU]; exact hin,r,outs,eg,fun v H2 a2 r2=>?_⟩
     rw [WU] at a2 r2
     obtain ⟨o1,o2⟩:=z7w a1.ok r1 em nd rfl a2 (fun j d ed=>(g2 j).1 d ed) fun j d ed=>(g2 j).2 d ed
     exact q1 v H2 (a1.trans o1) (RepS.back (o2 v r r2) a1)
 ·exact q.elim
theorem z0i (F:KFn X.prog X.w X.K X.mg X.base k x n G) (hK:z1s G) (hr:Room k X.A) (hg:Gl X x) (ha:SX X c (e :: es) as) (hl:as.length=n) (hdb:(x == ("__debug__" : Str))=false:=by decide)
  (he:W4 (e :: es) X.env=(false,eval e X.env) :: W4 es X.env:=by rfl) (hpl:(WF pos (W4 es X.env)).any (·.1)=false:=by rfl):SE X c (.Call (.Name x pp) (e :: es) [] pos) (z08 G as):=by
 obtain ⟨f,fd,ps,hm,hk,hb,ok⟩:=F
 exact PE.weak (zej ok hr hg hm hk hb .nil pass0 ha hdb he hpl) fun σ H Q h=>z8q (ps:=ps) hK hl h
end
def gOf (np:List Nat) (n:Nat) (b:DS):DF:=fun ss=>if ioOk np 0 ss then runD b n ss else none
theorem z0E (h:gOf np n b ss=some y):ioOk np 0 ss=true∧runD b n ss=some y:=by
 unfold gOf at h
 split at h
 ·rename_i hi; exact ⟨hi,h⟩
 ·cases h
theorem z0p:z1s (gOf np n b):=z9J fun _ _ h=>(z0E h).2
theorem z1K (r:Room k A):A.units + 64 < QD:=by have:=r.un; omega
theorem z5U {c:Fc} {np cs:List Nat} (h:Np c np) (hc:cs.all (fun i=>!np.contains i)=true):∀ p ∈ c.pin,p.1 ∉ cs:=fun p hp z=>by
 have h1:=h p hp
 have h2:=WC.mp hc p.1 z
 rw [h1] at h2
 cases h2
def ndS:List Str→Bool
 | []=>true
 | x :: r=>!r.contains x && ndS r
theorem zdg:∀ {l:List Str},ndS l=true→l.Nodup
 | [],_=>.nil
 | x :: r,h=>by
  simp only [ndS,We,Qx] at h
  exact List.nodup_cons.mpr ⟨fun hm=>by have:=h.1; simp at this; exact this hm,zdg h.2⟩
def z55 (names:List (Str×NameKind)) (x:Str) (k:NameKind):Bool:=match names.lookup x with
 | some j=>j == k
 | none=>false
theorem z7n (h:z55 names x k=true):names.lookup x=some k:=by
 unfold z55 at h
 split at h
 ·rename_i j e; rw [e,eq_of_beq h]
 ·cases h
def cscB (names:List (Str×NameKind)) (N:List Str) (sc:List (Str×NameKind)) (cs:List Nat):Bool :=
 sc.all (fun x=>!(x.2 == .local) || z55 sc x.1 .local) && sc.all (fun x=>!(x.2 == .free) || (z55 names x.1 .cell || z55 names x.1 .free)) && ndS (sc.map (·.1)) &&
 (Ql N.length).all fun i=>match N[i]? with
  | some x=>!(z55 sc x .local || z55 sc x .cell) || cs.contains i
  | none=>true
theorem z9j (h:names.lookup x=some k):z55 names x k=true:=by
 unfold z55; rw [h]; simp
theorem z2r {X:Cx} {scope:Scope} {cs:List Nat} (hk:scope.kind = .function) (h:cscB X.env.scope.names X.N scope.names cs=true):CScope X scope cs:=by
 unfold cscB at h
 simp only [We] at h
 obtain ⟨⟨⟨h1,h2⟩,h3⟩,h4⟩:=h
 refine ⟨hk,fun x hx hl=>?_,fun x hx hf=>?_,zdg h3,fun i x hi hl=>?_⟩
 ·have:=WC.mp h1 x hx
  rw [hl] at this
  exact z7n (by simpa using this)
 ·have:=WC.mp h2 x hx
  rw [hf] at this
  have:z55 X.env.scope.names x.1 .cell=true∨z55 X.env.scope.names x.1 .free=true:=by simpa using this
  exact this.elim (fun z=>.inl (z7n z)) fun z=>.inr (z7n z)
 ·have hil:i < X.N.length:=(Wb.mp hi).1
  have:=WC.mp h4 i (List.mem_range.mpr hil)
  rw [hi] at this
  have hl':(z55 scope.names x .local || z55 scope.names x .cell)=true:=by
   rcases hl with z | z
   ·rw [z9j z]; rfl
   ·rw [z9j z]; simp
  simp only [hl',Bool.not_true,Bool.false_or] at this
  simpa using this
theorem zdw {K:W0}:TyK K "int":=⟨rfl,rfl,rfl,rfl,rfl,rfl,rfl⟩
theorem zbO {K:W0}:TyK K "bool":=⟨rfl,rfl,rfl,rfl,rfl,rfl,rfl⟩
theorem zdv {K:W0}:TyK K "str":=⟨rfl,rfl,rfl,rfl,rfl,rfl,rfl⟩
theorem za7 {K:W0}:TyK K "tuple":=⟨rfl,rfl,rfl,rfl,rfl,rfl,rfl⟩
def z47:Expr→Bool
 | .Starred ..=>false
 | _=>true
theorem z4Q (h:z47 e=true):W4 (e :: es) env=(false,eval e env) :: W4 es env:=by
 cases e <;> first | (cases h; done) | rw [W4] | rfl
 all_goals (intros; contradiction)
section
variable {X:Cx} {c:Fc} {e:Expr} {es:List Expr} {f fe:DE} {g:DA} {as:List Ak}
theorem z04 (ha:SE X c e f) (hr:SA X c es g) (hs:z47 e=true:=by rfl):SA X c (e :: es) (z0m f g):=zan ha hr (z4Q hs)
theorem z0a (ha:SE X c e fe) (hr:SX X c es as) (hs:z47 e=true:=by rfl):SX X c (e :: es) (.val fe :: as):=zf8 ha hr (z4Q hs)
theorem z1X {i:Nat} (ha:PE X e (tVar i)) (hr:SX X c es as) (hs:z47 e=true:=by rfl):SX X c (e :: es) (.io i :: as):=sx_io ha hr (z4Q hs)
end
mutual
def z3y:Nat→Expr→Option D
 | _,.Constant (.int i) _ _=>some (.int i)
 | _,.Constant (.bool b) _ _=>some (.bl b)
 | _,.Constant .none _ _=>some .non
 | _,.Constant (.str x) _ _=>some (.str x.cps.toList)
 | n + 1,.Tuple es _ _=>if es.length≤1000 then (z4f n es).map .tup else none
 | _,_=>none
def z4f:Nat→List Expr→Option (List D)
 | _,[]=>some []
 | n,e :: es=>match z3y n e,z4f n es with
  | some d,some ds=>some (d :: ds)
  | _,_=>none
end
theorem za0:∀ {n:Nat} {e:Expr} {d:D},z3y n e=some d→z47 e=true:=fun {n e d} h=>by
 cases e <;> first | rfl | (cases n <;> simp [z3y] at h)
mutual
theorem z7G:∀ {n:Nat} {e:Expr} {d:D},z3y n e=some d→SE X c e (eD d)
 | _,.Constant (.int i) _ _,d,h=>by
  simp only [z3y,W5] at h; subst h; exact z02
 | _,.Constant (.bool b) _ _,d,h=>by
  simp only [z3y,W5] at h; subst h; exact z3W
 | _,.Constant .none _ _,d,h=>by
  simp only [z3y,W5] at h; subst h; exact z2U
 | _,.Constant (.str x) _ _,d,h=>by
  simp only [z3y,W5] at h; subst h; exact z0x _ (zf1 x)
 | 0,.Tuple es k pos,d,h=>by simp [z3y] at h
 | n + 1,.Tuple es k pos,d,h=>by
  simp only [z3y] at h
  split at h
  ·rename_i hl
   cases e:z4f n es with
   | none=>rw [e] at h; cases h
   | some ds =>
    rw [e] at h
    simp only [WI,W5] at h
    subst h
    exact z4s (z5J e) hl
  ·cases h
theorem z5J:∀ {n:Nat} {es:List Expr} {ds:List D},z4f n es=some ds→SA X c es (fun δ=>.ok ds δ)
 | _,[],ds,h=>by
  simp only [z4f,W5] at h; subst h; exact z0H
 | n,e :: es,ds,h=>by
  simp only [z4f] at h
  split at h
  ·rename_i d ds' h1 h2
   cases h
   exact zan (z7G h1) (z5J h2) (z4Q (za0 h1))
  ·cases h
end
def z3w (ds:List D):DE:=fun δ=>.ok (.own (.lst ds)) δ
theorem z91 {X:Cx} {c:Fc} {e:Expr} {d:D} (h:z3y 9 e=some d):SE X c e (eD d):=z7G h
theorem z1d {X:Cx} {c:Fc} {es:List Expr} {ds:List D} {pos:Pos} (h:z4f 9 es=some ds) (hl:es.length≤1000):SE X c (.List es pos) (z3w ds):=z1z (z5J h) hl
section
variable {X:Cx} {c:Fc} {e:Expr} {fe:DE} {pos:Pos} {tg:Expr}
theorem z2k {x:Str} {i:Int} (hg:Gl X x) (hm:∃ t,X.mg x=some (.int i t)) (hd:(x == ("__debug__" : Str))=false:=by decide):SE X c (.Name x pos) (eD (.int i)):=by
 obtain ⟨t,h⟩:=hm
 exact z9I hg h hd
theorem z8Z (he:SE X c e fe) (hs:QX e none pos.line X.env=pure false:=by rfl):SS X c (.Expr e pos) (z8m fe) :=
 zdK he (fun _=>hs) trivial (z8H he hs)
theorem z2T {i:Nat} {o:Expr} {apos cpos:Pos} (ho:PE X o (tVar i)) (he:SE X c e fe)
  (hbase:WS o "append" X.env (eval o X.env)=eval o X.env:=by rfl)
  (hfew:((WF cpos (W4 [e] X.env)).all (fun x=>!x.1) && (Qn cpos (WV [] X.env)).all (fun x=>x.1.isSome)
   && decide ([e].length + ([]:List Keyword).length + (if ([]:List Keyword).isEmpty then 0 else 1) < 30))=true:=by rfl)
  (hline:(apos.endLine == cpos.line)=true:=by rfl) (hs:W4 [e] X.env=(false,eval e X.env) :: W4 [] X.env:=by rfl)
  (hsw:QX (.Call (.Attribute o "append" apos) [e] [] cpos) none pos.line X.env=pure false:=by rfl):SS X c (.Expr (.Call (.Attribute o "append" apos) [e] [] cpos) pos) (z1o i fe) :=
 zaf (p0:=apos) ho he (z8H (z9M QV PySem.F.slot_list_append PySem.F.type_list_append z86 ho (z0M he z1M hs) hbase hfew hline hs rfl) hsw)
end
def noL (K:W0):Bool:=K.all fun p=>match p.2.cls with
 | .type t=>!(t == "list")
 | _=>true
theorem zdh [BEq α] [LawfulBEq α]:∀ {K:List (α×β)} {a:α} {o:β},K.lookup a=some o→(a,o) ∈ K
 | [],a,o,e=>by simp at e
 | (b,o') :: r,a,o,e=>by
  rw [WJ] at e
  cases hb:a == b with
  | true =>
   rw [hb] at e
   have h1:o'=o:=WA e
   have h2:a=b:=eq_of_beq hb
   rw [h1,h2]
   exact Wi
  | false =>
   rw [hb] at e
   exact Wc _ (zdh e)
theorem zgb {K:W0} {a:Addr} {o:Obj} (h:noL K=true) (e:K.lookup a=some o) (hc:o.cls = .type "list"):False:=by
 have hm:(a,o) ∈ (K:List (Addr×Obj)):=zdh e
 have h1:=WC.mp h (a,o) hm
 have h2:(match o.cls with | .type t=>!(t == "list") | _=>true)=true:=h1
 rw [hc] at h2
 have h3:(!(("list" : String) == "list"))=true:=h2
 rw [beq_self_eq_true] at h3
 cases h3
theorem zgi {K:W0} {G:DF} {H:Hp} {a:Addr} {ns:List Int} {E:XK} (hK:noL K=true) (hS:SqL K H a (ns.map V.int)) (hG:∃ outs,G [.pure (.lst (ns.map .int))]=some (.pure (.bl true),outs)) :
  spD 1 G [.ref a] H (fun v _=>v = .bl true) E:=by
 have hR:Rd H a (.lst (ns.map V.int)):=by
  rcases hS with h | ⟨o,its,n,e,hc,_⟩
  ·exact h
  ·exact (zgb hK e hc).elim
 obtain ⟨outs,hg⟩:=hG
 have rep:∀ O:Addr→Prop,¬ O a→Rep H O (.ref a) (.lst (ns.map D.int)):=fun O hO=>.lst hO hR (by simp) fun i v d e1 e2=>by
  rw [WN] at e1 e2
  cases e:ns[i]? with
  | none=>rw [e] at e1; cases e1
  | some k=>rw [e] at e1 e2; cases e1; cases e2; exact .int k
 refine ⟨[.pure (.lst (ns.map .int))],fun _=>False,rfl,⟨fun b o e _=>e,fun b z=>z.elim,fun b ⟨i,z⟩=>?_,rfl,fun i d e=>?_,fun i d e=>?_,fun i j b d d' e1 e2 e3 e4=>?_,fun p z=>?_⟩,_,outs,hg,fun v H' x r=>?_⟩
 ·simp [z0B] at z
 ·cases i with
  | zero =>
   simp at e
   subst e
   refine ⟨.ref a,rfl,rep _ fun z=>?_⟩
   rcases z with z | ⟨j,d',z1,z2⟩
   ·exact z
   ·cases j with
    | zero=>simp at z1
    | succ j=>simp at z1
  | succ i=>simp at e
 ·cases i with
  | zero=>simp at e
  | succ i=>simp at e
 ·cases i with
  | zero=>simp at e1
  | succ i=>simp at e1
 ·simp [z0B] at z
 ·cases r
  rfl
theorem walkD {l:PySem.W.OpenLaw} {q:Wk} {loose:List Str} {XP:(Str→Option Value)→Heap→Prop} {YP:Wr→Heap→Prop} {d:DefRec} {K:Params→W0} {k:Nat} {G:DF} (hn:l.most=some 63) (hdf:d.params.defaults=[]) (hr:Room k callerA)
  (hY:∀ (w:Wr) (h:Heap),YP w h→(K w.params).In h) (hL:∀ p:Params,noL (K p)=true)
  (hG:∀ ns:List Int,ns.length≤63→∃ outs,G [.pure (.lst (ns.map .int))]=some (.pure (.bl true),outs))
  (F:∀ (w:Wr) (mg:Str→Option Value) (fa:Addr) (h:Heap),(K w.params).In h→h.Ns Wl mg→mg d.name=some (.ref fa) →
   ∃ fd:WD,(∀ (s:W2) (u:Value),BindsTo s fd ⟨[u],[]⟩ [("script",u)])∧∀ base:Heap,(K w.params).In base→base.Ns Wl mg→FnOk l.prog w (K w.params) mg base CX0 k fa fd ["script"] (spD 1 G)) :
  PySem.W.WalkO q loose XP YP l.row.toRowW d [] (fun f vs=>PySem.call f vs) :=
 L2.walk_of (n:=63) (k:=k) (x:="script") (CX:=fun _=>CX0) (sp:=fun _=>spD 1 G) hn (by decide) hdf hr hY F (fun w H a ns hl _ hS=>zgi (hL w.params) hS (hG ns hl)) fun _ _ _ _ _ z=>z
end DV
set_option maxHeartbeats 400000
namespace L2
open PySem PySem.Spec PyProof.Rows
def Its (x:Str):It:=⟨fun i _=>i < x.cps.size,fun i H y H'=>H'=H∧∃ c,x.cps[i]? = some c∧y = .str ⟨#[c]⟩,fun i _=>i=x.cps.size⟩
theorem zbP {P:Wk} {w:Wr} {K:W0} {tg:Expr} (x:Str) (t:Tok) (it:Addr) (T:String) (hT:T = "str_ascii_iterator"∨T = "str_iterator"):Turn P w K tg (Its x) [it] it (fun i h=>h.IsStrIter it T x t i):=by
 have W:∀ A:Wp,A.handled=none→Walks P w A it [it] [it] x.cps.size (SignAt x) (fun i h=>h.IsStrIter it T x t i):=fun A hh=>by
  rcases hT with rfl | rfl
  ·exact Walks.strAscii hh it x t
  ·exact Walks.strWide hh it x t
 refine ⟨by simp,fun i h st b hb=>?_,fun i h h' st k=>?_,?_,?_,fun A i s Q E st h=>?_⟩
 ·have e:b=it:=by simpa using hb
  subst e
  obtain ⟨o,e,c,d⟩:=st
  exact ⟨o,e,fun v z=>by rw [d] at z; cases z⟩
 ·obtain ⟨o,e,r⟩:=st
  exact ⟨o,k it (by simp) o e,r⟩
 ·intro X hP hw hK hc i pins s σ H E I hf st hg
  subst hP hw hK
  obtain ⟨f0,f1,f2,f3,f4,f5⟩:=hf it (by simp)
  refine (W X.A (I.ok.hd hc)).item i s _ _ hg st fun v h' tk hv st' kk=>?_
  obtain ⟨c,u,hx,rfl⟩:=hv
  have I1:Inv X pins σ H { s with heap:=h',toks:=tk }:=I.turned (fun b o hb e=>kk b o (by simpa using hb) e) f0 f1 f3 f4 f5
  obtain ⟨o,e,c',d⟩:=id st'
  refine ⟨_,rfl,zcI (s:={ s with heap:=h',toks:=tk }) e c' d (by rcases hT with rfl | rfl <;> decide) ⟨.str ⟨#[c]⟩,H,I1,⟨u,rfl⟩,⟨rfl,c,hx,rfl⟩,st',fun b hb=>(hf b hb).1⟩⟩
 ·intro X hP hw hK hc i pins s σ H E I hf st hg
  subst hP hw hK
  have hg':i=x.cps.size:=hg
  subst hg'
  obtain ⟨f0,f1,f2,f3,f4,f5⟩:=hf it (by simp)
  exact (W X.A (I.ok.hd hc)).done s _ _ st fun h' tk eb=>⟨rfl,I.turned (fun b o hb e=>eb b o (by simpa using hb) e) f0 f1 f3 f4 f5⟩
 ·rcases hT with rfl | rfl
  ·exact wpAny_pyIter_striter_ascii st h
  ·exact wpAny_pyIter_striter_wide st h
end L2
namespace DV
open PySem PySem.Spec PyProof.Rows L2
section
variable {X:Cx} {c:Fc} {tg e:Expr} {fe:DE} {pos pp:Pos}
def iSeqS (K:W0) (tl:TE):TI:=fun σ H R=>tl σ H fun x H1=>(∃ a,x = .ref a∧(∃ xs,SqL K H1 a xs)∧R (Itl K a) H1)∨(∃ a,x = .ref a∧(∃ xs,SqT K H1 a xs)∧R (Itt K a) H1)∨∃ z,x = .str z∧R (Its z) H1
theorem zef {l:Expr} {tl:TE} (hl:PE X l tl):PI X tg l (iSeqS X.K tl):=by
 intro pins s σ H R I h
 refine thn (hl pins s σ H _ I h) fun v s1 ⟨x,H1,I1,r1,q1⟩=>?_
 rcases q1 with q1 | q1 | ⟨z,e,q⟩
 ·obtain ⟨a,e,⟨xs,hq⟩,q⟩:=q1
  subst e
  cases r1
  obtain ⟨its,rv,p,hz⟩:=I1.list hq
  refine QH p.isList ?_
  refine ⟨s1.heap.objs.size,[s1.heap.objs.size],_,_,H1,rfl,I1.kept (t':=s1.toks) fun b o e=>W6 _ e,za9 a _,⟨_,Wm _ rfl,rfl,rfl⟩,fun b hb=>?_,q⟩
  have e:b=s1.heap.objs.size:=by simpa using hb
  subst e
  exact I1.fpOk (W7 _) (I1.hok.fresh (W7 _))
 ·obtain ⟨a,e,⟨xs,hq⟩,q⟩:=q1
  subst e
  cases r1
  obtain ⟨its,rv,p,hz⟩:=I1.tuple hq
  refine J0 (show s1.heap.IsTuple a its.toArray from p) ?_
  refine ⟨s1.heap.objs.size,[s1.heap.objs.size],_,_,H1,rfl,I1.kept (t':=s1.toks) fun b o e=>W6 _ e,z9B a _,⟨_,Wm _ rfl,rfl,rfl⟩,fun b hb=>?_,q⟩
  have e:b=s1.heap.objs.size:=by simpa using hb
  subst e
  exact I1.fpOk (W7 _) (I1.hok.fresh (W7 _))
 ·subst e
  obtain ⟨t,rfl⟩:=r1
  refine wpAny_pyIter_strU ?_
  have hT:strIterType z = "str_ascii_iterator"∨strIterType z = "str_iterator":=by
   unfold strIterType
   split
   ·exact .inl rfl
   ·exact .inr rfl
  refine ⟨s1.heap.objs.size,[s1.heap.objs.size],_,_,H1,rfl,I1.kept (t':=s1.toks) fun b o e=>W6 _ e,zbP z t _ _ hT,⟨_,Wm _ rfl,rfl,rfl⟩,fun b hb=>?_,q⟩
  have e:b=s1.heap.objs.size:=by simpa using hb
  subst e
  exact I1.fpOk (W7 _) (I1.hok.fresh (W7 _))
theorem zgp (z:Tx):ItOk c σ δ H (Its (toS z)) (z.map fun n=>D.str [n]):=by
 intro H2 kp
 have hsz:(toS z).cps.size=z.length:=by simp [toS]
 refine ⟨by show (z.map _).length=_; rw [hsz]; simp,fun i d e=>?_⟩
 rw [WN] at e
 cases ez:z[i]? with
 | none=>rw [ez] at e; cases e
 | some n =>
  rw [ez] at e
  cases e
  have hi:i < z.length:=(Wb.mp ez).1
  refine ⟨by show i < _; rw [hsz]; exact hi,fun x H3 ⟨e3,cc,hc,hx⟩=>.inl ⟨e3,?_⟩⟩
  have:(toS z).cps[i]? = z[i]?:=by simp [toS]
  rw [this,ez] at hc
  cases hc
  rw [hx]
  exact .str [n]
def iSq (f:DE):DI:=fun δ=>(f δ).bind fun r δ1=>match r.d with
 | .lst ds=>.ok ds δ1
 | .tup ds=>.ok ds δ1
 | .str x=>.ok (x.map fun n=>.str [n]) δ1
 | _=>.stuck
theorem z5j (he:SE X c e fe):SI X c tg e (iSq fe):=PI.weak (zef he) fun σ H R ⟨δ,k,q⟩=>by
 unfold iSq at q
 rw [z03] at q
 refine ⟨δ,k,z00 q fun r δ1 q1 v H1 a1 r1=>?_⟩
 have rr:=r1.rep
 generalize r.d=d at q1 rr
 cases d <;> first | exact q1.elim | skip
 ·cases rr
  exact .inr (.inr ⟨_,rfl,q1 _ H1 a1 (zgp _)⟩)
 ·cases rr with
  | tup h1 h2 h3 h4=>exact .inr (.inl ⟨_,rfl,⟨_,.of h2⟩,q1 _ H1 a1 (zgo _ h2 (fun z=>h1 (.inr z)) ⟨h3,h4⟩)⟩)
 ·cases rr with
  | lst h1 h2 h3 h4 =>
   refine .inl ⟨_,rfl,⟨_,.inl h2⟩,q1 _ H1 a1 ?_⟩
   intro H2 kp
   rename_i a vs
   have h5:Rd H2 a (.lst vs):=Rd.keep h2 fun o e=>kp a o e fun z=>h1 (.inr z)
   have r':Reps H1 (Av c σ δ1) vs _:=⟨h3,h4⟩
   refine ⟨⟨vs,.inl h5,by rw [r'.1]; exact W7 _⟩,fun i d e=>?_⟩
   obtain ⟨v,ev,rv⟩:=r'.get e
   refine ⟨⟨vs,v,.inl h5,ev⟩,fun x H3 ⟨e3,y⟩=>.inl ⟨e3,?_⟩⟩
   have:=y vs (.inl h5)
   rw [ev] at this
   cases this
   exact rv
end
end DV
namespace L2
open PySem PySem.Spec PyProof.Rows
theorem z6q (a:Int) (t:Tok) (l:Addr) (dd:Option Addr) (items:Array Value) (n:Nat) (sl:Array (Option Value)) :
  Meets (Builtin.«int.__rmul__» ⟨[.int a t,.ref l],[]⟩) (fun _ R s=>s.heap.get? l=some { cls:=.type "tuple",dict:=dd,data:=.seq items n,slots:=sl }∧R (.ok (.ret Value.notImplemented)) s) :=
 .of_wp fun prog w A R s h=>by obtain ⟨hp,g,d,tk,os⟩:=s; obtain ⟨hl,h⟩:=h; wp_walk; exact ⟨_,rfl,h⟩
theorem z5m:fillsNumberSlot (.type "tuple") "mul" = pure false :=
 PySem.fillsNumberSlot_seq (id:="tuple.__mul__") (r:=some (.builtin "tuple.__rmul__")) F.slot_tuple_mul.lookup (by decide +kernel) F.slot_tuple_rmul.lookup (by decide +kernel)
theorem z7L:seqRepeat? (.type "tuple")=pure (some (.builtin "tuple.__mul__")):=by
 unfold seqRepeat?
 rw [PySem.seqSlot_of (T:="tuple") (name:="__mul__") (id:="tuple.__mul__") F.slot_tuple_mul.lookup (by decide +kernel),PySem.seqSlot_of (T:="tuple") (name:="__rmul__") (id:="tuple.__rmul__") F.slot_tuple_rmul.lookup (by decide +kernel)]
 rfl
theorem z6k (l:Addr) (dd:Option Addr) (items:Array Value) (n:Nat) (sl:Array (Option Value)) (x:Int) (u:Tok) (h1:¬ (decide (x < -(2 ^ 63)) || decide (x ≥ 2 ^ 63))=true) (h2:¬ (items.isEmpty || x == 1)=true) (h3:¬ (decide (x≤0) || items.isEmpty)=true) (h4:¬ items.size * x > (2 ^ 63 - 1) / 8) (h5:¬ Builtin.Tuple.tupleTooMany (items.size * x)=true) (h6:((W3 x.toNat items).foldl (· ++ ·) #[]).size≤W8) :
  Meets (Builtin.«tuple.__mul__» ⟨[.ref l,.int x u],[]⟩) (fun _ R s=>s.heap.get? l=some { cls:=.type "tuple",dict:=dd,data:=.seq items n,slots:=sl } ∧
   R (.ok (.ret (.ref s.heap.objs.size))) { s with heap:=s.heap.push { cls:=.type "tuple",data:=.seq ((W3 x.toNat items).foldl (· ++ ·) #[]) } }) :=
 .of_wp fun prog w A R s h=>by
  obtain ⟨hp,g,d,tk,os⟩:=s; obtain ⟨hl,h⟩:=h
  wp_walk
  rw [if_neg h1]
  wp_walk
  try rw [if_neg h2]
  try wp_walk
  try rw [if_neg h3]
  try wp_walk
  try rw [if_neg h4]
  try wp_walk
  try rw [if_neg h5]
  try wp_walk
  exact ⟨_,rfl,h⟩
theorem z7r (its:List α):∀ (k:Nat) (acc:List α),List.foldl (fun x1 x2:Array α=>x1 ++ x2) acc.toArray (W3 k its.toArray)=(acc ++ (W3 k its).flatten).toArray
 | 0,acc=>by simp
 | k + 1,acc=>by
  rw [WW,Qg,show acc.toArray ++ its.toArray=(acc ++ its).toArray by simp,z7r its k]
  simp [WW]
section
variable {X:Cx}
def zfv (K:W0):R2:=fun x y H Q=>∃ l k xs,x = .ref l∧y = .int k∧SqT K H l xs∧xs≠[]∧2≤k∧k≤1000000∧xs.length * k.toNat≤W8∧∀ p,H p=none→Q (.ref p) (upd H p (.tup (W3 k.toNat xs).flatten))
theorem zeo:OpR X (Q7 .Mult) (zfv X.K):=by
 intro pins s σ H x y v u Q I rx ry h
 obtain ⟨l,k,xs,rfl,rfl,hH,hne,h1,h2,hz,q⟩:=h
 cases rx
 obtain ⟨t,rfl⟩:=ry
 obtain ⟨its,r,pl,hl⟩:=I.tuple hH
 obtain ⟨⟨cls,dd,data,sl⟩,ho,hc,n,hd⟩:=id pl
 simp only at hc hd
 subst hc hd
 have hlen:its.toArray.size=xs.length:=by rw [Wf]; exact r.length.symm
 have hem:its.toArray.isEmpty=false:=by
  cases its with
  | nil=>exact absurd (r.nil_iff.mp rfl) hne
  | cons a b=>rfl
 have hline:W8=16777216:=rfl
 have hk:(k.toNat:Int)=k:=by omega
 have hmul:((its.toArray.size:Nat):Int) * k=((xs.length * k.toNat:Nat):Int):=by rw [hlen,Int.natCast_mul,hk]
 have hfold:List.foldl (fun x1 x2=>x1 ++ x2) #[] (W3 k.toNat its.toArray)=(W3 k.toNat its).flatten.toArray:=by
  have:=z68 its k.toNat []
  rw [WM] at this
  exact this
 refine wpAny_binaryOp_repeat_ref (T:="tuple") (U:="int") (by decide) ⟨_,ho,rfl⟩ (fun s'=>QZ s' k t) z5m F.fills_int_mul F.slot_int_rmul z7L F.slot_int_index.lookup
  (Qm F.slot_int_rmul (QZ s k t) F.entry_int_rmul (F.args_int_rmul_2 _ _) (z6q k t l dd its.toArray n sl)
   ⟨ho,rfl,⟨_,ho,rfl⟩,Qm F.slot_tuple_mul ⟨_,ho,rfl⟩ F.entry_tuple_mul (F.args_tuple_mul_2 _ _) (z6k l dd its.toArray n sl k t ?_ ?_ ?_ ?_ ?_ ?_) ⟨ho,?_⟩⟩)
 ·simp; omega
 ·rw [hem]; simp; omega
 ·rw [hem]; simp; omega
 ·rw [hmul]; omega
 ·rw [hmul]
  unfold Builtin.Tuple.tupleTooMany
  rw [hline] at hz
  generalize xs.length * k.toNat=m at hz
  simp only [hline,decide_eq_true_eq]
  omega
 ·rw [hfold,Wf,z7m,← r.length,Nat.mul_comm]; exact hz
 ·rw [hfold]
  have I1:Inv X pins σ (upd H s.heap.objs.size (.tup (W3 k.toNat xs).flatten)) { s with heap:=s.heap.push { cls:=.type "tuple",data:=.seq (W3 k.toNat its).flatten.toArray } } :=
   I.laid (t':=s.toks) (fun b o e=>W6 _ e) (W7 _) (show ObjOk X.prog X.w _ _ _ (.tup (W3 k.toNat xs).flatten) from ⟨by rw [z7m,Nat.mul_comm]; exact hz,(W3 k.toNat its).flatten,r.rep k.toNat,IsTupN.new _ _⟩)
  exact ⟨.ref _,_,I1,rfl,q _ (I.hok.fresh (W7 _))⟩
def zfw:R2:=fun x y H Q=>∃ z k,x = .str z∧y = .int k∧2≤k∧k≤1000000∧0 < z.length∧z.length * k.toNat≤W8∧Q (.str ⟨(W3 k.toNat z.cps).foldl (· ++ ·) #[]⟩) H
theorem op_repS:OpR X (Q7 .Mult) zfw:=by
 intro pins s σ H x y v u Q I rx ry h
 obtain ⟨z,k,rfl,rfl,h1,h2,h0,hz,q⟩:=h
 obtain ⟨t,rfl⟩:=rx
 obtain ⟨t',rfl⟩:=ry
 have hline:W8=16777216:=rfl
 have c1:¬ k < 1:=by omega
 have c2:(k == 1 || z.length == 0)=false:=by
  simp
  omega
 refine PySem.P.mul_str (by simp; omega) (fun _ _=>?_) (fun _ _=>?_) ?_
 ·have hm:(z.length:Int) * k≤16777216:=by
   have:(z.length:Int) * k=((z.length * k.toNat:Nat):Int):=by rw [Int.natCast_mul,show (k.toNat:Int)=k by omega]
   rw [this]
   rw [hline] at hz
   omega
  have:(z.length:Int)≤(2 ^ 63 - 1) / k:=(Int.le_ediv_iff_mul_le (by omega)).mpr (by omega)
  omega
 ·unfold Builtin.Str.tooLong
  rw [hline] at hz
  generalize z.length * k.toNat=m at hz
  simp only [hline,decide_eq_false_iff_not]
  omega
 ·rw [if_neg c1,if_neg (by rw [c2]; simp)]
  have hsz:((W3 k.toNat z.cps).foldl (· ++ ·) #[]).size=k.toNat * z.length:=by
   have h:=z7r z.cps.toList k.toNat []
   simp only [WM,Array.toArray_toList] at h
   rw [h,Wf,z7m]
   simp [Str.length]
  exact ⟨by show ((W3 k.toNat z.cps).foldl (· ++ ·) #[]).size≤_; rw [hsz,Nat.mul_comm]; exact hz,.str _,H,I.tok _,⟨_,rfl⟩,q⟩
theorem z6z:∀ {xs:List Nat} {us:List Value},us.length=xs.length→(∀ (j n:Nat) (v:Value),xs[j]? = some n→us[j]? = some v→∃ w,v = .str ⟨#[n]⟩ w)→Vals (xs.map fun n=>V.str ⟨#[n]⟩) us
 | [],[],_,_=>.nil
 | [],u :: us,h,_=>by simp at h
 | x :: xs,[],h,_=>by simp at h
 | x :: xs,u :: us,h,k=>.cons (by obtain ⟨w,e⟩:=k 0 x u rfl rfl; exact ⟨w,e⟩) (z6z (by simpa using h) fun j n v h1 h2=>k (j + 1) n v (by simpa using h1) (by simpa using h2))
theorem z6t (hc:X.calm=true):CallR X (.type "list") (fun xs H Q=>∃ z:Str,xs=[.str z]∧z.cps.size≤W8∧∀ l,H l=none→Q (.ref l) (upd H l (.lst (z.cps.toList.map fun n=>V.str ⟨#[n]⟩)))):=by
 intro pins s σ H xs us Q I r h
 obtain ⟨z,rfl,hz,q⟩:=h
 obtain ⟨u,rfl,t,rfl⟩:=z4p r
 refine call_list_str (hn:=hz) (I.ok.hd hc) z t fun h' tk acc c' kp e hacc=>?_
 have hv:Vals (z.cps.toList.map fun n=>V.str ⟨#[n]⟩) acc.toList:=z6z (by simp [hacc.1]) fun j n v h1 h2=>by
  obtain ⟨c,w,h3,h4⟩:=hacc.2 j v (by simpa using h2)
  rw [show z.cps[j]? = some n by simpa using h1] at h3
  cases h3
  exact ⟨w,h4⟩
 exact ⟨.ref s.heap.objs.size,_,I.laid (t':=tk) kp (W7 _) (show ObjOk X.prog X.w _ h' _ (.lst _) from ⟨by simpa using hz,acc.toList,c',hv,by simpa using e⟩),rfl,q _ (I.hok.fresh (W7 _))⟩
end
end L2
namespace DV
open PySem PySem.Spec PyProof.Rows L2
def z4X:D→D→Option S
 | .int i,.int j=>pMul (.int i) (.int j)
 | .str x,.int k=>if 2≤k∧k≤1000000∧0 < x.length∧x.length * k.toNat≤W8 then some (.pure (.str (W3 k.toNat x).flatten)) else none
 | .tup xs,.int k=>if 2≤k∧k≤1000000∧0 < xs.length∧xs.length * k.toNat≤W8 then some (.pure (.tup (W3 k.toNat xs).flatten)) else none
 | _,_=>none
def zfy (K:W0):R2:=fun x y H Q=>rI CMul (fun i j=>V.int (i * j)) x y H Q∨zfw x y H Q∨zfv K x y H Q
theorem z7e:OpR X (Q7 .Mult) (zfy X.K):=op_mul.or (op_repS.or zeo)
theorem Reps.rep (h:Reps H O vs ds):∀ k:Nat,Reps H O (W3 k vs).flatten (W3 k ds).flatten
 | 0=>.nil
 | k + 1=>by rw [WW,WW,QG,QG]; exact h.append (Reps.rep h k)
theorem z7k {K:W0}:Op2 (zfy K) z4X:=by
 intro c σ δ H x y d e s Q k rx ry hp q
 cases d <;> cases e <;> first | (simp [z4X] at hp; done) | skip
 ·exact .inl (zg4 c σ δ H x y _ _ s Q k rx ry hp q)
 ·rename_i z n
  simp only [z4X] at hp
  split at hp
  ·rename_i h
   cases hp
   refine .inr (.inl ⟨toS z,n,rx.str,ry.int,h.1,h.2.1,by rw [z1O]; exact h.2.2.1,by rw [z1O]; exact h.2.2.2,?_⟩)
   have e:(⟨(W3 n.toNat (toS z).cps).foldl (· ++ ·) #[]⟩:Str)=toS (W3 n.toNat z).flatten:=by
    unfold toS
    congr 1
    have:=z7r z n.toNat []
    rw [WM] at this
    exact this
   rw [e]
   exact q _ H (.refl k) (.str _)
  ·cases hp
 ·rename_i ds n
  simp only [z4X] at hp
  split at hp
  ·rename_i h
   cases hp
   obtain ⟨a,vs,ex,ha,r⟩:=rx.tup
   refine .inr (.inr ⟨a,n,vs,ex,ry.int,.of ha,?_,h.1,h.2.1,by rw [r.1]; exact h.2.2.2,fun p hp'=>?_⟩)
   ·intro z
    rw [z] at r
    have:=r.1
    simp at this
    omega
   ·exact q _ _ (.alloc k hp' _) (RepS.newT k (Reps.rep r _) hp')
  ·cases hp
theorem RepS.newD (k:Ok c σ δ H) (hp:H p=none):RepS c σ δ H (upd H p (.dK [])) (.ref p) (.own (.dct [])):=by
 refine ⟨p,rfl,⟨[],z0y,rfl,fun i p q e=>by simp at e⟩,fun z=>k.nav hp (.inl z),k.fresh₀ hp,k.plus hp _,hp⟩
def zbq:DE:=fun δ=>.ok (.own (.dct [])) δ
theorem zbZ {X:Cx} {c:Fc} {pos:Pos}:SE X c (.Dict [] [] pos) zbq:=PE.weak zch fun σ H Q ⟨δ,k,q⟩=>fun p hp=>q _ _ (.alloc k hp _) (RepS.newD k hp)
def z7Q:D→Option S
 | .lst ds=>some (.own (.lst ds))
 | .tup ds=>some (.own (.lst ds))
 | .str x=>if x.length≤W8 then some (.own (.lst (x.map fun n=>.str [n]))) else none
 | _=>none
section
variable {X:Cx} {c:Fc} {e a x y:Expr} {fb:BE} {f g fa:DE} {pos pp p p2:Pos}
theorem z6B:∀ z:Tx,Reps H O (z.map fun n=>V.str ⟨#[n]⟩) (z.map fun n=>D.str [n])
 | []=>.nil
 | n :: r=>.cons (.str [n]) (z6B r)
theorem zbX (hc:X.calm=true) (hg:Gl X "list") (hm:X.mg "list" = none) (he:SB X c e fb) (hs:z47 e=true:=by rfl):SE X c (.Call (.Name "list" pp) [e] [] pos) (eC1 z7Q fb) :=
 z2V (r:=fun v H Q=>(∃ p ys,v = .ref p∧(SqL X.K H p ys∨SqT X.K H p ys)∧∀ l,H l=none→Q (.ref l) (upd H l (.lst ys)))∨∃ z:Str,v = .str z∧z.cps.size≤W8∧∀ l,H l=none→Q (.ref l) (upd H l (.lst (z.cps.toList.map fun n=>V.str ⟨#[n]⟩))))
  (call_list_of.or (z6t hc)) (fun v H Q h=>by
   rcases h with ⟨p,ys,e,h⟩ | ⟨z,e,h⟩
   ·exact .inl ⟨p,ys,by rw [e],h⟩
   ·exact .inr ⟨z,by rw [e],h⟩)
  (fun c σ δ H x d s Q k rx hp q=>by
   cases d with
   | lst ds =>
    cases hp
    obtain ⟨a,vs,ex,ha,r⟩:=rx.lst
    exact .inl ⟨a,vs,ex,.inl (.inl ha),fun l hl=>q _ _ (.alloc k hl _) (RepS.newL k r hl)⟩
   | tup ds =>
    cases hp
    obtain ⟨a,vs,ex,ha,r⟩:=rx.tup
    exact .inl ⟨a,vs,ex,.inr (.of ha),fun l hl=>q _ _ (.alloc k hl _) (RepS.newL k r hl)⟩
   | str z =>
    simp only [z7Q] at hp
    split at hp
    ·rename_i hz
     cases hp
     refine .inr ⟨toS z,rx.str,by simpa [toS] using hz,fun l hl=>?_⟩
     have:(toS z).cps.toList=z:=by simp [toS]
     rw [this]
     exact q _ _ (.alloc k hl _) (RepS.newL k (z6B z) hl)
    ·cases hp
   | _=>simp [z7Q] at hp) hg hm PyProof.Rows.boot_list he (by decide) (by decide) (z4Q hs)
def eInR (neg:Bool) (fa f g:DE):DE:=fun δ=>(fa δ).bind fun v δ1=>(f δ1).bind fun lo δ2=>(g δ2).bind fun hi δ3=>match v.d,lo.d,hi.d with
 | .int i,.int l,.int h=>.ok (.pure (.bl (if neg then !(decide (l≤i) && decide (i < h)) else (decide (l≤i) && decide (i < h))))) δ3
 | _,_,_=>.stuck
def pInS (neg:Bool):D→D→Option S
 | .str [n],.str y=>some (.pure (.bl (if neg then !decide (n ∈ y) else decide (n ∈ y))))
 | _,_=>none
theorem zdf:Op2 (fun x y H Q=>∃ i j,x = .str i∧y = .str j∧Q (.bl (!(Qc j i 0 j.length 1).isEmpty)) H) (pInS false):=by
 intro c σ δ H x y d e s Q k rx ry hp q
 unfold pInS at hp
 split at hp
 ·rename_i n z
  cases hp
  refine ⟨toS [n],toS z,rx.str,ry.str,?_⟩
  rw [show toS [n] = ⟨#[n]⟩ from rfl,PySem.StrLaws.found_one,show (toS z).cps.toList=z by simp [toS]]
  exact q _ H (.refl k) (.bl _)
 ·cases hp
theorem zaT:Op2 (fun x y H Q=>∃ i j,x = .str i∧y = .str j∧Q (.bl (!(!(Qc j i 0 j.length 1).isEmpty))) H) (pInS true):=by
 intro c σ δ H x y d e s Q k rx ry hp q
 unfold pInS at hp
 split at hp
 ·rename_i n z
  cases hp
  refine ⟨toS [n],toS z,rx.str,ry.str,?_⟩
  rw [show toS [n] = ⟨#[n]⟩ from rfl,PySem.StrLaws.found_one,show (toS z).cps.toList=z by simp [toS]]
  exact q _ H (.refl k) (.bl _)
 ·cases hp
end
end DV
set_option maxHeartbeats 1000000
namespace L2
open PySem PySem.Spec PyProof.Rows
theorem z3v:entryFor table "dict.update.loop" = some Builtin.«dict.update.loop»:=entryFor_of_tree (by kernel_rfl)
theorem z1l:plainId "dict.update.loop" = true:=by decide +kernel
theorem z5W:typeLookup (.type "tuple") "keys" = pure none:=by rw [typeLookup_type,builtinLookup_eq_fast]; kernel_rfl
theorem z6o:typeLookup (.type "list") "keys" = pure none:=by rw [typeLookup_type,builtinLookup_eq_fast]; kernel_rfl
set_option maxRecDepth 8000 in
theorem z85
  (hx:s.heap.get? a=some o) (hc:o.cls = .type "tuple") (hdat:o.data = .seq xs k) (hd:o.dict=none) (hA:A.handled=none)
  (h:∀ h' tk,(∀ b ob,s.heap.get? b=some ob→h'.get? b=some ob)→Q none { s with heap:=h',toks:=tk }) :
  Wa (model prog w) A (getAttr? (.ref a) "keys") Q E s:=by
 obtain ⟨c,dct,dat,sl⟩:=o
 simp only at hc hdat hd
 subst hc hdat hd
 obtain ⟨hp,g,d,tk,os⟩:=s
 have hT:∀ tk',(⟨hp,g,d,tk',os⟩:W2).TypeIs (.ref a) "tuple":=fun _=>⟨_,hx,rfl⟩
 have f1:=sub_AttributeError
 have f3:=F.slot_tuple_getattribute.lookup
 have f4:=F.slot_tuple_getattribute.bind (.ref a)
 have f5:=am_tuple_getattr_none
 have hmiss:=z5W
 unfold getAttr? getAttrBy? getAttrBy
 repeat (any_goals (first | assumption | exact hT _ | ((with_reducible show Wa _ _ (call (Value.builtin "tuple.__getattribute__") _ _) _ _ _); refine Qm F.slot_tuple_getattribute (hT _) am_entry_tuple_getattribute (F.args_tuple_getattribute_2 _ _) (meets_getattribute_miss_tuple a xs k sl "keys" _ hmiss (by decide +kernel)) ⟨hx,hA,fun h' tk' e hx'=>?_⟩) | wp_step))
 obtain ⟨t',u',he⟩:=hx'.there
 show Wa _ _ (Jo _ _ _ _ _ _ _) _ _ _
 unfold Jo
 repeat (any_goals (first | assumption | wp_step))
 exact h _ _ hx'.keeps
set_option maxRecDepth 8000 in
theorem z8N
  (hx:s.heap.get? a=some o) (hc:o.cls = .type "list") (hdat:o.data = .seq xs k) (hd:o.dict=none) (hA:A.handled=none)
  (h:∀ h' tk,(∀ b ob,s.heap.get? b=some ob→h'.get? b=some ob)→Q none { s with heap:=h',toks:=tk }) :
  Wa (model prog w) A (getAttr? (.ref a) "keys") Q E s:=by
 obtain ⟨c,dct,dat,sl⟩:=o
 simp only at hc hdat hd
 subst hc hdat hd
 obtain ⟨hp,g,d,tk,os⟩:=s
 have hT:∀ tk',(⟨hp,g,d,tk',os⟩:W2).TypeIs (.ref a) "list":=fun _=>⟨_,hx,rfl⟩
 have f1:=sub_AttributeError
 have f3:=F.slot_list_getattribute.lookup
 have f4:=F.slot_list_getattribute.bind (.ref a)
 have f5:=am_list_getattr_none
 have hmiss:=z6o
 unfold getAttr? getAttrBy? getAttrBy
 repeat (any_goals (first | assumption | exact hT _ | ((with_reducible show Wa _ _ (call (Value.builtin "list.__getattribute__") _ _) _ _ _); refine Qm F.slot_list_getattribute (hT _) am_entry_list_getattribute (F.args_list_getattribute_2 _ _) (meets_getattribute_miss_list a xs k sl "keys" _ hmiss (by decide +kernel)) ⟨hx,hA,fun h' tk' e hx'=>?_⟩) | wp_step))
 obtain ⟨t',u',he⟩:=hx'.there
 show Wa _ _ (Jo _ _ _ _ _ _ _) _ _ _
 unfold Jo
 repeat (any_goals (first | assumption | wp_step))
 exact h _ _ hx'.keeps
def z20 (kps:List (Key×V)) (acc:List (Key×V)):List (Key×V):=kps.foldl (fun a kv=>putK a kv.1 kv.2) acc
theorem zbr {prog:Wk} {w:Wr} {A:Wp} {R:Result→W2→Prop} {s:W2} {dl it:Addr} {i:Int} {t0:Tok}
  (hn:Wa (model prog w) A.in1 (pyNext (.ref it)) (fun r s1=>∃ (q:Addr) (k v:Value) (n:Nat),r=some (.ref q)∧s1.heap.get? q=some { cls:=.type "tuple",dict:=none,data:=.seq #[k,v] n,slots:=#[] } ∧
   Wa (model prog w) A.in1 (dictSet dl k v) (fun _ s2=>QA (model prog w) A (.builtin "dict.update.loop" ⟨[.ref dl,.ref it,Qj (i + 1),.none],[]⟩) R s2) (fun _ _=>False) s1) (fun _ _=>False) s) :
  QA (model prog w) A (.builtin "dict.update.loop" ⟨[.ref dl,.ref it,.int i t0,.none],[]⟩) R s:=by
 refine codeAny_builtin z3v ?_
 rw [Around.under_plainId z1l _]
 show Wa _ A.in1 (pyNext (.ref it) >>= _) _ _ s
 refine W1 (WO hn (fun r s1 hr=>?_) fun _ _ z=>z.elim)
 obtain ⟨q,k,v,n,rfl,hq,hd⟩:=hr
 dsimp only
 refine W1 ?_
 try with_reducible refine WX ?_
 refine W1 (wpAny_tryCatch ?_)
 have hT:s1.TypeIs (.ref q) "tuple":=⟨_,hq,rfl⟩
 unfold Builtin.Dict.pairItems
 refine W1 (J5 hT ?_)
 rw [if_pos (by decide)]
 refine W1 ?_
 unfold seqItems?
 refine W1 (wpAny_load hq (Wd ?_))
 refine Wd ?_
 show Wa _ A.in1 (holding [k,v] (dictSet dl k v)) _ _ s1
 try with_reducible refine WX ?_
 refine WO hd (fun _ s2 h2=>?_) fun _ _ z=>z.elim
 exact Wd ⟨plainId_quiet z1l _,h2⟩
theorem zbs {prog:Wk} {w:Wr} {A:Wp} {R:Result→W2→Prop} {s:W2} {dl it:Addr} {i:Int} {t0:Tok}
  (hn:Wa (model prog w) A.in1 (pyNext (.ref it)) (fun r s1=>r=none∧R (.ok (.ret .none)) s1) (fun _ _=>False) s) :
  QA (model prog w) A (.builtin "dict.update.loop" ⟨[.ref dl,.ref it,.int i t0,.none],[]⟩) R s:=by
 refine codeAny_builtin z3v ?_
 rw [Around.under_plainId z1l _]
 show Wa _ A.in1 (pyNext (.ref it) >>= _) _ _ s
 refine W1 (WO hn (fun r s1 hr=>?_) fun _ _ z=>z.elim)
 obtain ⟨rfl,hd⟩:=hr
 dsimp only
 show Wa _ A.in1 (Builtin.Dict.addKeywords dl [] >>= _) _ _ s1
 exact W1 (Wd (Wd hd))
section
variable {X:Cx} {pins:List (Addr×Obj)} {σ:St} {H:Hp}
theorem Rd.sub (h:Rd H a u) (k:∀ b o,H b=some o→H' b=some o):Rd H' a u:=by
 rcases h with h | ⟨o,h⟩
 ·exact .inl (k _ _ h)
 ·exact .inr ⟨o,k _ _ h⟩
def z7z (H:Hp) (ys:List V) (kps:List (Key×V)):Prop:=ys.length=kps.length∧∀ (i:Nat) y kv,ys[i]? = some y→kps[i]? = some kv→∃ q,y = .ref q∧H q=some (.tup [kV kv.1,kv.2])
theorem z4D:∀ (kps acc:List (Key×V)),(z20 kps acc).length≤acc.length + kps.length
 | [],acc=>W7 _
 | kv :: r,acc=>by
  have h1:=z4D r (putK acc kv.1 kv.2)
  have h2:=z5Y acc kv.1 kv.2
  show (z20 r (putK acc kv.1 kv.2)).length≤_
  simp only [Ws]
  omega
theorem z8G (kps:List (Key×V)) (kv:Key×V) (acc:List (Key×V)):z20 (kps ++ [kv]) acc=putK (z20 kps acc) kv.1 kv.2:=by
 unfold z20
 rw [List.foldl_append]
 rfl
theorem z8l {A:Wp} {R:Result→W2→Prop} {dl it:Addr} {ys:List V} {kps:List (Key×V)} {tn:Nat→Heap→Prop} (hP:z7z H ys kps) (hdl:H dl=none) (hz:kps.length≤W8)
  (item:∀ (i:Nat) (y:V) (H':Hp) (s:W2) (Q:Option Value→W2→Prop),(∀ b o,H b=some o→H' b=some o)→H' it=none→Inv X pins σ H' s→tn i s.heap→ys[i]? = some y→(∀ u s',RelV y u→Inv X pins σ H' s'→tn (i + 1) s'.heap→Q (some u) s')→Wa (model X.prog X.w) A.in1 (pyNext (.ref it)) Q (fun _ _=>False) s)
  (done:∀ (H':Hp) (s:W2) (Q:Option Value→W2→Prop),(∀ b o,H b=some o→H' b=some o)→H' it=none→Inv X pins σ H' s→tn ys.length s.heap→(∀ s',Inv X pins σ H' s'→Q none s')→Wa (model X.prog X.w) A.in1 (pyNext (.ref it)) Q (fun _ _=>False) s)
  (keep:∀ (i:Nat) (h h':Heap),tn i h→(∀ o,h.get? it=some o→h'.get? it=some o)→tn i h') (hit:H it=none) (hne:it≠dl) (hR:∀ s',Inv X pins σ (upd H dl (.dK (z20 kps []))) s'→R (.ok (.ret .none)) s') :
  ∀ (k i:Nat) (s:W2) (j:Int) (t0:Tok),ys.length - i=k→i≤ys.length→Inv X pins σ (upd H dl (.dK (z20 (kps.take i) []))) s→tn i s.heap →
   QA (model X.prog X.w) A (.builtin "dict.update.loop" ⟨[.ref dl,.ref it,.int j t0,.none],[]⟩) R s:=by
 have up:∀ (acc:List (Key×V)) b o,H b=some o→upd H dl (.dK acc) b=some o:=fun acc b o e=>by rw [z0q (z0L e hdl)]; exact e
 have nit:∀ acc:List (Key×V),upd H dl (.dK acc) it=none:=fun acc=>by rw [z0q hne]; exact hit
 intro k
 induction k with
 | zero =>
  intro i s j t0 hk hi I st
  have e:i=ys.length:=by omega
  subst e
  rw [hP.1,List.take_of_length_le (W7 _)] at I
  refine zbs (done _ s _ (up _) (nit _) I st fun s' I'=>⟨rfl,hR s' I'⟩)
 | succ k ih =>
  intro i s j t0 hk hi I st
  have hlt:i < ys.length:=by omega
  have hlk:i < kps.length:=by rw [← hP.1]; exact hlt
  obtain ⟨q,ey,hq⟩:=hP.2 i ys[i] kps[i] (by simp [hlt]) (by simp [hlk])
  -- the item is a tuple of two
  have main:∀ s1,Inv X pins σ (upd H dl (.dK (z20 (kps.take i) []))) s1→tn (i + 1) s1.heap→∃ (kk vv:Value) (n:Nat),s1.heap.get? q=some { cls:=.type "tuple",dict:=none,data:=.seq #[kk,vv] n,slots:=#[] }∧RelV (kV kps[i].1) kk∧RelV kps[i].2 vv:=fun s1 I1 _=>by
   obtain ⟨_,its,r,n,e⟩:=(show ObjOk X.prog X.w _ s1.heap q (.tup [kV kps[i].1,kps[i].2]) from I1.hok q _ (up _ q _ hq))
   obtain ⟨u,v,rfl,r1,r2⟩:=Vals.two r
   exact ⟨u,v,n,e,r1,r2⟩
  refine zbr (item i ys[i] _ s _ (up _) (nit _) I st (by simp [hlt]) fun u s' ru I' st'=>?_)
  rw [ey] at ru
  cases ru
  obtain ⟨kk,vv,n,e,r1,r2⟩:=main s' I' st'
  refine ⟨q,kk,vv,n,rfl,e,?_⟩
  obtain ⟨z,hd,vs,rel,dd⟩:=dk_of I'.hok z0y
  have hvs:vs.length≤W8:=by rw [← rel.length]; exact z
  have hl:(putK (z20 (kps.take i) []) kps[i].1 kps[i].2).length≤W8:=by
   have h1:=z5Y (z20 (kps.take i) []) kps[i].1 kps[i].2
   have h2:=z4D (kps.take i) []
   simp at h2
   omega
  refine wpAny_dictSet_pairs (hsz:=hvs) (zcD r1) dd fun h' dd' hs=>?_
  have he:∃ q,h'.get? dl=some q:=let ⟨q,_,_,hq,_⟩:=dd'; ⟨q,hq⟩
  have I2:=zeN (t':=s'.toks + 1) I' (by rw [z0y]; exact True.intro) hs he (zgD hl hd (rel.put kps[i].1 r2) dd')
  rw [zdu] at I2
  have et:kps.take (i + 1)=kps.take i ++ [kps[i]]:=by rw [List.take_add_one]; simp [hlk]
  rw [show putK (z20 (kps.take i) []) kps[i].1 kps[i].2=z20 (kps.take (i + 1)) [] by rw [et,z8G]] at I2
  exact ih (i + 1) _ (j + 1) _ (by omega) hlt I2 (keep (i + 1) _ _ st' fun o eo=>(hs.2 it hne).trans eo)
theorem z6f (hc:X.calm=true):CallR X (.type "dict") (fun xs H Q=>∃ p ys kps,xs=[.ref p]∧(H p=some (.tup ys)∨Rd H p (.lst ys))∧z7z H ys kps∧kps.length≤W8∧∀ l,H l=none→Q (.ref l) (upd H l (.dK (z20 kps [])))):=by
 intro pins s σ H xs us Q I r h
 obtain ⟨p,ys,kps,rfl,hp,hP,hz,q⟩:=h
 obtain ⟨u,rfl,rx⟩:=z4p r
 cases rx
 have hA:X.A.handled=none:=I.ok.hd hc
 refine callType_codes (Q₁:=fun obj s₁=>obj = .ref s.heap.objs.size∧s₁ = { s with heap:=s.heap.push { cls:=.type "dict",data:=.dict #[] } }) F.kt_called_dict (F.kt_typeCall_dict_1 _) F.entry_dict_init (kt_code_dict_new _ ⟨rfl,rfl⟩) ?_
 rintro obj s₁ ⟨rfl,rfl⟩
 have hdl:H s.heap.objs.size=none:=I.hok.fresh (W7 _)
 have I1:Inv X pins σ (upd H s.heap.objs.size (.dK [])) { s with heap:=s.heap.push { cls:=.type "dict",data:=.dict #[] } }:=I.laid (t':=s.toks) (fun _ _ q=>W6 _ q) (W7 _) (z9v s.heap I.big)
 generalize hdd:s.heap.objs.size=dl at hdl I1
 have up:∀ (acc:List (Key×V)) b o,H b=some o→upd H dl (.dK acc) b=some o:=fun acc b o e=>by rw [z0q (z0L e hdl)]; exact e
 have hTd:({ s with heap:=s.heap.push { cls:=.type "dict",data:=.dict #[] } }:W2).TypeIs (.ref dl) "dict":=⟨_,by rw [← hdd]; exact Wm _ rfl,rfl⟩
 refine ⟨hTd,F.args_dict_init_2 _ _,?_⟩
 unfold Builtin.«dict.__init__»
 refine W1 ?_
 unfold Builtin.Dict.selfAndRest
 refine W1 (wpAny_notOrdered_dict hTd ?_)
 show Wa _ _ (pure (dl,[Value.ref p])) _ _ _
 refine Wd ?_
 show Wa _ _ (Builtin.Dict.updateFrom "dict.__init__" dl (.ref p) [] .none) _ _ _
 unfold Builtin.Dict.updateFrom
 have fin:∀ s',Inv X pins σ (upd H dl (.dK (z20 kps []))) s'→EP X pins σ Q (.ref dl) s':=fun s' I'=>⟨.ref dl,_,I',rfl,q dl hdl⟩
 rcases hp with hp | hp
 ·obtain ⟨_,its,r,n,e⟩:=(show ObjOk X.prog X.w _ (s.heap.push { cls:=.type "dict",data:=.dict #[] }) p (.tup ys) from I1.hok p _ (up _ p _ hp))
  refine W1 (J5 ⟨_,e,rfl⟩ ?_)
  rw [if_pos (by decide)]
  refine W1 (z85 e rfl rfl rfl hA fun h' tk kp=>?_)
  rw [if_pos (show (none:Option Value).isNone=true from rfl)]
  refine W1 (Jr ?_)
  have I2:Inv X pins σ (upd H dl (.dK [])) { s with heap:=h',toks:=tk }:=I1.kept kp
  have isT:h'.IsTuple p its.toArray:=⟨_,kp _ _ e,rfl,n,rfl⟩
  refine W1 (J0 (s:={ s with heap:=h',toks:=tk }) isT ?_)
  refine Wd ⟨plainId_quiet z1l _,?_⟩
  have hfr:upd H dl (.dK []) h'.objs.size=none:=I2.hok.fresh (W7 _)
  have hne:h'.objs.size≠dl:=fun z=>by rw [z,z0y] at hfr; cases hfr
  have hit:H h'.objs.size=none:=by rw [z0q hne] at hfr; exact hfr
  have fp:∀ H':Hp,H' h'.objs.size=none→FpOk X pins H' h'.objs.size:=fun H' hn=>I2.fpOk (W7 _) hn
  refine z8l (X:=X) (pins:=pins) (σ:=σ) (H:=H) (dl:=dl) (it:=h'.objs.size) (ys:=ys) (kps:=kps) (tn:=fun i h=>h.IsTupleIter h'.objs.size p i) hP hdl hz ?_ ?_ (fun i h h2 st k=>st.at k) hit hne (fun s' I'=>⟨rfl,fin s' I'⟩) ys.length 0 _ 0 _ (Nat.sub_zero _) (QL _) ?_ ?_
  ·intro i y H' s' Q' sub hn I' st hy k
   obtain ⟨_,its2,r2,n2,e2⟩:=(show ObjOk X.prog X.w _ s'.heap p (.tup ys) from I'.hok p _ (sub p _ hp))
   obtain ⟨v,hv,rv⟩:=r2.get hy
   obtain ⟨f0,f1,f2,f3,f4,f5⟩:=fp H' hn
   refine wpAny_pyNext_tuple_item st (items:=its2.toArray) ⟨_,e2,rfl,n2,rfl⟩ (x:=v) (by simpa using hv) fun h3 st3 sb=>?_
   exact k v { s' with heap:=h3 } rv (I'.turned (t':=s'.toks) (fun b o hb e=>(sb.2 b hb).trans e) f0 f1 f3 f4 f5) st3
  ·intro H' s' Q' sub hn I' st k
   obtain ⟨_,its2,r2,n2,e2⟩:=(show ObjOk X.prog X.w _ s'.heap p (.tup ys) from I'.hok p _ (sub p _ hp))
   obtain ⟨f0,f1,f2,f3,f4,f5⟩:=fp H' hn
   have hl2:=r2.length
   exact wpAny_pyNext_tuple_end (show X.A.in1.in1.handled=none from hA) st (items:=its2.toArray) ⟨_,e2,rfl,n2,rfl⟩ (by simp; omega) fun h3 eb=>k { s' with heap:=h3 } (I'.turned (t':=s'.toks) (fun b o hb e=>eb b o hb e) f0 f1 f3 f4 f5)
  ·exact I2.kept (t':=tk) fun b o e=>W6 _ e
  ·exact ⟨_,Wm _ rfl,rfl,rfl⟩
 ·obtain ⟨_,its,n,r,e⟩:=(show ObjOk X.prog X.w _ (s.heap.push { cls:=.type "dict",data:=.dict #[] }) p (.lst ys) from (Rd.sub hp (up _)).ok I1.hok)
  refine W1 (J5 ⟨_,e,rfl⟩ ?_)
  rw [if_pos (by decide)]
  refine W1 (z8N e rfl rfl rfl hA fun h' tk kp=>?_)
  rw [if_pos (show (none:Option Value).isNone=true from rfl)]
  refine W1 (Jr ?_)
  have I2:Inv X pins σ (upd H dl (.dK [])) { s with heap:=h',toks:=tk }:=I1.kept kp
  have isT:h'.IsList p its.toArray:=⟨_,kp _ _ e,rfl,n,rfl⟩
  refine W1 (QH (s:={ s with heap:=h',toks:=tk }) isT ?_)
  refine Wd ⟨plainId_quiet z1l _,?_⟩
  have hfr:upd H dl (.dK []) h'.objs.size=none:=I2.hok.fresh (W7 _)
  have hne:h'.objs.size≠dl:=fun z=>by rw [z,z0y] at hfr; cases hfr
  have hit:H h'.objs.size=none:=by rw [z0q hne] at hfr; exact hfr
  have fp:∀ H':Hp,H' h'.objs.size=none→FpOk X pins H' h'.objs.size:=fun H' hn=>I2.fpOk (W7 _) hn
  refine z8l (X:=X) (pins:=pins) (σ:=σ) (H:=H) (dl:=dl) (it:=h'.objs.size) (ys:=ys) (kps:=kps) (tn:=fun i h=>h.IsListIter h'.objs.size p i) hP hdl hz ?_ ?_ (fun i h h2 st k=>st.at k) hit hne (fun s' I'=>⟨rfl,fin s' I'⟩) ys.length 0 _ 0 _ (Nat.sub_zero _) (QL _) ?_ ?_
  ·intro i y H' s' Q' sub hn I' st hy k
   obtain ⟨_,its2,n2,r2,e2⟩:=(show ObjOk X.prog X.w _ s'.heap p (.lst ys) from (Rd.sub hp sub).ok I'.hok)
   obtain ⟨v,hv,rv⟩:=r2.get hy
   obtain ⟨f0,f1,f2,f3,f4,f5⟩:=fp H' hn
   refine wpAny_pyNext_list_item st (items:=its2.toArray) ⟨_,e2,rfl,n2,rfl⟩ (x:=v) (by simpa using hv) fun h3 st3 sb=>?_
   exact k v { s' with heap:=h3 } rv (I'.turned (t':=s'.toks) (fun b o hb e=>(sb.2 b hb).trans e) f0 f1 f3 f4 f5) st3
  ·intro H' s' Q' sub hn I' st k
   obtain ⟨_,its2,n2,r2,e2⟩:=(show ObjOk X.prog X.w _ s'.heap p (.lst ys) from (Rd.sub hp sub).ok I'.hok)
   obtain ⟨f0,f1,f2,f3,f4,f5⟩:=fp H' hn
   have hl2:=r2.length
   exact wpAny_pyNext_list_end (show X.A.in1.in1.handled=none from hA) st (items:=its2.toArray) ⟨_,e2,rfl,n2,rfl⟩ (by simp; omega) fun h3 eb=>k { s' with heap:=h3 } (I'.turned (t':=s'.toks) (fun b o hb e=>eb b o hb e) f0 f1 f3 f4 f5)
  ·exact I2.kept (t':=tk) fun b o e=>W6 _ e
  ·exact ⟨_,Wm _ rfl,rfl,rfl⟩
end
end L2
set_option maxHeartbeats 400000
namespace DV
open PySem PySem.Spec PyProof.Rows L2
def valD (kvs:List (DKey×D)) (k:DKey):Option D:=(kvs.find? fun kv=>decide (kv.1=k)).map (·.2)
def putD (kvs:List (DKey×D)) (k:DKey) (v:D):List (DKey×D) :=
 if (kvs.any fun kv=>decide (kv.1=k))=true then kvs.map (fun kv=>if kv.1=k then (kv.1,v) else kv) else kvs ++ [(k,v)]
def z8F (kps acc:List (DKey×D)):List (DKey×D):=kps.foldl (fun a kv=>putD a kv.1 kv.2) acc
theorem zey (h:kOf k=kOf j):k=j:=by
 cases k <;> cases j <;> simp [kOf] at h
 ·rw [h]
 ·rw [z6V h]
def DR (H:Hp) (O:Addr→Prop):List (Key×V)→List (DKey×D)→Prop
 | [],[]=>True
 | p :: ws,q :: ds=>p.1=kOf q.1∧Rep H O p.2 q.2∧DR H O ws ds
 | _,_=>False
section
variable {H H':Hp} {O O':Addr→Prop}
theorem DR.of:∀ {ws:List (Key×V)} {ds:List (DKey×D)},ws.map (·.1)=ds.map (fun p=>kOf p.1)→(∀ (i:Nat) p q,ws[i]? = some p→ds[i]? = some q→Rep H O p.2 q.2)→DR H O ws ds
 | [],[],_,_=>trivial
 | [],_ :: _,h,_=>by simp at h
 | _ :: _,[],h,_=>by simp at h
 | p :: ws,q :: ds,h,k=>by
  simp only [WB,List.cons.injEq] at h
  exact ⟨h.1,k 0 p q rfl rfl,DR.of h.2 fun i p' q' e1 e2=>k (i + 1) p' q' (by simpa using e1) (by simpa using e2)⟩
theorem DR.keys:∀ {ws:List (Key×V)} {ds:List (DKey×D)},DR H O ws ds→ws.map (·.1)=ds.map (fun p=>kOf p.1)
 | [],[],_=>rfl
 | [],_ :: _,h=>h.elim
 | _ :: _,[],h=>h.elim
 | p :: ws,q :: ds,h=>by simp only [WB,h.1,DR.keys h.2.2]
theorem DR.vals:∀ {ws:List (Key×V)} {ds:List (DKey×D)},DR H O ws ds→∀ (i:Nat) p q,ws[i]? = some p→ds[i]? = some q→Rep H O p.2 q.2
 | [],[],_,i,p,q,e,_=>by simp at e
 | [],_ :: _,h,_,_,_,_,_=>h.elim
 | _ :: _,[],h,_,_,_,_,_=>h.elim
 | p :: ws,q :: ds,h,i,p',q',e1,e2=>by
  cases i with
  | zero=>simp at e1 e2; subst e1 e2; exact h.2.1
  | succ i=>exact DR.vals h.2.2 i p' q' (by simpa using e1) (by simpa using e2)
theorem DR.map:∀ {ws:List (Key×V)} {ds:List (DKey×D)},DR H O ws ds→(∀ v d,Rep H O v d→Rep H' O' v d)→DR H' O' ws ds
 | [],[],_,_=>trivial
 | [],_ :: _,h,_=>h.elim
 | _ :: _,[],h,_=>h.elim
 | p :: ws,q :: ds,h,k=>⟨h.1,k _ _ h.2.1,DR.map h.2.2 k⟩
theorem z4c (h:p=kOf q):(p=kOf k) ↔ q=k:=⟨fun e=>zey (by rw [← h]; exact e),fun e=>by rw [h,e]⟩
theorem DR.any:∀ {ws:List (Key×V)} {ds:List (DKey×D)} (k:DKey),DR H O ws ds→(ws.any fun kv=>decide (kv.1=kOf k))=ds.any fun kv=>decide (kv.1=k)
 | [],[],_,_=>rfl
 | [],_ :: _,_,h=>h.elim
 | _ :: _,[],_,h=>h.elim
 | p :: ws,q :: ds,k,h=>by
  rw [Q2,Q2,DR.any k h.2.2]
  congr 1
  exact decide_eq_decide.mpr (z4c h.1)
theorem DR.val:∀ {ws:List (Key×V)} {ds:List (DKey×D)} (k:DKey),DR H O ws ds→(valD ds k=none∧valV ws (kOf k)=none)∨∃ v d,valD ds k=some d∧valV ws (kOf k)=some v∧Rep H O v d
 | [],[],_,_=>.inl ⟨rfl,rfl⟩
 | [],_ :: _,_,h=>h.elim
 | _ :: _,[],_,h=>h.elim
 | p :: ws,q :: ds,k,h=>by
  by_cases e:q.1=k
  ·have e':=(z4c h.1).mpr e
   exact .inr ⟨p.2,q.2,by simp [valD,Qu,e],z6R e',h.2.1⟩
  ·have e':¬ p.1=kOf k:=fun z=>e ((z4c h.1).mp z)
   have ev:valD (q :: ds) k=valD ds k:=by simp [valD,Qu,e]
   rw [ev,z6S e']
   exact DR.val k h.2.2
theorem DR.append:∀ {ws ws':List (Key×V)} {ds ds':List (DKey×D)},DR H O ws ds→DR H O ws' ds'→DR H O (ws ++ ws') (ds ++ ds')
 | [],_,[],_,_,h'=>h'
 | [],_,_ :: _,_,h,_=>h.elim
 | _ :: _,_,[],_,h,_=>h.elim
 | p :: ws,_,q :: ds,_,h,h'=>⟨h.1,h.2.1,DR.append h.2.2 h'⟩
theorem DR.store:∀ {ws:List (Key×V)} {ds:List (DKey×D)} {k:DKey} {v:V} {d:D},DR H O ws ds→Rep H O v d→DR H O (ws.map fun kv=>if kv.1=kOf k then (kv.1,v) else kv) (ds.map fun kv=>if kv.1=k then (kv.1,d) else kv)
 | [],[],_,_,_,_,_=>trivial
 | [],_ :: _,_,_,_,h,_=>h.elim
 | _ :: _,[],_,_,_,h,_=>h.elim
 | p :: ws,q :: ds,k,v,d,h,r=>by
  refine ⟨?_,?_,DR.store h.2.2 r⟩
  ·by_cases e:q.1=k
   ·dsimp only; rw [if_pos ((z4c h.1).mpr e),if_pos e]; exact h.1
   ·dsimp only; rw [if_neg fun z=>e ((z4c h.1).mp z),if_neg e]; exact h.1
  ·by_cases e:q.1=k
   ·dsimp only; rw [if_pos ((z4c h.1).mpr e),if_pos e]; exact r
   ·dsimp only; rw [if_neg fun z=>e ((z4c h.1).mp z),if_neg e]; exact h.2.1
theorem DR.put (h:DR H O ws ds) (r:Rep H O v d):DR H O (putK ws (kOf k) v) (putD ds k d):=by
 unfold putK putD
 rw [DR.any k h]
 split
 ·exact DR.store h r
 ·exact DR.append h ⟨rfl,r,trivial⟩
theorem DR.puts:∀ {kps:List (Key×V)} {dps:List (DKey×D)} {ws:List (Key×V)} {ds:List (DKey×D)},DR H O kps dps→DR H O ws ds→DR H O (z20 kps ws) (z8F dps ds)
 | [],[],_,_,_,h=>h
 | [],_ :: _,_,_,h,_=>h.elim
 | _ :: _,[],_,_,h,_=>h.elim
 | p :: kps,q :: dps,ws,ds,h,h'=>by
  show DR H O (z20 kps (putK ws p.1 p.2)) (z8F dps (putD ds q.1 q.2))
  rw [h.1]
  exact DR.puts h.2.2 (DR.put h' h.2.1)
end
def keyD:D→Option DKey
 | .int i=>some (.inl i)
 | .str x=>some (.inr x)
 | _=>none
theorem zat (h:keyD d=some k) (r:Rep H O v d):v=kV (kOf k):=by
 cases d <;> simp [keyD] at h <;> subst h <;> cases r <;> rfl
theorem zc1 (h:keyD d=some k) (r:RepB c σ δ H v d):v=kV (kOf k):=by
 rcases r with r | ⟨a,rfl,r⟩
 ·exact zat h r
 ·cases d <;> simp [keyD] at h <;> exact r.elim
def z3S:List D→Option (List (DKey×D))
 | []=>some []
 | .tup [k,v] :: r=>match keyD k,z3S r with
  | some k',some r'=>some ((k',v) :: r')
  | _,_=>none
 | _ :: _=>none
def z46:D→Option S
 | .lst ds=>(z3S ds).bind fun ps=>if ps.length≤W8 then some (.own (.dct (z8F ps []))) else none
 | .tup ds=>(z3S ds).bind fun ps=>if ps.length≤W8 then some (.own (.dct (z8F ps []))) else none
 | _=>none
theorem z7b:∀ {ds:List D} {vs:List V} {ps:List (DKey×D)},z3S ds=some ps→Reps H O vs ds→∃ kps,z7z H vs kps∧DR H O kps ps∧kps.length=ps.length
 | [],[],ps,h,_=>by
  simp [z3S] at h
  subst h
  exact ⟨[],⟨rfl,fun i y kv e=>by simp at e⟩,trivial,rfl⟩
 | [],_ :: _,_,_,r=>by have:=r.1; simp at this
 | _ :: _,[],_,_,r=>by have:=r.1; simp at this
 | d :: ds,v :: vs,ps,h,r=>by
  unfold z3S at h
  split at h
  ·rename_i heq; cases heq
  ·rename_i k w r' heq
   cases heq
   split at h
   ·rename_i k' r'' hk hr
    cases h
    obtain ⟨kps,hP,hD,hL⟩:=z7b hr r.tail
    have rp:=r.head
    cases rp with
    | tup h1 h2 h3 h4 =>
     rename_i a us
     match us,h3,h4,h2 with
     | [x,y],_,h4,h2 =>
      have rk:=h4 0 x k rfl rfl
      have rv:=h4 1 y w rfl rfl
      have ek:=zat hk rk
      subst ek
      refine ⟨(kOf k',y) :: kps,⟨by simp [hP.1],fun i z kv e1 e2=>?_⟩,⟨rfl,rv,hD⟩,by simp [hL]⟩
      cases i with
      | zero=>simp at e1 e2; subst e1 e2; exact ⟨a,rfl,h2⟩
      | succ i=>exact hP.2 i z kv (by simpa using e1) (by simpa using e2)
   ·cases h
  ·cases h
theorem RepS.newDk (k:Ok c σ δ H) (hp:H p=none) (r:DR H (Av c σ δ) ws ds):RepS c σ δ H (upd H p (.dK ws)) (.ref p) (.own (.dct ds)):=by
 have up:∀ a w,H a=some w→upd H p (.dK ws) a=some w:=fun a w e=>by rw [z0q (z0L e hp)]; exact e
 have r1:DR (upd H p (.dK ws)) (Av (c.plus p) σ δ) ws ds:=r.map fun v d h=>(h.anti fun b z=>by
  rcases z with (z | z) | z
  ·exact .inl (.inl z)
  ·exact .inr (by rw [z]; exact hp)
  ·exact .inl (.inr z)).keep fun b w e _=>up b w e
 exact ⟨p,rfl,⟨ws,z0y,r1.keys,r1.vals⟩,fun z=>k.nav hp (.inl z),k.fresh₀ hp,k.plus hp _,hp⟩
section
variable {X:Cx} {c:Fc} {e:Expr} {fb:BE} {pos pp:Pos}
theorem za3:Q1 "dict" = some (.type "dict"):=by decide +kernel
theorem zak (hc:X.calm=true) (hg:Gl X "dict") (hm:X.mg "dict" = none) (he:SB X c e fb) (hs:z47 e=true:=by rfl):SE X c (.Call (.Name "dict" pp) [e] [] pos) (eC1 z46 fb) :=
 z2V (r:=fun v H Q=>∃ p ys kps,v = .ref p∧(H p=some (.tup ys)∨Rd H p (.lst ys))∧z7z H ys kps∧kps.length≤W8∧∀ l,H l=none→Q (.ref l) (upd H l (.dK (z20 kps []))))
  (z6f hc) (fun v H Q ⟨p,ys,kps,e,h⟩=>⟨p,ys,kps,by rw [e],h⟩)
  (fun c σ δ H x d s Q k rx hp q=>by
   cases d with
   | lst ds =>
    simp only [z46] at hp
    cases hps:z3S ds with
    | none=>rw [hps] at hp; cases hp
    | some ps =>
     rw [hps] at hp
     simp only [WQ] at hp
     split at hp
     ·rename_i hz
      cases hp
      obtain ⟨a,vs,ex,ha,r⟩:=rx.lst
      obtain ⟨kps,hP,hD,hL⟩:=z7b hps r
      exact ⟨a,vs,kps,ex,.inr ha,hP,by rw [hL]; exact hz,fun l hl=>q _ _ (.alloc k hl _) (RepS.newDk k hl (DR.puts hD (ws:=[]) (ds:=[]) trivial))⟩
     ·cases hp
   | tup ds =>
    simp only [z46] at hp
    cases hps:z3S ds with
    | none=>rw [hps] at hp; cases hp
    | some ps =>
     rw [hps] at hp
     simp only [WQ] at hp
     split at hp
     ·rename_i hz
      cases hp
      obtain ⟨a,vs,ex,ha,r⟩:=rx.tup
      obtain ⟨kps,hP,hD,hL⟩:=z7b hps r
      exact ⟨a,vs,kps,ex,.inl ha,hP,by rw [hL]; exact hz,fun l hl=>q _ _ (.alloc k hl _) (RepS.newDk k hl (DR.puts hD (ws:=[]) (ds:=[]) trivial))⟩
     ·cases hp
   | _=>simp [z46] at hp) hg hm za3 he (by decide) (by decide) (z4Q hs)
end
theorem zc2 (r:RepB c σ δ H v (.dct ds)):∃ a ws,v = .ref a∧H a=some (.dK ws)∧DR H (Av c σ δ) ws ds:=by
 obtain ⟨a,ws,e,h,k1,k2⟩:=r.dct
 exact ⟨a,ws,e,h,DR.of k1 k2⟩
def rInD (neg:Bool):R2:=fun x y H Q=>∃ a kvs k,y = .ref a∧H a=some (.dK kvs)∧x=kV k∧Q (.bl (if neg then !(valV kvs k).isSome else (valV kvs k).isSome)) H
theorem op_inD (hu:X.A.units + 64 < QD):OpR X (Wt .In) (rInD false):=by
 intro pins s σ H x y v u Q I rx ry h
 obtain ⟨a,kvs,k,rfl,ha,rfl,q⟩:=h
 cases ry
 exact d_in (by omega) I (DGet.k ha) rx fun s' I'=>⟨.bl _,H,I',rfl,q⟩
theorem zaO (hu:X.A.units + 64 < QD):OpR X (Wt .NotIn) (rInD true):=by
 intro pins s σ H x y v u Q I rx ry h
 obtain ⟨a,kvs,k,rfl,ha,rfl,q⟩:=h
 cases ry
 exact zeO (by omega) I (DGet.k ha) rx fun s' I'=>⟨.bl _,H,I',rfl,q⟩
def zd6 (K:W0) (neg:Bool):R2:=fun x y H Q=>rInD neg x y H Q∨rIn K neg x y H Q∨∃ i j,x = .str i∧y = .str j∧Q (.bl (if neg then !(!(Qc j i 0 j.length 1).isEmpty) else !(Qc j i 0 j.length 1).isEmpty)) H
theorem z5O {X:Cx} (hu:X.A.units + 64 < QD):OpR X (Wt .NotIn) (zd6 X.K true):=(zaO hu).or (op_notIn_seq.or z5f)
def pIn (neg:Bool) (x y:D):Option S:=match y with
 | .dct ds=>(keyD x).map fun k=>.pure (.bl (if neg then !(valD ds k).isSome else (valD ds k).isSome))
 | .str y=>match x with
  | .str [n]=>some (.pure (.bl (if neg then !decide (n ∈ y) else decide (n ∈ y))))
  | _=>none
 | .lst ds=>match x,z3M ds with
  | .str z,some ts=>some (.pure (.bl (if neg then !ts.contains z else ts.contains z)))
  | _,_=>none
 | .tup ds=>match x,z3M ds with
  | .str z,some ts=>some (.pure (.bl (if neg then !ts.contains z else ts.contains z)))
  | _,_=>none
 | _=>none
theorem z8e (z:Tx) (ts:List Tx):inV (V.str (toS z)) (ts.map fun z=>V.str (toS z))=ts.contains z:=by
 unfold inV
 rw [JB]
 induction ts with
 | nil=>rfl
 | cons t r ih =>
  rw [Q2,Jp,ih]
  congr 1
  show (toS t == toS z)=(z == t)
  rw [z8A,Bool.beq_comm]
theorem z6K (ts:List Tx):(ts.map fun z=>V.str (toS z)).all z6r=true:=by
 rw [Jz]
 exact List.all_eq_true.mpr fun _ _=>rfl
theorem z9f {K:W0} (neg:Bool):Op2 (zd6 K neg) (pIn neg):=by
 intro c σ δ H x y d e s Q k rx ry hp q
 cases e <;> first | (simp [pIn] at hp; done) | skip
 ·rename_i z
  simp only [pIn] at hp
  split at hp <;> first | (cases hp; done) | skip
  rename_i n
  cases hp
  refine .inr (.inr ⟨toS [n],toS z,rx.str,ry.str,?_⟩)
  rw [show toS [n] = ⟨#[n]⟩ from rfl,PySem.StrLaws.found_one,show (toS z).cps.toList=z by simp [toS]]
  exact q _ H (.refl k) (.bl _)
 ·rename_i ds
  simp only [pIn] at hp
  split at hp <;> first | (cases hp; done) | skip
  rename_i z ts ht
  cases hp
  obtain ⟨a,vs,ea,ha,r⟩:=ry.tup
  have ev:=z3I ht r
  refine .inr (.inl ⟨a,vs,ea,.inr (.of ha),by rw [rx.str]; rfl,by rw [ev]; exact z6K ts,?_⟩)
  rw [rx.str,ev,z8e]
  exact q _ H (.refl k) (.bl _)
 ·rename_i ds
  simp only [pIn] at hp
  split at hp <;> first | (cases hp; done) | skip
  rename_i z ts ht
  cases hp
  obtain ⟨a,vs,ea,ha,r⟩:=ry.lst
  have ev:=z3I ht r
  refine .inr (.inl ⟨a,vs,ea,.inl (.inl ha),by rw [rx.str]; rfl,by rw [ev]; exact z6K ts,?_⟩)
  rw [rx.str,ev,z8e]
  exact q _ H (.refl k) (.bl _)
 ·rename_i ds
  simp only [pIn] at hp
  cases hk:keyD d with
  | none=>rw [hk] at hp; cases hp
  | some kk =>
   rw [hk] at hp
   cases hp
   obtain ⟨a,ws,ea,ha,dr⟩:=zc2 ry
   refine .inl ⟨a,ws,kOf kk,ea,ha,zc1 hk rx,?_⟩
   have:(valV ws (kOf kk)).isSome=(valD ds kk).isSome:=by
    rcases dr.val kk with ⟨e1,e2⟩ | ⟨v,d,e1,e2,_⟩
    ·rw [e1,e2]; rfl
    ·rw [e1,e2]; rfl
   rw [this]
   exact q _ H (.refl k) (.bl _)
end DV
namespace PySem
open Sem (wp)
open AutoSeq1 (wpAny_loadPart')
section
variable {prog:Wk} {w:Wr} {A:Wp} {E:Value→W2→Prop} {s:W2}
theorem z53 {items} (hit:s.heap.IsTupleIter it l i) (hl:s.heap.IsTuple l items) (hx:items[i]? = some x)
  (hQ:∀ h',h'.IsTupleIter it l (i + 1)→Heap.SameBut it s.heap h'→Q x { s with heap:=h' }):Wa (model prog w) A (QK (.ref it)) Q E s:=by
 obtain ⟨o,ho,hc,hd⟩:=id hit
 obtain ⟨ol,hol,_,nl,hdl⟩:=hl
 unfold QK
 refine W1 (QT (name:=Str.ofString "__next__") hit.typeIs QE
  (wpAny_call_entry QE hit.typeIs F.entry_tuple_iterator_next ?_ (F.args_tuple_iterator_next_1 _)))
 show Wa _ _ (field (.ref it) 0 >>= _) _ _ s
 refine W1 (Q4 ho hd (x:=.ref l) rfl ?_)
 show Wa _ _ (if (Value.ref l == Value.none)=true then _ else _) _ _ s
 rw [if_neg (show ¬ ((Value.ref l == Value.none)=true) from WL)]
 show Wa _ _ (field (.ref it) 1 >>= _) _ _ s
 refine W1 (Q4 ho hd (x:=.int i 0) rfl ?_)
 show Wa _ _ (seqItems? (.ref l) >>= _) _ _ s
 refine W1 (wpAny_seqItems hol hdl ?_)
 simp only [Int.toNat_natCast,hx]
 refine W1 (Js ho hd (by simp) (Wd ⟨x,rfl,Wd (hQ _ ?_ (Heap.SameBut.update ..))⟩))
 exact ⟨_,Qp _ ho (Obj.isFreed_of_fields (Obj.data_mapFields hd _)),(Obj.cls_mapFields ..).trans hc,by
  rw [Obj.data_mapFields hd]; simp [Qj]⟩
theorem z5n {items} (hh:A.handled=none) (hit:s.heap.IsTupleIter it l i) (hl:s.heap.IsTuple l items) (hx:items[i]? = none)
  (hE:∀ h' e,Heap.ExtBut it s.heap h'→(∃ o,h'.get? e=some o∧o.cls = .type "StopIteration")→E (.ref e) { s with heap:=h' }):Wa (model prog w) A (QK (.ref it)) Q E s:=by
 obtain ⟨o,ho,hc,hd⟩:=id hit
 obtain ⟨ol,hol,_,nl,hdl⟩:=hl
 unfold QK
 refine W1 (QT (name:=Str.ofString "__next__") hit.typeIs QE
  (wpAny_call_entry QE hit.typeIs F.entry_tuple_iterator_next ?_ (F.args_tuple_iterator_next_1 _)))
 show Wa _ _ (field (.ref it) 0 >>= _) _ _ s
 refine W1 (Q4 ho hd (x:=.ref l) rfl ?_)
 show Wa _ _ (if (Value.ref l == Value.none)=true then _ else _) _ _ s
 rw [if_neg (show ¬ ((Value.ref l == Value.none)=true) from WL)]
 show Wa _ _ (field (.ref it) 1 >>= _) _ _ s
 refine W1 (Q4 ho hd (x:=.int i 0) rfl ?_)
 show Wa _ _ (seqItems? (.ref l) >>= _) _ _ s
 refine W1 (wpAny_seqItems hol hdl ?_)
 simp only [Int.toNat_natCast,hx]
 refine W1 (Jr (W1 (Js ho hd (by simp) ?_)))
 show Wa _ _ (newExc (.type "StopIteration") [] >>= _) _ _ _
 refine W1 ?_
 simp only [newExc,newTuple]
 refine W1 (Qe ?_ (by size_fits))
 refine W1 (m:=firstArgMember _ _) (wpAny_of_eq (a:=Value.none) (by first | rfl | (simp only [firstArgMember]; rfl)) ?_)
 refine Qe ?_ (by size_fits)
 simp only [raiseNew]
 refine W1 (wpAny_handled ?_)
 first | rw [show A.in1.handled=none from hh] | rw [hh]
 refine W1 (Wd (wpAny_throw ?_))
 exact hE _ _ (((Heap.SameBut.update ..).extBut.push _).push _) ⟨_,Wm _ rfl,rfl⟩
end
theorem IsTuple.at' {h h':Heap} {l:Addr} {items:Array Value} (x:h.IsTuple l items) (k:∀ o,h.get? l=some o→h'.get? l=some o):h'.IsTuple l items:=by
 obtain ⟨o,ho,r⟩:=x
 exact ⟨o,k o ho,r⟩
theorem Draws.tuple' {prog:Wk} {w:Wr} {A:Wp} (hh:A.handled=none) (it l:Addr) (hne:l≠it) (items:Array Value) :
  Draws prog w A it [it,l] items.size (fun i v=>items[i]? = some v) (fun i h=>h.IsTupleIter it l i∧h.IsTuple l items) where
 live:=fun _ _ st=>let ⟨o,ho,_⟩:=st.1; ⟨o,ho⟩
 frame:=fun _ _ _ st hk=>⟨st.1.at fun o e=>hk it (by simp) o e,IsTuple.at' st.2 fun o e=>hk l (by simp) o e⟩
 item:=fun i s Q E hi st hQ=>by
  refine z53 st.1 st.2 (x:=items[i]) (by simp [hi]) fun h' hit' hs'=>?_
  exact hQ _ h' s.toks (by simp [hi]) ⟨hit',IsTuple.at' st.2 fun o e=>(hs'.2 l hne).trans e⟩ hs'
 done:=fun s Q E st hE=>z5n hh st.1 st.2 (by simp) hE
theorem z3N (l:Addr) (items:Array Value) (n:Nat) (dct:Option Addr) (sl:Array (Option Value)) :
  Meets (Builtin.«enumerate.__new__» ⟨[.type "enumerate",.ref l],[]⟩) (fun _ R s=>s.heap.get? l=some { cls:=.type "tuple",dict:=dct,data:=.seq items n,slots:=sl } ∧
   R (.ok (.ret (.ref (s.heap.push { cls:=.type "tuple_iterator",data:=.fields #[.ref l,.int 0 0] }).objs.size)))
    { s with heap:=(s.heap.push { cls:=.type "tuple_iterator",data:=.fields #[.ref l,.int 0 0] }).push { cls:=.type "enumerate",data:=.fields #[.none,.bool false,.ref s.heap.objs.size,Qj 0,.none,.none] } }) :=
 .of_wp fun prog w A R s h=>by
  obtain ⟨hp,g,d,tk,os⟩:=s; obtain ⟨hl,h⟩:=h
  have hsub:=sub_enumerate
  have hL:Heap.IsTuple (Shared.heap ⟨hp,g,d,tk,os⟩) l items:=⟨_,hl,rfl,n,rfl⟩
  wp_walk using WH hl
  refine wpAny_stack_any fun st=>Wd ?_
  split
  ·rename_i c _ _ _ _ _
   cases (c == Value.type "enumerate")
   ·wp_walk using WH hl,J0 hL
    exact ⟨_,rfl,h⟩
   ·wp_walk using WH hl,J0 hL
    exact ⟨_,rfl,h⟩
  ·wp_walk using WH hl,J0 hL
   exact ⟨_,rfl,h⟩
theorem z3B (hL:s.heap.IsTuple l items)
  (h:∀ h',IsEnum h' (s.heap.objs.size + 1) s.heap.objs.size 0 .none→h'.IsTupleIter s.heap.objs.size l 0→h'.objs.size=s.heap.objs.size + 2 →
   (∀ b o,s.heap.get? b=some o→h'.get? b=some o)→Q (.ref (s.heap.objs.size + 1)) { s with heap:=h' }) :
  Wa (model prog w) A (call (.type "enumerate") [.ref l]) Q E s:=by
 obtain ⟨⟨c,dct,dt,sl⟩,hl,hc,n,hd⟩:=hL
 replace hc:c = .type "tuple":=hc
 replace hd:dt = .seq items n:=hd
 subst hc hd
 refine callType_new F.called_enumerate (by decide) (F.typeCall_enumerate_1 _) (F.newCall_enumerate_1 _) (fun obj=>F.args_object_init_2 obj _) F.entry_enumerate_new
  (z3N l items n dct sl) ⟨hl,?_⟩
 have hz:(s.heap.push { cls:=.type "tuple_iterator",data:=.fields #[.ref l,.int 0 0] }).objs.size=s.heap.objs.size + 1:=QM ..
 show _∧_
 rw [hz]
 have he:IsEnum ((s.heap.push { cls:=.type "tuple_iterator",data:=.fields #[.ref l,.int 0 0] }).push
   { cls:=.type "enumerate",data:=.fields #[.none,.bool false,.ref s.heap.objs.size,Qj 0,.none,.none] }) (s.heap.objs.size + 1) s.heap.objs.size 0 .none:=by
  have:=Wm (s.heap.push { cls:=.type "tuple_iterator",data:=.fields #[.ref l,.int 0 0] })
   (o:={ cls:=.type "enumerate",data:=.fields #[.none,.bool false,.ref s.heap.objs.size,Qj 0,.none,.none] }) rfl
  rw [hz] at this; exact this
 refine ⟨⟨_,he,rfl⟩,h _ he ⟨_,W6 _ (Wm _ rfl),rfl,rfl⟩ (by rw [QM,hz]) fun b o x=>W6 _ (W6 _ x)⟩
end PySem
namespace L2
open PySem PySem.Spec PyProof.Rows
section
variable {X:Cx} {pins:List (Addr×Obj)} {σ:St} {H:Hp} {s:W2} {h':Heap}
theorem Inv.turnedL (fp:List Addr) (I:Inv X pins σ H s) (k:∀ b o,b ∉ fp→s.heap.get? b=some o→h'.get? b=some o) (hf:∀ b ∈ fp,FpOk X pins H b):Inv X pins σ H { s with heap:=h',toks:=t' }:=by
 have nit:∀ b u,H b=some u→b ∉ fp:=fun b u e z=>by rw [(hf b z).1] at e; cases e
 refine I.step (g':=s.gens) (d':=s.drawn) (ch:=fp) (fun b hb=>?_) (fun b o _ _ hc e _=>k b o hc e) (fun b o _ _ hc e _=>⟨o.slots,k b o hc e⟩) (fun _ _ _ _ n=>n)
  (fun b o hc e=>⟨o,k b o hc e⟩) (fun _ _ e=>e) (fun _ _ _ e=>e) (fun b ps e=>⟨#[],by rw [e]; simp⟩) (fun m hm=>?_) (fun b u e=>?_) I.bare
 ·obtain ⟨f0,f1,f2,f3,f4,f5⟩:=hf b hb
  exact ⟨f3,f1,f4,f5⟩
 ·obtain ⟨o,es,ep,ho,r⟩:=hm
  exact ⟨o,es,ep,k _ o (fun z=>(hf _ z).2.1 rfl) ho,r⟩
 ·refine (I.hok b u e).stay (fun c v hc q=>k c v ?_ q) (fun _ q=>q) fun _ _ q=>q
  rcases hc with z | z
  ·rw [z]; exact nit b u e
  ·exact nit c _ z
theorem Inv.pairLaid (I:Inv X pins σ H s) (hf:∀ b ∈ [e,it],FpOk X pins H b) (hlt:∀ b ∈ [e,it],b < s.heap.objs.size) (ru:RelV y u)
  (hT:h'.get? s.heap.objs.size=some { cls:=.type "tuple",data:=.seq #[.int i tk,u] }) (k:∀ b o,b≠e→b≠it→s.heap.get? b=some o→h'.get? b=some o) :
  Inv X pins σ (upd H s.heap.objs.size (.tup [.int i,y])) { s with heap:=h',toks:=t' }:=by
 have I1:Inv X pins σ (upd H s.heap.objs.size (.tup [.int i,y])) { s with heap:=s.heap.push { cls:=.type "tuple",data:=.seq #[.int i tk,u] },toks:=t' } :=
  I.laid (t':=t') (fun b o e=>W6 _ e) (W7 _) (show ObjOk X.prog X.w _ _ _ (.tup [.int i,y]) from
   ⟨by simp only [Ws,Q8]; rw [sizeLine_eq]; decide,[.int i tk,u],.cons ⟨_,rfl⟩ (.cons ru .nil),IsTupN.new _ _⟩)
 have:=Inv.turnedL (t':=t') (h':=h') [e,it] I1 (fun b o hb eb=>?_) fun b hb=>?_
 ·exact this
 ·have he:b≠e:=fun z=>hb (by simp [z])
  have hi:b≠it:=fun z=>hb (by simp [z])
  rcases Heap.get?_push_cases eb with ⟨z,z'⟩ | eb
  ·subst z z'
   exact hT
  ·exact k b o he hi eb
 ·obtain ⟨f0,r⟩:=hf b hb
  refine ⟨?_,r⟩
  have hl:=hlt b hb
  rw [z0q (Wy hl)]
  exact f0
def IteL (K:W0) (a:Addr):It :=
 ⟨(Itl K a).go,fun i H x H'=>∃ p y,H p=none∧(∀ xs,SqL K H a xs→xs[i]? = some y)∧H'=upd H p (.tup [.int i,y])∧x = .ref p,fun i H=>∃ xs,SqL K H a xs∧xs.length=i⟩
def IteT (K:W0) (a:Addr):It :=
 ⟨(Itt K a).go,fun i H x H'=>∃ p y,H p=none∧(∀ xs,SqT K H a xs→xs[i]? = some y)∧H'=upd H p (.tup [.int i,y])∧x = .ref p,fun i H=>∃ xs,SqT K H a xs∧xs.length=i⟩
theorem z9E {P:Wk} {w:Wr} {K:W0} {elts:List Expr} {ctx} {pos:Pos} (a e it:Addr) (hei:e≠it) (hae:a≠e) (hai:a≠it):Turn P w K (.Tuple elts ctx pos) (IteL K a) [e,it] e (fun i h=>(∃ old,IsEnum h e it i old)∧h.IsListIter it a i) where
 mem:=by simp
 obj:=fun i h st b hb=>by
  obtain ⟨⟨old,he⟩,hi⟩:=st
  have hb:b=e∨b=it:=by simpa using hb
  rcases hb with z | z
  ·subst z
   exact ⟨_,he,fun v z=>by
    have z':Data.fields _=Data.cell v:=z
    cases z'⟩
  ·subst z
   obtain ⟨o,e,c,d⟩:=hi
   exact ⟨o,e,fun v z=>by rw [d] at z; cases z⟩
 keep:=fun i h h' st k=>⟨let ⟨old,he⟩:=st.1; ⟨old,k e (by simp) _ he⟩,st.2.at fun o q=>k it (by simp) o q⟩
 item:=by
  intro X hP hw hK hc i pins s σ H E I hf st hg
  subst hP hw hK
  obtain ⟨xs,x,hq,hx⟩:=hg
  obtain ⟨its,rv,p,hz⟩:=I.list hq
  obtain ⟨u,hu,ru⟩:=rv.get hx
  obtain ⟨⟨old,he⟩,hi⟩:=st
  have hL:s.heap.IsList a its.toArray:=p.isList
  have D:=Draws.list (prog:=X.prog) (w:=X.w) (A:=X.A.in1) (I.ok.hd hc) it a hai its.toArray
  have hilt:i < its.length:=(Wb.mp hu).1
  have hlt:∀ b ∈ [e,it],b < s.heap.objs.size:=fun b hb=>by
   have hb:b=e∨b=it:=by simpa using hb
   rcases hb with z | z
   ·subst z; exact Wg he
   ·subst z; obtain ⟨o,q,_⟩:=hi; exact Wg q
  refine wpAny_pyNext_enum_itemD D he ⟨hi,hL⟩ (by simpa using hilt) hei (by simp [hei,Ne.symm hae]) fun x' h' tk hP ho hs' hT hsz hk=>?_
  have ex:x'=u:=by
   have:its.toArray[i]? = some x':=hP
   rw [List.getElem?_toArray,hu] at this
   cases this
   rfl
  subst ex
  refine ⟨_,rfl,wpAny_letOwnedTupleGo_enum ho fun h2 he2 sb=>?_⟩
  have k2:∀ b o,b≠e→b≠it→s.heap.get? b=some o→h2.get? b=some o:=fun b o q1 q2 q=>(sb.2 b q1).trans (hk b o q1 q2 q)
  have hT2:h2.get? s.heap.objs.size=some { cls:=.type "tuple",data:=.seq #[.int i tk,x'] }:=(sb.2 _ (Jk (hlt e (by simp)))).trans hT
  have I2:Inv X pins σ (upd H s.heap.objs.size (.tup [.int i,x])) { s with heap:=h2,toks:=tk + 1 }:=Inv.pairLaid (t':=tk + 1) I hf hlt ru hT2 k2
  refine ⟨.ref s.heap.objs.size,_,I2,rfl,⟨s.heap.objs.size,x,I.hok.fresh (W7 _),fun ys hy=>by rw [I.list_inj hy hq]; exact hx,rfl,rfl⟩,⟨⟨x',by simpa using he2⟩,hs'.1.at fun o q=>(sb.2 it (Ne.symm hei)).trans q⟩,fun b hb=>?_⟩
  rw [z0q (Wy (hlt b hb))]
  exact (hf b hb).1
 done:=by
  intro X hP hw hK hc i pins s σ H E I hf st hg
  subst hP hw hK
  obtain ⟨xs,hq,hx⟩:=hg
  obtain ⟨its,rv,p,hz⟩:=I.list hq
  obtain ⟨⟨old,he⟩,hi⟩:=st
  have hL:s.heap.IsList a its.toArray:=p.isList
  have hl:=rv.length
  have D:=Draws.list (prog:=X.prog) (w:=X.w) (A:=X.A.in1) (I.ok.hd hc) it a hai its.toArray
  have hn:its.toArray.size=i:=by simp; omega
  obtain ⟨f0,f1,f2,f3,f4,f5⟩:=hf it (by simp)
  exact wpAny_pyNext_enum_endD D he ⟨by rw [hn]; exact hi,hL⟩ fun h' eb=>⟨rfl,I.turned (t':=s.toks) (fun b o hb q=>eb b o hb q) f0 f1 f3 f4 f5⟩
 self:=fun _ _ _ _ _ st h=>by
  obtain ⟨⟨old,he⟩,_⟩:=st
  exact QI he h
theorem z9D {P:Wk} {w:Wr} {K:W0} {elts:List Expr} {ctx} {pos:Pos} (a e it:Addr) (hei:e≠it) (hae:a≠e) (hai:a≠it):Turn P w K (.Tuple elts ctx pos) (IteT K a) [e,it] e (fun i h=>(∃ old,IsEnum h e it i old)∧h.IsTupleIter it a i) where
 mem:=by simp
 obj:=fun i h st b hb=>by
  obtain ⟨⟨old,he⟩,hi⟩:=st
  have hb:b=e∨b=it:=by simpa using hb
  rcases hb with z | z
  ·subst z
   exact ⟨_,he,fun v z=>by
    have z':Data.fields _=Data.cell v:=z
    cases z'⟩
  ·subst z
   obtain ⟨o,e,c,d⟩:=hi
   exact ⟨o,e,fun v z=>by rw [d] at z; cases z⟩
 keep:=fun i h h' st k=>⟨let ⟨old,he⟩:=st.1; ⟨old,k e (by simp) _ he⟩,st.2.at fun o q=>k it (by simp) o q⟩
 item:=by
  intro X hP hw hK hc i pins s σ H E I hf st hg
  subst hP hw hK
  obtain ⟨xs,x,hq,hx⟩:=hg
  obtain ⟨its,rv,p,hz⟩:=I.tuple hq
  obtain ⟨u,hu,ru⟩:=rv.get hx
  obtain ⟨⟨old,he⟩,hi⟩:=st
  have hL:s.heap.IsTuple a its.toArray:=p
  have D:=Draws.tuple' (prog:=X.prog) (w:=X.w) (A:=X.A.in1) (I.ok.hd hc) it a hai its.toArray
  have hilt:i < its.length:=(Wb.mp hu).1
  have hlt:∀ b ∈ [e,it],b < s.heap.objs.size:=fun b hb=>by
   have hb:b=e∨b=it:=by simpa using hb
   rcases hb with z | z
   ·subst z; exact Wg he
   ·subst z; obtain ⟨o,q,_⟩:=hi; exact Wg q
  refine wpAny_pyNext_enum_itemD D he ⟨hi,hL⟩ (by simpa using hilt) hei (by simp [hei,Ne.symm hae]) fun x' h' tk hP ho hs' hT hsz hk=>?_
  have ex:x'=u:=by
   have:its.toArray[i]? = some x':=hP
   rw [List.getElem?_toArray,hu] at this
   cases this
   rfl
  subst ex
  refine ⟨_,rfl,wpAny_letOwnedTupleGo_enum ho fun h2 he2 sb=>?_⟩
  have k2:∀ b o,b≠e→b≠it→s.heap.get? b=some o→h2.get? b=some o:=fun b o q1 q2 q=>(sb.2 b q1).trans (hk b o q1 q2 q)
  have hT2:h2.get? s.heap.objs.size=some { cls:=.type "tuple",data:=.seq #[.int i tk,x'] }:=(sb.2 _ (Jk (hlt e (by simp)))).trans hT
  have I2:Inv X pins σ (upd H s.heap.objs.size (.tup [.int i,x])) { s with heap:=h2,toks:=tk + 1 }:=Inv.pairLaid (t':=tk + 1) I hf hlt ru hT2 k2
  refine ⟨.ref s.heap.objs.size,_,I2,rfl,⟨s.heap.objs.size,x,I.hok.fresh (W7 _),fun ys hy=>by rw [I.tuple_inj hy hq]; exact hx,rfl,rfl⟩,⟨⟨x',by simpa using he2⟩,hs'.1.at fun o q=>(sb.2 it (Ne.symm hei)).trans q⟩,fun b hb=>?_⟩
  rw [z0q (Wy (hlt b hb))]
  exact (hf b hb).1
 done:=by
  intro X hP hw hK hc i pins s σ H E I hf st hg
  subst hP hw hK
  obtain ⟨xs,hq,hx⟩:=hg
  obtain ⟨its,rv,p,hz⟩:=I.tuple hq
  obtain ⟨⟨old,he⟩,hi⟩:=st
  have hL:s.heap.IsTuple a its.toArray:=p
  have hl:=rv.length
  have D:=Draws.tuple' (prog:=X.prog) (w:=X.w) (A:=X.A.in1) (I.ok.hd hc) it a hai its.toArray
  have hn:its.toArray.size=i:=by simp; omega
  obtain ⟨f0,f1,f2,f3,f4,f5⟩:=hf it (by simp)
  exact wpAny_pyNext_enum_endD D he ⟨by rw [hn]; exact hi,hL⟩ fun h' eb=>⟨rfl,I.turned (t':=s.toks) (fun b o hb q=>eb b o hb q) f0 f1 f3 f4 f5⟩
 self:=fun _ _ _ _ _ st h=>by
  obtain ⟨⟨old,he⟩,_⟩:=st
  exact QI he h
end
end L2
namespace DV
open PySem PySem.Spec PyProof.Rows L2
section
variable {X:Cx} {c:Fc} {tg e:Expr} {fe:DE} {pos pp:Pos}
def zgq (K:W0) (ta:TA):TI:=fun σ H R=>ta σ H fun vs H1=>(∃ a,vs=[.ref a]∧(∃ xs,SqL K H1 a xs)∧R (IteL K a) H1)∨(∃ a,vs=[.ref a]∧(∃ xs,SqT K H1 a xs)∧R (IteT K a) H1)
theorem zeg {ctx} (hg:Gl X "enumerate") (hm:X.mg "enumerate" = none) (ha:PA X [a] ta) (hs:W4 [a] X.env=[(false,eval a X.env)]:=by rfl):PI X (.Tuple elts ctx tp) (.Call (.Name "enumerate" pp) [a] [] pos) (zgq X.K ta):=by
 intro pins s σ H R I h
 refine Call_ (z5Z I hg hm boot_enumerate (QB (thn (ha pos pins s σ H _ I h) fun us s1 ⟨vs,H1,I1,r1,q1⟩=>?_) hs rfl))
 rcases q1 with ⟨a,ev,⟨xs,hq⟩,q⟩ | ⟨a,ev,⟨xs,hq⟩,q⟩
 ·subst ev
  cases r1 with
  | cons r rr =>
   cases rr
   cases r
   obtain ⟨its,rv,p,hz⟩:=I1.list hq
   have hL:s1.heap.IsList a its.toArray:=p.isList
   have hlt:a < s1.heap.objs.size:=by obtain ⟨o,q,_⟩:=hL; exact Wg q
   refine call_enumerate_list hL fun h' he hi hsz kp=>QI he ?_
   refine ⟨s1.heap.objs.size + 1,[s1.heap.objs.size + 1,s1.heap.objs.size],_,_,H1,rfl,I1.kept (t':=s1.toks) kp,z9E a _ _ (Nat.succ_ne_self _) (Wy (J3 hlt)) (Wy hlt),⟨⟨_,he⟩,hi⟩,fun b hb=>?_,q⟩
   have hb:b=s1.heap.objs.size + 1∨b=s1.heap.objs.size:=by simpa using hb
   have hle:s1.heap.objs.size≤b:=by rcases hb with z | z <;> subst z <;> first | exact W7 _ | exact Nat.le_succ _
   exact I1.fpOk hle (I1.hok.fresh hle)
 ·subst ev
  cases r1 with
  | cons r rr =>
   cases rr
   cases r
   obtain ⟨its,rv,p,hz⟩:=I1.tuple hq
   have hL:s1.heap.IsTuple a its.toArray:=p
   have hlt:a < s1.heap.objs.size:=by obtain ⟨o,q,_⟩:=hL; exact Wg q
   refine z3B hL fun h' he hi hsz kp=>QI he ?_
   refine ⟨s1.heap.objs.size + 1,[s1.heap.objs.size + 1,s1.heap.objs.size],_,_,H1,rfl,I1.kept (t':=s1.toks) kp,z9D a _ _ (Nat.succ_ne_self _) (Wy (J3 hlt)) (Wy hlt),⟨⟨_,he⟩,hi⟩,fun b hb=>?_,q⟩
   have hb:b=s1.heap.objs.size + 1∨b=s1.heap.objs.size:=by simpa using hb
   have hle:s1.heap.objs.size≤b:=by rcases hb with z | z <;> subst z <;> first | exact W7 _ | exact Nat.le_succ _
   exact I1.fpOk hle (I1.hok.fresh hle)
def z6s (ds:List D):List D:=ds.mapIdx fun i d=>D.tup [.int (i:Nat),d]
theorem z8j {ds:List D} {i:Nat} {d:D} (h:(z6s ds)[i]? = some d):∃ d',ds[i]? = some d'∧d = .tup [.int i,d']:=by
 unfold z6s at h
 rw [List.getElem?_mapIdx] at h
 cases e:ds[i]? with
 | none=>rw [e] at h; cases h
 | some d' =>
  rw [e] at h
  cases h
  exact ⟨d',rfl,rfl⟩
theorem Reps.pair (r:Rep H O v d):Reps H O [.int i,v] [.int i,d]:=by
 refine ⟨rfl,fun j v' d' e1 e2=>?_⟩
 match j with
 | 0=>simp at e1 e2; subst e1 e2; exact .int _
 | 1=>simp at e1 e2; subst e1 e2; exact r
 | j + 2=>simp at e1
def zcG (f:DE):DI:=fun δ=>(f δ).bind fun r δ1=>match r.d with
 | .lst ds=>.ok (z6s ds) δ1
 | .tup ds=>.ok (z6s ds) δ1
 | _=>.stuck
theorem zdP {elts:List Expr} {ctx} {tp:Pos} (hg:Gl X "enumerate") (hm:X.mg "enumerate" = none) (he:SE X c e fe) (hs:W4 [e] X.env=[(false,eval e X.env)]:=by rfl):SI X c (.Tuple elts ctx tp) (.Call (.Name "enumerate" pp) [e] [] pos) (zcG fe) :=
 PI.weak (zeg hg hm (z0M he z1M hs) hs) fun σ H R ⟨δ,k,q⟩=>by
  unfold zcG at q
  rw [z03] at q
  refine ⟨δ,k,z00 q fun r δ1 q1 v H1 a1 r1=>?_⟩
  have rr:=r1.rep
  generalize r.d=d at q1 rr
  cases d <;> first | exact q1.elim | skip
  ·cases rr with
   | tup h1 h2 h3 h4 =>
    rename_i a vs
    refine .inr ⟨_,rfl,⟨_,.of h2⟩,q1 _ H1 a1 ?_⟩
    intro H2 kp
    have h5:=kp _ _ h2 fun z=>h1 (.inr z)
    have r':Reps H1 (Av c σ δ1) vs _:=⟨h3,h4⟩
    refine ⟨⟨vs,.of h5,by rw [r'.1]; simp [z6s]⟩,fun i d e=>?_⟩
    obtain ⟨d',e',rfl⟩:=z8j e
    obtain ⟨v,ev,rv⟩:=r'.get e'
    refine ⟨⟨vs,v,.of h5,ev⟩,fun x H3 ⟨p,y,hp,hy,e3,ex⟩=>.inr ⟨p,_,_,hp,e3,ex,rfl,?_⟩⟩
    have:=hy vs (.of h5)
    rw [ev] at this
    cases this
    exact Reps.pair rv
  ·cases rr with
   | lst h1 h2 h3 h4 =>
    rename_i a vs
    refine .inl ⟨_,rfl,⟨_,.inl h2⟩,q1 _ H1 a1 ?_⟩
    intro H2 kp
    have h5:Rd H2 a (.lst vs):=Rd.keep h2 fun o e=>kp a o e fun z=>h1 (.inr z)
    have r':Reps H1 (Av c σ δ1) vs _:=⟨h3,h4⟩
    refine ⟨⟨vs,.inl h5,by rw [r'.1]; simp [z6s]⟩,fun i d e=>?_⟩
    obtain ⟨d',e',rfl⟩:=z8j e
    obtain ⟨v,ev,rv⟩:=r'.get e'
    refine ⟨⟨vs,v,.inl h5,ev⟩,fun x H3 ⟨p,y,hp,hy,e3,ex⟩=>.inr ⟨p,_,_,hp,e3,ex,rfl,?_⟩⟩
    have:=hy vs (.inl h5)
    rw [ev] at this
    cases this
    exact Reps.pair rv
end
end DV
namespace HT
open PySem PySem.Spec PyProof.Rows
section
variable {prog:Wk} {w:Wr} {A:Wp} {E:Value→W2→Prop} {s:W2}
end
end HT
namespace DV
open PySem PySem.Spec PyProof.Rows L2
section
variable {X:Cx} {c:Fc} {e:Expr} {fb:BE} {pos p2:Pos}
def pNeg:D→Option S
 | .int i=>some (.pure (.int (-i)))
 | _=>none
theorem z7F (he:SB X c e fb):SE X c (.UnaryOp .USub e pos) (eC1 pNeg fb) :=
 PE.weak (pe_un zeX he) fun σ H Q h=>z3U (fun c σ δ H x d s Q k rx hp q=>by
  cases d with
  | int i =>
   simp only [pNeg,W5] at hp
   subst hp
   exact ⟨i,rx.int,q _ H (.refl k) (.int _)⟩
  | _=>simp [pNeg] at hp) h
def z3R:D→Bool
 | .non=>true
 | _=>false
def pIsN (neg:Bool) (d e:D):Option S:=match e with
 | .non=>some (.pure (.bl (neg != z3R d)))
 | _=>none
theorem zg5:Op2 (fun x y H Q=>y = .non∧Q (.bl (decide (x = .non))) H) (pIsN false):=by
 intro c σ δ H x y d e s Q k rx ry hp q
 cases e with
 | non =>
  simp only [pIsN,W5] at hp
  subst hp
  have ey:y = .non:=by
   rcases ry with r | ⟨a,e,o⟩
   ·cases r; rfl
   ·exact o.elim
  have:decide (x=V.non)=(false != z3R d):=by
   rcases rx with r | ⟨a,e,o⟩
   ·cases r <;> simp [z3R]
   ·subst e
    cases d <;> first | exact o.elim | simp [z3R]
  exact ⟨ey,by rw [this]; exact q _ H (.refl k) (.bl _)⟩
 | _=>simp [pIsN] at hp
theorem zaU:Op2 (fun x y H Q=>y = .non∧Q (.bl (!decide (x = .non))) H) (pIsN true):=by
 intro c σ δ H x y d e s Q k rx ry hp q
 cases e with
 | non =>
  simp only [pIsN,W5] at hp
  subst hp
  have ey:y = .non:=by
   rcases ry with r | ⟨a,e,o⟩
   ·cases r; rfl
   ·exact o.elim
  have:(!decide (x=V.non))=(true != z3R d):=by
   rcases rx with r | ⟨a,e,o⟩
   ·cases r <;> simp [z3R]
   ·subst e
    cases d <;> first | exact o.elim | simp [z3R]
  exact ⟨ey,by rw [this]; exact q _ H (.refl k) (.bl _)⟩
 | _=>simp [pIsN] at hp
end
def Fc.park (c:Fc) (i:Nat) (a:Addr):Fc:=⟨c.H₀,fun b=>c.B b∨b=a,(i,a) :: c.pin,c.xc⟩
section
variable {c:Fc} {σ σ':St} {δ δ':Dl} {H H':Hp} {i:Nat} {a:Addr} {ds:List D}
theorem Own.unset (h:Own σ (δ.set i none) b):Own σ δ b:=by
 obtain ⟨j,d',e1,e2⟩:=h
 by_cases hj:i=j
 ·subst hj
  rw [WK] at e1
  split at e1
  ·split at e1 <;> cases e1
  ·rename_i q; exact absurd rfl q
 ·rw [W9 hj] at e1
  exact ⟨j,d',e1,e2⟩
theorem zeS (k:Ok c σ δ H) (e:δ[i]? = some (some (.own (.lst ds)))) (ea:σ[i]? = some (some (.ref a))) (b:Addr) (z:Av (c.park i a) σ (δ.set i none) b):Av c σ δ b:=by
 rcases z with (z | z) | z
 ·exact .inl z
 ·subst z; exact .inr ⟨i,_,e,ea⟩
 ·exact .inr z.unset
theorem Ok.park (k:Ok c σ δ H) (e:δ[i]? = some (some (.own (.lst ds)))) (ea:σ[i]? = some (some (.ref a))):Ok (c.park i a) σ (δ.set i none) H:=by
 have sub:=zeS k e ea
 have ne:∀ j d,(δ.set i none)[j]? = some (some d)→i≠j∧δ[j]? = some (some d):=fun j d q=>by
  by_cases hj:i=j
  ·subst hj
   rw [Wq (Wb.mp e).1] at q; cases q
  ·rw [W9 hj] at q; exact ⟨hj,q⟩
 refine ⟨fun b o h n=>k.keep b o h fun ⟨j,z⟩=>n ⟨j,Wc _ z⟩,fun b z=>?_,fun b ⟨j,z⟩=>?_,by rw [WY]; exact k.len,fun j d q=>?_,fun j d q=>?_,fun j l b d d' q1 q2=>?_,fun p hp=>?_⟩
 ·rcases z with z | z
  ·exact k.bd b z
  ·subst z; exact k.othere ⟨i,_,e,ea⟩
 ·rcases Wh.mp z with z | z
  ·cases z; exact k.othere ⟨i,_,e,ea⟩
  ·exact k.ith b ⟨j,z⟩
 ·obtain ⟨_,q⟩:=ne j _ q
  obtain ⟨v,g1,g2⟩:=k.slot j d q
  exact ⟨v,g1,g2.anti fun b z=>.inl (sub b z)⟩
 ·obtain ⟨hj,q⟩:=ne j _ q
  obtain ⟨b,g1,g2,g3,g4⟩:=k.own j d q
  refine ⟨b,g1,g2.anti fun b z=>.inl (sub b z),g3.imp (fun ⟨l,z⟩=>⟨l,Wc _ z⟩) id,fun z=>?_⟩
  rcases z with z | z
  ·exact g4 z
  ·subst z; exact hj (k.inj i j b _ _ e q ea g1)
 ·exact k.inj j l b d d' (ne j _ q1).2 (ne l _ q2).2
 ·rcases Wh.mp hp with z | z
  ·subst z; exact ea
  ·exact k.pinned p z
end
def dForO (i:Nat) (g:DG) (b:DS):DS:=fun δ=>match δ[i]? with
 | some (some (.own (.lst ds)))=>(forL g b ds (δ.set i none)).bind fun fl δ'=>match fl with
  | .ret (.own _)=>.stuck
  | fl=>.ok fl (δ'.set i (some (.own (.lst ds))))
 | _=>.stuck
section
variable {X:Cx} {c:Fc} {tg iter:Expr} {body:List Stmt} {g:DG} {b:DS} {i:Nat} {pos:Pos}
def z9Z (np:List Nat) (i:Nat):DS:=fun δ=>match δ[i]? with
 | some (some (.own d))=>if np.contains i || !np.all (z0w δ) then .ok (.ret (.pure d)) (δ.set i (some (.pure d))) else .ok (.ret (.own d)) (δ.set i none)
 | some (some (.pure d))=>.ok (.ret (.pure d)) δ
 | _=>.stuck
theorem zdI {np:List Nat} {e:Expr} (hnp:Np c np) (he:PE X e (tVar i)):SS X c (.Return (some e) pos) (z9Z np i):=PS.weak (zd8 he) fun D σ H ⟨δ,k,q⟩=>by
 unfold z9Z z2g at q
 split at q
 ·rename_i d e
  obtain ⟨a,ea,oa,ia,nb⟩:=k.own i d e
  refine ⟨.ref a,ea,?_⟩
  split at q
  ·obtain ⟨a',ea',x,r⟩:=k.give e
   rw [ea] at ea'; cases ea'
   exact q σ H x _ r
  ·rename_i hc
   simp only [Bool.or_eq_true,not_or,Bool.not_eq_true,Bool.not_eq_false',WC] at hc
   obtain ⟨hc1,hc2⟩:=hc
   have nI:¬ c.I a:=fun ⟨j,z⟩=>by
    have z1:=hnp (j,a) z
    have z2:=k.pinned (j,a) z
    have z3:=hc2 j (by simpa using z1)
    unfold z0w at z3
    split at z3
    ·rename_i d' ej
     have:=k.inj i j a _ _ e ej ea z2
     subst this
     rw [z1] at hc1; cases hc1
    ·cases z3
   have h0:c.H₀ a=none:=ia.resolve_left nI
   have hi:i < δ.length:=(Wb.mp e).1
   have ne:∀ j d,(δ.set i none)[j]? = some (some d)→i≠j∧δ[j]? = some (some d):=fun j d q=>by
    by_cases hj:i=j
    ·subst hj
     rw [Wq hi] at q; cases q
    ·rw [W9 hj] at q; exact ⟨hj,q⟩
   have sub:∀ b,Av (c.plus a) σ (δ.set i none) b→Av c σ δ b:=fun b z=>by
    rcases z with (z | z) | z
    ·exact .inl z
    ·subst z; exact .inr ⟨i,_,e,ea⟩
    ·exact .inr z.unset
   have kp:Ok (c.plus a) σ (δ.set i none) H:=by
    refine ⟨k.keep,fun b z=>?_,k.ith,by rw [WY]; exact k.len,fun j d q=>?_,fun j d q=>?_,fun j l b d d' q1 q2=>k.inj j l b d d' (ne j _ q1).2 (ne l _ q2).2,k.pinned⟩
    ·rcases z with z | z
     ·exact k.bd b z
     ·subst z; exact k.othere ⟨i,_,e,ea⟩
    ·obtain ⟨_,q⟩:=ne j _ q
     obtain ⟨v,g1,g2⟩:=k.slot j d q
     exact ⟨v,g1,g2.anti fun b z=>.inl (sub b z)⟩
    ·obtain ⟨hj,q⟩:=ne j _ q
     obtain ⟨b,g1,g2,g3,g4⟩:=k.own j d q
     refine ⟨b,g1,g2.anti fun b z=>.inl (sub b z),g3,fun z=>?_⟩
     rcases z with z | z
     ·exact g4 z
     ·subst z; exact hj (k.inj i j b _ _ e q ea g1)
   have x:Aft c σ δ H σ (δ.set i none) H:=by
    refine ⟨⟨k.keep,k.bd,k.ith,by rw [WY]; exact k.len,fun j d q=>?_,fun j d q=>?_,fun j l b d d' q1 q2=>k.inj j l b d d' (ne j _ q1).2 (ne l _ q2).2,k.pinned⟩,fun _ _ w _=>w,fun b z=>.inl z.unset,fun _ o w=>⟨o,w⟩⟩
    ·obtain ⟨_,q⟩:=ne j _ q
     obtain ⟨v,g1,g2⟩:=k.slot j d q
     exact ⟨v,g1,g2.anti fun b z=>.inl (z.elim .inl fun z=>.inr z.unset)⟩
    ·obtain ⟨hj,q⟩:=ne j _ q
     obtain ⟨b,g1,g2,g3,g4⟩:=k.own j d q
     exact ⟨b,g1,g2.anti fun b z=>.inl (z.elim .inl fun z=>.inr z.unset),g3,g4⟩
   exact q σ H x _ ⟨a,rfl,oa.anti fun b z=>.inl (sub b z),nb,h0,kp,h0⟩
 ·rename_i d e
  obtain ⟨v,e1,r⟩:=k.slot i d e
  exact ⟨v,e1,q σ H (.refl k) v r⟩
 ·exact q.elim
end
end DV
namespace L2
open PySem PySem.Spec PyProof.Rows
section
variable {X:Cx}
end
end L2
namespace DV
open PySem PySem.Spec PyProof.Rows L2
section
variable {X:Cx} {c:Fc} {e:Expr} {fe:DE} {pos:Pos}
end
section
variable {c:Fc} {σ:St} {δ δ':Dl} {H H':Hp} {i:Nat} {a p:Addr} {ds:List D}
end
open Classical in
noncomputable def itAt (δ₀:Dl) (ds:List D):DI:=fun δ=>if δ=δ₀ then .ok ds δ else .stuck
section
variable {X:Cx} {c:Fc} {cs:List Nat} {tg iter elt:Expr} {ifs:List Expr} {scope:Scope} {pos:Pos} {g:DG} {t:DT} {el:DE} {i:Nat}
end
section
variable {X:Cx} {c:Fc} {e:Expr} {fe:DE} {pos pos':Pos}
end
section
variable {X:Cx} {c:Fc} {pp pos:Pos}
end
section
variable {c:Fc} {σ:St} {δ:Dl} {H:Hp} {a:Addr} {d:D}
end
section
variable {X:Cx} {c:Fc} {e:Expr} {es:List Expr} {as:List Ak} {f0:DE} {k n:Nat} {x:Str} {G:DF} {pp pos:Pos}
end
section
variable {X:Cx} {c:Fc} {e:Expr} {fe:DE} {pos:Pos}
end
section
variable {X:Cx} {c:Fc} {o e f:Expr} {fe ff:DE} {i:Nat} {apos cpos:Pos}
end
section
variable {X:Cx}
end
end DV
namespace L2
open PySem PySem.Spec PyProof.Rows
section
variable {X:Cx} {tg:Expr}
end
end L2
namespace DV
open PySem PySem.Spec PyProof.Rows L2
variable {X:Cx} {c:Fc} {tg e:Expr} {fe:DE} {pp pos:Pos}
section
variable {X:Cx}
end
theorem vals_ints:∀ {ns:List Int} {us:List Value},Vals (ns.map V.int) us→∃ ys:List (Int×Tok),us=(ys.map fun p=>Value.int p.1 p.2)∧ns=ys.map (·.1)
 | [],us,r=>by cases r; exact ⟨[],rfl,rfl⟩
 | n :: ns,us,r=>by
  cases r with
  | cons r1 r2 =>
   obtain ⟨ys,e1,e2⟩:=vals_ints r2
   obtain ⟨t,rfl⟩:=r1
   exact ⟨(n,t) :: ys,by rw [e1]; rfl,by rw [e2]; rfl⟩
section
variable {X:Cx}
end
def z6p:List D→Option (List Int)
 | []=>some []
 | .int i :: r=>(z6p r).map (i :: ·)
 | _ :: _=>none
theorem ints_map (ns:List Int):z6p (ns.map D.int)=some ns:=by
 induction ns with
 | nil=>rfl
 | cons n r ih=>simp [z6p,ih]
section
variable {X:Cx} {c:Fc} {e:Expr} {fb:BE} {pos pp:Pos}
end
end DV
namespace L2
open PySem PySem.Spec PyProof.Rows
section
variable {prog:Wk} {w:Wr} {A:Wp} {E:Value→W2→Prop} {s:W2}
end
section
variable {X:Cx} {pos:Pos}
end
end L2
namespace DV
open PySem PySem.Spec PyProof.Rows L2
section
variable {X:Cx} {c:Fc} {pos:Pos}
end
open PySem PySem.Builtin PySem.Builtin.Str PySem.StrLaws
def z0d (c:Nat):List Nat→List (List Nat)
 | []=>[[]]
 | a :: r=>if a=c then [] :: z0d c r else match z0d c r with
  | p :: q=>(a :: p) :: q
  | []=>[[a]]
theorem z1Z (c:Nat):∀ z,∃ p q,z0d c z=p :: q
 | []=>⟨_,_,rfl⟩
 | a :: r=>by
  obtain ⟨p,q,e⟩:=z1Z c r
  by_cases h:a=c
  ·exact ⟨[],z0d c r,by simp [z0d,h]⟩
  ·exact ⟨a :: p,q,by simp [z0d,h,e]⟩
def posn (c:Nat) (z:List Nat) (a n:Nat):List Nat:=(List.range' a n).filter fun i=>decide (z[i]? = some c)
theorem zdE (z:List Nat) (c i:Nat):subAt ⟨z.toArray⟩ ⟨#[c]⟩ i=decide (z[i]? = some c):=by
 unfold subAt
 have e:(⟨#[c]⟩:Str).length=1:=rfl
 rw [e]
 show (z.toArray.extract i (i + 1) == #[c])=_
 rw [List.extract_toArray,List.extract_eq_take_drop,Qz]
 have hb:((List.take 1 (List.drop i z)).toArray == #[c])=((List.take 1 (List.drop i z)) == [c]):=by simp
 rw [hb]
 cases h:z[i]? with
 | none =>
  rw [List.getElem?_eq_none_iff] at h
  rw [List.drop_of_length_le h]
  simp
 | some a =>
  have hi:i < z.length:=(Wb.mp h).1
  have ha:z[i]=a:=(Wb.mp h).2
  rw [Qs hi,ha]
  by_cases hac:a=c <;> simp [hac]
theorem z8M (c:Nat) (z:List Nat):∀ (n k:Nat) (st:Array Nat×Nat),st.2≤k→st.1.size≤k→k + n=z.length + 1 →
  (forIn (List.range' k n) st (occBody ⟨z.toArray⟩ ⟨#[c]⟩ z.length (z.length + 1))).run.fst.toList=st.1.toList ++ posn c z k n
 | 0,k,st,_,_,_=>by simp [posn]
 | n + 1,k,st,h1,h2,h3=>by
  rw [Je,List.forIn_cons]
  unfold occBody
  have e1:(⟨#[c]⟩:Str).length=1:=rfl
  rw [zdE,e1]
  by_cases hc:z[k]? = some c
  ·have hk:k < z.length:=(Wb.mp hc).1
   rw [if_pos ⟨⟨⟨by omega,h1⟩,by omega⟩,by simpa using hc⟩]
   have ih:=z8M c z n (k + 1) (st.1.push k,k + 1) (W7 _) (by simp; omega) (by omega)
   show (forIn (List.range' (k + 1) n) (st.1.push k,k + 1) (occBody ⟨z.toArray⟩ ⟨#[c]⟩ z.length (z.length + 1))).run.fst.toList=_
   rw [ih]
   simp [posn,Je,hc]
  ·rw [if_neg (fun h=>hc (by simpa using h.2))]
   have ih:=z8M c z n (k + 1) (st.1,st.2) (by show st.2≤k + 1; omega) (by show st.1.size≤k + 1; omega) (by omega)
   show (forIn (List.range' (k + 1) n) (st.1,st.2) (occBody ⟨z.toArray⟩ ⟨#[c]⟩ z.length (z.length + 1))).run.fst.toList=_
   rw [ih]
   simp [posn,Je,hc]
theorem zcq (c:Nat) (z:List Nat):occurrences ⟨z.toArray⟩ ⟨#[c]⟩ 0 z.length (z.length + 1)=posn c z 0 z.length:=by
 rw [occ_eq,z8M c z (z.length + 1 - 0) 0 (#[],0) (W7 _) (W7 _) (by omega)]
 have:z.length + 1 - 0=z.length + 1:=rfl
 rw [this]
 unfold posn
 rw [List.range'_concat]
 simp
theorem z2Z (z:List Nat) (a b:Nat):strSub ⟨z.toArray⟩ a b = ⟨((z.drop a).take (b - a)).toArray⟩:=by
 unfold strSub
 rw [List.extract_toArray,List.extract_eq_take_drop]
theorem z5L (c:Nat) (z:List Nat):∀ (n a:Nat),a + n=z.length→partsFrom ⟨z.toArray⟩ 1 a (posn c z a n)=(z0d c (z.drop a)).map fun t=>⟨t.toArray⟩
 | 0,a,h=>by
  have e:z.drop a=[]:=List.drop_of_length_le (by omega)
  rw [e]
  show [strSub ⟨z.toArray⟩ a (⟨z.toArray⟩:Str).length]=[⟨#[]⟩]
  rw [z2Z,e]
  simp
 | n + 1,a,h=>by
  have ha:a < z.length:=by omega
  have ih:=z5L c z n (a + 1) (by omega)
  have hd:z.drop a=z[a] :: z.drop (a + 1):=Qs ha
  by_cases hc:z[a]=c
  ·have hp:posn c z a (n + 1)=a :: posn c z (a + 1) n:=by simp [posn,Je,ha,hc]
   rw [hp,hd]
   show strSub ⟨z.toArray⟩ a a :: partsFrom ⟨z.toArray⟩ 1 (a + 1) (posn c z (a + 1) n)=_
   rw [ih,z2Z]
   simp [z0d,hc]
  ·have hp:posn c z a (n + 1)=posn c z (a + 1) n:=by simp [posn,Je,ha,hc]
   rw [hp,hd]
   obtain ⟨p,q,e⟩:=z1Z c (z.drop (a + 1))
   have e2:z0d c (z[a] :: z.drop (a + 1))=(z[a] :: p) :: q:=by simp [z0d,hc,e]
   rw [e2]
   rw [e] at ih
   cases hcs:posn c z (a + 1) n with
   | nil =>
    rw [hcs] at ih
    have i1:[strSub ⟨z.toArray⟩ (a + 1) z.length]=(⟨p.toArray⟩:Str) :: q.map fun t=>⟨t.toArray⟩:=ih
    have i2:=(List.cons.inj i1).1
    have i3:=(List.cons.inj i1).2
    rw [z2Z] at i2
    have i4:(List.take (z.length - (a + 1)) (List.drop (a + 1) z))=p:=by
     have:=congrArg (fun s:Str=>s.cps.toList) i2
     simpa using this
    show [strSub ⟨z.toArray⟩ a z.length]=(⟨(z[a] :: p).toArray⟩:Str) :: q.map fun t=>⟨t.toArray⟩
    rw [← i3,z2Z,hd,← i4,show z.length - a=(z.length - (a + 1)) + 1 by omega,List.take_succ_cons]
   | cons k r =>
    rw [hcs] at ih
    have hk:a + 1≤k:=by
     have:k ∈ posn c z (a + 1) n:=by rw [hcs]; exact Wi
     simp only [posn,List.mem_filter,List.mem_range'_1] at this
     exact this.1.1
    have i1:strSub ⟨z.toArray⟩ (a + 1) k :: partsFrom ⟨z.toArray⟩ 1 (k + 1) r=(⟨p.toArray⟩:Str) :: q.map fun t=>⟨t.toArray⟩:=ih
    have i2:=(List.cons.inj i1).1
    have i3:=(List.cons.inj i1).2
    rw [z2Z] at i2
    have i4:(List.take (k - (a + 1)) (List.drop (a + 1) z))=p:=by
     have:=congrArg (fun s:Str=>s.cps.toList) i2
     simpa using this
    show strSub ⟨z.toArray⟩ a k :: partsFrom ⟨z.toArray⟩ 1 (k + 1) r=(⟨(z[a] :: p).toArray⟩:Str) :: q.map fun t=>⟨t.toArray⟩
    rw [i3,z2Z,hd,← i4,show k - a=(k - (a + 1)) + 1 by omega,List.take_succ_cons]
theorem za8 (c:Nat) (z:List Nat) (hc:c < 256) (hz:z≠[]):Txt.split ⟨z.toArray⟩ ⟨#[c]⟩=(z0d c z).map fun t=>⟨t.toArray⟩:=by
 have hp:=z5L c z z.length 0 (by omega)
 rw [List.drop_zero] at hp
 unfold Txt.split
 have k1:Q9 ⟨#[c]⟩=1:=by simp [Q9,hc]
 have k2:1≤Q9 ⟨z.toArray⟩:=by
  unfold Q9
  split
  ·omega
  ·split <;> omega
 have hl:1≤(⟨z.toArray⟩:Str).length:=by
  show 1≤z.toArray.size
  cases z with
  | nil=>exact (hz rfl).elim
  | cons _ _=>simp
 have l1:(⟨#[c]⟩:Str).length=1:=rfl
 rw [if_neg (by simp [l1,k1]; omega)]
 have lz:(⟨z.toArray⟩:Str).length=z.length:=by show z.toArray.size=_; simp
 rw [lz,zcq,l1,partsBetween_eq]
 split
 ·rename_i he
  have:posn c z 0 z.length=[]:=by simpa using he
  rw [this] at hp
  rw [← hp]
  show [_]=[strSub ⟨z.toArray⟩ 0 (⟨z.toArray⟩:Str).length]
  rw [z2Z,lz]
  simp
 ·exact hp
theorem z1P (c:Nat):∀ z:List Nat,(z0d c z).length≤z.length + 1
 | []=>by simp [z0d]
 | a :: r=>by
  have ih:=z1P c r
  obtain ⟨p,q,e⟩:=z1Z c r
  by_cases h:a=c
  ·simp [z0d,h]; omega
  ·simp [z0d,h,e] at ih ⊢; omega
theorem z6u:∀ (l:List (Str×Tok)),Vals ((l.map (·.1)).map V.str) (strValues l)
 | []=>.nil
 | p :: r=>.cons ⟨_,rfl⟩ (z6u r)
section
variable {X:Cx}
end
section
variable {X:Cx} {c:Fc} {e:Expr} {fb:BE}
def z5M:D→Option S
 | .int i=>if 0≤i∧i < 10 then some (.pure (.str [48 + i.toNat])) else none
 | _=>none
theorem zdG:∀ n:Nat,n < 10→(Str.ofString (toString (n:Int)))=toS [48 + n]:=by decide +kernel
theorem zbR {i:Int} (h0:0≤i) (h1:i < 10):(Str.ofString (toString i))=toS [48 + i.toNat]:=by
 have:=zdG i.toNat (by omega)
 rw [Int.toNat_of_nonneg h0] at this
 exact this
theorem zb2 {i:Int} (h0:0≤i) (h1:i < 10):i.natAbs.log2 < 1920:=by
 have h2:i.natAbs.log2≤9:=Wn (Nat.log2_le_self _) (by omega)
 omega
theorem zai {pp pos:Pos} (hg:Gl X "str") (hm:X.mg "str" = none) (he:SB X c e fb) (hs:W4 [e] X.env=(false,eval e X.env) :: W4 [] X.env:=by rfl):SE X c (.Call (.Name "str" pp) [e] [] pos) (eC1 z5M fb) :=
 z2V (r:=fun v H Q=>∃ i,v = .int i∧i.natAbs.log2 < 1920∧Q (.str (toString i)) H) z8r (fun v H Q ⟨i,e,h⟩=>⟨i,by rw [e],h⟩) (fun c σ δ H x d s Q k rx hp q=>by
  cases d with
  | int i =>
   simp only [z5M] at hp
   split at hp
   ·rename_i hi
    simp only [W5] at hp
    subst hp
    refine ⟨i,rx.int,zb2 hi.1 hi.2,?_⟩
    have e:=zbR hi.1 hi.2
    have:=q (.str (toS [48 + i.toNat])) H (.refl k) (.str _)
    rw [← e] at this
    exact this
   ·cases hp
  | _=>simp [z5M] at hp) hg hm PyProof.Rows.boot_str he (by decide) (by decide) hs
end
end DV
set_option maxHeartbeats 1000000
namespace PySem
open Sem (wp)
open AutoSeq1 (wpAny_loadPart')
theorem z3O (l:Addr) (items:Array Value) (n:Nat) (t:Tok) (dct:Option Addr) (sl:Array (Option Value)) :
  Meets (Builtin.«enumerate.__new__» ⟨[.type "enumerate",.ref l],[(Str.ofString "start",.int 2 t)]⟩) (fun _ R s=>s.heap.get? l=some { cls:=.type "list",dict:=dct,data:=.seq items n,slots:=sl } ∧
   R (.ok (.ret (.ref (s.heap.push { cls:=.type "list_iterator",data:=.fields #[.ref l,.int 0 0] }).objs.size)))
    { s with heap:=(s.heap.push { cls:=.type "list_iterator",data:=.fields #[.ref l,.int 0 0] }).push { cls:=.type "enumerate",data:=.fields #[.none,.bool false,.ref s.heap.objs.size,Qj 2,.none,.none] } }) :=
 .of_wp fun prog w A R s h=>by
  obtain ⟨hp,g,d,tk,os⟩:=s; obtain ⟨hl,h⟩:=h
  have hsub:=sub_enumerate
  have hL:Heap.IsList (Shared.heap ⟨hp,g,d,tk,os⟩) l items:=⟨_,hl,rfl,n,rfl⟩
  wp_walk using WH hl
  refine wpAny_stack_any fun st=>Wd ?_
  split
  ·rename_i c _ _ _ _ _
   cases (c == Value.type "enumerate")
   ·wp_walk using WH hl,QH hL
    exact ⟨_,rfl,h⟩
   ·wp_walk using WH hl,QH hL
    exact ⟨_,rfl,h⟩
  ·wp_walk using WH hl,QH hL
   exact ⟨_,rfl,h⟩
section
variable {prog:Wk} {w:Wr} {A:Wp} {E:Value→W2→Prop} {s:W2}
theorem z6g (ft:TypeCalled T newId initId)
  (hct:checkTypeCall T ⟨args,kw⟩=pure ()) (hcn:checkBuiltinCall newId ⟨.type T :: args,kw⟩=pure ())
  (entryN:entryFor table newId=some Bn) (entryI:entryFor table initId=some Bi) (g:Meets (Bn ⟨.type T :: args,kw⟩) S)
  (h:S A.in1 (wants Q₁ E) s)
  (hnext:∀ obj s₁,Q₁ obj s₁→s₁.TypeIs obj T∧argsOk initId ⟨obj :: args,kw⟩∧∃ Si,Meets (Bi ⟨obj :: args,kw⟩) Si∧Si A.in1 (wants (fun r s₂=>r = .none∧Q obj s₂) E) s₁) :
  Wa (model prog w) A (call (.type T) args kw) Q E s:=by
 obtain ⟨c,tl,hmro⟩:=ft.mro
 have hmade:=ft.made
 have hsub:=ft.sub
 refine wpAny_call (codeAny_of_tree ?_)
 show Wa _ _ (callAny (.type T) _) _ _ _
 refine Wd ⟨Code.quiet_builtin _ (by decide +kernel),codeAny_builtin F.entry_type_call ?_⟩
 rw [Around.under_plain (weight_type_call_type T args kw) (units_type_call_type T args kw)]
 have h1:=ft.notType
 have h2:=ft.canCreate
 repeat (any_goals (first | assumption | wp_step))
 refine QN (Qv ft.plain entryN (wpAny_of_eq hcn (g prog w A.in1 _ s h))) fun r s₁ hr=>?_
 cases r with
 | error e=>exact hr
 | ok fl =>
  cases fl with
  | ret obj =>
   obtain ⟨hT,hok,Si,gi,hsi⟩:=hnext _ _ hr
   have hli:=ft.init.lookup
   have hbi:=ft.init.bind obj
   repeat (any_goals (first | assumption | wp_step))
   refine QN (Qv ft.init.plain entryI (ft.init.check _ _ _ _ _ _ _ _ hT hok (gi prog w A.in1 _ s₁ hsi))) fun r₂ s₂ hr₂=>?_
   cases r₂ with
   | error e=>exact hr₂
   | ok fl₂ =>
    cases fl₂ with
    | ret r =>
     obtain ⟨rfl,hq⟩:=hr₂
     repeat (any_goals (first | assumption | wp_step))
    | _=>exact hr₂.elim
  | _=>exact hr.elim
theorem z4B (hl:typeLookup (.type T) "__init__" = pure (some (.builtin "object.__init__")))
  (hm:Bind.madeBy (.type T)=pure (some newId)) (hne:(some newId != some "object.__new__")=true) :
  Meets (Builtin.«object.__init__» ⟨self :: a :: rest,kw⟩) (fun _ R s=>s.TypeIs self T∧R (.ok (.ret .none)) s):=by
 refine Meets.of_wp fun prog w A R s hs=>?_
 obtain ⟨hT,hq⟩:=hs
 repeat (any_goals (first | assumption | wp_step))
 exact ⟨_,rfl,hq⟩
theorem z3L (a v:Value):checkTypeCall "enumerate" ⟨[a],[(Str.ofString "start",v)]⟩=pure ():=by kernel_rfl
theorem z48 (a v:Value):checkBuiltinCall "enumerate.__new__" ⟨[.type "enumerate",a],[(Str.ofString "start",v)]⟩=pure ():=by kernel_rfl
theorem z5t (o a v:Value):argsOk "object.__init__" ⟨[o,a],[(Str.ofString "start",v)]⟩:=by
 first | (unfold argsOk; kernel_rfl) | kernel_rfl | exact trivial
theorem z5v (hL:s.heap.IsList l items)
  (h:∀ h',IsEnum h' (s.heap.objs.size + 1) s.heap.objs.size 2 .none→h'.IsListIter s.heap.objs.size l 0→h'.objs.size=s.heap.objs.size + 2 →
   (∀ b o,s.heap.get? b=some o→h'.get? b=some o)→Q (.ref (s.heap.objs.size + 1)) { s with heap:=h' }) :
  Wa (model prog w) A (call (.type "enumerate") [.ref l] [(Str.ofString "start",.int 2 t)]) Q E s:=by
 obtain ⟨⟨c,dct,da,sl⟩,hl,hc,n,hd⟩:=hL
 cases hc
 cases hd
 refine z6g F.called_enumerate (z3L _ _) (z48 _ _) F.entry_enumerate_new F.entry_object_init
  (z3O l items n t dct sl) (Q₁:=fun obj s₁=>s₁.TypeIs obj "enumerate"∧Q obj s₁) ⟨hl,?_⟩ fun obj _ hq =>
   ⟨hq.1,z5t obj _ _,_,z4B F.called_enumerate.init.lookup F.called_enumerate.made (by decide),hq.1,rfl,hq.2⟩
 have hz:(s.heap.push { cls:=.type "list_iterator",data:=.fields #[.ref l,.int 0 0] }).objs.size=s.heap.objs.size + 1:=QM ..
 show _∧_
 rw [hz]
 have he:IsEnum ((s.heap.push { cls:=.type "list_iterator",data:=.fields #[.ref l,.int 0 0] }).push
   { cls:=.type "enumerate",data:=.fields #[.none,.bool false,.ref s.heap.objs.size,Qj 2,.none,.none] }) (s.heap.objs.size + 1) s.heap.objs.size 2 .none:=by
  have:=Wm (s.heap.push { cls:=.type "list_iterator",data:=.fields #[.ref l,.int 0 0] })
   (o:={ cls:=.type "enumerate",data:=.fields #[.none,.bool false,.ref s.heap.objs.size,Qj 2,.none,.none] }) rfl
  rw [hz] at this; exact this
 refine ⟨⟨_,he,rfl⟩,h _ he ⟨_,W6 _ (Wm _ rfl),rfl,rfl⟩ (by rw [QM,hz]) fun b o x=>W6 _ (W6 _ x)⟩
theorem Draws.shift (k:Nat) (D:Draws prog w A it fp n P St):Draws prog w A it fp (k + n) (fun i v=>P (i - k) v) (fun i h=>k≤i∧St (i - k) h) where
 live:=fun i h st=>D.live _ h st.2
 frame:=fun i h h' st hk=>⟨st.1,D.frame _ h h' st.2 hk⟩
 item:=fun i s Q E hi st hQ=>D.item (i - k) s Q E (by omega) st.2 fun x h' tk hP st' sb=>hQ x h' tk hP ⟨by omega,by rw [show i + 1 - k=i - k + 1 by omega]; exact st'⟩ sb
 done:=fun s Q E st hE=>D.done s Q E (by have:=st.2; rwa [Qz] at this) hE
end
end PySem
namespace PyProof.Rows
open PySem
section
variable {M:Model} {A:Wp} {E:Value→W2→Prop} {s:W2} {env:Env}
theorem z5c
  (hplain:args.any (·.1)=false) (hkw:keywords.any (·.1.isNone)=false)
  (h:Wa M A (evalArgs (.type T) true args keywords) (fun a s₁=>Wa M A (call (.type T) (first ++ a.pos) a.kw) Q E s₁) E s) :
  Wa M A (callWith pos (.type T) first args keywords) Q E s:=by
 unfold callWith
 refine W1 (WX (WO h (fun a s₁ h₁=>W1 (Jf ?_)) fun _ _ x=>x))
 simp only [hplain,hkw,Bool.or_false]
 refine W1 (Wd ?_)
 exact W1 (WO h₁ (fun r s₂ hr=>W1 (WX (wpAny_point (Wd hr)))) fun _ _ x=>x)
theorem callWith_typeK
  (h:Wa M A (spliced (WF pos (W4 (e :: rest) env))) (fun vs s₁=>Wa M A (evalAll ((Qn pos (WV kws env)).map (·.2)))
   (fun kvs s₂=>Wa M A (call (.type T) vs (((Qn pos (WV kws env)).filterMap (·.1)).zip kvs)) Q E s₂) E s₁) E s)
  (he:WF pos (W4 (e :: rest) env)=(false,eval e env) :: WF pos (W4 rest env))
  (hplain:(WF pos (W4 (e :: rest) env)).any (·.1)=false)
  (hall:(Qn pos (WV kws env)).all (·.1.isSome)=true)
  (hkw:(Qn pos (WV kws env)).any (·.1.isNone)=false) :
  Wa M A (callWith pos (.type T) [] (WF pos (W4 (e :: rest) env)) (Qn pos (WV kws env))) Q E s:=by
 refine z5c hplain hkw ?_
 rw [he] at h ⊢
 exact evalArgs_kwB hall h
end
end PyProof.Rows
set_option maxHeartbeats 400000
namespace L2
open PySem PySem.Spec PyProof.Rows
def IteK (K:W0) (m:Nat) (a:Addr):It :=
 ⟨(Itl K a).go,fun i H x H'=>∃ p y,H p=none∧(∀ xs,SqL K H a xs→xs[i]? = some y)∧H'=upd H p (.tup [.int ((m + i:Nat):Int),y])∧x = .ref p,fun i H=>∃ xs,SqL K H a xs∧xs.length=i⟩
theorem z9F {P:Wk} {w:Wr} {K:W0} {elts:List Expr} {ctx} {pos:Pos} (m:Nat) (a e it:Addr) (hei:e≠it) (hae:a≠e) (hai:a≠it):Turn P w K (.Tuple elts ctx pos) (IteK K m a) [e,it] e (fun i h=>(∃ old,IsEnum h e it ((m + i:Nat):Int) old)∧h.IsListIter it a i) where
 mem:=by simp
 obj:=fun i h st b hb=>by
  obtain ⟨⟨old,he⟩,hi⟩:=st
  have hb:b=e∨b=it:=by simpa using hb
  rcases hb with z | z
  ·subst z
   exact ⟨_,he,fun v z=>by
    have z':Data.fields _=Data.cell v:=z
    cases z'⟩
  ·subst z
   obtain ⟨o,e,c,d⟩:=hi
   exact ⟨o,e,fun v z=>by rw [d] at z; cases z⟩
 keep:=fun i h h' st k=>⟨let ⟨old,he⟩:=st.1; ⟨old,k e (by simp) _ he⟩,st.2.at fun o q=>k it (by simp) o q⟩
 item:=by
  intro X hP hw hK hc i pins s σ H E I hf st hg
  subst hP hw hK
  obtain ⟨xs,x,hq,hx⟩:=hg
  obtain ⟨its,rv,p,hz⟩:=I.list hq
  obtain ⟨u,hu,ru⟩:=rv.get hx
  obtain ⟨⟨old,he⟩,hi⟩:=st
  have hL:s.heap.IsList a its.toArray:=p.isList
  have D:=Draws.list (prog:=X.prog) (w:=X.w) (A:=X.A.in1) (I.ok.hd hc) it a hai its.toArray
  have hilt:i < its.length:=(Wb.mp hu).1
  have hlt:∀ b ∈ [e,it],b < s.heap.objs.size:=fun b hb=>by
   have hb:b=e∨b=it:=by simpa using hb
   rcases hb with z | z
   ·subst z; exact Wg he
   ·subst z; obtain ⟨o,q,_⟩:=hi; exact Wg q
  have hi2:m + i < m + its.toArray.size:=by rw [Wf]; omega
  refine wpAny_pyNext_enum_itemD (D.shift m) he ⟨Nat.le_add_right _ _,by rw [Qz]; exact ⟨hi,hL⟩⟩ hi2 hei (by simp [hei,Ne.symm hae]) fun x' h' tk hP ho hs' hT hsz hk=>?_
  have ex:x'=u:=by
   have hP1:=hP
   simp only [Qz] at hP1
   have:its.toArray[i]? = some x':=hP1
   rw [List.getElem?_toArray,hu] at this
   cases this
   rfl
  subst ex
  refine ⟨_,rfl,wpAny_letOwnedTupleGo_enum ho fun h2 he2 sb=>?_⟩
  have k2:∀ b o,b≠e→b≠it→s.heap.get? b=some o→h2.get? b=some o:=fun b o q1 q2 q=>(sb.2 b q1).trans (hk b o q1 q2 q)
  have hT2:h2.get? s.heap.objs.size=some { cls:=.type "tuple",data:=.seq #[.int ((m + i:Nat):Int) tk,x'] }:=(sb.2 _ (Jk (hlt e (by simp)))).trans hT
  have I2:Inv X pins σ (upd H s.heap.objs.size (.tup [.int ((m + i:Nat):Int),x])) { s with heap:=h2,toks:=tk + 1 }:=Inv.pairLaid (t':=tk + 1) I hf hlt ru hT2 k2
  refine ⟨.ref s.heap.objs.size,_,I2,rfl,⟨s.heap.objs.size,x,I.hok.fresh (W7 _),fun ys hy=>by rw [I.list_inj hy hq]; exact hx,rfl,rfl⟩,⟨⟨x',by rw [show ((m + (i + 1):Nat):Int)=((m + i:Nat):Int) + 1 by omega]; exact he2⟩,(show h'.IsListIter it a (i + 1) from by have:=hs'.2.1; rwa [show m + i + 1 - m=i + 1 by omega] at this).at fun o q=>(sb.2 it (Ne.symm hei)).trans q⟩,fun b hb=>?_⟩
  rw [z0q (Wy (hlt b hb))]
  exact (hf b hb).1
 done:=by
  intro X hP hw hK hc i pins s σ H E I hf st hg
  subst hP hw hK
  obtain ⟨xs,hq,hx⟩:=hg
  obtain ⟨its,rv,p,hz⟩:=I.list hq
  obtain ⟨⟨old,he⟩,hi⟩:=st
  have hL:s.heap.IsList a its.toArray:=p.isList
  have hl:=rv.length
  have D:=Draws.list (prog:=X.prog) (w:=X.w) (A:=X.A.in1) (I.ok.hd hc) it a hai its.toArray
  have hn:its.toArray.size=i:=by simp; omega
  obtain ⟨f0,f1,f2,f3,f4,f5⟩:=hf it (by simp)
  exact wpAny_pyNext_enum_endD (D.shift m) he ⟨Nat.le_add_right _ _,by rw [Qz]; exact ⟨by rw [hn]; exact hi,hL⟩⟩ fun h' eb=>⟨rfl,I.turned (t':=s.toks) (fun b o hb q=>eb b o hb q) f0 f1 f3 f4 f5⟩
 self:=fun _ _ _ _ _ st h=>by
  obtain ⟨⟨old,he⟩,_⟩:=st
  exact QI he h
end L2
namespace DV
open PySem PySem.Spec PyProof.Rows L2
section
variable {X:Cx} {c:Fc} {tg e:Expr} {fe:DE} {pos pp:Pos}
theorem zgH
  (h:Wa M A (eval func env) (fun f s₁=>Wa M A (callWith pos f [] (WF pos (W4 args env)) (Qn pos (WV kws env))) Q E s₁) E s)
  (he:eval (.Call func args kws pos) env=(do callWith pos (← eval func env) [] (WF pos (W4 args env)) (Qn pos (WV kws env)))) :
  Wa M A (eval (.Call func args kws pos) env) Q E s:=by
 rw [he]; exact W1 h
def zeE (K:W0) (ta:TA):TI:=fun σ H R=>ta σ H fun vs H1=>∃ a,vs=[.ref a]∧(∃ xs,SqL K H1 a xs)∧R (IteK K 2 a) H1
theorem zce {a:Expr} {ta:TA} {elts:List Expr} {ctx j} {tp kp cp:Pos} (hg:Gl X "enumerate") (hm:X.mg "enumerate" = none) (ha:PA X [a] ta) (hs:W4 [a] X.env=[(false,eval a X.env)]:=by rfl) :
  PI X (.Tuple elts ctx tp) (.Call (.Name "enumerate" pp) [a] [⟨some "start",.Constant (.int 2) j cp,kp⟩] pos) (zeE X.K ta):=by
 intro pins s σ H R I h
 refine zgH (z5Z I hg hm boot_enumerate (PyProof.Rows.callWith_typeK (thn (ha pos pins s σ H _ I h) fun us s1 ⟨vs,H1,I1,r1,q1⟩=>?_) (by rw [hs]; rfl) (by rw [hs]; rfl) rfl rfl)) rfl
 obtain ⟨a,ev,⟨xs,hq⟩,q⟩:=q1
 subst ev
 cases r1 with
 | cons r rr =>
  cases rr
  cases r
  refine PyProof.Rows.kws_cons (thn (zdb (X:=X) (i:=2) pins s1 σ H1 (fun v H2=>v = .int 2∧H2=H1) I1 ⟨rfl,rfl⟩) fun u s2 ⟨v,H2,I2,r2,e1,e2⟩=>?_)
  subst e1 e2
  obtain ⟨t,rfl⟩:=r2
  refine PyProof.Rows.kws_nil ?_
  obtain ⟨its,rv,p,hz⟩:=I2.list hq
  have hL:s2.heap.IsList a its.toArray:=p.isList
  have hlt:a < s2.heap.objs.size:=by obtain ⟨o,q,_⟩:=hL; exact Wg q
  refine z5v hL fun h' he hi hsz kp=>QI he ?_
  refine ⟨s2.heap.objs.size + 1,[s2.heap.objs.size + 1,s2.heap.objs.size],_,_,H2,rfl,I2.kept (t':=s2.toks) kp,z9F 2 a _ _ (Nat.succ_ne_self _) (Wy (J3 hlt)) (Wy hlt),⟨⟨_,he⟩,hi⟩,fun b hb=>?_,q⟩
  have hb:b=s2.heap.objs.size + 1∨b=s2.heap.objs.size:=by simpa using hb
  have hle:s2.heap.objs.size≤b:=by rcases hb with z | z <;> subst z <;> first | exact W7 _ | exact Nat.le_succ _
  exact I2.fpOk hle (I2.hok.fresh hle)
def z8S (ds:List D):List D:=ds.mapIdx fun i d=>D.tup [.int ((2 + i:Nat):Int),d]
theorem zbp {ds:List D} {i:Nat} {d:D} (h:(z8S ds)[i]? = some d):∃ d',ds[i]? = some d'∧d = .tup [.int ((2 + i:Nat):Int),d']:=by
 unfold z8S at h
 rw [List.getElem?_mapIdx] at h
 cases e:ds[i]? with
 | none=>rw [e] at h; cases h
 | some d' =>
  rw [e] at h
  cases h
  exact ⟨d',rfl,rfl⟩
def z8f (f:DE):DI:=fun δ=>(f δ).bind fun r δ1=>match r.d with
 | .lst ds=>.ok (z8S ds) δ1
 | _=>.stuck
theorem zbT {elts:List Expr} {ctx j} {tp kp cp:Pos} (hg:Gl X "enumerate") (hm:X.mg "enumerate" = none) (he:SE X c e fe) (hs:W4 [e] X.env=[(false,eval e X.env)]:=by rfl) :
  SI X c (.Tuple elts ctx tp) (.Call (.Name "enumerate" pp) [e] [⟨some "start",.Constant (.int 2) j cp,kp⟩] pos) (z8f fe) :=
 PI.weak (zce hg hm (z0M he z1M hs) hs) fun σ H R ⟨δ,k,q⟩=>by
  unfold z8f at q
  rw [z03] at q
  refine ⟨δ,k,z00 q fun r δ1 q1 v H1 a1 r1=>?_⟩
  have rr:=r1.rep
  generalize r.d=d at q1 rr
  cases d <;> first | exact q1.elim | skip
  cases rr with
  | lst h1 h2 h3 h4 =>
   rename_i a vs
   refine ⟨_,rfl,⟨_,.inl h2⟩,q1 _ H1 a1 ?_⟩
   intro H2 kp
   have h5:Rd H2 a (.lst vs):=Rd.keep h2 fun o e=>kp a o e fun z=>h1 (.inr z)
   have r':Reps H1 (Av c σ δ1) vs _:=⟨h3,h4⟩
   refine ⟨⟨vs,.inl h5,by rw [r'.1]; simp [z8S]⟩,fun i d e=>?_⟩
   obtain ⟨d',e',rfl⟩:=zbp e
   obtain ⟨v,ev,rv⟩:=r'.get e'
   refine ⟨⟨vs,v,.inl h5,ev⟩,fun x H3 ⟨p,y,hp,hy,e3,ex⟩=>.inr ⟨p,_,_,hp,e3,ex,rfl,?_⟩⟩
   have:=hy vs (.inl h5)
   rw [ev] at this
   cases this
   exact Reps.pair rv
end
end DV
namespace L2
open PySem PySem.Spec PyProof.Rows
def Fly (h:Heap) (a C T:Addr) (dx:Option Addr) (fl:Value):Prop :=
 ∃ vs sl oT ts a0,h.get? a=some ⟨.ref C,dx,.fields vs,sl⟩∧vs[0]? = some a0∧vs[1]? = some (.ref T)∧T≠a∧h.get? T=some oT∧oT.data = .fields ts∧ts[3]? = some fl
structure Noted (h h':Heap) (fs:List Addr) (a T:Addr) (old:Value):Prop where
 new:h.get? T=none
 keep:∀ b o,h.get? b=some o→b≠a→old≠.ref b→b ∉ fs→h'.get? b=some o
 frame:∀ b o,h.get? b=some o→(∀ vs,o.data≠.fields vs)→∃ sl,h'.get? b=some { o with slots:=sl }
section
variable {M:Model} {A:Wp} {E:Value→W2→Prop} {s:W2}
theorem z8k {base:Heap} {env:Env} {outer:List Env} {L a C:Addr} {dx:Option Addr} {vs:Array Value} {sl:Array (Option Value)} {a0 head:Value} {b0:Bool} {Q:Unit→W2→Prop}
  (hfr:A.frames=some (env :: outer)) (hl:s.heap.FunFrames base (env :: outer)) (hf:env.frame=some L)
  (he:s.heap.get? a=some ⟨.ref C,dx,.fields vs,sl⟩) (h0:vs[0]? = some a0) (h1:1 < vs.size)
  (q:∀ h' T,Fly h' a C T dx (Qj L)→Noted s.heap h' ((env :: outer).filterMap (·.frame)) a T .none→Q () { s with heap:=h' }) :
  Wa M A (do let x ← frameOf env; let pl ← entryPlaceOf L b0; let y ← EntryCells.newEntry head x .none (Qj L) .none pl; setField (.ref a) 1 y) Q E s:=by
 have na:a ∉ (env :: outer).filterMap (·.frame):=fun z=>by
  obtain ⟨_,o,g1,g2⟩:=hl.mem z
  rw [he] at g1
  cases g1
  exact g2 vs rfl
 refine W1 (wpAny_frameOf_fun hfr hl hf fun hA k=>W1 (wpAny_entryPlaceOf fun pl hpl=>?_))
 unfold EntryCells.newEntry newFields
 refine W1 (Qe ?_ (hpl.sizeOk5 _ _ _ _ _))
 have eA:hA.get? a=some ⟨.ref C,dx,.fields vs,sl⟩:=(k.2.1 a na).trans he
 generalize hts:([head,.ref L,.none,Qj L,.none] ++ (if pl.isEmpty then W3 6 Value.none else pl)).toArray=ts
 have t3:ts[3]? = some (Qj L):=by
  rw [← hts]
  rcases hpl with rfl | ⟨_,_,_,_,_,_,_,rfl⟩ <;> simp
 have eB:=W6 (h:=hA) { cls:=.type "traceback",dict:=none,data:=.fields ts } eA
 have nT:hA.objs.size≠a:=Jk (Wg eA)
 refine Js eB rfl h1 (q _ hA.objs.size ⟨vs.setIfInBounds 1 (.ref hA.objs.size),sl,{ cls:=.type "traceback",dict:=none,data:=.fields ts },ts,a0,?_,?_,?_,nT,?_,rfl,t3⟩ ⟨?_,fun b o e n _ nf=>?_,fun b o e d=>?_⟩)
 ·exact (Qp _ eB rfl)
 ·rw [Array.getElem?_setIfInBounds_ne (by decide)]; exact h0
 ·simp [h1]
 ·rw [Q5 _ _ (Ne.symm nT)]; exact Wm hA rfl
 ·cases z:s.heap.get? hA.objs.size with
  | none=>rfl
  | some o =>
   obtain ⟨sl',z'⟩:=k.2.2 _ o z
   exact absurd (Wg z') (Q0 _)
 ·rw [Q5 _ _ (Ne.symm n)]
  exact W6 _ ((k.2.1 b nf).trans e)
 ·have nb:b≠a:=fun z=>by
   rw [z,he] at e
   cases e
   exact d vs rfl
  obtain ⟨sl',z⟩:=k.2.2 b o e
  exact ⟨sl',by rw [Q5 _ _ (Ne.symm nb)]; exact W6 _ z⟩
theorem z9O {base:Heap} {env:Env} {outer:List Env} {L a C:Addr} {dx:Option Addr} {vs:Array Value} {sl:Array (Option Value)} {a0:Value} {Q:Unit→W2→Prop}
  (hfr:A.frames=some (env :: outer)) (hl:s.heap.FunFrames base (env :: outer)) (hf:env.frame=some L)
  (he:s.heap.get? a=some ⟨.ref C,dx,.fields vs,sl⟩) (h0:vs[0]? = some a0) (h1:vs[1]? = some .none)
  (q:∀ h' T,Fly h' a C T dx (Qj L)→Noted s.heap h' ((env :: outer).filterMap (·.frame)) a T .none→Q () { s with heap:=h' }):Wa M A (Jm (.ref a) env) Q E s:=by
 unfold Jm
 simp only [hf]
 refine W1 (Q4 he rfl h1 ?_)
 rw [if_neg (by decide)]
 exact z8k hfr hl hf he h0 (QF.mp h1).1 q
theorem zaX {base:Heap} {env:Env} {outer:List Env} {L a C T₀:Addr} {dx:Option Addr} {Q:Unit→W2→Prop}
  (hfr:A.frames=some (env :: outer)) (hl:s.heap.FunFrames base (env :: outer)) (hf:env.frame=some L) (hx:Fly s.heap a C T₀ dx .none)
  (q:∀ h' T,Fly h' a C T dx (Qj L)→Noted s.heap h' ((env :: outer).filterMap (·.frame)) a T (.ref T₀)→Q () { s with heap:=h' }):Wa M A (Jm (.ref a) env) Q E s:=by
 obtain ⟨vs,sl,oT,ts,a0,e1,e2,e3,e4,e5,e6,e7⟩:=hx
 unfold Jm
 simp only [hf]
 refine W1 (Q4 e1 rfl e3 ?_)
 rw [if_pos (by simp)]
 refine W1 (Q4 e5 e6 e7 ?_)
 rw [if_neg (by simp [Qj])]
 refine W1 (Js e5 e6 (QF.mp e7).1 ?_)
 have oth:∀ b,b≠T₀→(s.heap.update T₀ (Obj.mapFields (·.setIfInBounds 3 Value.none))).get? b=s.heap.get? b:=fun b n=>Q5 _ _ (Ne.symm n)
 have nrec:∀ b o,s.heap.get? b=some o→(∀ us,o.data≠.fields us)→b≠T₀:=fun b o e d z=>by
  rw [z,e5] at e
  cases e
  exact d ts e6
 refine z8k (s:={ s with heap:=s.heap.update T₀ (Obj.mapFields (·.setIfInBounds 3 Value.none)) }) hfr (hl.of_keeps fun b o e d=>⟨o,(oth b (nrec b o e d)).trans e,rfl⟩) hf ((oth a (Ne.symm e4)).trans e1) e2 (QF.mp e3).1 fun h' T f n=>q h' T f ⟨?_,fun b o e n1 n2 n3=>?_,fun b o e d=>n.frame b o ((oth b (nrec b o e d)).trans e) d⟩
 ·have:=n.new
  by_cases z:T=T₀
  ·exfalso
   rw [z] at this
   have g:=Qp (h:=s.heap) (Obj.mapFields (·.setIfInBounds 3 Value.none)) e5 (Obj.isFreed_of_fields (Obj.data_mapFields e6 _))
   rw [this] at g
   cases g
  ·exact (oth T z).symm.trans this
 ·exact n.keep b o ((oth b fun z=>n2 (by rw [z])).trans e) n1 (by simp) n3
theorem z9P {env:Env} {L a C T:Addr} {dx:Option Addr} {Q:Unit→W2→Prop} (hf:env.frame=some L) (hx:Fly s.heap a C T dx (Qj L)) (q:Q () s):Wa M A (Jm (.ref a) env) Q E s:=by
 obtain ⟨vs,sl,oT,ts,a0,e1,e2,e3,e4,e5,e6,e7⟩:=hx
 unfold Jm
 simp only [hf]
 refine W1 (Q4 e1 rfl e3 ?_)
 rw [if_pos (by simp)]
 refine W1 (Q4 e5 e6 e7 ?_)
 rw [if_pos (by simp)]
 exact Wd q
theorem z9W {a C T:Addr} {dx:Option Addr} {fl:Value} {o:Option Addr} {Q:Unit→W2→Prop} (hx:Fly s.heap a C T dx fl)
  (q:∀ h',Fly h' a C T dx (o.elim .none fun f=>Qj f)→(∀ b,b≠T→h'.get? b=s.heap.get? b)→Q () { s with heap:=h' }):Wa M A (setFlight (.ref a) o) Q E s:=by
 obtain ⟨vs,sl,oT,ts,a0,e1,e2,e3,e4,e5,e6,e7⟩:=hx
 have hi:=(QF.mp e7).1
 have oth:∀ b,b≠T→(s.heap.update T (Obj.mapFields (·.setIfInBounds 3 (o.elim Value.none fun f=>Qj f)))).get? b=s.heap.get? b:=fun b n=>Q5 _ _ (Ne.symm n)
 unfold setFlight
 refine W1 (Q4 e1 rfl e3 ?_)
 rw [if_pos (by simp)]
 exact Js e5 e6 hi (q _ ⟨vs,sl,_,_,a0,(oth a (Ne.symm e4)).trans e1,e2,e3,e4,Qp _ e5 (Obj.isFreed_of_fields (Obj.data_mapFields e6 _)),Obj.data_mapFields e6 _,by simp [hi]⟩ oth)
end
abbrev vErr:List Value:=[.type "ValueError",.type "Exception",.type "BaseException",.type "object"]
def ExcC (K:W0) (C:Addr):Prop:=PySem.W.excIn K C vErr "ValueError.__new__" = true
theorem ExcC.obj {K:W0} {C:Addr} {h:Heap} (q:ExcC K C) (X:K.In h):∃ (bm:List Value) (N:Addr) (nm qn:Str) (bs:List Value) (hdct:Bool) (sn:List Str) (sub:List Value) (ab:Bool) (col:Option Bool) (dd:Option Addr) (k0 k1 k2 k3 k5:Option Value) (mN:Str→Option Value),
  h.get? C=some (excClassObj nm qn C N bs bm hdct sn sub ab col dd k0 k1 k2 k3 k5 "ValueError.__new__")∧h.Ns N mN∧mN "__init__" = none∧OwnTail h vErr bm:=by
 unfold ExcC PySem.W.excIn at q
 split at q
 next dd cd sl lk =>
  split at q
  next C' bm k0 k1 k2 k3 n k5 e1 e2 =>
   simp only [We,beq_iff_eq,Qx] at q
   obtain ⟨⟨⟨⟨⟨c1,c2⟩,c3⟩,c4⟩,c5⟩,c6⟩:=q
   subst c1; subst c2
   have e3:sl = #[k0,k1,k2,k3,some (.builtin "ValueError.__new__"),k5]:=by
    cases sl; simp only at e2; rw [e2]
   subst e3
   cases cd
   simp only at e1 c3 c4 c5 c6 lk
   subst e1; subst c3
   exact ⟨bm,_,_,_,_,_,_,_,_,_,dd,k0,k1,k2,k3,k5,_,X _ _ lk,.of_isNs (PySem.W.isNs_of_in X c5),PySem.W.nsMap_none_of_in X c5 c6,PySem.W.tail_of_in X c4⟩
  next=>cases q
 next=>cases q
def CXe (P:Wk) (w:Wr):CXT:=fun outer H s E v s' =>
 ∃ (a C T:Addr) (dx:Option Addr) (H':Hp),v = .ref a∧s'.os=s.os∧AllBare s'.gens∧Un (frs outer) [] H H' s.heap s'.heap∧HOk P w H' s'.heap∧Fly s'.heap a C T dx .none∧s.heap.get? a=none∧s.heap.get? T=none∧H' a=none∧H' T=none∧E (.ref C) dx H'
section
variable {X:Cx} {x:Str} {C:Addr} {np cpos pos:Pos}
end
section
variable {X:Cx} {pins:List (Addr×Obj)} {σ:St} {H:Hp} {s:W2} {h':Heap}
theorem Inv.gone (I:Inv X pins σ H s) (hx:X.ex=[]) (e:s.heap.get? b=none):H b=none∧X.s₀.heap.get? b=none:=by
 constructor
 ·cases q:H b with
  | none=>rfl
  | some o =>
   exfalso
   have:∃ u,s.heap.get? b=some u:=by
    have z:=I.hok b o q
    clear q
    induction o with
    | lst xs=>obtain ⟨_,_,_,_,e⟩:=z; exact ⟨_,e⟩
    | tup xs=>obtain ⟨_,_,_,_,e⟩:=z; exact ⟨_,e⟩
    | dK kvs=>obtain ⟨_,_,_,_,_,_,_,e,_⟩:=z; exact ⟨_,e⟩
    | dT kvs=>obtain ⟨_,_,_,_,_,_,_,e,_⟩:=z; exact ⟨_,e⟩
    | set S n=>obtain ⟨_,_,_,_,e,_⟩:=z; exact ⟨_,e⟩
    | ins C dx fs=>obtain ⟨_,_,_,e,_⟩:=z; exact ⟨_,e⟩
    | own y=>exact z
    | xd fs=>obtain ⟨_,⟨_,_,_,e,_⟩,_⟩:=z; exact ⟨_,e⟩
    | rng lo hi=>obtain ⟨_,_,_,e⟩:=z; exact ⟨_,e⟩
    | frz ob u ih=>exact ⟨_,z.1⟩
    | tbl ps=>exact ⟨_,z⟩
    | met f y=>exact ⟨_,z⟩
    | ext φ=>exact z.2.1
   obtain ⟨u,q⟩:=this
   rw [e] at q; cases q
 ·cases q:X.s₀.heap.get? b with
  | none=>rfl
  | some o =>
   obtain ⟨o',q'⟩:=I.base.there b o q (by rw [hx]; simp)
   rw [e] at q'; cases q'
end
structure Apart (X:Cx) (pins:List (Addr×Obj)) (H:Hp) (b:Addr):Prop where
 old:X.s₀.heap.get? b=none
 free:H b=none
 loc:b≠X.env.locals
 cel:∀ x c,X.env.cells.lookup x=some c→c≠b
 pin:∀ p ∈ X.pn ++ pins,p.1≠b
section
variable {X:Cx} {pins:List (Addr×Obj)} {σ:St} {H:Hp} {s:W2} {h':Heap} {a T:Addr}
theorem Inv.neL (I:Inv X pins σ H s) (e:X.s₀.heap.get? b=some o):b≠X.env.locals:=Wy (Wx (Wg e) I.ok.above)
theorem Inv.noted2 (I:Inv X pins σ H s) (ha:Apart X pins H a) (hT:Apart X pins H T) (k1:∀ b o,s.heap.get? b=some o→b ∉ frs X.stack→b≠a→b≠T→h'.get? b=some o)
  (k2:∀ b o,s.heap.get? b=some o→b ∈ frs X.stack→∃ sl,h'.get? b=some { o with slots:=sl }):Inv X pins σ H { s with heap:=h' }:=by
 have any:∀ b o,s.heap.get? b=some o→b≠a→b≠T→∃ sl,h'.get? b=some { o with slots:=sl }:=fun b o e n1 n2=>by
  by_cases hb:b ∈ frs X.stack
  ·exact k2 b o e hb
  ·exact ⟨o.slots,k1 b o e hb n1 n2⟩
 have ne:∀ b o,X.s₀.heap.get? b=some o→b≠a∧b≠T:=fun b o e=>⟨fun z=>(by rw [z,ha.old] at e; cases e),fun z=>(by rw [z,hT.old] at e; cases e)⟩
 have nst:∀ b,b≠X.env.locals→b ∉ X.fs→b ∉ frs X.stack:=fun b n1 n2 z=>(Wh.mp (I.stkSub b z)).elim n1 n2
 have cellK:∀ y c,X.env.cells.lookup y=some c→∀ v,s.heap.IsCell c v→h'.IsCell c v:=fun y c e v ⟨o,ho,hd⟩=>by
  obtain ⟨sl,q⟩:=any c o ho (ha.cel y c e) (hT.cel y c e)
  exact ⟨_,q,hd⟩
 refine ⟨I.ok,I.os,I.bare,⟨fun b o e n hb hx=>?_,fun b o e n hb hx=>?_,I.base.free,fun b o e hx=>?_,I.base.tups,I.base.frzs,I.base.tbls⟩,?_,fun y c e=>?_,I.free,I.freeC,fun p hp=>?_,fun b o e=>?_,I.len⟩
 ·exact k1 b o (I.base.keep b o e n hb hx) (nst b (I.neL e) hb) (ne b o e).1 (ne b o e).2
 ·obtain ⟨sl,q⟩:=I.base.slot b o e n hb hx
  obtain ⟨sl',q'⟩:=any b _ q (ne b o e).1 (ne b o e).2
  exact ⟨sl',q'⟩
 ·obtain ⟨o',q⟩:=I.base.there b o e hx
  obtain ⟨sl',q'⟩:=any b _ q (ne b o e).1 (ne b o e).2
  exact ⟨_,q'⟩
 ·obtain ⟨m,⟨o,es,ep,ho,hd,r⟩,hl⟩:=I.loc
  obtain ⟨sl,q⟩:=any _ o ho (fun z=>ha.loc z.symm) (fun z=>hT.loc z.symm)
  refine ⟨m,⟨_,es,ep,q,hd,r⟩,fun i y v e1 e2 e3=>?_⟩
  obtain ⟨u,ru,lk⟩:=hl i y v e1 e2 e3
  refine ⟨u,ru,lk.elim .inl fun ⟨k,c,e,z⟩=>.inr ⟨k,c,e,cellK y c e _ z⟩⟩
 ·obtain ⟨v,z⟩:=I.cell y c e
  exact ⟨v,cellK y c e v z⟩
 ·obtain ⟨e,n,nl,nf,d⟩:=I.pin p hp
  exact ⟨k1 p.1 p.2 e (nst _ nl nf) (ha.pin p hp) (hT.pin p hp),n,nl,nf,d⟩
 ·refine (I.hok b o e).stay (fun c u hc q=>k1 c u q (fun z=>?_) (fun z=>?_) (fun z=>?_)) (fun _ q=>q) fun _ _ q=>q
  ·have:=I.stkFree c z
   rcases hc with rfl | hc
   ·rw [e] at this; cases this
   ·rw [hc] at this; cases this
  ·subst z
   rcases hc with rfl | hc
   ·rw [ha.free] at e; cases e
   ·rw [ha.free] at hc; cases hc
  ·subst z
   rcases hc with rfl | hc
   ·rw [hT.free] at e; cases e
   ·rw [hT.free] at hc; cases hc
theorem Inv.track (I:Inv X pins σ H s) (ha:Apart X pins H a) (ob:ObjOk X.prog X.w (upd H a o) s.heap a o):Inv X pins σ (upd H a o) s:=by
 have ne:∀ {b:Addr} {u:HO},H b=some u→b≠a:=fun {b u} e z=>by rw [z,ha.free] at e; cases e
 have up:∀ {b:Addr} {u:HO},H b=some u→upd H a o b=some u:=fun {b u} e=>by rw [z0q (ne e)]; exact e
 have no:∀ {b:Addr},b≠a→H b=none→upd H a o b=none:=fun {b} n e=>by rw [z0q n]; exact e
 refine ⟨I.ok,I.os,I.bare,⟨I.base.keep,I.base.slot,fun b u e n hx=>no (fun z=>by rw [z,ha.old] at e; cases e) (I.base.free b u e n hx),I.base.there,fun b xs e=>up (I.base.tups b xs e),fun b u z e=>up (I.base.frzs b u z e),fun b ps e=>?_⟩,I.loc,I.cell,no (Ne.symm ha.loc) I.free,fun x c e=>no (ha.cel x c e) (I.freeC x c e),fun p hp=>?_,fun b u e=>?_,I.len⟩
 ·obtain ⟨m,q⟩:=I.base.tbls b ps e
  exact ⟨m,up q⟩
 ·obtain ⟨e,n,nl,nf,d⟩:=I.pin p hp
  exact ⟨e,no (ha.pin p hp) n,nl,nf,d⟩
 ·by_cases hb:b=a
  ·subst hb
   rw [z0y] at e
   cases e
   exact ob
  ·rw [z0q hb] at e
   exact (I.hok b u e).stay (fun _ _ _ q=>q) (fun c q=>up q) fun c xs q=>up q
theorem z9z (I:Inv X pins σ H s) (hN:X.N.Nodup) (hi:X.N[i]? = some x) (hk:X.env.scope.names.lookup x=some .local)
  (h:∀ s',Inv X pins (σ.set i none) H s'→Q () s'):Wa M A (do bindName X.env x .none; unbindBehindTheSuite X.env x pos) Q E s:=by
 have hiσ:i < σ.length:=by rw [I.len]; exact (Wb.mp hi).1
 refine W1 (wpAny_bindName (z4q (v:=.non) (u:=.none) I hN hi (.inl hk) rfl (fun s1 I1 _=>?_) (.inr hk)))
 obtain ⟨m,hn,hl⟩:=id I1.loc
 obtain ⟨u,ru,lk⟩:=hl i x .non hi (Wq hiσ) (.inl hk)
 have hv:m x=some u:=by
  rcases lk with ⟨_,e⟩ | ⟨z,_⟩
  ·exact e
  ·have:X.env.kindOf x=some .local:=hk
   rw [this] at z
   rcases z with z | z <;> cases z
 refine wpAny_onRaise (wpAny_unbindName_local hk hn hv (by rw [I.ok.kind]; rfl) fun h' w' hn' hs=>h _ ?_)
 obtain ⟨oL,_,_,hoL,_⟩:=id hn
 have cne:=I1.cne
 refine ⟨I1.ok,I1.os,I1.bare,⟨fun b o e n hb hx=>?_,fun b o e n hb hx=>?_,I1.base.free,fun b o e hx=>?_,I1.base.tups,I1.base.frzs,I1.base.tbls⟩,⟨_,hn',fun j y v' e1 e2 e3=>?_⟩,fun y c e=>?_,I1.free,I1.freeC,fun p hp=>?_,fun b ob e=>?_,by simpa using I.len⟩
 ·exact (hs.2 b (I1.neL e)).trans (I1.base.keep b o e n hb hx)
 ·obtain ⟨sl,q⟩:=I1.base.slot b o e n hb hx
  exact ⟨sl,(hs.2 b (I1.neL e)).trans q⟩
 ·obtain ⟨o',q⟩:=I1.base.there b o e hx
  exact ⟨o',(hs.2 b (I1.neL e)).trans q⟩
 ·by_cases hj:j=i
  ·subst hj
   rw [Wq hiσ] at e2
   cases e2
  ·rw [W9 (Ne.symm hj)] at e2
   obtain ⟨u',r',q⟩:=hl j y v' e1 (by rw [W9 (Ne.symm hj)]; exact e2) e3
   have hyx:y≠x:=fun z=>hj (z7l hN e1 (z ▸ hi))
   refine ⟨u',r',?_⟩
   rcases q with ⟨k,e⟩ | ⟨k,c,e,z⟩
   ·exact .inl ⟨k,by simp [hyx,e]⟩
   ·exact .inr ⟨k,c,e,z.sameBut hs (cne y c e)⟩
 ·obtain ⟨w2,z⟩:=I1.cell y c e
  exact ⟨w2,z.sameBut hs (cne y c e)⟩
 ·obtain ⟨e,n,nl,nf,d⟩:=I1.pin p hp
  exact ⟨(hs.2 p.1 nl).trans e,n,nl,nf,d⟩
 ·refine (I1.hok b ob e).stay (fun c u' hc q=>(hs.2 c fun z=>?_).trans q) (fun _ q=>q) fun _ _ q=>q
  subst z
  have:=I1.free
  rcases hc with rfl | hc
  ·rw [e] at this; cases this
  ·rw [hc] at this; cases this
end
section
variable {prog:Wk} {w:Wr} {A:Wp} {E:Value→W2→Prop} {K:W0}
theorem zbj {C B e:Addr} {oe:Obj} {h:Heap} {g:Array GenState} {d:Drawn} {t:Nat} {os:OsState} {Q:Bool→W2→Prop} (X:K.In h) (qB:ExcC K B) (qm:PySem.W.mroIn K C (.ref B)=some true) (he:h.get? e=some oe) (hc:oe.cls = .ref C)
  (hq:Q true ⟨h,g,d,t,os⟩):Wa (model prog w) A (excMatches (.ref e) (.ref B)) Q E ⟨h,g,d,t,os⟩:=by
 obtain ⟨bm,N,nm,qn,bs,hdct,sn,sub,ab,col,dd,k0,k1,k2,k3,k5,mN,hB,_,_,hT⟩:=qB.obj X
 have cB:(Value.ref B :: bm).contains (.type "BaseException")=true:=by rw [Jp,hT.hasType (X:="BaseException") (b:=true) rfl,Bool.or_true]
 have lk:=PySem.W.looks_mroIn (M:=model prog w) X qm
 have f:=tc_notTuple
 unfold excMatches
 repeat (first | with_reducible refine PySem.W.Looks.at lk ?_ | (with_reducible refine Q6 he ?_; rw [hc]) | with_reducible refine Q6 hB ?_ | (with_reducible refine wpAny_isSubtype_exc hB ?_; rw [cB]) | wp_step)
 exact hq
end
def Cx.wt (X:Cx) (pn:List (Addr×Obj)) (xe:Value→W2→Prop):Cx:={ X with pn:=pn,xe:=xe }
def Cx.hand (X:Cx) (a:Addr):Cx:={ X with A:=X.A.mark (some (.ref a)),calm:=false,xe:=fun _ _=>False }
section
variable {X:Cx} {pins ps:List (Addr×Obj)} {σ:St} {H:Hp} {s:W2} {a:Addr} {xe:Value→W2→Prop} {pn:List (Addr×Obj)}
theorem Cx.Ok.wt (o:X.Ok):(X.wt pn xe).Ok:=⟨o.mod,o.kind,o.glob,o.blt,o.above,o.inj,o.has,o.cab,o.hd,o.frames,o.stk,o.exf,o.bs,o.bsz,o.noex,o.exfs,o.funs,o.frf⟩
theorem Cx.Ok.hand (o:X.Ok):(X.hand a).Ok:=⟨o.mod,o.kind,o.glob,o.blt,o.above,o.inj,o.has,o.cab,fun z=>(by cases z),o.frames,o.stk,o.exf,o.bs,o.bsz,o.noex,o.exfs,o.funs,o.frf⟩
theorem Inv.wt (I:Inv X pins σ H s):Inv (X.wt (X.pn ++ pins) xe) [] σ H s:=⟨I.ok.wt,I.os,I.bare,I.base,I.loc,I.cell,I.free,I.freeC,fun p hp=>I.pin p (by simpa [Cx.wt] using hp),I.hok,I.len⟩
theorem Inv.unwt (o:X.Ok) (J:Inv (X.wt (X.pn ++ pins) xe) ps σ H s):Inv X pins σ H s:=⟨o,J.os,J.bare,J.base,J.loc,J.cell,J.free,J.freeC,fun p hp=>J.pin p (Jb _ hp),J.hok,J.len⟩
theorem Inv.hand (I:Inv X pins σ H s):Inv (X.hand a) pins σ H s:=⟨I.ok.hand,I.os,I.bare,I.base,I.loc,I.cell,I.free,I.freeC,I.pin,I.hok,I.len⟩
theorem Inv.unhand (o:X.Ok) (J:Inv (X.hand a) pins σ H s):Inv X pins σ H s:=⟨o,J.os,J.bare,J.base,J.loc,J.cell,J.free,J.freeC,J.pin,J.hok,J.len⟩
theorem Apart.unwt (h:Apart (X.wt (X.pn ++ pins) xe) ps H a):Apart X pins H a:=⟨h.old,h.free,h.loc,h.cel,fun p hp=>h.pin p (Jb _ hp)⟩
theorem SP.unwt (o:X.Ok) (h:SP (X.wt (X.pn ++ pins) xe) ps D f s):SP X pins D f s:=by
 cases f with
 | next=>obtain ⟨σ',H',J,q⟩:=h; exact ⟨σ',H',Inv.unwt o J,q⟩
 | brk=>obtain ⟨σ',H',J,q⟩:=h; exact ⟨σ',H',Inv.unwt o J,q⟩
 | cont=>obtain ⟨σ',H',J,q⟩:=h; exact ⟨σ',H',Inv.unwt o J,q⟩
 | ret u=>obtain ⟨v,σ',H',J,r,q⟩:=h; exact ⟨v,σ',H',Inv.unwt o J,r,q⟩
def za6 (X:Cx) (pins:List (Addr×Obj)) (H:Hp) (s:W2) (a C:Addr) (dx:Option Addr):Prop:=∃ T fl,Fly s.heap a C T dx fl∧(fl = .none∨∃ L,X.env.frame=some L∧fl=Qj L)∧Apart X pins H a∧Apart X pins H T
def zbI (X:Cx) (ps:List (Addr×Obj)) (H:Hp) (s:W2) (a C:Addr) (dx:Option Addr):Prop:=(∃ vs sl a0,s.heap.get? a=some ⟨.ref C,dx,.fields vs,sl⟩∧vs[0]? = some a0∧vs[1]? = some .none)∧Apart X ps H a
theorem Inv.apart (I:Inv X pins σ H s) (hx:X.ex=[]) (e:s.heap.get? b=none) (f:H' b=none):Apart X pins H' b:=by
 refine ⟨(I.gone hx e).2,f,fun z=>?_,fun x c hc z=>?_,fun p hp z=>?_⟩
 ·obtain ⟨m,⟨o,_,_,ho,_⟩,_⟩:=I.loc
  rw [← z,e] at ho; cases ho
 ·obtain ⟨v,o,ho,_⟩:=I.cell x c hc
  rw [z,e] at ho; cases ho
 ·have:=(I.pin p hp).1
  rw [z,e] at this; cases this
section
variable {M:Model} {E:Value→W2→Prop} {C L:Addr} {dx:Option Addr} {Q:Unit→W2→Prop}
theorem Inv.noting (I:Inv X pins σ H s) (hst:X.stack=X.env :: X.outer) (hf:X.env.frame=some L) (hex:X.ex=[]) (hc:za6 X pins H s a C dx∨zbI X pins H s a C dx)
  (q:∀ h' T,Inv X pins σ H { s with heap:=h' }→Fly h' a C T dx (Qj L)→Apart X pins H a→Apart X pins H T→Q () { s with heap:=h' }):Wa M X.A (Jm (.ref a) X.env) Q E s:=by
 have hfr:X.A.frames=some (X.env :: X.outer):=by rw [← hst]; exact I.ok.frames
 have hl:s.heap.FunFrames X.base (X.env :: X.outer):=by rw [← hst]; exact I.stack
 have mem:∀ {b},b ∈ frs X.stack→∃ o,s.heap.get? b=some o∧∀ vs,o.data≠.fields vs:=fun {b} z=>let ⟨_,o,g1,g2⟩:=I.stack.mem z; ⟨o,g1,g2⟩
 rcases hc with ⟨T,fl,f,hfl,pa,pT⟩ | ⟨⟨vs,sl,a0,e1,e2,e3⟩,pa⟩
 ·rcases hfl with rfl | ⟨L',e,rfl⟩
  ·refine zaX hfr hl hf f fun h' T' f' n=>?_
   refine q h' T' (I.noted2 pa pT (fun b o z m n1 n2=>n.keep b o z n1 (fun w=>n2 (by cases w; rfl)) (by rw [← hst]; exact m)) fun b o z m=>?_) f' pa (I.apart hex n.new (I.gone hex n.new).1)
   obtain ⟨o',g1,g2⟩:=mem m
   rw [z] at g1; cases g1
   exact n.frame b o z g2
  ·rw [hf] at e; cases e
   exact z9P hf f (q s.heap T I f pa pT)
 ·refine z9O hfr hl hf e1 e2 e3 fun h' T' f' n=>?_
  refine q h' T' (I.noted2 pa pa (fun b o z m n1 n2=>n.keep b o z n1 (fun w=>by cases w) (by rw [← hst]; exact m)) fun b o z m=>?_) f' pa (I.apart hex n.new (I.gone hex n.new).1)
  obtain ⟨o',g1,g2⟩:=mem m
  rw [z] at g1; cases g1
  exact n.frame b o z g2
theorem Inv.flight {A:Wp} {o:Option Addr} {fl:Value} (I:Inv X pins σ H s) (f:Fly s.heap a C T dx fl) (pT:Apart X pins H T)
  (q:∀ h',Inv X pins σ H { s with heap:=h' }→Fly h' a C T dx (o.elim .none fun f=>Qj f)→Q () { s with heap:=h' }):Wa M A (setFlight (.ref a) o) Q E s :=
 z9W f fun h' f' k=>q h' (I.noted2 pT pT (fun b u z _ n _=>(k b n).trans z) fun b u z _=>by
  by_cases n:b=T
  ·subst n
   obtain ⟨vs,sl,oT,ts,a0,e1,e2,e3,e4,e5,e6,e7⟩:=f
   have:=I.stkFree b ‹_›
   obtain ⟨_,o',g1,g2⟩:=I.stack.mem ‹b ∈ frs X.stack›
   rw [e5] at g1; cases g1
   exact absurd e6 (g2 ts)
  ·exact ⟨u.slots,(k b n).trans z⟩) f'
end
def Ends.hand (D:Ends) (i:Nat):Ends where
 nx:=fun σ H=>D.nx (σ.set i none) H
 rt:=D.rt
 bk:=fun σ H=>D.bk (σ.set i none) H
 ct:=fun σ H=>D.ct (σ.set i none) H
theorem zaB {body:List Stmt} {x n:Str} {b₀:Stmt} {suite:List Stmt} {np hpos pos:Pos} {B:Addr} {i:Nat} {tb:(Addr→Option Addr→St→Hp→Prop)→TS} {th:Addr→Addr→TS} (hex:X.ex=[]) (hst:X.stack=X.env :: X.outer) (hf:X.env.frame=some X.env.locals)
  (hN:X.N.Nodup) (hi:X.N[i]? = some n) (hl:X.env.scope.names.lookup n=some .local) (hg:Gl X x) (hm:X.mg x=some (.ref B)) (qB:ExcC X.K B) (hdb:(x == ("__debug__" : Str))=false)
  (hbody:∀ (W:Addr→Option Addr→St→Hp→Prop) (pn:List (Addr×Obj)) (xe:Value→W2→Prop),(∀ ps σ H s a C dx,Inv (X.wt pn xe) ps σ H s→za6 (X.wt pn xe) ps H s a C dx∨zbI (X.wt pn xe) ps H s a C dx→W C dx σ H→xe (.ref a) s)→PSs (X.wt pn xe) body (tb W))
  (hhand:∀ C a,PSs (X.hand a) (b₀ :: suite) (th C a)) :
  PS X (.Try body [.ExceptHandler (some (.Name x np)) (some n) (b₀ :: suite) hpos] [] [] pos)
   (fun D σ H=>tb (fun C dx σ' H'=>PySem.W.mroIn X.K C (.ref B)=some true∧∃ v,(∀ x,v = .ref x→dx=some x)∧∀ a,H' a=none→th C a (D.hand i) (σ'.set i (some (.ref a))) (upd H' a (.ext (DV.excAt C v a)))) D σ H):=by
 intro pins s σ H D I hw
 refine wpAny_Try_except (WO (hbody _ (X.pn ++ pins) _ (fun ps σ1 H1 s1 a C dx J hc hW=>?_) [] s σ H D I.wt hw) (fun f s1 hs=>?_) fun e s1 he=>he)
 ·have J:Inv X pins σ1 H1 s1:=Inv.unwt I.ok J
  have hc:za6 X pins H1 s1 a C dx∨zbI X pins H1 s1 a C dx:=by
   rcases hc with ⟨T,fl,f,hfl,pa,pT⟩ | ⟨y,pa⟩
   ·exact .inl ⟨T,fl,f,hfl,pa.unwt,pT.unwt⟩
   ·exact .inr ⟨y,pa.unwt⟩
  refine J.noting hst hf hex hc fun h2 T J2 f2 pa pT=>?_
  refine J2.flight f2 pT fun h3 I3 f3=>?_
  obtain ⟨vs3,sl3,_,_,_,u3,_⟩:=id f3
  obtain ⟨qm,v,hv,qh⟩:=hW
  refine wpAny_handleBy_cons (codeAny_handlers_test ?_) (by intro z; cases z)
  have I3h:Inv (X.hand a) pins σ1 H1 { s1 with heap:=h3 }:=I3.hand
  refine z4b (X:=X.hand a) I3h hg hm ?_ hdb
  refine zbj I3.kIn qB qm u3 rfl ?_
  refine codeAny_handlers_suite_as (I3.flight f3 pT fun h4 I4 f4=>?_)
  obtain ⟨vs4,sl4,_,_,_,u1,_⟩:=f4
  have I5:Inv X pins σ1 (upd H1 a (.ext (DV.excAt C v a))) { s1 with heap:=h4 }:=I4.track pa ⟨⟨_,u1,rfl,fun x z=>hv x z,vs4,rfl⟩,⟨_,u1⟩,fun h1 h2 ⟨o,e1,e2⟩ k=>⟨o,k o e1,e2⟩⟩
  refine z4q (v:=.ref a) (u:=.ref a) (X:=X.hand a) I5.hand hN hi (.inl hl) rfl (fun s6 I6 _=>?_) (.inr hl)
  refine WO (hhand C a pins s6 _ _ (D.hand i) I6 (qh a pa.free)) (fun f s7 hs=>?_) (fun e s7 he=>he.elim)
  have un:∀ {σ':St} {H':Hp} {Q:Flow→W2→Prop},Inv (X.hand a) pins σ' H' s7→(∀ s8,Inv X pins (σ'.set i none) H' s8→Q f s8)→Wa (model X.prog X.w) X.A (do bindName X.env n .none; unbindBehindTheSuite X.env n hpos) (fun _ s8=>Q f s8) X.xe s7 :=
   fun {σ' H' Q} J7 k=>z9z (Inv.unhand I.ok J7) hN hi hl fun s8 J8=>k s8 J8
  cases f with
  | next=>obtain ⟨σ',H',J7,q⟩:=hs; exact un J7 fun s8 J8=>⟨_,_,J8,q⟩
  | brk=>obtain ⟨σ',H',J7,q⟩:=hs; exact un J7 fun s8 J8=>⟨_,_,J8,q⟩
  | cont=>obtain ⟨σ',H',J7,q⟩:=hs; exact un J7 fun s8 J8=>⟨_,_,J8,q⟩
  | ret u=>obtain ⟨v,σ',H',J7,r,q⟩:=hs; exact un J7 fun s8 J8=>⟨v,_,_,J8,r,q⟩
 ·have hs:=SP.unwt I.ok hs
  cases f with
  | next=>exact Ji hs
  | brk=>exact hs
  | cont=>exact hs
  | ret u=>exact hs
end
def XOk (X:Cx) (W:Addr→Option Addr→St→Hp→Prop):Prop:=∀ ps σ H s a C dx,Inv X ps σ H s→za6 X ps H s a C dx∨zbI X ps H s a C dx→W C dx σ H→X.xe (.ref a) s
section
variable {X:Cx} {pins:List (Addr×Obj)} {σ:St} {H:Hp} {s:W2} {b:Addr}
theorem Inv.afterX (I:Inv X pins σ H s) (hx:X.ex=[]) (h:CXe X.prog X.w X.stack H s E v s'):∃ a C dx H',v = .ref a∧Inv X pins σ H' s'∧za6 X pins H' s' a C dx∧E (.ref C) dx H':=by
 obtain ⟨a,C,T,dx,H',rfl,ho,hb,un,hok,fl,na,nT,fa,fT,q⟩:=h
 exact ⟨a,C,dx,H',rfl,I.call' (ch:=[]) ho un hok hb (fun b z=>absurd z (by simp)),⟨T,.none,fl,.inl rfl,I.apart hx na fa,I.apart hx nT fT⟩,q⟩
end
section
variable {X:Cx} {k:Nat} {f:Addr} {fd:WD} {ps:List Str} {sp:Sp} {x:Str} {p pos:Pos} {e:Expr} {es:List Expr} {t:TA} {W:Addr→Option Addr→St→Hp→Prop}
theorem zcj (F:FnOk X.prog X.w X.K X.mg X.base (CXe X.prog X.w) k f fd ps sp) (hr:Room k X.A) (hex:X.ex=[]) (hg:Gl X x) (hm:X.mg x=some (.ref f)) (hk:Q3 X.K (.ref f)=true) (hb:Binds X.K fd ps []) (hx:XOk X W)
  (ha:PA X (e :: es) t) (hdb:(x == ("__debug__" : Str))=false:=by decide) (he:W4 (e :: es) X.env=(false,eval e X.env) :: W4 es X.env:=by rfl) (hpl:(WF pos (W4 es X.env)).any (·.1)=false:=by rfl) :
  PE X (.Call (.Name x p) (e :: es) [] pos) (fun σ H Q=>t σ H fun vs H1=>sp vs H1 Q (fun c dx H'=>∃ C,c = .ref C∧W C dx σ H')):=by
 intro pins s σ H Q I h
 refine QC (z4b I hg hm ?_ hdb)
 refine PySem.W.callWith_K (h₀:=X.base) I.ok.mod.kin hk (thn (ha pos pins s σ H _ I h) fun us s1 ⟨vs,H1,I1,r,q⟩=>⟨I1.kIn,?_⟩) he hpl
 have hl:(us ++ []).length=ps.length:=by rw [WU,← r.length]; exact F.len _ _ _ _ q
 refine wpAny_call (QN (F.run X.A X.stack s1 H1 ⟨us,[]⟩ us vs Q _ hr I1.env0 (by have:=hb s1 us I1.kIn hl; rwa [WU] at this) r q) fun r s' hq=>?_)
 cases r with
 | error e =>
  obtain ⟨a,C,dx,H',ea,I2,co,C',hC,hW⟩:=I1.afterX (E:=fun c dx H'=>∃ C,c = .ref C∧W C dx σ H') (v:=e) (s':=s') hex hq
  cases hC
  subst ea
  exact hx pins σ H' s' a C dx I2 (.inl co) hW
 | ok fl =>
  cases fl with
  | ret u=>exact I1.after hq
  | next=>exact False.elim hq
  | brk=>exact False.elim hq
  | cont=>exact False.elim hq
end
section
variable {P:Wk} {w:Wr} {K:W0} {mg:Str→Option Value} {base:Heap} {N:List Str} {qual:Str} {scope:Scope} {f:Addr} {cd:Value} {A:Wp} {outer:List Env} {s₀:W2} {H₀:Hp} {E:XK}
theorem zdr {W:Addr→Option Addr→St→Hp→Prop} (hW:∀ C dx σ H,W C dx σ H→E (.ref C) dx H):XOk (cxOf (CXe P w) P w K mg base N qual scope f cd A outer s₀ H₀ E) W:=fun ps σ H s a C dx I hc q=>by
 show Wa _ _ (leaving _ _) _ _ _
 unfold leaving
 refine W1 (I.noting rfl rfl rfl hc fun h2 T I2 f2 pa pT=>I2.flight f2 pT fun h3 I3 f3=>?_)
 exact ⟨a,C,T,dx,H,rfl,I3.os,I3.bare,I3.base,I3.hok,f3,pa.old,pT.old,pa.free,pT.free,hW C dx σ H q⟩
end
def Cx.loop (X:Cx):Cx:={ X with xe:=notedBy (model X.prog X.w) X.A X.env (cameBackBy (model X.prog X.w) X.A X.env X.xe) }
section
variable {X:Cx} {pins ps:List (Addr×Obj)} {σ:St} {H:Hp} {s:W2}
theorem Cx.Ok.loop (o:X.Ok):X.loop.Ok:=⟨o.mod,o.kind,o.glob,o.blt,o.above,o.inj,o.has,o.cab,o.hd,o.frames,o.stk,o.exf,o.bs,o.bsz,o.noex,o.exfs,o.funs,o.frf⟩
theorem Cx.Ok.unloop (o:X.loop.Ok):X.Ok:=⟨o.mod,o.kind,o.glob,o.blt,o.above,o.inj,o.has,o.cab,o.hd,o.frames,o.stk,o.exf,o.bs,o.bsz,o.noex,o.exfs,o.funs,o.frf⟩
theorem Inv.loop (I:Inv X pins σ H s):Inv X.loop pins σ H s:=⟨I.ok.loop,I.os,I.bare,I.base,I.loc,I.cell,I.free,I.freeC,I.pin,I.hok,I.len⟩
theorem Inv.unloop (I:Inv X.loop pins σ H s):Inv X pins σ H s:=⟨I.ok.unloop,I.os,I.bare,I.base,I.loc,I.cell,I.free,I.freeC,I.pin,I.hok,I.len⟩
theorem Apart.unloop {b:Addr} (h:Apart X.loop ps H b):Apart X ps H b:=⟨h.old,h.free,h.loc,h.cel,h.pin⟩
theorem zbK {W:Addr→Option Addr→St→Hp→Prop} {L:Addr} (h:XOk X W) (hst:X.stack=X.env :: X.outer) (hf:X.env.frame=some L) (hex:X.ex=[]):XOk X.loop W:=fun ps σ H s a C dx I hc q=>by
 have hc:za6 X ps H s a C dx∨zbI X ps H s a C dx:=by
  rcases hc with ⟨T,fl,f,hfl,pa,pT⟩ | ⟨y,pa⟩
  ·exact .inl ⟨T,fl,f,hfl,pa.unloop,pT.unloop⟩
  ·exact .inr ⟨y,pa.unloop⟩
 refine I.unloop.noting hst hf hex hc fun h2 T I2 f2 pa pT=>?_
 show Wa _ _ _ _ _ _
 obtain ⟨vs,sl,oT,ts,a0,e1,e2,e3,e4⟩:=id f2
 refine W1 (Q4 e1 rfl e3 ?_)
 rw [if_neg (by simp)]
 refine I2.flight f2 pT fun h3 I3 f3=>h ps σ H _ a C dx I3 (.inl ⟨T,_,f3,.inr ⟨L,hf,?_⟩,pa,pT⟩) q
 rw [hf]; rfl
end
end L2
namespace DV
open PySem PySem.Spec PyProof.Rows L2
section
variable {c:Fc} {σ σ':St} {δ δ':Dl} {H H':Hp} {g:Xc→Dl→Prop}
theorem Ok.since (h0:c.H₀=H) (k:Ok c σ δ H) (hI:∀ a,c.I a→Own σ δ a) (k':Ok c σ' δ' H'):Aft c σ δ H σ' δ' H':=by
 refine ⟨k',fun a o e n=>k'.keep a o (by rw [h0]; exact e) fun z=>n (hI a z),fun a ⟨i,d,e1,e2⟩=>?_,fun a o e=>?_⟩
 ·obtain ⟨b,e3,_,q,_⟩:=k'.own i d e1
  rw [e2] at e3; cases e3
  rcases q with q | q
  ·exact .inl (hI a q)
  ·rw [h0] at q; exact .inr q
 ·by_cases z:c.I a
  ·exact k'.ith a z
  ·exact ⟨o,k'.keep a o (by rw [h0]; exact e) z⟩
end
def wD (mg:Str→Option Value) (c:Fc) (C:Addr) (dx:Option Addr) (σ:St) (H:Hp):Prop:=∃ (x:Xc) (δ:Dl) (v:V),mg (toS x.cls)=some (.ref C)∧Ok c σ δ H∧Rep H (Av c σ δ) v x.flds∧(∀ y,v = .ref y→dx=some y)∧c.xc x δ
abbrev DX:=List S→Option ((S×List S) ⊕ (Xc×List S))
def runX (f:DS) (n:Nat) (ss:List S):Option ((S×List S) ⊕ (Xc×List S)):=match f (z0b n ss) with
 | .ok fl δ=>(z0o fl).bind fun r=>(z07 0 ss δ).map fun outs=>.inl (r,outs)
 | .exc x δ=>(z07 0 ss δ).map fun outs=>.inr (x,outs)
 | .stuck=>none
def spX (mg:Str→Option Value) (n:Nat) (G:DX):Sp:=fun vs H Q E=>∃ ss B,vs.length=n∧Ok ⟨H,B,z0B 0 ss vs,fun _ _=>False⟩ (z11 vs) (z18 ss) H∧∃ y,G ss=some y∧match y with
 | .inl (r,outs)=>∀ v H',Aft ⟨H,B,z0B 0 ss vs,fun _ _=>False⟩ (z11 vs) (z18 ss) H (z11 vs) (z18 outs) H'→RepS ⟨H,B,z0B 0 ss vs,fun _ _=>False⟩ (z11 vs) (z18 outs) H H' v r→Q v H'
 | .inr (x,outs)=>∀ C dx v H',mg (toS x.cls)=some (.ref C)→Aft ⟨H,B,z0B 0 ss vs,fun _ _=>False⟩ (z11 vs) (z18 ss) H (z11 vs) (z18 outs) H'→Rep H' (Av ⟨H,B,z0B 0 ss vs,fun _ _=>False⟩ (z11 vs) (z18 outs)) v x.flds→(∀ y,v = .ref y→dx=some y)→E (.ref C) dx H'
def KFnX (P:Wk) (w:Wr) (K:W0) (mg:Str→Option Value) (base:Heap) (k:Nat) (x:Str) (n:Nat) (G:DX):Prop :=
 ∃ (f:Addr) (fd:WD) (ps:List Str),mg x=some (.ref f)∧Q3 K (.ref f)=true∧Binds K fd ps []∧FnOk P w K mg base (CXe P w) k f fd ps (spX mg n G)
theorem zcn (h:(⟨H,B,z0B 0 ss vs,g⟩:Fc).I a):Own (z11 vs) (z18 ss) a:=by
 obtain ⟨i,hi⟩:=h
 obtain ⟨j,d,_,e1,e2⟩:=z1A hi
 exact ⟨j,d,someS_get.mpr e1,some'_get.mpr e2⟩
section
variable {P:Wk} {w:Wr} {K:W0} {mg:Str→Option Value} {base:Heap}
theorem RepS.unxc (h:RepS { c with xc:=g } σ δ Hs H v r):RepS c σ δ Hs H v r:=by
 cases r with
 | pure d=>exact h
 | own d =>
  obtain ⟨a,e,o,n,f,k,q⟩:=h
  exact ⟨a,e,o,n,f,⟨k.keep,k.bd,k.ith,k.len,k.slot,k.own,k.inj,k.pinned⟩,q⟩
theorem zgr {x qual:Str} {st:Stmt} {f:Addr} {fd:WD} {N ps:List Str} {k:Nat} {np:List Nat} {fb:DS} {G:DX} (F:Fun K x qual st f fd) (S:FnScope N ps (z05 st))
  (hbody:∀ (c:Fc) (cdv:Value) (A:Wp) (outer:List Env) (s:W2) (H:Hp) (E:XK),Room k (A.deeper (QO qual (z05 st) s.heap.objs.size f cdv))→Np c np →
   XOk (cxOf (CXe P w) P w K mg base N qual (z05 st) f cdv A outer s H E) (wD mg c)→SSs (cxOf (CXe P w) P w K mg base N qual (z05 st) f cdv A outer s H E) c (z1n st) fb)
  (hG:∀ ss y,G ss=some y→ioOk np 0 ss=true∧runX fb N.length ss=some y):FnOk P w K mg base (CXe P w) (k + 1) f fd ps (spX mg ps.length G):=by
 obtain ⟨oc,od,kV,doc,pm,an,cdv,ct,osl,rfl,lk,hcd⟩:=F.ex
 refine zgu lk hcd S (fun vs H Q E h=>?_) fun A outer s H vs Q E hr h=>?_
 ·obtain ⟨ss,B,hl,_⟩:=h
  exact hl
 ·obtain ⟨ss,B,hl,ok,y,hg,q⟩:=h
  obtain ⟨hio,hrun⟩:=hG ss _ hg
  have hvs:ss.length=vs.length:=by have:=ok.len; simpa using this
  let g:Xc→Dl→Prop:=fun x δ'=>∃ outs,z07 0 ss δ'=some outs∧y = .inr (x,outs)
  have np':Np ⟨H,B,z0B 0 ss vs,g⟩ np:=fun p hp=>by
   obtain ⟨j,d,e,h1,_⟩:=z1A (i:=p.1) (a:=p.2) hp
   rw [e]
   exact z7p hio h1
  have hst:start N vs=z11 vs ++ W3 (N.length - ss.length) none:=by rw [hvs]; rfl
  have ok0:Ok ⟨H,B,z0B 0 ss vs,fun _ _=>False⟩ (start N vs) (z0b N.length ss) H:=by rw [hst]; exact ok.ext _
  have wish:∀ C dx σ' H',wD mg ⟨H,B,z0B 0 ss vs,g⟩ C dx σ' H'→E (.ref C) dx H':=fun C dx σ' H' ⟨z,δ',v,hm,k',rv,hv,outs,ho,hy⟩=>by
   rw [hy] at q
   have k1:Ok ⟨H,B,z0B 0 ss vs,fun _ _=>False⟩ σ' δ' H':=⟨k'.keep,k'.bd,k'.ith,k'.len,k'.slot,k'.own,k'.inj,k'.pinned⟩
   have a:Aft ⟨H,B,z0B 0 ss vs,fun _ _=>False⟩ (z11 vs ++ W3 (N.length - ss.length) none) (z18 ss ++ W3 (N.length - ss.length) none) H σ' δ' H' :=
    Ok.since rfl (by rw [hst] at ok0; exact ok0) (fun a z=>Own.ext.mpr (zcn z)) k1
   exact q C dx v H' hm (z89 rfl ok a ho).1 ((z89 rfl ok a ho).2 v (.pure z.flds) rv) hv
  refine ⟨tDS ⟨H,B,z0B 0 ss vs,g⟩ fb,hbody ⟨H,B,z0B 0 ss vs,g⟩ cdv A outer s H E hr np' (zdr wish),z0b N.length ss,⟨ok0.keep,ok0.bd,ok0.ith,ok0.len,ok0.slot,ok0.own,ok0.inj,ok0.pinned⟩,?_⟩
  unfold runX at hrun
  unfold z2g
  cases e:fb (z0b N.length ss) with
  | stuck=>rw [e] at hrun; cases hrun
  | exc x δx =>
   rw [e] at hrun
   simp only at hrun
   cases eo:z07 0 ss δx with
   | none=>rw [eo] at hrun; cases hrun
   | some os =>
    rw [eo] at hrun
    cases hrun
    exact ⟨os,eo,rfl⟩
  | ok fl δ' =>
   rw [e] at hrun
   show ∀ σ' H',Aft _ (start N vs) (z0b N.length ss) H σ' δ' H'→fin _ _ σ' δ' H' fl
   intro σ' H' a
   rw [hst] at a
   have k1:=a.ok
   have a1:Aft ⟨H,B,z0B 0 ss vs,fun _ _=>False⟩ (z11 vs ++ W3 (N.length - ss.length) none) (z0b N.length ss) H σ' δ' H':=⟨⟨k1.keep,k1.bd,k1.ith,k1.len,k1.slot,k1.own,k1.inj,k1.pinned⟩,a.keep,a.own,a.there⟩
   simp only at hrun
   cases fl with
   | brk=>cases hrun
   | cont=>cases hrun
   | next =>
    simp only [z0o,WQ] at hrun
    cases eo:z07 0 ss δ' with
    | none=>rw [eo] at hrun; cases hrun
    | some os =>
     rw [eo] at hrun
     cases hrun
     obtain ⟨l1,l2⟩:=z89 rfl ok a1 eo
     exact q .non H' l1 .non
   | ret r' =>
    simp only [z0o,WQ] at hrun
    cases eo:z07 0 ss δ' with
    | none=>rw [eo] at hrun; cases hrun
    | some os =>
     rw [eo] at hrun
     cases hrun
     obtain ⟨l1,l2⟩:=z89 rfl ok a1 eo
     exact fun v rv=>q v H' l1 (l2 v _ (RepS.unxc (c:=⟨H,B,z0B 0 ss vs,fun _ _=>False⟩) (g:=g) rv))
theorem z8R {x qual:Str} {st:Stmt} {f:Addr} {fd:WD} {N ps:List Str} {k:Nat} {np:List Nat} {fb:DS} {G:DX} (F:Fun K x qual st f fd) (hm:mg x=some (.ref f)) (hb:Binds K fd ps []) (S:FnScope N ps (z05 st))
  (hbody:∀ (c:Fc) (cdv:Value) (A:Wp) (outer:List Env) (s:W2) (H:Hp) (E:XK),Room k (A.deeper (QO qual (z05 st) s.heap.objs.size f cdv))→Np c np →
   XOk (cxOf (CXe P w) P w K mg base N qual (z05 st) f cdv A outer s H E) (wD mg c)→SSs (cxOf (CXe P w) P w K mg base N qual (z05 st) f cdv A outer s H E) c (z1n st) fb)
  (hG:∀ ss y,G ss=some y→ioOk np 0 ss=true∧runX fb N.length ss=some y):KFnX P w K mg base (k + 1) x ps.length G:=⟨f,fd,ps,hm,F.kp,hb,zgr F S hbody hG⟩
end
def zem:(S×List S) ⊕ (Xc×List S)→List S
 | .inl y=>y.2
 | .inr y=>y.2
def z6P (G:DX):Prop:=∀ ss y,G ss=some y→∀ (j:Nat),(∀ d,ss[j]? = some (.own d)→∃ d',(zem y)[j]? = some (.own d'))∧∀ d,ss[j]? = some (.pure d)→∃ d',(zem y)[j]? = some (.pure d')
theorem zaN {ss os:List S} {δ:Dl} (e:z07 0 ss δ=some os) (j:Nat):(∀ d,ss[j]? = some (.own d)→∃ d',os[j]? = some (.own d'))∧∀ d,ss[j]? = some (.pure d)→∃ d',os[j]? = some (.pure d'):=by
 obtain ⟨h1,h2⟩:=z5N e
 refine ⟨fun d ed=>?_,fun d ed=>?_⟩
 ·rcases h2 j _ ed with ⟨d',z,_⟩ | ⟨d',d'',_,_,z⟩
  ·cases z
  ·exact ⟨d'',z⟩
 ·rcases h2 j _ ed with ⟨d',z,z'⟩ | ⟨d',d'',z,_⟩
  ·exact ⟨d',z'⟩
  ·cases z
theorem zap (h:runX fb n ss=some y):∃ δ,z07 0 ss δ=some (zem y):=by
 unfold runX at h
 cases e:fb (z0b n ss) with
 | stuck=>rw [e] at h; cases h
 | exc x δ =>
  rw [e] at h
  simp only at h
  cases e2:z07 0 ss δ with
  | none=>rw [e2] at h; cases h
  | some os=>rw [e2] at h; cases h; exact ⟨δ,e2⟩
 | ok fl δ =>
  rw [e] at h
  simp only at h
  cases e1:z0o fl with
  | none=>rw [e1] at h; cases h
  | some r =>
   rw [e1] at h
   simp only [WQ] at h
   cases e2:z07 0 ss δ with
   | none=>rw [e2] at h; cases h
   | some os=>rw [e2] at h; cases h; exact ⟨δ,e2⟩
def gOfX (np:List Nat) (n:Nat) (b:DS):DX:=fun ss=>if ioOk np 0 ss then runX b n ss else none
theorem z5z (h:gOfX np n b ss=some y):ioOk np 0 ss=true∧runX b n ss=some y:=by
 unfold gOfX at h
 split at h
 ·exact ⟨by assumption,h⟩
 ·cases h
theorem z59 {np:List Nat} {n:Nat} {b:DS}:z6P (gOfX np n b):=fun ss y h j=>by
 obtain ⟨δ,e⟩:=zap (z5z h).2
 exact zaN e j
def z2A (G:DX) (as:List Ak):DE:=fun δ=>if (ios as).all (z0w δ) && ndup (ios as) then (evX as δ).bind fun ds δ1=>match mkA as ds δ1 with
  | none=>.stuck
  | some ss=>match G ss with
   | none=>.stuck
   | some (.inl (r,outs))=>.ok r (putA as outs δ1)
   | some (.inr (x,outs))=>.exc x (putA as outs δ1)
 else .stuck
section
variable {X:Cx} {c:Fc} {e:Expr} {es:List Expr} {as:List Ak} {k n:Nat} {x:Str} {G:DX} {pp pos:Pos}
theorem za2 (hK:z6P G) (hl:as.length=n) (h:tD c (z2A G as) σ H Q):tX c as σ H fun vs H1=>spX X.mg n G vs H1 Q (fun c' dx H'=>∃ C,c' = .ref C∧wD X.mg c C dx σ H'):=by
 obtain ⟨δ,kk,q⟩:=h
 unfold z2A at q
 split at q
 ·rename_i hc
  rw [We] at hc
  have nd:=z54 hc.2
  rw [z03] at q
  refine ⟨δ,kk,fun i hi=>?_,z00 q fun ds δ1 q1 vs H1 a1 r1=>?_⟩
  ·have:=WC.mp hc.1 i (ios_mem.mpr hi)
   unfold z0w at this
   split at this
   ·rename_i d ed
    exact z3H kk ed
   ·cases this
  ·cases em:mkA as ds δ1 with
   | none=>rw [em] at q1; exact q1.elim
   | some ss =>
    rw [em] at q1
    simp only at q1
    cases eg:G ss with
    | none=>rw [eg] at q1; exact q1.elim
    | some y =>
     rw [eg] at q1
     have hin:=zbD a1.ok r1 em nd
     obtain ⟨m1,m2,_⟩:=z9h r1 em
     have g2:=hK ss y eg
     refine ⟨ss,_,by rw [← m2]; exact hl,hin,y,eg,?_⟩
     cases y with
     | inl y =>
      obtain ⟨r,outs⟩:=y
      intro v H2 a2 r2
      obtain ⟨o1,o2⟩:=z7w a1.ok r1 em nd rfl a2 (fun j d ed=>(g2 j).1 d ed) fun j d ed=>(g2 j).2 d ed
      exact q1 v H2 (a1.trans o1) (RepS.back (o2 v r r2) a1)
     | inr y =>
      obtain ⟨z,outs⟩:=y
      intro C dx v H2 hm a2 rv hv
      obtain ⟨o1,o2⟩:=z7w a1.ok r1 em nd rfl a2 (fun j d ed=>(g2 j).1 d ed) fun j d ed=>(g2 j).2 d ed
      exact ⟨C,rfl,z,putA as outs δ1,v,hm,o1.ok,o2 v (.pure z.flds) rv,hv,q1⟩
 ·exact q.elim
theorem z6Z (F:KFnX X.prog X.w X.K X.mg X.base k x n G) (hK:z6P G) (hr:Room k X.A) (hex:X.ex=[]) (hx:XOk X (wD X.mg c)) (hg:Gl X x) (ha:SX X c (e :: es) as) (hl:as.length=n) (hdb:(x == ("__debug__" : Str))=false:=by decide)
  (he:W4 (e :: es) X.env=(false,eval e X.env) :: W4 es X.env:=by rfl) (hpl:(WF pos (W4 es X.env)).any (·.1)=false:=by rfl):SE X c (.Call (.Name x pp) (e :: es) [] pos) (z2A G as):=by
 obtain ⟨f,fd,ps,hm,hk,hb,ok⟩:=F
 exact PE.weak (zcj ok hr hex hg hm hk hb hx ha hdb he hpl) fun σ H Q h=>za2 hK hl h
end
def z9Q (δ:Dl):Bool:=δ.all fun
 | some (.own _)=>false
 | _=>true
def unset (i:Nat):Rs Fl→Rs Fl
 | .ok fl δ=>.ok fl (δ.set i none)
 | r=>r
def dTry (ce:Tx→Nat) (ys:List Tx) (i:Nat) (fb fh:DS):DS:=fun δ=>if z9Q δ then match fb δ with
  | .exc x δ'=>if ys.contains x.cls && decide (i < δ'.length) then unset i (fh (δ'.set i (some (.pure (.exc (ce x.cls) x.flds))))) else .stuck
  | r=>r
 else .stuck
section
variable {c:Fc} {σ σ':St} {δ δ':Dl} {H H':Hp}
theorem zga (h:Np c []):c.pin=[]:=by
 cases e:c.pin with
 | nil=>rfl
 | cons p r =>
  have:=h p (by rw [e]; exact Wi)
  simp at this
theorem Aft.unset (x:Aft c σ₀ δ₀ H₀ σ δ H) (hp:c.pin=[]) (i:Nat):Aft c σ₀ δ₀ H₀ (σ.set i none) (δ.set i none) H:=by
 have k:=x.ok
 have back:∀ {α:Type} {l:List (Option α)} {j:Nat} {v:α},(l.set i none)[j]? = some (some v)→l[j]? = some (some v)∧i≠j:=fun {α l j v} e=>by
  by_cases hj:i=j
  ·subst hj
   rw [WK] at e
   simp at e
  ·rw [W9 hj] at e
   exact ⟨e,hj⟩
 have own:∀ a,Own (σ.set i none) (δ.set i none) a→Own σ δ a:=fun a ⟨j,d,e1,e2⟩=>⟨j,d,(back e1).1,(back e2).1⟩
 have av:∀ a,Av c (σ.set i none) (δ.set i none) a→Av c σ δ a:=fun a z=>z.elim .inl fun z=>.inr (own a z)
 refine ⟨⟨k.keep,k.bd,k.ith,by simp [k.len],fun j d e=>?_,fun j d e=>?_,fun j1 j2 a d d' e1 e2 e3 e4=>k.inj j1 j2 a d d' (back e1).1 (back e2).1 (back e3).1 (back e4).1,fun p hm=>by rw [hp] at hm; simp at hm⟩,x.keep,fun a z=>x.own a (own a z),x.there⟩
 ·obtain ⟨e',n⟩:=back e
  obtain ⟨v,e1,r⟩:=k.slot j d e'
  exact ⟨v,by rw [W9 n]; exact e1,r.anti fun a z=>.inl (av a z)⟩
 ·obtain ⟨e',n⟩:=back e
  obtain ⟨a,e1,r,q⟩:=k.own j d e'
  exact ⟨a,by rw [W9 n]; exact e1,r.anti fun a z=>.inl (av a z),q⟩
end
section
variable {c:Fc} {σ σ':St} {δ δ':Dl} {H H':Hp} {B':Addr→Prop} {g:Xc→Dl→Prop}
theorem Ok.inTry (k:Ok c σ δ H) (h:z9Q δ=true):Ok ⟨H,c.B,[],g⟩ σ δ H :=
 ⟨fun _ _ e _=>e,k.bd,fun a ⟨i,z⟩=>(by simp at z),k.len,k.slot,fun i d e=>((by have:=WC.mp h _ (Ww e); cases this)),k.inj,fun p z=>(by simp at z)⟩
theorem Ok.outTry (k:Ok c σ δ H) (hp:c.pin=[]) (k':Ok ⟨H,B',[],g⟩ σ' δ' H'):Ok { c with B:=B' } σ' δ' H':=by
 have nI:∀ a,¬ c.I a:=fun a ⟨i,z⟩=>by rw [hp] at z; simp at z
 have nI':∀ a,¬ (⟨H,B',[],g⟩:Fc).I a:=fun a ⟨i,z⟩=>by simp at z
 refine ⟨fun a o e n=>k'.keep a o (k.keep a o e n) (nI' a),k'.bd,fun a z=>absurd z (nI a),k'.len,k'.slot,fun i d e=>?_,k'.inj,fun p z=>by rw [show ({ c with B:=B' }:Fc).pin=c.pin from rfl,hp] at z; simp at z⟩
 obtain ⟨a,e1,r,q,nb⟩:=k'.own i d e
 refine ⟨a,e1,r,.inr ?_,nb⟩
 rcases q with q | q
 ·exact absurd q (nI' a)
 ·exact k.fresh₀ q
theorem Aft.outTry (k:Ok c σ δ H) (hp:c.pin=[]) (x:Aft ⟨H,c.B,[],g⟩ σ δ H σ' δ' H'):Aft c σ δ H σ' δ' H':=⟨k.outTry hp x.ok,x.keep,x.own,x.there⟩
theorem RepS.outTry (k:Ok c σ δ H) (hp:c.pin=[]) (h:RepS ⟨H,c.B,[],g⟩ σ' δ' H H' v r):RepS c σ' δ' c.H₀ H' v r:=by
 cases r with
 | pure d=>exact h
 | own d =>
  obtain ⟨a,e,o,n,f,k',q⟩:=h
  exact ⟨a,e,o,n,k.fresh₀ f,k.outTry hp k',k.fresh₀ f⟩
theorem RepS.unset (hp:c.pin=[]) (i:Nat) (h:RepS c σ δ Hs H v r):RepS c (σ.set i none) (δ.set i none) Hs H v r:=by
 have own:∀ a,Own (σ.set i none) (δ.set i none) a→Own σ δ a:=fun a ⟨j,d,e1,e2⟩=>by
  have back:∀ {α:Type} {l:List (Option α)} {v:α},(l.set i none)[j]? = some (some v)→l[j]? = some (some v):=fun {α l v} e=>by
   by_cases hj:i=j
   ·subst hj; rw [WK] at e; simp at e
   ·rw [W9 hj] at e; exact e
  exact ⟨j,d,back e1,back e2⟩
 cases r with
 | pure d=>exact Rep.anti h fun a z=>.inl (z.elim .inl fun z=>.inr (own a z))
 | own d =>
  obtain ⟨a,e,o,n,f,k,q⟩:=h
  exact ⟨a,e,o.anti fun b z=>.inl (z.elim .inl fun z=>.inr (own b z)),n,f,(Aft.unset (Aft.refl k) hp i).ok,q⟩
end
theorem zf9 (hex:X.ex=[]) (hnp:Np c []) (hst:X.stack=X.env :: X.outer) (hf:X.env.frame=some X.env.locals)
  (hN:X.N.Nodup) (hi:X.N[i]? = some n) (hl:X.env.scope.names.lookup n=some .local) (hg:Gl X x) (hm:X.mg x=some (.ref B)) (qB:ExcC X.K B)
  (hys:∀ y ∈ ys,X.mg (toS y)=some (.ref (ce y))∧PySem.W.mroIn X.K (ce y) (.ref B)=some true)
  (hb:∀ (c':Fc) (pn:List (Addr×Obj)) (xe:Value→W2→Prop),Np c' []→XOk (X.wt pn xe) (wD X.mg c')→SSs (X.wt pn xe) c' body fb) (hh:∀ a,SSs (X.hand a) c (b₀ :: suite) fh) (hdb:(x == ("__debug__" : Str))=false:=by decide) :
  SS X c (.Try body [.ExceptHandler (some (.Name x np)) (some n) (b₀ :: suite) hpos] [] [] pos) (dTry ce ys i fb fh):=by
 have hp:=zga hnp
 refine PS.weak (zaB (i:=i) (B:=B) (th:=fun _ _=>tDS c fh)
  (tb:=fun W D σ H=>tDS ⟨H,c.B,[],fun z δ'=>∀ σ' H',Ok ⟨H,c.B,[],fun _ _=>False⟩ σ' δ' H'→∀ C dx v,X.mg (toS z.cls)=some (.ref C)→Rep H' (Av ⟨H,c.B,[],fun _ _=>False⟩ σ' δ') v z.flds→(∀ y,v = .ref y→dx=some y)→W C dx σ' H'⟩ fb D σ H) hex hst hf hN hi hl hg hm qB hdb
  (fun W pn xe acc pins s σ H D I hw=>hb _ pn xe (fun p z=>(by simp at z)) (fun ps σ' H' s' a C dx J co ⟨y,δ',v,hy,k',rv,hv,w'⟩=>acc ps σ' H' s' a C dx J co (w' σ' H' ⟨k'.keep,k'.bd,k'.ith,k'.len,k'.slot,k'.own,k'.inj,k'.pinned⟩ C dx v hy rv hv)) pins s σ H D I hw)
  (fun _ a=>hh a)) fun D σ H ⟨δ,k,q⟩=>?_
 unfold dTry at q
 split at q
 ·rename_i hno
  refine ⟨δ,k.inTry hno,?_⟩
  unfold z2g at q ⊢
  cases e:fb δ with
  | stuck=>rw [e] at q; exact q.elim
  | ok fl δ' =>
   rw [e] at q
   intro σ' H' a
   have f0:=q σ' H' (Aft.outTry k hp a)
   cases fl with
   | next=>exact f0
   | brk=>exact f0
   | cont=>exact f0
   | ret r=>exact fun v rv=>f0 v (RepS.outTry k hp rv)
  | exc z δ' =>
   rw [e] at q
   simp only at q
   split at q
   ·rename_i hc
    simp only [We,decide_eq_true_eq] at hc
    obtain ⟨hy,hlt⟩:=hc
    intro σ' H' k' C dx v hC rv hv
    obtain ⟨y1,y2⟩:=hys z.cls (by simpa using hy)
    rw [y1] at hC
    cases hC
    refine ⟨y2,v,hv,fun a ha=>?_⟩
    have A1:Aft c σ δ H σ' δ' H':=Aft.outTry k hp (Ok.since (c:=⟨H,c.B,[],fun _ _=>False⟩) rfl (k.inTry hno) (fun a ⟨j,z⟩=>by simp at z) k')
    have A2:=A1.trans (Aft.alloc A1.ok ha (.ext (excAt (ce z.cls) v a)))
    have A3:=Ok.set (i:=i) (v:=.ref a) (r:=.pure (.exc (ce z.cls) z.flds)) A2 (.exc (A1.ok.nav ha) z0y (Rep.aft rv (Aft.alloc A1.ok ha _))) (fun p zz=>by rw [hp] at zz; simp at zz)
    refine ⟨δ'.set i (some (.pure (.exc (ce z.cls) z.flds))),A3.ok,?_⟩
    unfold z2g
    generalize fh (δ'.set i (some (.pure (.exc (ce z.cls) z.flds))))=r at q
    cases r with
    | stuck=>exact q.elim
    | exc z' δ4=>exact q
    | ok fl δ4 =>
     intro σ4 H4 A4
     have f0:=q (σ4.set i none) H4 (Aft.unset (A3.trans A4) hp i)
     cases fl with
     | next=>exact f0
     | brk=>exact f0
     | cont=>exact f0
     | ret r=>exact fun v rv=>f0 v (RepS.unset hp i rv)
   ·exact q.elim
 ·exact q.elim
end DV
namespace L2
open PySem PySem.Spec PyProof.Rows PySem.W Builtin Builtin.ObjectAttr Builtin.Getset_descriptor
section
variable {prog:Wk} {w:Wr} {A:Wp} {E:Value→W2→Prop} {K:W0} {C e:Addr} {oe:Obj} {h:Heap} {g:Array GenState} {d:Drawn} {t:Nat} {os:OsState}
structure ExcK (K:W0) (C:Addr):Prop where
 ga:Jg K (.ref C) "__getattribute__" = some (some (.builtin "BaseException.__getattribute__"))
 gt:Jg K (.ref C) "__getattr__" = some none
 cl:Jg K (.ref C) "__class__" = some (some (.builtin "object.__class__"))
 sp:specialIn K (.builtin "object.__class__") "__get__" = some (some (.builtin "getset_descriptor.__get__"))
 tk:takesIn K (.builtin "object.__class__")=some true
 mo:mroIn K C (.type "object")=some true
 mb:mroIn K C (.type "BaseException")=some true
theorem zeH (X:K.In h) (k:ExcK K C) (he:h.get? e=some oe) (hc:oe.cls = .ref C) (q:R (.ok (.ret (.ref C))) ⟨h,g,d,t,os⟩) :
  QA (model prog w) A (.call (.builtin "getset_descriptor.__get__") ⟨[.builtin "object.__class__",.ref e,tp],[]⟩) R ⟨h,g,d,t,os⟩:=by
 have l1:Looks (model prog w) h (typeOf (.ref e)) (.ref C):=hc ▸ (Looks.ld he).andThen .now
 have l2:=looks_mroIn (M:=model prog w) X k.mo
 refine Qv
  KF.slot_gs.plain KF.entry_gs
  (KF.slot_gs.check _ _ _ _ _ _ _ _
   KF.type_class (KF.args_gs _ _ _) ?_)
 unfold Builtin.«getset_descriptor.__get__» descrGet; rw [dga_obj]
 refine W1 (Wd ?_)
 unfold descrGetter descrCheckInstance descrNameAndClass isInstance; simp only [KF.owner_class]
 repeat lk
 refine ⟨Code.quiet_builtin _ (by decide +kernel),
  codeAny_builtin KF.entry_class ?_⟩
 unfold Builtin.«object.__class__» shownTypeOf; repeat lk
 exact q
theorem zbk (X:K.In h) (k:ExcK K C) (he:h.get? e=some oe) (hc:oe.cls = .ref C) (q:Q (.done (.ret (.ref C))) ⟨h,g,d,t,os⟩) :
  Wa (model prog w) A (Builtin.«object.__getattribute__» ⟨[.ref e,.str "__class__" tk],[]⟩) Q E ⟨h,g,d,t,os⟩:=by
 have l0:Looks (model prog w) h (typeOf (.ref e)) (.ref C):=hc ▸ (Looks.ld he).andThen .now
 have l1:=Jq (M:=model prog w) X k.cl
 have l2:=KF.type_class
 have l3:=F.slot_gs_get.lookup
 have l4:=F.slot_gs_set.lookup
 repeat (any_goals (first | assumption | with_reducible refine Looks.at l0 ?_ | with_reducible refine Looks.at l1 ?_ | (with_reducible refine Q6 he ?_; rw [hc]) | wp_step))
 refine zeH X k he hc ?_
 repeat (any_goals (first | assumption | wp_step))
theorem z8h (X:K.In h) (k:ExcK K C) (he:h.get? e=some oe) (hc:oe.cls = .ref C) (q:Q () ⟨h,g,d,t,os⟩) :
  Wa (model prog w) A (checkBuiltinCall "BaseException.__getattribute__" ⟨[.ref e,nv],[]⟩) Q E ⟨h,g,d,t,os⟩:=by
 have l0:Looks (model prog w) h (typeOf (.ref e)) (.ref C):=hc ▸ (Looks.ld he).andThen .now
 have l1:=looks_mroIn (M:=model prog w) X k.mb
 have b1:builtinKind "BaseException.__getattribute__" = some .slot:=by decide +kernel
 have b2:splitId "BaseException.__getattribute__" = some ("BaseException","__getattribute__"):=by decide +kernel
 have b3:=F.args_bexc_ga (.ref e) nv
 simp only [checkBuiltinCall,b1,b2]
 refine W1 ?_
 unfold isInstance
 repeat (first | with_reducible refine Looks.at l0 ?_ | with_reducible refine Looks.at l1 ?_ | (with_reducible refine Q6 he ?_; rw [hc]) | wp_step)
 exact q
theorem zbl (X:K.In h) (k:ExcK K C) (he:h.get? e=some oe) (hc:oe.cls = .ref C) (q:Q (some (.ref C)) ⟨h,g,d,t + 1,os⟩):Wa (model prog w) A (getAttr? (.ref e) "__class__") Q E ⟨h,g,d,t,os⟩:=by
 have L0:Looks (model prog w) h (typeOf (.ref e)) (.ref C):=hc ▸ (Looks.ld he).andThen .now
 have L1:=Jq (M:=model prog w) X k.ga
 have L2:=Jq (M:=model prog w) X k.gt
 have L3:=looks_mroIn (M:=model prog w) X k.mb
 have hx0:(false && onTheHeap (Value.builtin "BaseException.__getattribute__"))=false:=rfl
 have hx2:(Value.builtin "BaseException.__getattribute__" == Value.builtin "object.__getattribute__")=false:=by decide +kernel
 have f3:=F.attrBase_ValueError.ga.bind (.ref e)
 unfold getAttr? getAttrBy? getAttrBy
 refine W1 (wpAny_mkText (W1 (wpAny_attempt (WX (W1 (L0.at (W1 (L1.at ?_))))))))
 dsimp only
 rw [hx2,Bool.and_false]
 simp only [Qr,if_false]
 unfold getAttrByItsOwn hookBefore
 repeat (any_goals (first | assumption | with_reducible refine Looks.at L2 ?_ | wp_step))
 refine Qv F.attrBase_ValueError.ga.plain F.entry_bexc_ga (z8h X k he hc (zbk X k he hc ?_))
 repeat (any_goals (first | assumption | wp_step))
theorem zcC {v:V} (k:ExcK K C) (hk:(clsIn K C).isSome=true):KitX K (.ref e) (.ref C) (DV.excAt C v e) where
 ty:=fun M h X ⟨o,h1,h2,_⟩=>h2 ▸ (Looks.ld h1).andThen .now
 it:=fun M h X _=>by
  obtain ⟨cd,hcd⟩:=QP.mp hk
  unfold clsIn at hcd
  split at hcd
  next c' d' cd' sl' ho=>exact fun A' Q' E' s' kk q=>by unfold isType loadHead; exact W1 (wpAny_loadPart (kk _ _ (X _ _ ho)) (Wd q))
  next=>cases hcd
 ne:=fun h tp dd its n sl X htp=>by
  obtain ⟨cd,hcd⟩:=QP.mp hk
  refine Bool.eq_false_iff.mpr fun q=>?_
  obtain rfl:C=tp:=Value.ref.inj (beq_iff_eq.mp q)
  unfold clsIn at hcd
  split at hcd
  next c' d' cd' sl' ho=>have z:=(X _ _ ho).symm.trans htp; cases z
  next=>cases hcd
 ca:=fun {prog w A E Q s} X ⟨o,h1,h2,_⟩ q=>by
  obtain ⟨hh,gg,dd,tt,oo⟩:=s
  exact zbl X k h1 h2 q
end
section
variable {X:Cx} {y:Str} {D:Addr} {pos:Pos}
theorem zfU (hg:Gl X y) (hm:X.mg y=some (.ref D)) (hd:(y == ("__debug__" : Str))=false:=by decide):PE X (.Name y pos) (fun σ H Q=>Q (.ref D) H):=fun pins s σ H Q I h=>z4b I hg hm ⟨.ref D,H,I,rfl,h⟩ hd
structure IsT (K:W0) (ce:DV.Tx→Nat) (ys:List DV.Tx) (cv:Value) (tab:DV.Tx→Bool):Prop where
 k:∀ z ∈ ys,ExcK K (ce z)
 c:∀ z ∈ ys,(PySem.W.clsIn K (ce z)).isSome=true
 one:∀ z ∈ ys,Qo K (.ref (ce z)) cv=some (tab z)
theorem z9y (hcv:∀ u,RelV cV u→u=cv) (T:IsT X.K ce ys cv tab) :
  CallR X (.builtin "isinstance") (fun xs H Q=>∃ (a:Addr) (z:DV.Tx) (v:V),xs=[.ref a,cV]∧H a=some (.ext (DV.excAt (ce z) v a))∧z ∈ ys∧Q (.bl (tab z)) H):=by
 intro pins s σ H xs us Q I r h
 obtain ⟨a,z,v,rfl,ha,hz,q⟩:=h
 obtain ⟨u,w',rfl,r1,r2⟩:=zdt r
 cases r1
 have e:=hcv _ r2
 subst e
 obtain ⟨p,_,_⟩:=I.hok a _ ha
 exact WT (zcC (T.k z hz) (T.c z hz)) I.kIn p (T.one z hz) (fun z=>nomatch z) fun tk=>⟨.bl (tab z),H,I.tok tk,rfl,q⟩
end
structure RoomH (k:Nat) (A:Wp):Prop where
 dp:A.depth + 3 * k + 5 < recursionLimit
 un:A.units + 16 * k + 200 < QD
theorem RoomH.deeper (r:RoomH (k + 1) A) (env:Env):RoomH k (A.deeper env) :=
 ⟨by have:=r.dp; show A.depth + 1 + 3 * k + 5 < _; omega,by have:=r.un; show A.units + 3 + 16 * k + 200 < _; omega⟩
theorem Room.h (r:Room k A):RoomH k A:=⟨r.dp,r.un⟩
theorem RoomH.mono (r:RoomH k A) (h:j≤k):RoomH j A:=⟨by have:=r.dp; omega,by have:=r.un; omega⟩
theorem RoomH.mark (r:RoomH k A) (v:Option Value):RoomH k (A.mark v):=⟨r.dp,r.un⟩
def Cx.cold (X:Cx):Cx:={ X with calm:=false,xe:=fun _ _=>False }
structure FnOkH (P:Wk) (w:Wr) (K:W0) (mg:Str→Option Value) (base:Heap) (k:Nat) (f:Addr) (fd:WD) (ps:List Str) (sp:Sp):Prop where
 len:∀ vs H Q E,sp vs H Q E→vs.length=ps.length
 run:∀ (A:Wp) (outer:List Env) (s:W2) (H:Hp) (args:Args) (us:List Value) (vs:List V) (Q:VK),RoomH k A→Env0 P w K mg base A outer s H→BindsTo s fd args (ps.zip us)→Vals vs us→sp vs H Q E0 →
  QA (model P w) A (.call (.ref f) args) (CR CX0 outer P w H s Q E0) s
section
variable {P:Wk} {w:Wr} {K:W0} {mg:Str→Option Value} {base:Heap} {k:Nat} {f:Addr}
theorem zgt {x qual:Str} {st:Stmt} {fd:WD} {N ps:List Str} {sp:Sp} (F:Fun K x qual st f fd) (S:FnScope N ps (z05 st)) (len:∀ vs H Q E,sp vs H Q E→vs.length=ps.length)
  (hbody:∀ (cdv:Value) (A:Wp) (outer:List Env) (s:W2) (H:Hp) (vs:List V) (Q:VK),RoomH k (A.deeper (QO qual (z05 st) s.heap.objs.size f cdv))→sp vs H Q E0 →
   ∃ t,PSs (cxOf CX0 P w K mg base N qual (z05 st) f cdv A outer s H E0).cold (z1n st) t∧t { nx:=fun _ H'=>Q .non H',rt:=Q } (start N vs) H):FnOkH P w K mg base (k + 1) f fd ps sp:=by
 obtain ⟨oc,od,kV,doc,pm,an,cdv,ct,osl,rfl,lk,hcd⟩:=F.ex
 refine ⟨len,fun A outer s H args us vs Q hr e0 hb r hsp=>?_⟩
 have hl:=len _ _ _ _ hsp
 have KX:K.In s.heap:=e0.mod.kin.keeps fun b o e=>(e0.bs b o e).1
 have lim:s.heap.NoLimit:=e0.mod.nolimit.keeps fun b o e=>(e0.bs b o e).1
 have hkind:∀ y ∈ ps.zip us,(z05 st).names.lookup y.1=some .local∨((z05 st).names.lookup y.1=some .cell∧((Qf (s.heap.objs.size + 1) (z05 st).names []).lookup y.1).isSome=true):=fun ⟨n,v⟩ hy=>by
  rcases S.par n (Jx hy).1 with q | q
  ·exact .inl q
  ·exact .inr ⟨q,J1 _ _ _ (.inl q)⟩
 have hdep:A.depth < recursionLimit:=by have:=hr.dp; omega
 refine codeAny_call_function hdep (KX _ _ lk) rfl S.co S.gen rfl (PySem.W.codeRec_of KX hcd) (hb _ _ _ _ ?_)
 refine wpAny_newFunctionEnv_cells S.kind hkind fun env he s1 x=>?_
 subst he
 refine ⟨lim.keeps x.toInCall.keep,codeAny_func ?_⟩
 obtain ⟨t,ht,hq⟩:=hbody cdv A outer s H vs Q (hr.deeper _) hsp
 have e1:Env0 P w K mg base { A with handled:=none } outer s H:=⟨e0.frames,e0.mod,e0.bs,e0.bsz,e0.funs,e0.frf,e0.hok,e0.bare⟩
 have J:=z8d (CX:=CX0) (E:=E0) (qual:=qual) (f:=f) (cd:=cdv) (A:={ A with handled:=none }) S rfl e1 hl r x
 have I:Inv (cxOf CX0 P w K mg base N qual (z05 st) f cdv A outer s H E0).cold [] (start N vs) H s1:=by
  have o:=J.ok
  exact ⟨⟨o.mod,o.kind,o.glob,o.blt,o.above,o.inj,o.has,o.cab,fun z=>(by cases z),Around.frames_deeper e0.frames,o.stk,o.exf,o.bs,o.bsz,o.noex,o.exfs,o.funs,o.frf⟩,J.os,J.bare,J.base,J.loc,J.cell,J.free,J.freeC,J.pin,J.hok,J.len⟩
 refine WO (ht [] s1 (start N vs) H _ I hq) (fun fl s' hs=>?_) fun e s' hs=>hs.elim
 cases fl with
 | ret u =>
  obtain ⟨v,σ',H',J2,rv,q⟩:=hs
  exact ⟨v,H',J2.os,J2.bare,J2.base,J2.hok,rv,q⟩
 | next =>
  obtain ⟨σ',H',J2,q⟩:=hs
  exact ⟨V.non,H',J2.os,J2.bare,J2.base,J2.hok,rfl,q⟩
 | brk =>
  obtain ⟨_,_,_,q⟩:=hs
  exact False.elim q
 | cont =>
  obtain ⟨_,_,_,q⟩:=hs
  exact False.elim q
end
section
variable {X:Cx} {k:Nat} {f:Addr} {fd:WD} {ps:List Str} {sp:Sp} {x:Str} {p pos:Pos} {e:Expr} {es:List Expr} {t:TA}
theorem zck (F:FnOkH X.prog X.w X.K X.mg X.base k f fd ps sp) (hr:RoomH k X.A) (hg:Gl X x) (hm:X.mg x=some (.ref f)) (hk:Q3 X.K (.ref f)=true) (hb:Binds X.K fd ps [])
  (ha:PA X (e :: es) t) (hdb:(x == ("__debug__" : Str))=false:=by decide) (he:W4 (e :: es) X.env=(false,eval e X.env) :: W4 es X.env:=by rfl) (hpl:(WF pos (W4 es X.env)).any (·.1)=false:=by rfl) :
  PE X (.Call (.Name x p) (e :: es) [] pos) (zdD sp [] E0 t):=by
 intro pins s σ H Q I h
 refine QC (z4b I hg hm ?_ hdb)
 refine PySem.W.callWith_K (h₀:=X.base) I.ok.mod.kin hk (thn (ha pos pins s σ H _ I h) fun us s1 ⟨vs,H1,I1,r,q⟩=>⟨I1.kIn,?_⟩) he hpl
 have q:sp vs H1 Q E0:=by have q':sp (vs ++ []) H1 Q E0:=q; rwa [WU] at q'
 have hl:(us ++ []).length=ps.length:=by rw [WU,← r.length]; exact F.len _ _ _ _ q
 refine wpAny_call (QN (F.run X.A X.stack s1 H1 ⟨us,[]⟩ us vs Q hr I1.env0 (by have:=hb s1 us I1.kIn hl; rwa [WU] at this) r q) fun r s' hq=>?_)
 cases r with
 | error e=>exact False.elim hq
 | ok fl =>
  cases fl with
  | ret u=>exact I1.after hq
  | next=>exact False.elim hq
  | brk=>exact False.elim hq
  | cont=>exact False.elim hq
end
end L2
namespace DV
open PySem PySem.Spec PyProof.Rows L2
def eIsC (ce:Tx→Nat) (ys:List Tx) (tab:Tx→Bool) (fb:BE):DE:=fun δ=>(fb δ).bind fun d δ'=>match d with
 | .exc n _=>match ys.find? fun z=>ce z == n with
  | some z=>.ok (.pure (.bl (tab z))) δ'
  | none=>.stuck
 | _=>.stuck
section
variable {X:Cx} {c:Fc} {e:Expr} {fb:BE} {pp py pos:Pos} {y:Str} {ce:Tx→Nat} {ys:List Tx} {tab:Tx→Bool}
theorem z9m (h:tD c (eIsC ce ys tab fb) σ H Q):tB c fb σ H fun v H1=>∃ (a:Addr) (z:Tx) (w:V),[v,cV]=[.ref a,cV]∧H1 a=some (.ext (excAt (ce z) w a))∧z ∈ ys∧Q (.bl (tab z)) H1:=by
 obtain ⟨δ,k,q⟩:=h
 unfold eIsC at q
 rw [z03] at q
 refine ⟨δ,k,z00 q fun d δ1 q1 v H1 a1 r1=>?_⟩
 cases d <;> first | exact q1.elim | skip
 rename_i n fl
 simp only at q1
 split at q1
 ·rename_i z hz
  have h1:=List.find?_some hz
  have h2:=List.mem_of_find?_eq_some hz
  have e:ce z=n:=by simpa using h1
  subst e
  rcases r1 with r1 | ⟨a,_,o⟩
  ·cases r1 with
   | exc _ ha _=>exact ⟨_,z,_,rfl,ha,h2,q1 _ H1 a1 (.bl _)⟩
  ·exact o.elim
 ·exact q1.elim
theorem z4u {D:Addr} (T:IsT X.K ce ys (.ref D) tab) (hg:Gl X "isinstance") (hm:X.mg "isinstance" = none) (hgy:Gl X y) (hmy:X.mg y=some (.ref D)) (he:SB X c e fb) (hdy:(y == ("__debug__" : Str))=false:=by decide)
  (hs:W4 [e,.Name y py] X.env=(false,eval e X.env) :: W4 [.Name y py] X.env:=by rfl) (hpl:(WF pos (W4 [.Name y py] X.env)).any (·.1)=false:=by rfl) :
  SE X c (.Call (.Name "isinstance" pp) [e,.Name y py] [] pos) (eIsC ce ys tab fb) :=
 PE.weak (z4y (z9y (cV:=.ref D) (fun u r=>by cases r; rfl) T) hg hm PyProof.Rows.boot_isinstance (z0M he (z0M (zfU hgy hmy hdy) z1M) hs) (by decide) (by decide) hs hpl) fun σ H Q h=>z9m h
theorem zfc {T':String} (T:IsT X.K ce ys (.type T') tab) (hg:Gl X "isinstance") (hm:X.mg "isinstance" = none) (hgy:Gl X y) (hmy:X.mg y=none) (hvy:Q1 y=some (.type T')) (he:SB X c e fb)
  (hny:y≠"__name__":=by decide) (hdy:(y == ("__debug__" : Str))=false:=by decide)
  (hs:W4 [e,.Name y py] X.env=(false,eval e X.env) :: W4 [.Name y py] X.env:=by rfl) (hpl:(WF pos (W4 [.Name y py] X.env)).any (·.1)=false:=by rfl) :
  SE X c (.Call (.Name "isinstance" pp) [e,.Name y py] [] pos) (eIsC ce ys tab fb) :=
 PE.weak (z4y (z9y (cV:=.ty T') (fun u r=>by cases r; rfl) T) hg hm PyProof.Rows.boot_isinstance (z0M he (z0M (zaL (v:=.ty T') hgy hmy hvy rfl hny hdy) z1M) hs) (by decide) (by decide) hs hpl) fun σ H Q h=>z9m h
end
def KFnH (P:Wk) (w:Wr) (K:W0) (mg:Str→Option Value) (base:Heap) (k:Nat) (x:Str) (n:Nat) (G:DF):Prop :=
 ∃ (f:Addr) (fd:WD) (ps:List Str),mg x=some (.ref f)∧Q3 K (.ref f)=true∧Binds K fd ps []∧FnOkH P w K mg base k f fd ps (spD n G)
theorem zdk (r:RoomH k A):A.units + 64 < QD:=by have:=r.un; omega
section
variable {P:Wk} {w:Wr} {K:W0} {mg:Str→Option Value} {base:Heap}
theorem zbh {x qual:Str} {st:Stmt} {f:Addr} {fd:WD} {N ps:List Str} {k:Nat} {np:List Nat} {fb:DS} {G:DF} (F:Fun K x qual st f fd) (hm:mg x=some (.ref f)) (hb:Binds K fd ps []) (S:FnScope N ps (z05 st))
  (hbody:∀ (c:Fc) (cdv:Value) (A:Wp) (outer:List Env) (s:W2) (H:Hp) (E:XK),RoomH k (A.deeper (QO qual (z05 st) s.heap.objs.size f cdv))→Np c np→SSs (cxOf CX0 P w K mg base N qual (z05 st) f cdv A outer s H E).cold c (z1n st) fb)
  (hG:∀ ss y,G ss=some y→ioOk np 0 ss=true∧runD fb N.length ss=some y):KFnH P w K mg base (k + 1) x ps.length G:=by
 refine ⟨f,fd,ps,hm,F.kp,hb,zgt F S (fun vs H Q E h=>?_) fun cdv A outer s H vs Q hr h=>?_⟩
 ·obtain ⟨ss,B,hl,_⟩:=h
  exact hl
 ·obtain ⟨ss,B,hl,ok,r,outs,hg,q⟩:=h
  obtain ⟨hio,hrun⟩:=hG ss _ hg
  have hvs:ss.length=vs.length:=by have:=ok.len; simpa using this
  have np':Np ⟨H,B,z0B 0 ss vs,fun _ _=>False⟩ np:=fun p hp=>by
   obtain ⟨j,d,e,h1,_⟩:=z1A (i:=p.1) (a:=p.2) hp
   rw [e]
   exact z7p hio h1
  refine ⟨tDS ⟨H,B,z0B 0 ss vs,fun _ _=>False⟩ fb,hbody ⟨H,B,z0B 0 ss vs,fun _ _=>False⟩ cdv A outer s H E0 hr np',?_⟩
  have hst:start N vs=z11 vs ++ W3 (N.length - ss.length) none:=by rw [hvs]; rfl
  refine ⟨z0b N.length ss,by rw [hst]; exact ok.ext _,?_⟩
  unfold runD at hrun
  unfold z2g
  cases e:fb (z0b N.length ss) with
  | exc x δx=>rw [e] at hrun; cases hrun
  | stuck=>rw [e] at hrun; cases hrun
  | ok fl δ' =>
   rw [e] at hrun
   show ∀ σ' H',Aft _ (start N vs) (z0b N.length ss) H σ' δ' H'→fin _ _ σ' δ' H' fl
   intro σ' H' a
   rw [hst] at a
   simp only at hrun
   cases fl with
   | brk=>cases hrun
   | cont=>cases hrun
   | next =>
    simp only [z0o,WQ] at hrun
    cases eo:z07 0 ss δ' with
    | none=>rw [eo] at hrun; cases hrun
    | some os =>
     rw [eo] at hrun
     cases hrun
     obtain ⟨l1,l2⟩:=z89 rfl ok a eo
     exact q .non H' l1 .non
   | ret r' =>
    simp only [z0o,WQ] at hrun
    cases eo:z07 0 ss δ' with
    | none=>rw [eo] at hrun; cases hrun
    | some os =>
     rw [eo] at hrun
     cases hrun
     obtain ⟨l1,l2⟩:=z89 rfl ok a eo
     exact fun v rv=>q v H' l1 (l2 v _ rv)
end
section
variable {X:Cx} {c:Fc} {e:Expr} {es:List Expr} {as:List Ak} {k n:Nat} {x:Str} {G:DF} {pp pos:Pos}
theorem z94 (F:KFnH X.prog X.w X.K X.mg X.base k x n G) (hK:z1s G) (hr:RoomH k X.A) (hg:Gl X x) (ha:SX X c (e :: es) as) (hl:as.length=n) (hdb:(x == ("__debug__" : Str))=false:=by decide)
  (he:W4 (e :: es) X.env=(false,eval e X.env) :: W4 es X.env:=by rfl) (hpl:(WF pos (W4 es X.env)).any (·.1)=false:=by rfl):SE X c (.Call (.Name x pp) (e :: es) [] pos) (z08 G as):=by
 obtain ⟨f,fd,ps,hm,hk,hb,ok⟩:=F
 exact PE.weak (zck ok hr hg hm hk hb ha hdb he hpl) fun σ H Q h=>z8q (ps:=ps) hK hl h
end
end DV
namespace L2
open PySem PySem.Spec PyProof.Rows PySem.SeqAt
theorem z6Q:∀ {bs:List Bool} {us:List Value},Vals (bs.map V.bl) us→us=bs.map Value.bool
 | [],us,r=>by cases r; rfl
 | b :: bs,us,r=>by
  cases r with
  | cons r1 r2 =>
   cases r1
   rw [z6Q r2]
   rfl
def z64:Value→Bool
 | .bool b=>b
 | _=>false
theorem z6d:∀ bs:List Bool,(bs.map Value.bool).countP z64=bs.count true
 | []=>rfl
 | b :: bs=>by
  rw [WB,List.countP_cons,z6d bs,List.count_cons]
  cases b <;> rfl
def zd7 (K:W0):V→List V→Hp→VK→Prop:=fun x xs H Q=>∃ (a:Addr) (bs:List Bool),x = .ref a∧xs=[.bl true]∧SqL K H a (bs.map V.bl)∧Q (.int (bs.count true:Nat)) H
def zd5 (K:W0):V→List V→Hp→VK→Prop:=fun x xs H Q=>∃ (a:Addr) (bs:List Bool),x = .ref a∧xs=[.bl true]∧SqL K H a (bs.map V.bl)∧true ∈ bs∧bs.length≤1000∧Q (.int (bs.idxOf true:Nat)) H
section
variable {X:Cx}
theorem zcA:MtR X "list.count" (zd7 X.K):=by
 intro pins s σ H x xs v us Q I rx rs h
 obtain ⟨a,bs,rfl,rfl,hq,q⟩:=h
 obtain ⟨u,rfl,ru⟩:=z4p rs
 cases ru
 cases rx
 obtain ⟨its,r',p,_⟩:=I.list hq
 obtain rfl:=z6Q r'
 obtain ⟨⟨cls,dd,data,sl⟩,ho,hc,n,hd⟩:=p.isList
 simp only at hc hd
 subst hc; subst hd
 refine Qm PySem.F.slot_list_count ⟨_,ho,rfl⟩ PySem.F.entry_list_count (PySem.F.args_list_count_2 _ _) (list_countAt a _ n dd sl (.bool true) z64) ⟨ho,fun y hy=>?_,?_⟩
 ·have hy':y ∈ bs.map Value.bool:=by simpa using hy
  obtain ⟨b,_,rfl⟩:=Qw.mp hy'
  have:=EqAt.bool_bool (A:=X.A.in1) (s:=s) b true
  cases b <;> exact this
 ·rw [show (bs.map Value.bool).toArray.toList=bs.map Value.bool from rfl,z6d]
  exact ⟨.int (bs.count true:Nat),H,I.tok _,⟨_,rfl⟩,q⟩
theorem zcz:MtR X "list.index" (zd5 X.K):=by
 intro pins s σ H x xs v us Q I rx rs h
 obtain ⟨a,bs,rfl,rfl,hq,hm,hl,q⟩:=h
 obtain ⟨u,rfl,ru⟩:=z4p rs
 cases ru
 cases rx
 obtain ⟨its,r',p,_⟩:=I.list hq
 obtain rfl:=z6Q r'
 obtain ⟨⟨cls,dd,data,sl⟩,ho,hc,n,hd⟩:=p.isList
 simp only at hc hd
 subst hc; subst hd
 have hj:bs.idxOf true < bs.length:=List.idxOf_lt_length_iff.mpr hm
 refine Qm PySem.F.slot_list_index ⟨_,ho,rfl⟩ PySem.F.entry_list_index (PySem.F.args_list_index_2 _ _) (list_indexAt a _ n dd sl (.bool true) z64 (bs.idxOf true) (by simpa using hj) (by omega) ?_ ?_) ⟨ho,fun y hy=>?_,⟨.int (bs.idxOf true:Nat),H,I.tok _,⟨_,rfl⟩,q⟩⟩
 ·have:=List.getElem_idxOf hj
  simp [z64,this]
 ·intro m hm' hlt
  have hm2:m < bs.length:=by simpa using hm'
  have:bs[m]≠true:=fun z=>by
   have z2:=List.not_of_lt_findIdx (p:=(· == true)) (xs:=bs) (i:=m) hlt
   rw [z] at z2
   cases z2
  simp [z64,this]
 ·have hy':y ∈ bs.map Value.bool:=by simpa using hy
  obtain ⟨b,_,rfl⟩:=Qw.mp hy'
  have:=EqAt.bool_bool (A:=X.A.in1) (s:=s) b true
  cases b <;> exact this
end
end L2
namespace DV
open PySem PySem.Spec PyProof.Rows L2
def z6G:D→Option S
 | .lst ds=>(z4L ds).map fun bs=>.pure (.int (bs.count true:Nat))
 | _=>none
def z4Y:D→Option S
 | .lst ds=>match z4L ds with
  | some bs=>if true ∈ bs∧bs.length≤1000 then some (.pure (.int (bs.idxOf true:Nat))) else none
  | none=>none
 | _=>none
section
variable {X:Cx} {c:Fc} {e:Expr} {fb:BE}
theorem zcu {K:W0}:Op1 (fun x H Q=>tyV K "list" x H∧zd7 K x [.bl true] H Q) z6G:=by
 intro c σ δ H x d s Q k rx hp q
 cases d with
 | lst ds =>
  simp only [z6G] at hp
  cases e:z4L ds with
  | none=>rw [e] at hp; cases hp
  | some bs =>
   rw [e] at hp
   cases hp
   obtain ⟨a,vs,ea,ha,ra⟩:=rx.lst
   obtain rfl:=z3J e ra
   subst ea
   exact ⟨.inl ⟨rfl,_,.inl ha⟩,a,bs,rfl,rfl,.inl ha,q _ H (.refl k) (.int _)⟩
 | _=>simp [z6G] at hp
theorem zct {K:W0}:Op1 (fun x H Q=>tyV K "list" x H∧zd5 K x [.bl true] H Q) z4Y:=by
 intro c σ δ H x d s Q k rx hp q
 cases d with
 | lst ds =>
  simp only [z4Y] at hp
  cases e:z4L ds with
  | none=>rw [e] at hp; cases hp
  | some bs =>
   rw [e] at hp
   simp only at hp
   split at hp
   ·rename_i hz
    cases hp
    obtain ⟨a,vs,ea,ha,ra⟩:=rx.lst
    obtain rfl:=z3J e ra
    subst ea
    exact ⟨.inl ⟨rfl,_,.inl ha⟩,a,bs,rfl,rfl,.inl ha,hz.1,hz.2,q _ H (.refl k) (.int _)⟩
   ·cases hp
 | _=>simp [z4Y] at hp
theorem zc0 {j} {p0 apos cpos:Pos} (he:SB X c e fb)
  (hbase:WS e "count" X.env (eval e X.env)=eval e X.env:=by rfl)
  (hfew:((WF cpos (W4 [.Constant (.bool true) j p0] X.env)).all (fun x=>!x.1) && (Qn cpos (WV [] X.env)).all (fun x=>x.1.isSome)
   && decide ([Expr.Constant (.bool true) j p0].length + ([]:List Keyword).length + (if ([]:List Keyword).isEmpty then 0 else 1) < 30))=true:=by rfl)
  (hline:(apos.endLine == cpos.line)=true:=by rfl) (hs:W4 [.Constant (.bool true) j p0] X.env=(false,eval (.Constant (.bool true) j p0) X.env) :: W4 [] X.env:=by rfl) :
  SE X c (.Call (.Attribute e "count" apos) [.Constant (.bool true) j p0] [] cpos) (eC1 z6G fb):=by
 refine PE.weak (z9M QV PySem.F.slot_list_count PySem.F.type_list_count zcA he (z0M zek z1M hs) hbase hfew hline hs rfl) fun σ H Q h=>?_
 obtain ⟨δ,k,q⟩:=z3U (zcu (K:=X.K)) h
 exact ⟨δ,k,z00 q fun y δ1 q1 v H1 a1 r1=>q1 v H1 a1 r1⟩
theorem zbY {j} {p0 apos cpos:Pos} (he:SB X c e fb)
  (hbase:WS e "index" X.env (eval e X.env)=eval e X.env:=by rfl)
  (hfew:((WF cpos (W4 [.Constant (.bool true) j p0] X.env)).all (fun x=>!x.1) && (Qn cpos (WV [] X.env)).all (fun x=>x.1.isSome)
   && decide ([Expr.Constant (.bool true) j p0].length + ([]:List Keyword).length + (if ([]:List Keyword).isEmpty then 0 else 1) < 30))=true:=by rfl)
  (hline:(apos.endLine == cpos.line)=true:=by rfl) (hs:W4 [.Constant (.bool true) j p0] X.env=(false,eval (.Constant (.bool true) j p0) X.env) :: W4 [] X.env:=by rfl) :
  SE X c (.Call (.Attribute e "index" apos) [.Constant (.bool true) j p0] [] cpos) (eC1 z4Y fb):=by
 refine PE.weak (z9M QV PySem.F.slot_list_index PySem.F.type_list_index zcz he (z0M zek z1M hs) hbase hfew hline hs rfl) fun σ H Q h=>?_
 obtain ⟨δ,k,q⟩:=z3U (zct (K:=X.K)) h
 exact ⟨δ,k,z00 q fun y δ1 q1 v H1 a1 r1=>q1 v H1 a1 r1⟩
end
theorem z6h:Q1 "ValueError" = some (.type "ValueError"):=by decide +kernel
def ceOf:List (Tx×Nat)→Tx→Nat
 | [],_=>0
 | p :: r,x=>bif p.1 == x then p.2 else ceOf r x
end DV
namespace L2
open PySem PySem.Spec PyProof.Rows
section
variable {X:Cx}
def zfx (K:W0):R2:=fun x y H Q=>∃ l k xs,x = .ref l∧y = .int k∧SqL K H l xs∧xs≠[]∧2≤k∧k≤1000∧xs.length≤1000∧∀ p,H p=none→Q (.ref p) (upd H p (.lst (W3 k.toNat xs).flatten))
theorem zep:OpR X (Q7 .Mult) (zfx X.K):=by
 intro pins s σ H x y v u Q I rx ry h
 obtain ⟨l,k,xs,rfl,rfl,hH,hne,h1,h2,hz,q⟩:=h
 cases rx
 obtain ⟨t,rfl⟩:=ry
 obtain ⟨its,r,pl,hl⟩:=I.list hH
 obtain ⟨⟨cls,dd,data,sl⟩,ho,hc,n,hd⟩:=pl.isList
 simp only at hc hd
 subst hc hd
 have hlen:its.toArray.size=xs.length:=by rw [Wf]; exact r.length.symm
 have hem:its.toArray.isEmpty=false:=by
  cases its with
  | nil=>exact absurd (r.nil_iff.mp rfl) hne
  | cons a b=>rfl
 have hline:W8=16777216:=rfl
 have hp1:xs.length * k.toNat≤1000000:=by
  have:xs.length * k.toNat≤1000 * 1000:=Nat.mul_le_mul hz (by omega)
  omega
 have hfold:List.foldl (fun x1 x2=>x1 ++ x2) #[] (W3 k.toNat its.toArray)=(W3 k.toNat its).flatten.toArray:=by
  have:=z68 its k.toNat []
  rw [WM] at this
  exact this
 refine wpAny_binaryOp_repeat_ref (T:="list") (U:="int") (by decide) ⟨_,ho,rfl⟩ (fun s'=>QZ s' k t) noFill_list_mul F.fills_int_mul F.slot_int_rmul repeat_list F.slot_int_index.lookup
  (Qm F.slot_int_rmul (QZ s k t) F.entry_int_rmul (F.args_int_rmul_2 _ _) (lm_int_rmul_list_any k t l its.toArray n dd sl)
   ⟨ho,rfl,⟨_,ho,rfl⟩,Qm F.slot_list_mul ⟨_,ho,rfl⟩ F.entry_list_mul (F.args_list_mul_2 _ _) (lm_list_mul_any l its.toArray n dd sl k t ?_ ?_ ?_) ⟨ho,?_⟩⟩)
 ·unfold Builtin.List.listFitsIndex
  simp
  omega
 ·rw [hlen]; omega
 ·rw [hlen]
  unfold QR
  simp only [hline,decide_eq_true_eq]
  omega
 ·rw [if_neg (by rw [hem]; exact WL),hfold]
  have I1:Inv X pins σ (upd H s.heap.objs.size (.lst (W3 k.toNat xs).flatten)) { s with heap:=s.heap.push { cls:=.type "list",data:=.seq (W3 k.toNat its).flatten.toArray } } :=
   I.laid (t':=s.toks) (fun b o e=>W6 _ e) (W7 _) (show ObjOk X.prog X.w _ _ _ (.lst (W3 k.toNat xs).flatten) from ⟨by rw [z7m,Nat.mul_comm]; omega,(W3 k.toNat its).flatten,0,r.rep k.toNat,Wm _ rfl⟩)
  exact ⟨.ref _,_,I1,rfl,q _ (I.hok.fresh (W7 _))⟩
end
end L2
namespace DV
open PySem PySem.Spec PyProof.Rows L2
def z9N:D→D→Option S
 | .lst xs,.int k=>if 2≤k∧k≤1000∧0 < xs.length∧xs.length≤1000 then some (.own (.lst (W3 k.toNat xs).flatten)) else none
 | _,_=>none
theorem zes {K:W0}:Op2 (zfx K) z9N:=by
 intro c σ δ H x y d e s Q k rx ry hp q
 cases d <;> cases e <;> first | (simp [z9N] at hp; done) | skip
 rename_i ds n
 simp only [z9N] at hp
 split at hp
 ·rename_i h
  cases hp
  obtain ⟨a,vs,ex,ha,r⟩:=rx.lst
  refine ⟨a,n,vs,ex,ry.int,.inl ha,?_,h.1,h.2.1,by rw [r.1]; exact h.2.2.2,fun p hp'=>?_⟩
  ·intro z
   rw [z] at r
   have:=r.1
   simp at this
   omega
  ·exact q _ _ (.alloc k hp' _) (RepS.newL k (Reps.rep r _) hp')
 ·cases hp
end DV
namespace PySem
open Sem (wp)
structure ZA (z TI TO i1 i2:Addr) (f1 f2:List Addr):Prop where
 m1:i1 ∈ f1
 m2:i2 ∈ f2
 z1:z ∉ f1
 z2:z ∉ f2
 t1:TO ∉ f1
 t2:TO ∉ f2
 k1:i1 ∉ f2
 k2:i2 ∉ f1
 tz:TO≠z
 iz:TI≠z
 io:TI≠TO
 n1:TI≠i1
 n2:TI≠i2
section
variable {prog:Wk} {w:Wr} {A:Wp} {E:Value→W2→Prop} {s:W2}
end
end PySem
namespace L2
open PySem PySem.Spec PyProof.Rows
section
variable {X:Cx} {pins:List (Addr×Obj)} {σ:St} {H:Hp} {s:W2} {h':Heap}
end
end L2
namespace DV
open PySem PySem.Spec PyProof.Rows L2
section
variable {X:Cx} {c:Fc} {tg e:Expr} {fe:DE} {pos pp:Pos}
end
section
variable {X:Cx} {c:Fc} {e:Expr} {es:List Expr} {as:List Ak} {k n:Nat} {x:Str} {G:DX} {pp pos:Pos}
end
end DV
namespace PySem
open Sem (wp)
section
variable {prog:Wk} {w:Wr} {A:Wp} {E:Value→W2→Prop} {hp:Heap} {g:Array GenState} {d:Drawn} {t:Nat} {os:OsState}
variable {nm qn:Str} {C N:Addr} {bs bm bmB:List Value} {hdct:Bool} {sn:List Str} {sub:List Value} {ab:Bool} {col:Option Bool} {dd:Option Addr} {k0 k1 k2 k3 k5:Option Value} {B newId initId:String}
theorem z9G (F:ExcBaseFacts B newId initId bmB) (T:OwnTail hp bmB bm)
  (hC:hp.get? C=some (excClassObj nm qn C N bs bm hdct sn sub ab col dd k0 k1 k2 k3 k5 newId)) (hN:hp.Ns N mN) (hi:mN "__init__" = some (.ref f)) (hf:hp.get? f=some o) (hfc:o.cls = .type "function")
  (q:∀ h' e,Heap.MadeExcOf hp h' e (.ref C) vs→Wa (model prog w) A (call (.ref f) (.ref e :: vs)) (fun r s'=>r = .none∧Q (.done (.ret (.ref e))) s') E ⟨h',g,d,t,os⟩) (hl:vs.length≤W8) :
  Wa (model prog w) A (Builtin.«type.__call__» ⟨.ref C :: vs,[]⟩) Q E ⟨hp,g,d,t,os⟩:=by
 repeat (first | with_reducible refine Q6 hC ?_ | with_reducible refine wpAny_madeBy_exc hC ?_ | wp_step)
 refine codeAny_call_builtin_code (Code.quiet_builtin _ F.quiet) (wpAny_check_new_subT F T hC (codeAny_exc_new_subT F T hC ?_ hl))
 show Wa _ _ _ _ _ _
 have up:∀ {o1 o2:Obj} {b:Addr} {u:Obj},hp.get? b=some u→((hp.push o1).push o2).get? b=some u:=fun e=>W6 _ (W6 _ e)
 have hC1:=up (o1:={ cls:=.type "tuple",data:=.seq vs.toArray }) (o2:={ cls:=.ref C,data:=.fields #[.ref hp.objs.size,.none,.none,.none,.bool false,.none] }) hC
 have hf1:=up (o1:={ cls:=.type "tuple",data:=.seq vs.toArray }) (o2:={ cls:=.ref C,data:=.fields #[.ref hp.objs.size,.none,.none,.none,.bool false,.none] }) hf
 have hN1:((hp.push { cls:=.type "tuple",data:=.seq vs.toArray }).push { cls:=.ref C,data:=.fields #[.ref hp.objs.size,.none,.none,.none,.bool false,.none] }).Ns N mN:=let ⟨o,es,ep,e,r⟩:=hN; ⟨o,es,ep,up e,r⟩
 have he:((hp.push { cls:=.type "tuple",data:=.seq vs.toArray }).push { cls:=.ref C,data:=.fields #[.ref hp.objs.size,.none,.none,.none,.bool false,.none] }).get? (hp.objs.size + 1)=some { cls:=.ref C,data:=.fields #[.ref hp.objs.size,.none,.none,.none,.bool false,.none] }:=by heap_get
 have hc:(Value.ref C :: bm).contains (.ref C)=true:=by simp
 have T1:=T.keeps (h':=(hp.push { cls:=.type "tuple",data:=.seq vs.toArray }).push { cls:=.ref C,data:=.fields #[.ref hp.objs.size,.none,.none,.none,.bool false,.none] }) fun b o e=>up e
 unfold isInstance
 repeat (first | with_reducible refine Q6 he ?_ | (with_reducible refine wpAny_isSubtype_exc hC1 ?_; rw [hc]) | wp_step)
 show Wa _ _ (typeLookup (.ref C) _) _ _ _
 refine wpAny_typeLookup_tail hC1 hN1 T1 F.mroIs F.init.lookup ?_
 rw [hi]
 refine WX (W1 ?_)
 unfold bindSpecial
 refine W1 (J5 (T:="function") ⟨_,hf1,hfc⟩ ?_)
 rw [if_pos (by decide)]
 refine Wd (W1 (WO (q _ (hp.objs.size + 1) ⟨fun b o hb=>up hb,Ja (Nat.le_succ _),hp.objs.size,he,Ja (W7 _),W6 _ (Heap.get?_push_at rfl rfl)⟩) (fun r s' hr=>?_) fun _ _ x=>x))
 obtain ⟨rfl,hQ⟩:=hr
 wp_walk
 exact hQ
theorem zbC (F:ExcBaseFacts B newId initId bmB) (T:OwnTail hp bmB bm)
  (hC:hp.get? C=some (excClassObj nm qn C N bs bm hdct sn sub ab col dd k0 k1 k2 k3 k5 newId)) (hN:hp.Ns N mN) (hi:mN "__init__" = some (.ref f)) (hf:hp.get? f=some o) (hfc:o.cls = .type "function")
  (q:∀ h' e,Heap.MadeExcOf hp h' e (.ref C) vs→Wa (model prog w) (A.under (.builtin "type.__call__" ⟨.ref C :: vs,[]⟩)) (call (.ref f) (.ref e :: vs)) (fun r s'=>r = .none∧Q (.ref e) s') E ⟨h',g,d,t,os⟩) (hl:vs.length≤W8) :
  Wa (model prog w) A (call (.ref C) vs) Q E ⟨hp,g,d,t,os⟩:=by
 have f1:=tc_lookup
 have f2:=tc_bind (.ref C)
 have hT:(⟨hp,g,d,t,os⟩:W2).TypeIs (.ref C) "type":=⟨_,hC,rfl⟩
 refine wpAny_call (codeAny_of_tree ?_); show Wa _ _ (callAny (.ref C) _) _ _ _
 repeat (any_goals (first | assumption | with_reducible refine Q6 hC ?_ | wp_step))
 exact ⟨rfl,codeAny_call_builtin_at (Code.quiet_builtin _ (by decide +kernel)) entry_typeCall (wpAny_check_type_call_sub hC (z9G F T hC hN hi hf hfc (fun h' e hm=>q h' e hm) hl))⟩
theorem zc3 (hh:A.handled=none)
  (h:Wa M A x (fun v s1=>∃ (e C N:Addr) (dx:Option Addr) (vs:Array Value) (sl:Array (Option Value)) (nm qn:Str) (bs bm:List Value) (hdct:Bool) (sn:List Str) (sub:List Value) (ab:Bool) (col:Option Bool) (dd:Option Addr) (k0 k1 k2 k3 k5:Option Value) (newId:String),
   v = .ref e∧bm.contains (.type "BaseException")=true∧s1.heap.get? C=some (excClassObj nm qn C N bs bm hdct sn sub ab col dd k0 k1 k2 k3 k5 newId)∧s1.heap.get? e=some ⟨.ref C,dx,.fields vs,sl⟩∧vs[1]? = some .none∧E (.ref e) s1) E s) :
  Wa M A (raiseStmt env (some x) none) Q E s:=by
 unfold raiseStmt
 refine W1 (WO h (fun v s1 h1=>?_) fun _ _ x=>x)
 obtain ⟨e,C,N,dx,vs,sl,nm,qn,bs,bm,hdct,sn,sub,ab,col,dd,k0,k1,k2,k3,k5,newId,rfl,hb,hC,he,hv,hE⟩:=h1
 have hc:(Value.ref C :: bm).contains (.type "BaseException")=true:=by rw [Jp,hb,Bool.or_true]
 obtain ⟨hp,g,d,tk,os⟩:=s1
 repeat (first | with_reducible refine Q6 he ?_ | with_reducible refine Q6 hC ?_ | (with_reducible refine wpAny_isSubtype_exc hC ?_; rw [hc]) | wp_step)
 rw [hv]
 repeat (first | wp_step)
 exact wpAny_raiseNew_none hh hE
end
end PySem
namespace L2
open PySem PySem.Spec PyProof.Rows PySem.W PySem.Builtin PySem.Builtin.ObjectAttr
def zco:List Value→Bool
 | .ref _ :: r=>zco r
 | l=>l == vErr
theorem z4Z (self:Value):∀ {l:List Value},zco l=true→refuseLoop self "__setattr__" l=pure ()
 | [],e=>by cases e
 | .ref c :: r,e=>by rw [refuseLoop_ref]; exact z4Z self e
 | .none :: r,e=>by cases e
 | .type n :: r,e=>by
  have:(Value.type n :: r)=vErr:=beq_iff_eq.mp e
  rw [this]; exact PySem.F.store_ValueError.passes self
 | .bool b :: r,e=>by cases (beq_iff_eq.mp (show ((Value.bool b :: r) == vErr)=true from e))
 | v :: r,e=>by
  cases v <;> first
   | (rw [refuseLoop_ref]; exact z4Z self e)
   | (rw [show _=vErr from beq_iff_eq.mp e]; exact PySem.F.store_ValueError.passes self)
theorem z7S:∀ {l:List Value},zco l=true→l.contains (.type "object")=true
 | [],e=>by cases e
 | v :: r,e=>by
  cases v <;> first
   | (rw [Jp,z7S (l:=r) e,Bool.or_true])
   | (rw [show _=vErr from beq_iff_eq.mp e]; decide)
def z9e (K:W0) (C:Addr):Bool:=(clsIn K C).any fun cd=>zco cd.mro
section
variable {prog:Wk} {w:Wr} {A:Wp} {E:Value→W2→Prop} {s:W2} {K:W0} {x C:Addr} {name:Str} {v:Value} {R:Result→W2→Prop}
theorem zen (X:K.In s.heap) (I:InstAt s.heap x ox C od) (hp:z9e K C=true) (ht:takerIn K C name=some none)
  (q:∀ b,Wa (model prog w) A.in1 (storeInOwnDict (.ref x) (.ref C) (.str name tk) name v b) (fun fin s'=>match fin with | .done f=>R (.ok f) s' | .again c'=>c'.quiet=true∧QA (model prog w) A c' R s') (fun e s'=>R (.error e) s') s) :
  QA (model prog w) A (.call (.builtin "object.__setattr__") ⟨[.ref x,.str name tk,v],[]⟩) R s:=by
 have SF:=PySem.F.store_object
 obtain ⟨cd,hc,ho⟩:=any_some hp
 have ne:cd.mro.isEmpty=false:=by
  cases z:cd.mro with
  | nil=>rw [z] at ho; cases ho
  | cons _ _=>rfl
 have sub:Looks (model prog w) s.heap (isInstance (.ref x) (.type "object")) true:=I.type.andThen (looks_mroIn X (by unfold mroIn; rw [hc,WQ,if_neg (by rw [ne]; decide),z7S ho]))
 refine Qv SF.slot.plain SF.entry (@check_slot (model prog w) _ _ s "object.__setattr__" "object" "__setattr__" (.ref x) [.str name tk,v] [] _ SF.kind SF.split sub (SF.args (.ref x) (.str name tk) v) ?_)
 obtain ⟨attr,ha,hr⟩:=Option.bind_eq_some_iff.mp ht
 have hm:Looks (model prog w) s.heap (mroOf (.ref C)) cd.mro:=(looks_clsIn X hc).andThen .now
 have L3:Looks (model prog w) s.heap (storeTaker? attr) none:=by
  cases attr with
  | none=>exact .now
  | some a =>
   obtain ⟨b,hb,hn⟩:=Option.map_eq_some_iff.mp hr
   refine (looks_takesIn X hb).andThen ?_
   cases b
   ·exact .now
   ·cases hn
 rw [osa_eq,refuse_eq]
 refine W1 (W1 (I.type.here (W1 (hm.here ?_))))
 rw [z4Z _ ho]
 exact Wd (W1 (I.type.here (W1 ((Jq X ha).here (W1 (L3.here (q _)))))))
theorem zdR (X:K.In s.heap) (hx:s.heap.get? x=some ⟨.ref C,none,.fields vs,sl⟩)
  (hs:Jg K (.ref C) "__setattr__" = some (some (.builtin "object.__setattr__"))) (hp:z9e K C=true) (ht:takerIn K C name=some none) (hh:hasDictIn K C=true)
  (q:∀ h' tk,h'.get? x=some ⟨.ref C,some s.heap.objs.size,.fields vs,sl⟩→(∀ b o,b≠x→s.heap.get? b=some o→h'.get? b=some o)→h'.Ns1 s.heap.objs.size (fun z=>if z=name then some v else none)→Q () { s with heap:=h',toks:=tk }) :
  Wa (model prog w) A (setAttr (.ref x) name v) Q E s:=by
 have J:InstAt s.heap x ⟨.ref C,none,.fields vs,sl⟩ C none:=⟨hx,rfl,rfl,trivial⟩
 refine set_plain X J hs (zen (s:={ s with toks:=s.toks + 1 }) X J hp ht fun b=>?_)
 obtain ⟨cd,hc,hd'⟩:=any_some hh
 have hx1:(s.heap.push { cls:=.type "dict",data:=.dict #[] }).get? x=some ⟨.ref C,none,.fields vs,sl⟩:=W6 _ hx
 have hxs:x≠s.heap.objs.size:=Wy (Wg hx)
 refine W1 (Wd (W1 (W1 (wpAny_loadPart hx (W1 (PySem.W.Looks.here (s:={ s with toks:=s.toks + 1 }) (PySem.W.looks_clsIn X hc) ?_))))))
 rw [hd']
 show Wa _ _ (alloc { cls:=.type "dict",data:=.dict #[] } >>= fun d=>(update x fun o=>{ cls:=o.cls,dict:=some d,data:=o.data,slots:=o.slots }) >>= fun _=>dictMade (.ref C) x d) _ _ _
 refine W1 (wpAny_alloc' (W1 (wpAny_update' hx1 (Wd ?_))))
 have gd:((s.heap.push { cls:=.type "dict",data:=.dict #[] }).update x fun o=>{ cls:=o.cls,dict:=some s.heap.objs.size,data:=o.data,slots:=o.slots }).get? s.heap.objs.size=some { cls:=.type "dict",data:=.dict #[] }:=(Heap.get?_update_ne _ _ _ _ hxs.symm).trans (Heap.get?_push_at rfl rfl)
 have nd:((s.heap.push { cls:=.type "dict",data:=.dict #[] }).update x fun o=>{ cls:=o.cls,dict:=some s.heap.objs.size,data:=o.data,slots:=o.slots }).Ns s.heap.objs.size (fun _=>none):=⟨_,#[],_,gd,rfl,fun e he=>absurd he (by simp),fun _=>rfl⟩
 show Wa _ _ (storeInDict s.heap.objs.size (.str name _) name v) _ _ _
 unfold storeInDict newKeyGuard
 refine W1 (Wd (W1 (wpAny_nsSet1 (Heap.Ns1.of_empty nd) fun h' hn' sb=>?_)))
 obtain ⟨oD,esD,epD,hoD,hdD,hcD⟩:=hn'.count (Within.cons name v Within.nil)
 refine W1 (wpAny_lookBehind hoD (by rw [hdD]; exact pastItsLine_dict (Wn hcD (by rw [Ws,Q8,sizeLine_eq]; omega))) ?_)
 refine Wd (q h' _ ((sb.2 x hxs).trans (Qp _ hx1 rfl)) (fun b o hb e=>?_) hn')
 exact (sb.2 b (Wy (Wg e))).trans ((Heap.get?_update_ne _ _ _ _ hb).trans (W6 _ e))
theorem zeF {vs:Array Value} {sl:Array (Option Value)} {dx:Addr} {mA:Str→Option Value} {expr:Bool} {Q:Value→W2→Prop} (X:K.In s.heap) (hx:s.heap.get? x=some ⟨.ref C,some dx,.fields vs,sl⟩) (hd:s.heap.Ns1 dx mA)
  (k:ExcK K C) (hat:Jg K (.ref C) name=some none) (hh:hasDictIn K C=true)
  (hv:mA name=some v) (hin:handedIn v=true) (q:Q v { s with toks:=s.toks + 1 }):Wa (model prog w) A (getAttr (.ref x) name expr) Q E s:=by
 obtain ⟨od,ho,hl⟩:=z87 hd
 have J:InstAt s.heap x ⟨.ref C,some dx,.fields vs,sl⟩ C (some od):=⟨hx,rfl,rfl,ho⟩
 obtain ⟨h,g,d,t,os⟩:=s
 have L0:Looks (model prog w) h (typeOf (.ref x)) (.ref C):=J.type
 have L1:=Jq (M:=model prog w) X k.ga
 have L2:=Jq (M:=model prog w) X k.gt
 have L4:=looks_find (M:=model prog w) X J (findObj_own (v:=v) hh hat rfl (by rw [hl,hv]))
 have hx0:(expr && onTheHeap (Value.builtin "BaseException.__getattribute__"))=false:=by cases expr <;> rfl
 have hx2:(Value.builtin "BaseException.__getattribute__" == Value.builtin "object.__getattribute__")=false:=by decide +kernel
 have f3:=F.attrBase_ValueError.ga.bind (.ref x)
 unfold getAttr getAttrBy
 refine W1 (wpAny_mkText (WX (W1 (L0.at (W1 (L1.at ?_))))))
 dsimp only
 rw [hx2,Bool.and_false]
 simp only [Qr,if_false]
 unfold getAttrByItsOwn hookBefore
 repeat (any_goals (first | assumption | with_reducible refine Looks.at L2 ?_ | wp_step))
 refine Qv F.attrBase_ValueError.ga.plain F.entry_bexc_ga (z8h X k hx rfl ?_)
 repeat (any_goals (first | assumption | with_reducible refine Looks.at L0 ?_ | with_reducible refine Looks.at L4 ?_ | wp_step))
 show Wa _ _ (handedOut v) _ _ _
 rw [handedOut_of hin]; exact Wd q
end
def excN (C a:Addr):Heap→Prop:=fun h=>∃ vs sl a0,h.get? a=some ⟨.ref C,none,.fields vs,sl⟩∧vs[0]? = some a0∧vs[1]? = some .none
def excD (C:Addr) (dx:Option Addr) (a:Addr):Heap→Prop:=fun h=>∃ vs sl a0,h.get? a=some ⟨.ref C,dx,.fields vs,sl⟩∧vs[0]? = some a0∧vs[1]? = some .none
section
variable {P:Wk} {w:Wr} {H:Hp} {h:Heap} {C a:Addr}
theorem zeI (q:excN C a h):ObjOk P w H h a (.ext (excN C a)):=by
 refine ⟨q,?_,?_⟩
 ·obtain ⟨vs,sl,a0,e,_⟩:=q
  exact ⟨_,e⟩
 ·rintro h1 h2 ⟨vs,sl,a0,e,r⟩ k
  exact ⟨vs,sl,a0,k _ e,r⟩
theorem zeJ {dx:Option Addr} (q:excD C dx a h):ObjOk P w H h a (.ext (excD C dx a)):=by
 refine ⟨q,?_,?_⟩
 ·obtain ⟨vs,sl,a0,e,_⟩:=q
  exact ⟨_,e⟩
 ·rintro h1 h2 ⟨vs,sl,a0,e,r⟩ k
  exact ⟨vs,sl,a0,k _ e,r⟩
theorem xd_ok {fs:List (Str×V)} (q:DV.xdAt fs a h):ObjOk P w H h a (.ext (DV.xdAt fs a)):=by
 refine ⟨q,?_,?_⟩
 ·obtain ⟨mA,⟨o,_,_,e,_⟩,_⟩:=q
  exact ⟨_,e⟩
 ·rintro h1 h2 ⟨mA,⟨o,es,ep,e,c⟩,r⟩ k
  exact ⟨mA,⟨o,es,ep,k _ e,c⟩,r⟩
end
structure ExcS (K:W0) (C:Addr) (f:Str):Prop where
 set:Jg K (.ref C) "__setattr__" = some (some (.builtin "object.__setattr__"))
 over:z9e K C=true
 hd:hasDictIn K C=true
 tk:takerIn K C f=some none
section
variable {X:Cx} {o value:Expr} {f:Str} {ta tv:TE} {pos pos':Pos}
def zfd (K:W0) (ta tv:TE) (f:Str):TS:=fun D σ H=>tv σ H fun y H1=>ta σ H1 fun x H2=>∃ a C,x = .ref a∧H2 a=some (.ext (excN C a))∧ExcS K C f∧∀ dx,H2 dx=none→dx≠a→D.nx σ (upd (upd H2 a (.ext (excD C (some dx) a))) dx (.ext (DV.xdAt [(f,y)] dx)))
theorem zgh {f g:Str} {y:V} {u:Value} (r:RelV y u):RelO (List.lookup g [(f,y)]) (if g=f then some u else none):=by
 by_cases z:g=f
 ·subst z; simp [RelO,r]
 ·rw [WJ,beq_eq_false_iff_ne.mpr z,if_neg z]; trivial
theorem zeb (hex:X.ex=[]) (ha:PE X o ta) (hv:PE X value tv) (hs:QX value (some (.Attribute o f pos')) pos.line X.env=pure false):PS X (.Assign [.Attribute o f pos'] value pos) (zfd X.K ta tv f):=by
 intro pins s σ H D I h
 refine plainObj_wpAny_Assign_Attribute (thn (hv pins s σ H _ I h) fun u s1 ⟨y,H1,I1,ry,q⟩=>thn (ha pins s1 σ H1 _ I1 q) fun ov s2 ⟨x,H2,I2,rx,a,C,ex,ea,c,q2⟩=>?_) hs
 subst ex
 obtain rfl:ov=Value.ref a:=rx
 obtain ⟨⟨vs,sl,a0,e0,e1,e2⟩,_,_⟩:=(show ObjOk X.prog X.w H2 s2.heap a (.ext (excN C a)) from I2.hok a _ ea)
 have n0:=I2.hok.fresh (W7 s2.heap.objs.size)
 have ne:s2.heap.objs.size≠a:=Jk (Wg e0)
 refine zdR I2.kIn e0 c.set c.over c.tk c.hd fun h' tk g1 g2 g3=>⟨σ,_,?_,q2 _ n0 ne⟩
 have Iw:=I2.write (x:=a) (e:=a) (t':=tk) (by rw [ea]; exact True.intro) (.inl rfl) (fun b u nb z=>g2 b u nb z) ⟨_,g1⟩ (zeJ (P:=X.prog) (w:=X.w) (H:=upd H2 a (.ext (excD C (some s2.heap.objs.size) a))) ⟨vs,sl,a0,g1,e1,e2⟩)
 exact Iw.track (I2.apart hex (Ja (W7 _)) (by rw [z0q ne]; exact n0)) (xd_ok ⟨_,g3,fun g=>zgh ry⟩)
end
def excI (K:W0) (C f:Addr):Bool:=match K.lookup C with
 | some ⟨.type "type",_,.cls c,ss⟩=>(match c.mro,ss.toList with
  | .ref C' :: bm,[_,_,_,_,some (.builtin n),_]=>C' == C && n == "ValueError.__new__" && !c.hasDel && tailIn K vErr bm && nsOkIn K c.ns && nsIn K c.ns "__init__" == some (some (.ref f))
  | _,_=>false)
 | _=>false
theorem zeu {K:W0} {h:Heap} {N:Addr} {m:Str→Option Value} {n:Str} {v:Value} (X:K.In h) (G:h.Ns N m) (e:nsIn K N n=some (some v)):m n=some v:=by
 obtain ⟨o,es,ep,ho,hd,_,hf⟩:=G
 unfold nsIn at e
 split at e
 next c d es' n' sl q =>
  have z:=X _ _ q
  rw [ho] at z
  cases z
  simp only at hd
  injection hd with h1 h2
  subst h1
  split at e
  next x hx =>
   cases e
   rw [← hf n]
   unfold nsFind findBy
   rw [← Array.find?_toList,hx]
   rfl
  next=>split at e <;> cases e
 next=>cases e
theorem z9s {K:W0} {C f:Addr} {h:Heap} (q:excI K C f=true) (X:K.In h):∃ (bm:List Value) (N:Addr) (nm qn:Str) (bs:List Value) (hdct:Bool) (sn:List Str) (sub:List Value) (ab:Bool) (col:Option Bool) (dd:Option Addr) (k0 k1 k2 k3 k5:Option Value) (mN:Str→Option Value),
  h.get? C=some (excClassObj nm qn C N bs bm hdct sn sub ab col dd k0 k1 k2 k3 k5 "ValueError.__new__")∧h.Ns N mN∧mN "__init__" = some (.ref f)∧OwnTail h vErr bm:=by
 unfold excI at q
 split at q
 next dd cd sl lk =>
  split at q
  next C' bm k0 k1 k2 k3 n k5 e1 e2 =>
   simp only [We,beq_iff_eq,Qx] at q
   obtain ⟨⟨⟨⟨⟨c1,c2⟩,c3⟩,c4⟩,c5⟩,c6⟩:=q
   subst c1; subst c2
   have e3:sl = #[k0,k1,k2,k3,some (.builtin "ValueError.__new__"),k5]:=by
    cases sl; simp only at e2; rw [e2]
   subst e3
   cases cd
   simp only at e1 c3 c4 c5 c6 lk
   subst e1; subst c3
   have hN:=Heap.Ns.of_isNs (isNs_of_in X c5)
   exact ⟨bm,_,_,_,_,_,_,_,_,_,dd,k0,k1,k2,k3,k5,_,X _ _ lk,hN,zeu X hN c6,tail_of_in X c4⟩
  next=>cases q
 next=>cases q
section
variable {X:Cx} {k:Nat} {f C:Addr} {fd:WD} {ps:List Str} {sp:Sp} {x:Str} {p pos:Pos} {e:Expr} {es:List Expr} {t:TA}
theorem fn_at {K:W0} {h:Heap} (X:K.In h) (q:isFn K (.ref f)=true):∃ o,h.get? f=some o∧o.cls = .type "function":=by
 have z:(K.lookup f).map (·.cls)=some (.type "function"):=beq_iff_eq.mp q
 obtain ⟨o,lk,e⟩:=Option.map_eq_some_iff.mp z
 exact ⟨o,X _ _ lk,e⟩
theorem zao {pins:List (Addr×Obj)} {σ:St} {H:Hp} {s:W2} {Q:VK} {us:List Value} {vs:List V} (q:excI X.K C f=true) (hfn:isFn X.K (.ref f)=true) (F:FnOk X.prog X.w X.K X.mg X.base CX0 k f fd ps sp) (hr:Room (k + 1) X.A) (hb:Binds X.K fd ps []) (hex:X.ex=[])
  (I:Inv X pins σ H s) (r:Vals vs us) (hl:us.length≤W8)
  (h:∀ a,H a=none→X.s₀.heap.get? a=none→sp (.ref a :: vs) (upd H a (.ext (excN C a))) (fun v H2=>v = .non∧Q (.ref a) H2) E0) :
  Wa (model X.prog X.w) X.A (call (.ref C) us) (EP X pins σ Q) X.xe s:=by
 obtain ⟨bm,N,nm,qn,bs,hdct,sn,sub,ab,col,dd,k0,k1,k2,k3,k5,mN,hC,hN,hi,hT⟩:=z9s q I.kIn
 obtain ⟨o,hf,hfc⟩:=fn_at I.kIn hfn
 obtain ⟨hp,g,d,tk,os⟩:=s
 refine zbC PySem.F.excBase_ValueError hT hC hN hi hf hfc (fun h' a hm=>?_) hl
 obtain ⟨t0,ht,_,_⟩:=hm.there
 have I1:Inv X pins σ H ⟨h',g,d,tk,os⟩:=I.kept (t':=tk) hm.keeps
 have g1:=I.gone hex hm.new
 have ap:=I.apart hex hm.new g1.1
 have I2:Inv X pins σ (upd H a (.ext (excN C a))) ⟨h',g,d,tk,os⟩:=I1.track ap (zeI ⟨_,_,_,ht,rfl,rfl⟩)
 have hq:=h a g1.1 g1.2
 have r2:Vals (V.ref a :: vs) (Value.ref a :: us):=.cons rfl r
 have hln:(Value.ref a :: us ++ []).length=ps.length:=by
  rw [WU,← r2.length]; exact F.len _ _ _ _ hq
 refine wpAny_call (QN (F.run _ X.stack _ _ ⟨Value.ref a :: us,[]⟩ (Value.ref a :: us) _ _ E0 (hr.make C us []) (I2.env0.make C us []) (by have:=hb _ (Value.ref a :: us) I2.kIn hln; rwa [WU] at this) r2 hq) fun rr s' hq'=>?_)
 cases rr with
 | error z=>exact hq'.elim
 | ok fl =>
  cases fl with
  | ret u =>
   obtain ⟨v,H',I3,rv,ev,q3⟩:=I2.after hq'
   subst ev
   exact ⟨rv,⟨V.ref a,H',I3,rfl,q3⟩⟩
  | next=>exact False.elim hq'
  | brk=>exact False.elim hq'
  | cont=>exact False.elim hq'
theorem zcf (q:excI X.K C f=true) (hfn:isFn X.K (.ref f)=true) (hk:keepIn X.K (.ref C)=true) (F:FnOk X.prog X.w X.K X.mg X.base CX0 k f fd ps sp) (hr:Room (k + 1) X.A) (hb:Binds X.K fd ps []) (hex:X.ex=[]) (hg:Gl X x) (hm:X.mg x=some (.ref C))
  (ha:PA X (e :: es) t) (hl:(e :: es).length≤100) (hdb:(x == ("__debug__" : Str))=false:=by decide) (he:W4 (e :: es) X.env=(false,eval e X.env) :: W4 es X.env:=by rfl) (hpl:(WF pos (W4 es X.env)).any (·.1)=false:=by rfl) :
  PE X (.Call (.Name x p) (e :: es) [] pos) (fun σ H Q=>t σ H fun vs H1=>vs.length≤100∧∀ a,H1 a=none→X.s₀.heap.get? a=none→sp (.ref a :: vs) (upd H1 a (.ext (excN C a))) (fun v H2=>v = .non∧Q (.ref a) H2) E0):=by
 intro pins s σ H Q I h
 refine QC (z4b I hg hm ?_ hdb)
 refine callWith_K (h₀:=X.base) I.ok.mod.kin hk (thn (ha pos pins s σ H _ I h) fun us s1 ⟨vs,H1,I1,r,q1⟩=>⟨I1.kIn,?_⟩) he hpl
 exact zao q hfn F hr hb hex I1 r (by rw [WM,← r.length,sizeLine_eq]; have:=q1.1; omega) q1.2
end
def spX1 (K:W0) (fl:List Str):Sp:=fun vs H Q _=>∃ a C ys,vs = .ref a :: ys∧ys.length=fl.length∧H a=some (.ext (excN C a))∧(∀ f ∈ fl,ExcS K C f)∧∀ dx,H dx=none→dx≠a→Q .non (upd (upd H a (.ext (excD C (some dx) a))) dx (.ext (DV.xdAt (fl.zip ys) dx)))
section
variable {P:Wk} {w:Wr} {K:W0} {mg:Str→Option Value} {base:Heap} {x qual f1 f2:Str} {st:Stmt} {f:Addr} {fd:WD} {N ps:List Str} {k:Nat}
theorem zcK (F:Fun K x qual st f fd) (S:FnScope N ps (z05 st)) (hps:ps.length=2) (h0:∀ vs:List V,vs.length=2→start N vs=vs.map some)
  (hbody:∀ (cdv:Value) (A:Wp) (outer:List Env) (s:W2) (H:Hp) (E:XK),Room k (A.deeper (QO qual (z05 st) s.heap.objs.size f cdv))→PSs (cxOf CX0 P w K mg base N qual (z05 st) f cdv A outer s H E).nox (z1n st) (zfd K (tVar 0) (tVar 1) f1)) :
  FnOk P w K mg base CX0 (k + 1) f fd ps (spX1 K [f1]):=by
 refine F.ok S (fun vs H Q E ⟨a,C,ys,e,l,_⟩=>by rw [e,hps,Ws,l]; rfl) fun cdv A outer s H vs Q E hr ⟨a,C,ys,e,l,ea,c,q⟩=>⟨_,hbody cdv A outer s H E hr,?_⟩
 subst e
 obtain ⟨y,rfl⟩:=List.length_eq_one_iff.mp l
 rw [h0 _ rfl]
 exact ⟨y,rfl,.ref a,rfl,a,C,rfl,ea,c _ (by simp),q⟩
end
theorem ObjOk.less:∀ {b:Addr} {o:HO},ObjOk P w (upd H a (.ext φ)) h b o→ObjOk P w H h b o:=by
 have dn:∀ {c:Addr} {u:HO},upd H a (.ext φ) c=some u→(∀ ψ,u≠.ext ψ)→H c=some u:=fun {c u} e n=>by
  by_cases hc:c=a
  ·subst hc; rw [z0y] at e; cases e; exact absurd rfl (n φ)
  ·rw [z0q hc] at e; exact e
 intro b o
 induction o generalizing b with
 | dT kvs =>
  rintro ⟨h1,h2,xs,h3,h4⟩
  refine ⟨h1,h2,xs,L2.Paired.mapP h3 (fun p q ⟨e1,e2,e3⟩=>⟨e1,dn e2 (fun ψ z=>by cases z),e3⟩),h4⟩
 | ins C dx fs =>
  rintro ⟨h1,h2⟩
  exact ⟨dn h1 (fun ψ z=>by cases z),h2⟩
 | frz ob u ih=>exact fun ⟨h1,h2⟩=>⟨h1,ih h2⟩
 | _=>exact fun x=>x
theorem Inv.untrack (I:Inv X pins σ (upd H a (.ext φ)) s) (hn:H a=none):Inv X pins σ H s:=by
 have dn:∀ {c:Addr} {u:HO},upd H a (.ext φ) c=some u→(∀ ψ,u≠.ext ψ)→H c=some u:=fun {c u} e n=>by
  by_cases hc:c=a
  ·subst hc; rw [z0y] at e; cases e; exact absurd rfl (n φ)
  ·rw [z0q hc] at e; exact e
 have no:∀ {c:Addr},upd H a (.ext φ) c=none→H c=none:=fun {c} e=>by
  by_cases hc:c=a
  ·subst hc; exact hn
  ·rw [z0q hc] at e; exact e
 refine ⟨I.ok,I.os,I.bare,⟨I.base.keep,I.base.slot,fun b o e n hx=>no (I.base.free b o e n hx),I.base.there,fun b xs e=>dn (I.base.tups b xs e) (fun ψ z=>by cases z),fun b o u e=>dn (I.base.frzs b o u e) (fun ψ z=>by cases z),fun b ps e=>?_⟩,I.loc,I.cell,no I.free,fun x c e=>no (I.freeC x c e),fun p hp=>?_,fun b o e=>?_,I.len⟩
 ·obtain ⟨m,q⟩:=I.base.tbls b ps e
  exact ⟨m,dn q (fun ψ z=>by cases z)⟩
 ·obtain ⟨e,n,r⟩:=I.pin p hp
  exact ⟨e,no n,r⟩
 ·have hb:b≠a:=fun z=>by rw [z,hn] at e; cases e
  exact (I.hok b o (by rw [z0q hb]; exact e)).less
section
variable {X:Cx} {C f:Addr} {call:Expr} {te:TE} {pos:Pos}
theorem zaC {W:Option Addr→St→Hp→Prop} (q:excI X.K C f=true) (hc:X.calm=true) (he:PE X call te)
  (hxe:∀ pins σ H s a dx,Inv X pins σ (upd H a (.ext (excD C dx a))) s→H a=none→X.s₀.heap.get? a=none→W dx σ H→X.xe (.ref a) s) :
  PS X (.Raise (some call) none pos) (fun _ σ H=>te σ H fun v H2=>∃ a H1 dx,v = .ref a∧H2=upd H1 a (.ext (excD C dx a))∧H1 a=none∧X.s₀.heap.get? a=none∧W dx σ H1):=by
 intro pins s σ H D I h
 rw [arm_exec_Raise]
 refine W1 (Jf (zc3 (I.ok.hd hc) (W1 (thn (he pins s σ H _ I h) fun v s1 ⟨x,H2,I2,rx,a,H1,dx,ex,eH,n1,n2,w⟩=>W1 (Jf (Wd ?_))))))
 subst ex eH
 obtain rfl:v=Value.ref a:=rx
 obtain ⟨bm,N,nm,qn,bs,hdct,sn,sub,ab,col,dd,k0,k1,k2,k3,k5,mN,hC,hN,hi,hT⟩:=z9s q I2.kIn
 obtain ⟨⟨vs,sl,a0,e0,e1,e2⟩,_,_⟩:=(show ObjOk X.prog X.w (upd H1 a (.ext (excD C dx a))) s1.heap a (.ext (excD C dx a)) from I2.hok a _ z0y)
 exact ⟨a,C,N,dx,vs,sl,nm,qn,bs,bm,hdct,sn,sub,ab,col,dd,k0,k1,k2,k3,k5,_,rfl,hT.hasType rfl,hC,e0,e2,hxe pins σ H1 s1 a dx I2 n1 n2 w⟩
end
end L2
namespace DV
open PySem PySem.Spec PyProof.Rows L2 PySem.W
def z0P (y:Tx) (fl:List Tx) (fs:DA):DS:=fun δ=>(fs δ).bind fun ds δ1=>if ds.length=fl.length then .exc ⟨y,.xd (fl.zip ds)⟩ δ1 else .stuck
theorem zfi {c:Fc} {σ:St} {δ:Dl} {H:Hp} {dx:Addr} {vs:List V} {fl:List Tx} {ds:List D} (k:Ok c σ δ H) (n:H dx=none) (r:Reps H (Av c σ δ) vs ds) (hl:ds.length=fl.length) :
  Ok c σ δ (upd H dx (.ext (xdAt ((fl.map toS).zip vs) dx)))∧Rep (upd H dx (.ext (xdAt ((fl.map toS).zip vs) dx))) (Av c σ δ) (.ref dx) (.xd (fl.zip ds)):=by
 have r1:=Reps.aft r (Aft.alloc k n (.ext (xdAt ((fl.map toS).zip vs) dx)))
 refine ⟨k.alloc n _,.xd (k.nav n) z0y ?_ fun i p q e1 e2=>?_⟩
 ·rw [List.map_fst_zip (by rw [Wu,r.1,hl]; omega)]
  have z:(fl.zip ds).map (fun p=>toS p.1)=((fl.zip ds).map Prod.fst).map toS:=by rw [JA]; rfl
  rw [z,List.map_fst_zip (by omega)]
 ·rw [List.getElem?_zip_eq_some] at e1 e2
  exact r1.2 i _ _ e1.2 e2.2
theorem zad {X:Cx} {c:Fc} {x:Str} {fl:List Str} {C f:Addr} {fd:WD} {ps:List Str} {k:Nat} {e:Expr} {es:List Expr} {fe:DA} {np cpos pos:Pos} (y:Tx) (gl:List Tx) (q:excI X.K C f=true) (hfn:isFn X.K (.ref f)=true) (hk:keepIn X.K (.ref C)=true) (hS:∀ z ∈ fl,ExcS X.K C z)
  (F:FnOk X.prog X.w X.K X.mg X.base CX0 k f fd ps (spX1 X.K fl)) (hr:Room (k + 1) X.A) (hb:Binds X.K fd ps []) (hc:X.calm=true) (hg:Gl X x) (hm:X.mg x=some (.ref C)) (he:SA X c (e :: es) fe) (hx:XOk X (wD X.mg c)) (hl:(e :: es).length≤100) (hgl:fl=gl.map toS:=by decide +kernel) (hln:fl.length≤100:=by decide) (hy:x=toS y:=by decide +kernel) (hd:(x == ("__debug__" : Str))=false:=by decide) (hex:X.ex=[]:=by rfl)
  (hs:W4 (e :: es) X.env=(false,eval e X.env) :: W4 es X.env:=by rfl) (hpl:(WF cpos (W4 es X.env)).any (·.1)=false:=by rfl):SS X c (.Raise (some (.Call (.Name x np) (e :: es) [] cpos)) none pos) (z0P y gl fe) :=
 PS.weak (zaC (W:=fun dx σ H=>wD X.mg c C dx σ H) q hc (zcf (p:=np) (pos:=cpos) q hfn hk F hr hb hex hg hm he.pa hl hd hs hpl) fun pins σ H s a dx I n1 n2 w=>by
  obtain ⟨⟨vs,sl,a0,e0,e1,e2⟩,_,_⟩:=(show ObjOk X.prog X.w (upd H a (.ext (excD C dx a))) s.heap a (.ext (excD C dx a)) from I.hok a _ z0y)
  have ne:∀ {b:Addr},upd H a (.ext (excD C dx a)) b=none→a≠b:=fun {b} z e=>by rw [← e,z0y] at z; cases z
  exact hx pins σ H s a C dx (I.untrack n1) (.inr ⟨⟨vs,sl,a0,e0,e1,e2⟩,n2,n1,ne I.free,fun x c hc z=>ne (I.freeC x c hc) z.symm,fun p hp z=>ne (I.pin p hp).2.1 z.symm⟩) w) fun D σ H ⟨δ,k,q⟩=>by
  unfold z0P z2g at q
  rw [z03] at q
  refine ⟨δ,k,z00 q fun ds δ1 q1 vs H1 a1 r1=>?_⟩
  split at q1
  ·rename_i hlen
   have hvl:vs.length=fl.length:=by rw [r1.1,hlen,hgl,Wu]
   refine ⟨by omega,fun a n1 n2=>⟨a,C,vs,rfl,hvl,z0y,hS,fun dx d1 d2=>⟨rfl,a,upd H1 dx (.ext (xdAt (fl.zip vs) dx)),some dx,rfl,?_,?_,n2,?_⟩⟩⟩
   ·funext b
    unfold upd
    by_cases hb:b=a
    ·subst hb; simp [Ne.symm d2]
    ·simp [hb]
   ·rw [z0q (Ne.symm d2)]; exact n1
   ·have d1':H1 dx=none:=by rwa [z0q d2] at d1
    obtain ⟨k1,rx⟩:=zfi (fl:=gl) a1.ok d1' r1 hlen
    rw [hgl]
    exact ⟨⟨y,.xd (gl.zip ds)⟩,δ1,.ref dx,by rw [← hy]; exact hm,k1,rx,fun z e=>by cases e; rfl,q1⟩
  ·exact q1.elim
def IniK (P:Wk) (w:Wr) (K:W0) (mg:Str→Option Value) (base:Heap) (C:Addr) (fl:List Str):Prop :=
 ∃ (f:Addr) (fd:WD) (ps:List Str),excI K C f=true∧isFn K (.ref f)=true∧keepIn K (.ref C)=true∧(∀ z ∈ fl,ExcS K C z)∧Binds K fd ps []∧FnOk P w K mg base CX0 1 f fd ps (spX1 K fl)
theorem z1Y {X:Cx} {c:Fc} {x:Str} {fl:List Str} {C:Addr} {e:Expr} {es:List Expr} {fe:DA} {np cpos pos:Pos} (y:Tx) (gl:List Tx) (N:IniK X.prog X.w X.K X.mg X.base C fl) (hr:Room 2 X.A) (hc:X.calm=true) (hg:Gl X x) (hm:X.mg x=some (.ref C)) (he:SA X c (e :: es) fe) (hx:XOk X (wD X.mg c)) (hl:(e :: es).length≤100:=by decide) (hgl:fl=gl.map toS:=by decide +kernel) (hln:fl.length≤100:=by decide)
  (hy:x=toS y:=by decide +kernel) (hd:(x == ("__debug__" : Str))=false:=by decide) (hex:X.ex=[]:=by rfl) (hs:W4 (e :: es) X.env=(false,eval e X.env) :: W4 es X.env:=by rfl) (hpl:(WF cpos (W4 es X.env)).any (·.1)=false:=by rfl):SS X c (.Raise (some (.Call (.Name x np) (e :: es) [] cpos)) none pos) (z0P y gl fe):=by
 obtain ⟨f,fd,ps,h1,h2,h3,h4,h5,h6⟩:=N
 exact zad y gl h1 h2 h3 h4 h6 hr h5 hc hg hm he hx hl hgl hln hy hd hex hs hpl
def zeP:Stmt→List Stmt
 | .ClassDef _ _ _ b _ _ _ _ _ _ _=>b
 | _=>[]
section
variable {X:Cx} {c:Fc} {e:Expr} {fb:BE}
def z6F:D→Option S
 | .str [n]=>if 97≤n∧n≤122 then some (.pure (.str [n - 32])) else none
 | _=>none
theorem zbN:∀ k:Nat,k < 26→Txt.upper (toS [97 + k])=toS [97 + k - 32]:=by decide +kernel
theorem zcy:MtR X "str.upper" (fun x vs H Q=>∃ n:Nat,x = .str (toS [n])∧vs=[]∧(97≤n∧n≤122)∧Q (.str (toS [n - 32])) H):=by
 intro pins s σ H x vs v us Q I rx rv h
 obtain ⟨n,rfl,rfl,hn,q⟩:=h
 obtain ⟨t,rfl⟩:=rx
 cases rv
 have e:Txt.upper (toS [n])=toS [n - 32]:=by
  have:=zbN (n - 97) (by omega)
  rwa [show 97 + (n - 97)=n by omega] at this
 exact SC.upper (by rw [e]; rfl) (by rw [e]; exact ⟨.str _,H,I.tok _,⟨_,rfl⟩,q⟩)
theorem zbW {apos cpos:Pos} (he:SB X c e fb) (hbase:WS e "upper" X.env (eval e X.env)=eval e X.env:=by rfl) (hline:(apos.endLine == cpos.line)=true:=by rfl) :
  SE X c (.Call (.Attribute e "upper" apos) [] [] cpos) (eC1 z6F fb):=by
 refine PE.weak (zfV PySem.F.plainAttrs_str PySem.F.slot_str_upper PySem.F.type_str_upper zcy he hbase hline) fun σ H Q h=>?_
 obtain ⟨δ,k,q⟩:=h
 refine ⟨δ,k,?_⟩
 unfold eC1 at q
 rw [z03] at q
 refine z00 q fun d δ1 q1 v H1 a1 r1=>?_
 unfold p1 at q1
 cases d with
 | str z =>
  match z with
  | []=>exact q1.elim
  | [n] =>
   have hv:v = .str (toS [n]):=by
    rcases r1 with r1 | ⟨a,_,o⟩
    ·cases r1; rfl
    ·exact o.elim
   by_cases hn:97≤n∧n≤122
   ·have e1:z6F (.str [n])=some (.pure (.str [n - 32])):=if_pos hn
    rw [e1] at q1
    subst hv
    exact ⟨rfl,n,rfl,rfl,hn,q1 _ H1 a1 (.str _)⟩
   ·have e1:z6F (.str [n])=none:=if_neg hn
    rw [e1] at q1
    exact q1.elim
  | _ :: _ :: _=>exact q1.elim
 | _=>exact q1.elim
end
end DV
namespace L2
open PySem PySem.Spec PyProof.Rows
section
variable {X:Cx} {tg:Expr}
end
end L2
namespace DV
open PySem PySem.Spec PyProof.Rows L2
section
variable {X:Cx} {c:Fc} {tg e:Expr} {fe:DE} {pos pp:Pos}
end
end DV
namespace PySem.SeqAt
open AutoSeq1 (wpAny_loadPart')
open MeetsSeq
section
variable {A:Wp} {s:W2}
end
end PySem.SeqAt
namespace DV
open PySem PySem.Spec PyProof.Rows L2
end DV
namespace PySem.SeqAt
open AutoSeq1 (wpAny_loadPart')
open MeetsSeq
abbrev prO (dd:Option Addr) (a1 a2:Int) (t1 t2:Tok) (n:Nat) (sl:Array (Option Value)):Obj:={ cls:=.type "tuple",dict:=dd,data:=.seq #[.int a1 t1,.int a2 t2] n,slots:=sl }
def ltP (a1 a2 b1 b2:Int):Bool:=if a1 == b1 then decide (a2 < b2) else decide (a1 < b1)
theorem zaa (l b:Addr) (a1 a2 b1 b2:Int) (t1 t2 u1 u2:Tok) (n n2:Nat) (dd dd2:Option Addr) (sl sl2:Array (Option Value)) :
  Meets (Builtin.«tuple.__lt__» ⟨[.ref l,.ref b],[]⟩)
   (fun _ R s=>s.heap.get? l=some (prO dd a1 a2 t1 t2 n sl)∧s.heap.get? b=some (prO dd2 b1 b2 u1 u2 n2 sl2)∧R (.ok (.ret (.bool (ltP a1 a2 b1 b2)))) s) :=
 .of_wp fun prog w A R s h=>by
  obtain ⟨hp,g,d,tk,os⟩:=s; obtain ⟨hl,hb,h⟩:=h
  have f2:=AutoSeq1.sub_tuple_tuple
  wp_walk using WH hl,WH hb,wpAny_forIn_list _ (fun rest c s'=>c.1=none∧s' = ⟨hp,g,d,tk,os⟩ ∧
   (rest=[(.int a1 t1,.int b1 u1),(.int a2 t2,.int b2 u2)]∨(rest=[(.int a2 t2,.int b2 u2)]∧a1=b1)∨(rest=[]∧a1=b1∧a2=b2))) _
  case turn =>
   rintro ⟨y,x⟩ rest c s' ⟨hc,rfl,hz⟩
   rcases hz with hz | ⟨hz,e1⟩ | ⟨hz,_⟩
   ·injection hz with hyx hrest
    cases hyx
    refine W1 (EqAt.int_int a1 t1 b1 u1 prog w _ _ ?_)
    by_cases e:a1=b1
    ·rw [show (a1 == b1)=true by simp [e]]
     wp_walk
     exact ⟨rfl,rfl,.inr (.inl ⟨hrest,e⟩)⟩
    ·rw [show (a1 == b1)=false by simp [e]]
     have hlt:ltP a1 a2 b1 b2=decide (a1 < b1):=by simp [ltP,e]
     rw [hlt] at h
     simp only [Bool.not_false,if_true]
     refine W1 (Jr ?_)
     refine W1 (richCompare_gives (op:=.Lt) (QZ _ _ t1) (QZ _ _ u1) F.slot_int_lt F.entry_int_lt (F.args_int_lt_2 _ _) (gives_int_lt _ _ t1 u1) (fun x=>nomatch x) ?_)
     refine W1 (Wd ?_)
     exact Wd (Wd ⟨_,rfl,h⟩)
   ·injection hz with hyx hrest
    cases hyx
    refine W1 (EqAt.int_int a2 t2 b2 u2 prog w _ _ ?_)
    by_cases e:a2=b2
    ·rw [show (a2 == b2)=true by simp [e]]
     wp_walk
     exact ⟨rfl,rfl,.inr (.inr ⟨hrest,e1,e⟩)⟩
    ·rw [show (a2 == b2)=false by simp [e]]
     have hlt:ltP a1 a2 b1 b2=decide (a2 < b2):=by simp [ltP,e1]
     rw [hlt] at h
     simp only [Bool.not_false,if_true]
     refine W1 (Jr ?_)
     refine W1 (richCompare_gives (op:=.Lt) (QZ _ _ t2) (QZ _ _ u2) F.slot_int_lt F.entry_int_lt (F.args_int_lt_2 _ _) (gives_int_lt _ _ t2 u2) (fun x=>nomatch x) ?_)
     refine W1 (Wd ?_)
     exact Wd (Wd ⟨_,rfl,h⟩)
   ·cases hz
  case fin =>
   rintro ⟨c1,c2⟩ s' ⟨hc,rfl,hz⟩
   simp only at hc
   subst hc
   rcases hz with hz | ⟨hz,e1⟩ | ⟨_,e1,e2⟩
   ·cases hz
   ·cases hz
   ·have hlt:ltP a1 a2 b1 b2=false:=by simp [ltP,e1,e2]
    rw [hlt] at h
    wp_walk
    exact ⟨_,rfl,h⟩
  case h=>exact ⟨rfl,rfl,.inl rfl⟩
end PySem.SeqAt
namespace PySem
open SeqAt (prO ltP zaa)
section
variable {prog:Wk} {w:Wr} {A:Wp} {R:Result→W2→Prop} {I:Addr} {fp wr:List Addr} {n:Nat} {P:Nat→Value→Prop} {St:Nat→Heap→Prop}
end
section
variable {prog:Wk} {w:Wr} {A:Wp} {E:Value→W2→Prop} {s:W2}
end
end PySem
namespace DV
open PySem PySem.Spec PyProof.Rows L2
open PySem.SeqAt (prO ltP)
section
variable {X:Cx} {c:Fc} {e:Expr} {fb:BE} {pos pp:Pos}
end
section
variable {c:Fc} {σ:St} {δ δ':Dl} {H H':Hp} {p:Addr}
end
end DV
namespace L2
open PySem PySem.Spec PyProof.Rows
end L2
namespace DV
open PySem PySem.Spec PyProof.Rows L2
section
variable {X:Cx} {c:Fc} {tg e:Expr} {fe:DE} {pos pp:Pos}
end
section
variable {K:W0} {h:Heap} {mg:Str→Option Value} {x q:Str} {st:Stmt} {f:Addr} {fd:WD}
abbrev FnH (K:W0) (x:Str) (st:Stmt):Prop:=∃ (f:Addr) (oc:Value) (od:Option Addr) (kV dc pm:Value) (an:Option Addr) (cd ct:Value) (sl:Array (Option Value)),
 PySem.W.nsIn K Wl x=some (some (.ref f))∧K.lookup f=some ⟨oc,od,.func (Qk x x (z35 st) (z1n st) (z05 st) .none kV dc pm an cd ct),sl⟩∧PySem.W.codeIn K cd x=true∧Q3 K (.ref f)=true
theorem fnH (X:K.In h) (G:h.Ns Wl mg) (d:FnH K x st):∃ f fd,Fun K x x st f fd∧mg x=some (.ref f):=by
 obtain ⟨f,oc,od,kV,dc,pm,an,cd,ct,sl,a,l,c,k⟩:=d
 exact ⟨f,_,zbf l c k,PySem.W.mg_of X G a⟩
abbrev Bd (x q:Str) (st:Stmt) (ps:List Str) (us:List Value):Prop:=∀ (kV doc pm:Value) (an:Option Addr) (cdv ct:Value),bindArgs (Qk x q (z35 st) (z1n st) (z05 st) .none kV doc pm an cdv ct) ⟨us,[]⟩=pure (ps.zip us)
variable {p1 p2 p3 p4 p5 p6:Str}
theorem bd1 (F:Fun K x q st f fd) (h:∀ a,Bd x q st [p1] [a]):Binds K fd [p1] []:=F.binds fun _ _ _ _ _ _ us hl=>match us,hl with
 | [a],_=>h a _ _ _ _ _ _
theorem bd2 (F:Fun K x q st f fd) (h:∀ a b,Bd x q st [p1,p2] [a,b]):Binds K fd [p1,p2] []:=F.binds fun _ _ _ _ _ _ us hl=>match us,hl with
 | [a,b],_=>h a b _ _ _ _ _ _
theorem bd3 (F:Fun K x q st f fd) (h:∀ a b c,Bd x q st [p1,p2,p3] [a,b,c]):Binds K fd [p1,p2,p3] []:=F.binds fun _ _ _ _ _ _ us hl=>match us,hl with
 | [a,b,c],_=>h a b c _ _ _ _ _ _
end
theorem fm1 {α:Type} {P:α→Prop} {a:α} (x:P a):∀ z ∈ [a],P z:=fun _ h=>by cases h with | head=>exact x | tail _ h=>cases h
end DV
namespace L2
open PySem PySem.Spec PyProof.Rows
section
variable {X:Cx} {tg:Expr}
theorem zec {iter:Expr} {body:List Stmt} {wi:TI} {g:TG} {tb:TS} {pos:Pos} (hc:X.calm=true) (hi:PI X tg iter wi) (hg:PG X.loop tg g) (hb:PSs X.loop body tb)
  (hs:∀ x,Qd iter X.env x=pure x:=by intro _; rfl):PS X (.For tg iter body [] pos) (tFor wi g tb):=by
 intro pins s σ H D I h
 refine wpAny_For (thn (hi pins s σ H _ I h) fun v s1 h1=>thn h1 fun itv s2 h2=>?_) hs
 obtain ⟨it,fp,tn,J,H2,e,I2,T,st2,f2,W,⟨m0,w0⟩,turn⟩:=h2
 subst e
 -- what stays true of the iterator's objects through the loop
 have stat:∀ {H':Hp},(∀ b ∈ fp,H' b=none)→∀ b ∈ fp,FpOk X.loop pins H' b:=fun hn b hb=>⟨hn b hb,(f2 b hb).2⟩
 refine codeAny_forLoop_any (fun n s'=>∃ i σ' H',Inv X.loop pins σ' H' s'∧tn i s'.heap∧(∀ b ∈ fp,H' b=none)∧W i n σ' H') ?_ m0 ⟨0,σ,H2,I2.loop,st2,fun b hb=>(f2 b hb).1,w0⟩
 rintro n s3 ⟨i,σ3,H3,I3,st3,fr3,w3⟩
 rcases turn i n σ3 H3 w3 with ⟨stop,qn⟩ | ⟨go,N,hN,step⟩
 ·refine wpAny_noRaise (thn (T.done X.loop rfl rfl rfl hc i pins s3 σ3 H3 (fun _ _=>False) I3 (stat fr3) st3 stop) fun r s4 ⟨hr,I4⟩=>?_)
  subst hr
  exact Ji ⟨σ3,H3,I4.unloop,qn⟩
 ·refine wpAny_noRaise (thn (T.item X.loop rfl rfl rfl hc i pins s3 σ3 H3 (fun _ _=>False) I3 (stat fr3) st3 go) fun r s4 ⟨u,hr,h4⟩=>?_)
  subst hr
  refine wpAny_noRaise (thn h4 fun _ s5 ⟨x,H5,I5,r5,y5,st5,fr5⟩=>?_)
  have I5':=I5.pinned (stat fr5) (T.obj _ _ st5)
  refine (thn (hg _ s5 σ3 H5 x u _ I5' r5 (step x H5 y5)) fun _ s6 ⟨σ6,H6,I6,q6⟩=>?_)
  refine (thn (hb _ s6 σ6 H6 _ I6 q6) fun f s7 q7=>?_)
  have again:∀ {σ7:St} {H7:Hp},Inv X.loop (pins ++ z6E fp s5.heap) σ7 H7 s7→N σ7 H7→∃ m,m < n∧∃ i σ' H',Inv X.loop pins σ' H' s7∧tn i s7.heap∧(∀ b ∈ fp,H' b=none)∧W i m σ' H':=fun {σ7 H7} I7 n7=>by
   obtain ⟨m',hm,w7⟩:=hN σ7 H7 n7
   refine ⟨m',hm,i + 1,σ7,H7,I7.unpinned,T.keep _ _ _ st5 fun b hb o e=>(I7.pin (b,o) (Wz _ (Wz _ (z2i hb e)))).1,fun b hb=>?_,w7⟩
   obtain ⟨o,e,d⟩:=T.obj _ _ st5 b hb
   exact (I7.pin (b,o) (Wz _ (Wz _ (z2i hb e)))).2.1
  cases f with
  | next=>obtain ⟨σ7,H7,I7,n7⟩:=q7; exact again I7 n7
  | cont=>obtain ⟨σ7,H7,I7,n7⟩:=q7; exact again I7 n7
  | brk=>obtain ⟨σ7,H7,I7,q7⟩:=q7; exact ⟨σ7,H7,I7.unpinned.unloop,q7⟩
  | ret v=>obtain ⟨x7,σ7,H7,I7,r7,q7⟩:=q7; exact ⟨x7,σ7,H7,I7.unpinned.unloop,r7,q7⟩
end
section
variable {X:Cx} {e:Expr} {ta:TE} {f:Str} {pos:Pos}
structure AtT (K:W0) (ce:DV.Tx→Nat) (ys:List DV.Tx) (f:Str):Prop where
 k:∀ z ∈ ys,ExcK K (ce z)
 no:∀ z ∈ ys,J4 K (.ref (ce z)) f=some none
 hd:∀ z ∈ ys,Jt K (ce z)=true
theorem zfL {ce:DV.Tx→Nat} {ys:List DV.Tx} (T:AtT X.K ce ys f) (he:PE X e ta) (hb:WS e f X.env (eval e X.env)=eval e X.env) :
  PE X (.Attribute e f pos) (fun σ H Q=>ta σ H fun x H1=>∃ (a dx:Addr) (z:DV.Tx) (fs:List (Str×V)) (v:V),x = .ref a∧z ∈ ys∧H1 a=some (.ext (DV.excAt (ce z) (.ref dx) a))∧H1 dx=some (.ext (DV.xdAt fs dx))∧fs.lookup f=some v∧Q v H1):=by
 intro pins s σ H Q I h
 refine zeT hb (thn (he pins s σ H _ I h) fun u s1 ⟨x,H1,I1,rx,a,dx,z,fs,v,ex,hz,ea,ed,l,q⟩=>?_)
 subst ex
 obtain rfl:u=Value.ref a:=rx
 obtain ⟨⟨⟨cls,dd,data,sl⟩,o1,o2,o3,vs,o4⟩,_,_⟩:=(show ObjOk X.prog X.w H1 s1.heap a (.ext (DV.excAt (ce z) (.ref dx) a)) from I1.hok a _ ea)
 obtain ⟨⟨mA,ns,rl⟩,_,_⟩:=(show ObjOk X.prog X.w H1 s1.heap dx (.ext (DV.xdAt fs dx)) from I1.hok dx _ ed)
 have o5:dd=some dx:=o3 dx rfl
 have o6:cls = .ref (ce z):=o2
 have o7:data = .fields vs:=o4
 subst o5; subst o6; subst o7
 obtain ⟨w,hw,rw'⟩:=RelO.some_of (by rw [← l]; exact rl f)
 exact zeF I1.kIn o1 ns (T.k z hz) (T.no z hz) (T.hd z hz) hw (zbd rw') ⟨v,H1,I1.tok _,rw',q⟩
end
end L2
namespace DV
open PySem PySem.Spec PyProof.Rows L2
section
variable {X:Cx} {c:Fc} {tg e:Expr} {fe:DE} {pos pp:Pos}
theorem zdJ {iter:Expr} {body:List Stmt} {it:DI} {g:DG} {b:DS} (hc:X.calm=true) (hi:SI X c tg iter it) (hg:SG X.loop c tg g) (hb:SSs X.loop c body b)
  (hs:∀ x,Qd iter X.env x=pure x:=by intro _; rfl):SS X c (.For tg iter body [] pos) (dFor it g b):=PS.weak (zec hc hi hg hb hs) fun D σ H ⟨δ,k,q⟩=>by
 unfold dFor z2g at q
 rw [z03] at q
 refine ⟨δ,k,z00 q fun ds δ1 q1 J H1 a1 io=>?_⟩
 refine ⟨fun i m σ2 H2=>∃ δ2,m=ds.length - i∧i≤ds.length∧Aft c σ δ1 H1 σ2 δ2 H2∧z2g c D σ2 δ2 H2 (forL g b (ds.drop i) δ2),⟨ds.length,δ1,by simp,QL _,.refl a1.ok,?_⟩,?_⟩
 ·rw [List.drop_zero]
  exact z00 q1 fun fl δ2 q2 σ2 H2 a2=>q2 σ2 H2 (a1.trans a2)
 ·rintro i m σ2 H2 ⟨δ2,rfl,hil,a2,p2⟩
  by_cases hlt:i < ds.length
  ·right
   have e:ds[i]? = some ds[i]:=by simp [hlt]
   rw [Qs hlt] at p2
   refine ⟨((io H2 a2.keep).2 i _ e).1,fun σ4 H4=>∃ δ4,Aft c σ δ1 H1 σ4 δ4 H4∧z2g c D σ4 δ4 H4 (forL g b (ds.drop (i + 1)) δ4),fun σ4 H4 ⟨δ4,a4,p4⟩=>⟨ds.length - (i + 1),by omega,δ4,rfl,hlt,a4,p4⟩,fun x H3 y=>?_⟩
   obtain ⟨a3,r3⟩:=z6T io a2 e y
   simp only [forL,z2g] at p2
   cases eg:g (.pure ds[i]) δ2 with
   | none=>rw [eg] at p2; exact p2.elim
   | some δ3 =>
    rw [eg] at p2
    refine ⟨σ2,δ2,H3,δ2,.pure ds[i],δ3,.refl a3.ok,r3,eg,fun σ3 a3'=>?_⟩
    have p3:post c ((b δ3).bind fun fl δ2=>match fl with
     | .next=>forL g b (ds.drop (i + 1)) δ2
     | .cont=>forL g b (ds.drop (i + 1)) δ2
     | .brk=>.ok .next δ2
     | .ret v=>.ok (.ret v) δ2) fun fl δ'=>∀ σ' H',Aft c σ2 δ2 H2 σ' δ' H'→fin c D σ' δ' H' fl:=p2
    rw [z03] at p3
    have a23:Aft c σ2 δ2 H2 σ3 δ3 H3:=a3.trans a3'
    refine ⟨δ3,a3'.ok,z00 p3 fun fl δ4 p4 σ4 H4 a4=>?_⟩
    have a24:=a23.trans a4
    cases fl with
    | next=>exact ⟨δ4,a2.trans a24,z00 p4 fun fl δ5 p5 σ5 H5 a5=>p5 σ5 H5 (a24.trans a5)⟩
    | cont=>exact ⟨δ4,a2.trans a24,z00 p4 fun fl δ5 p5 σ5 H5 a5=>p5 σ5 H5 (a24.trans a5)⟩
    | brk=>exact p4 σ4 H4 a24
    | ret r=>exact p4 σ4 H4 a24
  ·left
   have hi2:i=ds.length:=by omega
   subst hi2
   rw [List.drop_length] at p2
   exact ⟨(io H2 a2.keep).1,p2 σ2 H2 (.refl a2.ok)⟩
def z5u (ce:Tx→Nat) (ys:List Tx) (f:Tx) (fb:BE):DE:=fun δ=>(fb δ).bind fun d δ'=>match d with
 | .exc n (.xd fs)=>match ys.find? (fun z=>ce z == n),fs.lookup f with
  | some _,some d=>.ok (.pure d) δ'
  | _,_=>.stuck
 | _=>.stuck
theorem z6H {H:Hp} {O:Addr→Prop} {f:Tx}:∀ {fs:List (Str×V)} {ds:List (Tx×D)} {d:D},fs.map (·.1)=ds.map (fun p=>toS p.1)→(∀ (i:Nat) p q,fs[i]? = some p→ds[i]? = some q→Rep H O p.2 q.2)→ds.lookup f=some d→∃ v,fs.lookup (toS f)=some v∧Rep H O v d
 | _,[],_,_,_,h=>by simp at h
 | [],_ :: _,_,h,_,_=>by simp at h
 | p :: fs,q :: ds,d,h1,h2,h=>by
  obtain ⟨n,v⟩:=p
  obtain ⟨g,e⟩:=q
  simp only [WB,List.cons.injEq] at h1
  obtain ⟨rfl,h1⟩:=h1
  by_cases z:f=g
  ·subst z
   simp only [WJ,beq_self_eq_true,W5] at h
   subst h
   exact ⟨v,by simp,h2 0 _ _ rfl rfl⟩
  ·have zs:toS f≠toS g:=fun w=>z (z6V w)
   rw [WJ,beq_eq_false_iff_ne.mpr z] at h
   rw [WJ,beq_eq_false_iff_ne.mpr zs]
   exact z6H h1 (fun i p q e1 e2=>h2 (i + 1) p q (by simpa using e1) (by simpa using e2)) h
theorem zal {x:Str} {ce:Tx→Nat} {ys:List Tx} {fb:BE} (f:Tx) (T:AtT X.K ce ys x) (he:SB X c e fb) (hx:x=toS f:=by decide +kernel) (hb:WS e x X.env (eval e X.env)=eval e X.env:=by rfl):SE X c (.Attribute e x pos) (z5u ce ys f fb) :=
 PE.weak (zfL T he hb) fun σ H Q ⟨δ,k,q⟩=>by
  unfold z5u at q
  rw [z03] at q
  refine ⟨δ,k,z00 q fun d δ1 q1 v H1 a1 r1=>?_⟩
  cases d <;> first | exact q1.elim | skip
  rename_i n fl
  cases fl <;> first | exact q1.elim | skip
  rename_i ds
  simp only at q1
  split at q1
  ·rename_i z d hz hd
   have h1:=List.find?_some hz
   have h2:=List.mem_of_find?_eq_some hz
   have e:ce z=n:=by simpa using h1
   subst e
   rcases r1 with r1 | ⟨a,_,o⟩
   ·cases r1 with
    | exc _ ha r2 =>
     cases r2 with
     | xd _ hx2 h3 h4 =>
      obtain ⟨v,l,rv⟩:=z6H h3 h4 hd
      exact ⟨_,_,z,_,v,rfl,h2,ha,hx2,by rw [hx]; exact l,q1 _ H1 a1 rv⟩
   ·exact o.elim
  ·exact q1.elim
end
end DV
namespace L2
open PySem PySem.Spec PyProof.Rows
section
variable {X:Cx}
end
end L2
namespace DV
open PySem PySem.Spec PyProof.Rows L2
end DV
namespace L2
open PySem PySem.Spec PyProof.Rows PySem.SeqAt DV
section
variable {X:Cx}
end
end L2
namespace DV
open PySem PySem.Spec PyProof.Rows L2
section
variable {X:Cx} {c:Fc} {o e:Expr} {fa fb:DE}
end
end DV
namespace L2
open PySem PySem.Spec PyProof.Rows PySem.W DV
section
variable {α β:Type} {n:Nat}
end
section
variable {n:Nat} {p:Array Nat}
end
structure TupK (h:Heap) (vs:List Value) (ks:List Tx):Prop where
 len:ks.length=vs.length
 at':∀ i v,vs[i]? = some v→∃ b o xs m t,v = .ref b∧h.get? b=some o∧o.cls = .type "tuple"∧o.data = .seq xs m∧xs[0]? = some (.str (toS (ks.getD i [])) t)
section
variable {prog:Wk} {w:Wr} {A:Wp} {E:Value→W2→Prop} {s:W2} {vs:List Value} {ks:List Tx}
end
section
variable {X:Cx}
end
end L2
namespace DV
open PySem PySem.Spec PyProof.Rows L2
section
variable {X:Cx} {c:Fc} {e:Expr} {fb:BE} {pp pos:Pos}
end
section
variable {X:Cx} {c:Fc} {e:Expr} {fe:DE} {fb:BE} {pos:Pos}
def z5b (i:Nat) (f:DE):DS:=fun δ=>if z23 δ i then (f δ).bind fun r δ1=>match r with
 | .own (.lst es)=>putL δ1 i fun ds=>if ds.length + es.length≤W8 then some (ds ++ es) else none
 | _=>.stuck else .stuck
theorem zae {i:Nat} {o:Expr} {apos cpos:Pos} (ho:PE X o (tVar i)) (he:SE X c e fe)
  (hbase:WS o "extend" X.env (eval o X.env)=eval o X.env:=by rfl)
  (hfew:((WF cpos (W4 [e] X.env)).all (fun x=>!x.1) && (Qn cpos (WV [] X.env)).all (fun x=>x.1.isSome)
   && decide ([e].length + ([]:List Keyword).length + (if ([]:List Keyword).isEmpty then 0 else 1) < 30))=true:=by rfl)
  (hline:(apos.endLine == cpos.line)=true:=by rfl) (hs:W4 [e] X.env=(false,eval e X.env) :: W4 [] X.env:=by rfl)
  (hsw:QX (.Call (.Attribute o "extend" apos) [e] [] cpos) none pos.line X.env=pure false:=by rfl):SS X c (.Expr (.Call (.Attribute o "extend" apos) [e] [] cpos) pos) (z5b i fe) :=
 PS.weak (z8H (z9M QV PySem.F.slot_list_extend PySem.F.type_list_extend zb0 ho (z0M he z1M hs) hbase hfew hline hs rfl) hsw) fun D σ H ⟨δ,k,q⟩=>by
  unfold z5b z2g at q
  split at q
  ·rename_i hown
   obtain ⟨ds0,e0⟩:=z65 hown
   rw [z03] at q
   obtain ⟨a,ea,oa,_⟩:=k.own i _ e0
   refine ⟨.ref a,ea,?_,δ,k,z00 q fun r δ1 q1 v H1 a1 r1=>?_⟩
   ·obtain ⟨vs,ha,_⟩:=oa
    exact .inl ⟨rfl,vs,.of ha⟩
   ·split at q1
    ·rename_i es
     obtain ⟨ds,ds',e1,e2,q2⟩:=z5K q1
     split at e2
     ·rename_i hz
      cases e2
      obtain ⟨a',ea',oa1,_⟩:=a1.ok.own i _ e1
      rw [ea] at ea'; cases ea'
      obtain ⟨vs,ha,ra⟩:=id oa1
      obtain ⟨b,rfl,⟨zs,hb,rb⟩,_⟩:=r1
      refine ⟨a,b,vs,zs,rfl,rfl,ha,hb,by rw [ra.1,rb.1]; exact hz,?_⟩
      exact q2 σ _ (a1.trans (Ok.mutL a1.ok e1 ea (ra.append (rb.anti fun x hx=>.inl (by
       rcases hx with z | z
       ·exact .inl (.inl z)
       ·exact .inr z)))))
     ·cases e2
    ·exact q1.elim
  ·exact q.elim
theorem zbA:CallR X (.type "int") (fun xs H Q=>∃ z:Tx,xs=[.str (toS z)]∧NumText.AllDigits z∧z≠[]∧z.length≤640∧Q (.int (NumText.digitsVal z:Nat)) H):=by
 intro pins s σ H xs us Q I r h
 obtain ⟨z,rfl,h1,h2,h3,q⟩:=h
 obtain ⟨u,rfl,t,rfl⟩:=z4p r
 have ht:PySem.intText? (toS z)=some ((NumText.digitsVal z:Nat):Int):=by
  have:=intText_digits (x:=toS z) (by rw [z4N]; exact h1) (by rw [z4N]; exact h2) (by rw [z1O]; omega)
  rwa [z4N] at this
 exact PySem.W.KIN.call_text ht (by rw [z1O]; exact h3) ⟨.int (NumText.digitsVal z:Nat),H,I.tok _,⟨_,rfl⟩,q⟩
def z7R:D→Option S
 | .str z=>if z.all (fun n=>decide (48≤n) && decide (n≤57)) && !z.isEmpty && decide (z.length≤640) then some (.pure (.int ((NumText.digitsVal z:Nat):Int))) else none
 | _=>none
theorem z8C {pp pos:Pos} (hg:Gl X "int") (hm:X.mg "int" = none) (he:SB X c e fb) (hs:W4 [e] X.env=(false,eval e X.env) :: W4 [] X.env:=by rfl):SE X c (.Call (.Name "int" pp) [e] [] pos) (eC1 z7R fb) :=
 z2V (r:=fun v H Q=>∃ z:Tx,v = .str (toS z)∧NumText.AllDigits z∧z≠[]∧z.length≤640∧Q (.int (NumText.digitsVal z:Nat)) H) zbA (fun v H Q ⟨n,e,h⟩=>⟨n,by rw [e],h⟩) (fun c σ δ H x d s Q k rx hp q=>by
  cases d with
  | str z =>
   simp only [z7R] at hp
   split at hp
   ·rename_i hi
    simp only [W5] at hp
    subst hp
    simp only [We,WC,decide_eq_true_eq,Qx,List.isEmpty_eq_false_iff] at hi
    exact ⟨z,rx.str,hi.1.1,hi.1.2,hi.2,q _ H (.refl k) (.int _)⟩
   ·cases hp
  | _=>simp [z7R] at hp) hg hm PyProof.Rows.boot_int he (by decide) (by decide) hs
end
def ze1 (c:Nat) (K:W0):V→Hp→VK→Prop:=fun x H Q=>tyV K "str" x H∧∃ z:Tx,x = .str (toS z)∧z.length≤1000000∧∀ p,H p=none→Q (.ref p) (upd H p (.lst ((z0d c z).map fun t=>V.str (toS t))))
theorem z9A (c:Nat) (z:List Nat) (hc:c < 256):Txt.split ⟨z.toArray⟩ ⟨#[c]⟩=(z0d c z).map fun t=>⟨t.toArray⟩:=by
 cases z with
 | nil=>rfl
 | cons a r=>exact za8 c (a :: r) hc (by simp)
section
variable {X:Cx}
theorem zaZ (c:Nat) (hc:c < 256):MtR X "str.split" (fun x vs H Q=>∃ z:Tx,x = .str (toS z)∧vs=[.str (toS [c])]∧z.length≤1000000∧∀ p,H p=none→Q (.ref p) (upd H p (.lst ((z0d c z).map fun t=>V.str (toS t))))):=by
 intro pins s σ H x vs v us Q I rx rv h
 obtain ⟨z,rfl,rfl,hl,q⟩:=h
 obtain ⟨t,rfl⟩:=rx
 obtain ⟨u,rfl,ru⟩:=rv.one
 obtain ⟨tu,rfl⟩:=ru
 have hs:=z9A c z hc
 have e1:toS z = ⟨z.toArray⟩:=rfl
 have e2:toS [c] = ⟨#[c]⟩:=rfl
 have hlen:=z1P c z
 have hsl:W8=16777216:=rfl
 -- a new list of these z3M
 have fin:∀ (l:List (Str×Tok)) (tk:Nat),l.map (·.1)=Txt.split (toS z) (toS [c])→EP X pins σ Q (.ref s.heap.objs.size) { s with heap:=s.heap.push { cls:=.type "list",data:=.seq (strValues l).toArray },toks:=tk }:=fun l tk e=>by
  have ev:(l.map (·.1)).map V.str=(z0d c z).map fun t=>V.str (toS t):=by
   rw [e,e1,e2,hs,JA]
   rfl
  have hv:=z6u l
  rw [ev] at hv
  exact ⟨.ref s.heap.objs.size,_,I.lnew hv (by simp; omega),rfl,q _ I.fresh⟩
 have hy:((toS [c]).length == 0)=false:=rfl
 have hxl:(toS z).length≤W8:=by rw [z1O]; omega
 cases h1:(decide ((toS z).length < (toS [c]).length) || decide (Q9 (toS z) < Q9 (toS [c])))
 ·cases hf:(Qy (toS z) (toS [c]) 0 (toS z).length ((toS z).length + 1)).isEmpty
  ·have hp:Txt.split (toS z) (toS [c])=PySem.Builtin.Str.partsBetween (toS z) (Qy (toS z) (toS [c]) 0 (toS z).length ((toS z).length + 1)) (toS [c]).length:=(if_neg (ne_true_of_eq_false h1)).trans (if_neg (ne_true_of_eq_false hf))
   have hn:(PySem.Builtin.Str.partsBetween (toS z) (Qy (toS z) (toS [c]) 0 (toS z).length ((toS z).length + 1)) (toS [c]).length).length≤W8:=by
    rw [← hp,e1,e2,hs,Wu]; omega
   refine Qm F.slot_str_split (typeIs_str _ _ _) F.entry_str_split (F.args_str_split_2 _ _) (meets_str_split_sep (toS z) (toS [c]) t tu h1 hy hf hxl hn) ?_
   show wants _ _ _ { s with toks:=_,heap:=s.heap.push { cls:=.type "list",data:=.seq (strsFrom s.toks (PySem.Builtin.Str.partsBetween (toS z) (Qy (toS z) (toS [c]) 0 (toS z).length ((toS z).length + 1)) (toS [c]).length)).toArray } }
   rw [strsFrom_eq]
   exact fin (numbered s.toks _) _ ((numbered_texts _ _).trans hp.symm)
  ·exact Qm F.slot_str_split (typeIs_str _ _ _) F.entry_str_split (F.args_str_split_2 _ _) (meets_str_split_not_found (toS z) (toS [c]) t tu h1 hy hf)
    (fin [(toS z,t)] s.toks ((if_neg (ne_true_of_eq_false h1)).trans (if_pos hf)).symm)
 ·exact Qm F.slot_str_split (typeIs_str _ _ _) F.entry_str_split (F.args_str_split_2 _ _) (meets_str_split_cannot_occur (toS z) (toS [c]) t tu h1)
   (fin [(toS z,t)] s.toks (if_pos h1).symm)
end
def z0R (c:Nat):D→Option S
 | .str z=>if z.length≤1000000 then some (.own (.lst ((z0d c z).map .str))) else none
 | _=>none
section
variable {X:Cx} {c:Fc} {e:Expr} {fb:BE}
theorem zaW (n:Nat) {K:W0}:Op1 (ze1 n K) (z0R n):=by
 intro c σ δ H x d s Q k rx hp q
 cases d with
 | str z =>
  simp only [z0R] at hp
  split at hp
  ·rename_i hl
   simp only [W5] at hp
   subst hp
   have ex:=rx.str
   subst ex
   exact ⟨rfl,z,rfl,hl,fun p hp=>q _ _ (.alloc k hp _) (RepS.newL k (z4v _) hp)⟩
  ·cases hp
 | _=>simp [z0R] at hp
theorem z1F {x:Str} {j} {p0 apos cpos:Pos} (n:Nat) (he:SB X c e fb) (hn:n < 256:=by decide) (hx:x=toS [n]:=by decide +kernel)
  (hbase:WS e "split" X.env (eval e X.env)=eval e X.env:=by rfl)
  (hfew:((WF cpos (W4 [.Constant (.str x) j p0] X.env)).all (fun x=>!x.1) && (Qn cpos (WV [] X.env)).all (fun x=>x.1.isSome)
   && decide ([Expr.Constant (.str x) j p0].length + ([]:List Keyword).length + (if ([]:List Keyword).isEmpty then 0 else 1) < 30))=true:=by rfl)
  (hline:(apos.endLine == cpos.line)=true:=by rfl) (hs:W4 [.Constant (.str x) j p0] X.env=(false,eval (.Constant (.str x) j p0) X.env) :: W4 [] X.env:=by rfl) :
  SE X c (.Call (.Attribute e "split" apos) [.Constant (.str x) j p0] [] cpos) (eC1 (z0R n) fb):=by
 subst hx
 refine PE.weak (z9M PySem.F.plainAttrs_str PySem.F.slot_str_split PySem.F.type_str_split (zaZ n hn) he (z0M zaI z1M hs) hbase hfew hline hs rfl) fun σ H Q h=>?_
 obtain ⟨δ,k,q⟩:=z3U (zaW n (K:=X.K)) h
 exact ⟨δ,k,z00 q fun y δ1 q1 v H1 a1 r1=>by
  obtain ⟨ty,z,rfl,hl,q2⟩:=q1 v H1 a1 r1
  exact ⟨ty,z,rfl,rfl,hl,q2⟩⟩
end
def nz:D→Bool
 | .non=>true
 | .int _=>true
 | _=>false
def pInN (neg:Bool) (x y:D):Option S:=match x,y with
 | .non,.tup ds=>if ds.all nz then some (.pure (.bl (if neg then !ds.any z3R else ds.any z3R))) else none
 | _,_=>none
theorem zas {H:Hp} {O:Addr→Prop}:∀ {ds:List D} {vs:List V},ds.all nz=true→Reps H O vs ds→vs.all z6r=true∧inV .non vs=ds.any z3R
 | [],[],_,_=>⟨rfl,rfl⟩
 | [],_ :: _,_,r=>by have:=r.1; simp at this
 | _ :: _,[],_,r=>by have:=r.1; simp at this
 | d :: ds,v :: vs,h,r=>by
  rw [Qb,We] at h
  obtain ⟨i1,i2⟩:=zas h.2 r.tail
  have rv:=r.2 0 v d rfl rfl
  unfold inV at i2 ⊢
  cases d with
  | non=>cases rv; exact ⟨by rw [Qb,i1]; rfl,by rw [Q2,Q2,i2]; rfl⟩
  | int i=>cases rv; exact ⟨by rw [Qb,i1]; rfl,by rw [Q2,Q2,i2]; rfl⟩
  | _=>cases h.1
theorem zg6 {K:W0} (neg:Bool):Op2 (rIn K neg) (pInN neg):=by
 intro c σ δ H x y d e s Q k rx ry hp q
 unfold pInN at hp
 split at hp <;> first | (cases hp; done) | skip
 rename_i ds
 split at hp
 ·rename_i hz
  cases hp
  obtain ⟨a,vs,ea,ha,r⟩:=ry.tup
  obtain ⟨i1,i2⟩:=zas hz r
  have ex:x = .non:=rx.non
  subst ex
  refine ⟨a,vs,ea,.inr (.of ha),rfl,i1,?_⟩
  rw [i2]
  exact q _ H (.refl k) (.bl _)
 ·cases hp
open PySem (sizeLine)
section
variable {α β:Type}
@[simp] theorem z0j (a:α) (δ:Dl) (f:α→Dl→Rs β):(Rs.ok a δ).bind f=f a δ:=id rfl
@[simp] theorem zcP (f:α→Dl→Rs β):(Rs.stuck:Rs α).bind f = .stuck:=id rfl
@[simp] theorem ev_d1 (d:D):(S.pure d).d=d:=id rfl
@[simp] theorem ev_d2 (d:D):(S.own d).d=d:=id rfl
end
section
variable (δ:Dl) (i:Nat) (d e:D) (f g:DE) (fb:BE) (t u:DT) (p:D→D→Option S)
@[simp] theorem ev_eD:eD d δ = .ok (.pure d) δ:=id rfl
@[simp] theorem zgy:bOf f δ=(f δ).bind fun r δ'=>.ok r.d δ':=id rfl
@[simp] theorem zgx:eOp p f fb δ=(f δ).bind fun x δ1=>(fb δ1).bind fun y δ2=>p2 p x.d y δ2:=id rfl
@[simp] theorem ev_dAnd:dAnd t u δ=(t δ).bind fun b δ1=>if b then u δ1 else .ok false δ1:=id rfl
@[simp] theorem ev_dOr:dOr t u δ=(t δ).bind fun b δ1=>if b then .ok true δ1 else u δ1:=id rfl
@[simp] theorem ev_dNot:dNot t δ=(t δ).bind fun b δ1=>.ok (!b) δ1:=id rfl
@[simp] theorem ev_eIf:eIf t f g δ=(t δ).bind fun b δ1=>if b then f δ1 else g δ1:=id rfl
@[simp] theorem ev_dNext:z0I δ = .ok .next δ:=id rfl
@[simp] theorem ev_dYes:dYes δ = .ok true δ:=id rfl
@[simp] theorem ev_dDrop:z8m f δ=(f δ).bind fun _ δ1=>.ok .next δ1:=id rfl
@[simp] theorem ev_dRet:dRet f δ=(f δ).bind fun r δ1=>.ok (.ret r) δ1:=id rfl
@[simp] theorem ev_dIf (a b:DS):dIf t a b δ=(t δ).bind fun x δ1=>if x then a δ1 else b δ1:=id rfl
@[simp] theorem z3t (it:DI) (gg:DG) (b:DS):dFor it gg b δ=(it δ).bind fun ds δ1=>forL gg b ds δ1:=id rfl
@[simp] theorem ev_eTup (a:DA):eTup a δ=(a δ).bind fun ds δ'=>.ok (.pure (.tup ds)) δ':=id rfl
@[simp] theorem ev_eLst (a:DA):eLst a δ=(a δ).bind fun ds δ'=>.ok (.own (.lst ds)) δ':=id rfl
@[simp] theorem ev_eLstC (ds:List D):z3w ds δ = .ok (.own (.lst ds)) δ:=id rfl
@[simp] theorem ev_aNil:aNil δ = .ok [] δ:=id rfl
@[simp] theorem ev_aCons (a:DA):z0m f a δ=(f δ).bind fun x δ1=>(a δ1).bind fun xs δ2=>.ok (x.d :: xs) δ2:=id rfl
@[simp] theorem zdm (q:D→Option S):eC1 q fb δ=(fb δ).bind fun x δ1=>p1 q x δ1:=id rfl
@[simp] theorem ev_eMax:eMax f g δ=(f δ).bind fun x δ1=>(g δ1).bind fun y δ2=>p2 pMax x.d y.d δ2:=id rfl
@[simp] theorem ev_eSl (fl fh:DOp):eSl f fl fh δ=(f δ).bind fun x δ1=>(fl δ1).bind fun l δ2=>(fh δ2).bind fun h δ3=>p1 (pSl l h) x.d δ3:=id rfl
@[simp] theorem ev_oNone:z2M δ = .ok none δ:=id rfl
@[simp] theorem z5B (cs:List Nat) (it:DI) (gg:DG) (el:DE):z2q cs it gg t el δ=(it δ).bind fun ds δ1=>if cs.any (z0w δ1) then .stuck else
 (z2h cs gg t el ds (clrD cs δ1) []).bind fun acc δ2=>.ok (.own (.lst acc)) (z26 cs δ1 δ2):=id rfl
@[simp] theorem ev_gNm (np:List Nat) (r:S):gNm np i r δ=if np.contains i then none else some (δ.set i (some r)):=id rfl
@[simp] theorem zeK (gg:DG) (b:DS):forL gg b [] δ = .ok .next δ:=id rfl
end
section
variable (δ:Dl) (i:Nat) (d e:D) (f g:DE) (fb:BE) (p:D→D→Option S) (s:S)
@[simp] theorem ev_p2 (x y:D):p2 p x y δ=match p x y with | some s=>.ok s δ | none=>.stuck:=id rfl
@[simp] theorem ev_p1 (q:D→Option S) (x:D):p1 q x δ=match q x with | some s=>.ok s δ | none=>.stuck:=id rfl
@[simp] theorem z2N (a b:DS):dSeq a b δ=(a δ).bind fun fl δ1=>match fl with | .next=>b δ1 | .ret r=>.ok (.ret r) δ1 | .brk=>.ok .brk δ1 | .cont=>.ok .cont δ1:=id rfl
@[simp] theorem zeW {α β:Type} (c:Prop) [Decidable c] (x y:Rs α) (k:α→Dl→Rs β):(if c then x else y).bind k=if c then x.bind k else y.bind k:=by split <;> rfl
end
theorem z0Y:W8=16777216:=rfl
theorem z5E (xs:List α) (i:Nat):atI xs (i:Int)=xs[i]?:=by
 unfold atI ixN
 by_cases h:i < xs.length
 ·rw [if_pos (by omega),if_pos (by omega)]
  simp
 ·rw [if_pos (by omega),if_neg (by omega)]
  simp [Qq (Nat.le_of_not_lt h)]
theorem z8T (xs:List α):atI xs 2=xs[2]?:=z5E xs 2
theorem z1J (xs:List α):atI xs 0=xs[0]?:=z5E xs 0
theorem z6i (xs:List α):atI xs 1=xs[1]?:=z5E xs 1
theorem z8p (I:Dl→Prop) (R:D→D→Prop) :
  ∀ (ds:List D) (δ:Dl) (acc:List D),I δ→acc.length + ds.length≤W8 →
   (∀ d ∈ ds,∀ δ,I δ→∃ δ1 δ2 x δ3,g (.pure d) δ=some δ1∧t δ1 = .ok true δ2∧el δ2 = .ok x δ3∧I (clrD cs δ3)∧R d x.d) →
   ∃ xs δ',z2h cs g t el ds δ acc = .ok (acc ++ xs) δ'∧I δ'∧xs.length=ds.length∧∀ (i:Nat) d x,ds[i]? = some d→xs[i]? = some x→R d x
 | [],δ,acc,h,_,_=>⟨[],δ,by simp [z2h],h,rfl,fun i d x e=>by simp at e⟩
 | d :: r,δ,acc,h,hl,hs=>by
  obtain ⟨δ1,δ2,x,δ3,e1,e2,e3,h3,hr⟩:=hs d Wi δ h
  have hl':acc.length < W8:=by simp at hl; omega
  obtain ⟨xs,δ',e4,h4,hn,hf⟩:=z8p (g:=g) (t:=t) (el:=el) I R r (clrD cs δ3) (acc ++ [x.d]) h3 (by simp at hl ⊢; omega) (fun d hd=>hs d (Wc _ hd))
  refine ⟨x.d :: xs,δ',?_,h4,by simp [hn],fun i d' x' f1 f2=>?_⟩
  ·unfold z2h
   rw [e1]
   simp only [e2,z0j,if_true,e3,if_pos hl',e4]
   simp
  ·cases i with
   | zero=>simp at f1 f2; subst f1 f2; exact hr
   | succ i=>exact hf i d' x' (by simpa using f1) (by simpa using f2)
theorem z34 (I:Nat→Dl→Prop) :
  ∀ (ds:List D) (n:Nat) (δ:Dl),I n δ →
   (∀ (i:Nat) d δ,ds[i]? = some d→I (n + i) δ→∃ δ1 δ2,g (.pure d) δ=some δ1∧b δ1 = .ok .next δ2∧I (n + i + 1) δ2) →
   ∃ δ',forL g b ds δ = .ok .next δ'∧I (n + ds.length) δ'
 | [],n,δ,h,_=>⟨δ,rfl,h⟩
 | d :: r,n,δ,h,hs=>by
  obtain ⟨δ1,δ2,e1,e2,h2⟩:=hs 0 d δ rfl h
  obtain ⟨δ',e3,h3⟩:=z34 (g:=g) (b:=b) I r (n + 1) δ2 h2 (fun i d' δ' e hi=>by
   have:=hs (i + 1) d' δ' (by simpa using e) (by rw [show n + (i + 1)=n + 1 + i by omega]; exact hi)
   rw [show n + (i + 1) + 1=n + 1 + i + 1 by omega] at this
   exact this)
  refine ⟨δ',?_,by rw [Ws,show n + (r.length + 1)=n + 1 + r.length by omega]; exact h3⟩
  unfold forL
  rw [e1]
  simp only [e2,z0j,e3]
theorem z5A (xs:List Tx):z3M (xs.map .str)=some xs:=by
 induction xs with
 | nil=>rfl
 | cons x r ih=>simp [z3M,ih]
theorem z3s:∀ ts:List Tx,z0s [] ts=ts.flatten
 | []=>rfl
 | [x]=>by simp [z0s]
 | x :: y :: r=>by rw [z0s,z3s (y :: r)]; simp
theorem z9X (xs:List Nat):z1m (xs.map fun n=>[n])=xs.length:=by
 unfold z1m
 induction xs with
 | nil=>rfl
 | cons x r ih=>simp at ih ⊢; omega
theorem zcN (xs:List Nat):(xs.map fun n=>[n]).flatten=xs:=by
 induction xs with
 | nil=>rfl
 | cons x r ih=>simp [ih]
theorem zcM (xs:List Nat) (h:xs.length≤16777216):z1w [] (.lst (xs.map fun n=>.str [n]))=some (.pure (.str xs)):=by
 have e:(xs.map fun n=>D.str [n])=(xs.map fun n=>[n]).map D.str:=by simp
 unfold z1w
 simp only [e,z5A,z9X,z3s,zcN]
 rw [if_pos (by simpa using h)]
theorem z9t (bs:List Bool):z4L (bs.map .bl)=some bs:=by
 induction bs with
 | nil=>rfl
 | cons x r ih=>simp [z4L,ih]
theorem zbm (r:Tx) (c:Nat) (h:c < r.length) (hl:r.length≤64):pIx (.str r) (.int c)=some (.pure (.str [r.getD c 0])):=by
 unfold pIx
 have:W8=16777216:=rfl
 simp only
 rw [if_pos (by omega),z5E]
 simp [h]
theorem z9Y (r:Tx) (hl:r.length≤64):pLen (.str r)=some (.pure (.int r.length)):=by
 unfold pLen
 have:W8=16777216:=rfl
 simp only
 rw [if_pos (by omega)]
abbrev flD (fl:List Tx):D:=.tup (fl.map .str)
structure Rect (w:Nat) (fl:List Tx):Prop where
 h0:0 < fl.length
 h1:fl.length≤64
 w0:0 < w
 w1:w≤64
 all:∀ r ∈ fl,r.length=w
def turn (w:Nat) (fl:List Tx):List Tx:=(Ql w).map fun c=>fl.map fun r=>r.getD c 0
def back (fl:List Tx):List Tx:=fl.map List.reverse
def rng (r:S) (δ1:Dl):Rs (List D):=match r with
 | .pure (.int j)=>if z3c j then .ok (z1h 0 j.toNat) δ1 else .stuck
 | _=>.stuck
@[simp] theorem zgw (f:DE) (δ:Dl):z2n f δ=(f δ).bind fun r δ1=>rng r δ1:=id rfl
theorem z7A (w:Nat) (hw:w≤1000000):z3c (w:Int)=true:=by
 have h1 : -(4611686018427387904:Int)≤(w:Int):=by omega
 have h2:(w:Int) < 4611686018427387904:=by omega
 unfold z3c
 rw [We]
 exact ⟨decide_eq_true h1,decide_eq_true h2⟩
theorem zfh (j:Int) (hs:z3c j=true) (δ:Dl):rng (.pure (.int j)) δ = .ok (z1h 0 j.toNat) δ:=by unfold rng; simp only [hs,if_true]
theorem zd4 (w:Nat) (hw:w≤1000000) (δ:Dl):rng (.pure (.int w)) δ = .ok (z1h 0 w) δ:=by
 have:=zfh (w:Int) (z7A w hw) δ
 rwa [Int.toNat_natCast] at this
theorem z5h (h:(z1h 0 n)[i]? = some d):i < n∧d = .int (i:Int):=by
 unfold z1h at h
 rw [WN] at h
 by_cases hi:i < n
 ·rw [List.getElem?_range hi] at h
  simp at h
  exact ⟨hi,h.symm⟩
 ·rw [Qq (by simpa using hi)] at h
  cases h
theorem z8i (h:d ∈ z1h 0 n):∃ i:Nat,i < n∧d = .int (i:Int):=by
 obtain ⟨i,hi⟩:=List.getElem?_of_mem h
 exact ⟨i,z5h hi⟩
@[simp] theorem zdl (lo:Int) (n:Nat):(z1h lo n).length=n:=by simp [z1h]
theorem lt1 (a b:Nat):(([a]:Tx) < [b]) ↔ a < b:=by
 constructor
 ·intro h
  cases h with
  | cons h=>cases h
  | rel h=>exact h
 ·intro h; exact List.Lex.rel h
theorem zah {P:Nat→Prop}:∀ {xs:List D},(∀ x ∈ xs,∃ n,P n∧x = .str [n])→∃ row:List Nat,xs=row.map (fun n=>.str [n])∧∀ n ∈ row,P n
 | [],_=>⟨[],rfl,by simp⟩
 | x :: r,h=>by
  obtain ⟨n,hn,rfl⟩:=h x Wi
  obtain ⟨row,rfl,hr⟩:=zah (xs:=r) fun y hy=>h y (Wc _ hy)
  exact ⟨n :: row,rfl,by simpa using ⟨hn,hr⟩⟩
theorem zdT {R:D→D→Prop} {ds xs:List D} {Q:D→Prop} (hn:xs.length=ds.length) (hf:∀ (i:Nat) d x,ds[i]? = some d→xs[i]? = some x→R d x) (hq:∀ d x,d ∈ ds→R d x→Q x):∀ x ∈ xs,Q x:=fun x hx=>by
 obtain ⟨i,hi⟩:=List.getElem?_of_mem hx
 have h1:=(Wb.mp hi).1
 have h2:ds[i]? = some (ds[i]'(by omega)):=by simp [show i < ds.length by omega]
 exact hq _ x (Jv _) (hf i _ x h2 hi)
abbrev blD (b:Nat×List Tx):D:=.tup [.str [b.1],flD b.2]
abbrev ruD (h w:Nat) (bs:List (Nat×List Tx)):D:=.tup [.int h,.int w,.tup (bs.map blD)]
structure Rul (h w:Nat) (bs:List (Nat×List Tx)):Prop where
 h0:0 < h
 h1:h≤4
 w0:0 < w
 w1:w≤4
 hw:2 < h + w
 n0:0 < bs.length
 n1:bs.length≤26
 up:(bs.map (·.1)).Pairwise (· < ·)
 let':∀ b ∈ bs,97≤b.1∧b.1≤122
 blk:∀ b ∈ bs,b.2.length=h∧∀ r ∈ b.2,r.length=w∧∀ n ∈ r,n ∈ bs.map (·.1)
theorem z2j (f F:A→D) (δ:Dl):∀ (as:List A) (acc:List D),acc.length + as.length≤W8 →
  (∀ a ∈ as,∃ δ1 δ2 x δ3,g (.pure (f a)) δ=some δ1∧t δ1 = .ok true δ2∧el δ2 = .ok x δ3∧clrD cs δ3=δ∧x.d=F a)→z2h cs g t el (as.map f) δ acc = .ok (acc ++ as.map F) δ
 | [],acc,_,_=>by simp [z2h]
 | a :: r,acc,hl,hs=>by
  obtain ⟨δ1,δ2,x,δ3,e1,e2,e3,e4,e5⟩:=hs a Wi
  have hl':acc.length < W8:=by simp at hl; omega
  have ih:=z2j (cs:=cs) (g:=g) (t:=t) (el:=el) f F δ r (acc ++ [x.d]) (by simp at hl ⊢; omega) (fun a ha=>hs a (Wc _ ha))
  rw [WB]
  unfold z2h
  rw [e1]
  rw [e5] at ih
  simp only [e2,z0j,if_true,e3,if_pos hl',e4,e5,ih]
  simp
end DV
namespace K76
open PySem.W (nsIn keepIn codeIn findIn mroIn kitOne mg_of)
open PySem PySem.Spec PyProof.Rows L2 DV
def top (i:Nat):Stmt:=PySem.Challenge.pw_tilegrow_k76_texts_that_write_none.main.body.getD i (.Pass ⟨0,0,0,0⟩)
abbrev z28:Stmt:=top 28
abbrev z3g:Stmt:=top 12
abbrev z2G:Stmt:=top 13
abbrev z3i:Stmt:=top 21
abbrev z3h:Stmt:=top 29
abbrev z3Z:Stmt:=top 26
abbrev z40:Stmt:=top 30
abbrev z2H:Stmt:=top 14
abbrev z3k:Stmt:=top 18
abbrev z3X:Stmt:=top 15
abbrev z41:Stmt:=top 22
abbrev z1R:Stmt:=top 23
abbrev z3Y:Stmt:=top 31
abbrev z3j:Stmt:=top 27
abbrev z2K:Stmt:=top 38
abbrev z3l:Stmt:=top 37
abbrev z42:Stmt:=top 40
abbrev z43:Stmt:=top 41
abbrev z2l:Stmt:=top 42
abbrev z4W:Stmt:=top 43
abbrev z2L:Stmt:=top 33
abbrev z31:Stmt:=top 35
abbrev z44:Stmt:=top 34
abbrev z45:Stmt:=top 36
abbrev z2I:Stmt:=top 39
abbrev z2a:Stmt:=top 44
abbrev z2J:Stmt:=top 45
abbrev z30:Stmt:=top 46
abbrev z29:Stmt:=top 47
abbrev z73:Stmt:=top 48
abbrev si_h:Stmt:=(zeP (top 9)).getD 0 (.Pass ⟨0,0,0,0⟩)
theorem sci_h:FnScope ["self","row"] ["self","row"] (z05 si_h):=⟨rfl,rfl,rfl,by decide +kernel,rfl,by decide +kernel,by decide +kernel⟩
abbrev ys:List Tx:=[[78,111,84,101,120,116]]
section
variable (ce:Tx→Nat)
structure Txt (K:W0) (mg:Str→Option Value):Prop where
 z_ValueError:mg "ValueError" = none
 z_all:mg "all" = none
 z_bool:mg "bool" = none
 z_dict:mg "dict" = none
 z_enumerate:mg "enumerate" = none
 z_int:mg "int" = none
 z_isinstance:mg "isinstance" = none
 z_len:mg "len" = none
 z_list:mg "list" = none
 z_max:mg "max" = none
 z_range:mg "range" = none
 z_str:mg "str" = none
 z_tuple:mg "tuple" = none
 ty_bool:TyK K "bool"
 ty_int:TyK K "int"
 ty_str:TyK K "str"
 ty_tuple:TyK K "tuple"
 g_MOST_FIGURES:∃ t,mg "MOST_FIGURES" = some (.int 40 t)
 g_MOST_SIZE:∃ t,mg "MOST_SIZE" = some (.int 4 t)
 g_MOST_TILES:∃ t,mg "MOST_TILES" = some (.int 64 t)
 c_j:mg "FloorError" = some (.ref (ce [70,108,111,111,114,69,114,114,111,114]))
 c_a:mg "NoFloor" = some (.ref (ce [78,111,70,108,111,111,114]))
 c_b:mg "NoPlace" = some (.ref (ce [78,111,80,108,97,99,101]))
 c_c:mg "NoNumber" = some (.ref (ce [78,111,78,117,109,98,101,114]))
 c_d:mg "NoRow" = some (.ref (ce [78,111,82,111,119]))
 c_e:mg "Unlike" = some (.ref (ce [85,110,108,105,107,101]))
 c_f:mg "NoTile" = some (.ref (ce [78,111,84,105,108,101]))
 c_g:mg "NoRule" = some (.ref (ce [78,111,82,117,108,101]))
 c_h:mg "NoText" = some (.ref (ce [78,111,84,101,120,116]))
 c_i:mg "TooGreat" = some (.ref (ce [84,111,111,71,114,101,97,116]))
 q_j:ExcC K (ce [70,108,111,111,114,69,114,114,111,114])
 i_a:IsT K ce ys (.ref (ce [78,111,70,108,111,111,114])) (fun z=>z == [78,111,70,108,111,111,114])
 i_b:IsT K ce ys (.ref (ce [78,111,80,108,97,99,101])) (fun z=>z == [78,111,80,108,97,99,101])
 i_c:IsT K ce ys (.ref (ce [78,111,78,117,109,98,101,114])) (fun z=>z == [78,111,78,117,109,98,101,114])
 i_d:IsT K ce ys (.ref (ce [78,111,82,111,119])) (fun z=>z == [78,111,82,111,119])
 i_e:IsT K ce ys (.ref (ce [85,110,108,105,107,101])) (fun z=>z == [85,110,108,105,107,101])
 i_f:IsT K ce ys (.ref (ce [78,111,84,105,108,101])) (fun z=>z == [78,111,84,105,108,101])
 i_g:IsT K ce ys (.ref (ce [78,111,82,117,108,101])) (fun z=>z == [78,111,82,117,108,101])
 i_h:IsT K ce ys (.ref (ce [78,111,84,101,120,116])) (fun z=>z == [78,111,84,101,120,116])
 i_i:IsT K ce ys (.ref (ce [84,111,111,71,114,101,97,116])) (fun z=>z == [84,111,111,71,114,101,97,116])
 at_row:AtT K ce ys "row"
 i_ValueError:IsT K ce ys (.type "ValueError") (fun _=>true)
 m_j:∀ y ∈ ys,mg (toS y)=some (.ref (ce y))∧mroIn K (ce y) (.ref (ce [70,108,111,111,114,69,114,114,111,114]))=some true
end
def z2c:DS:=(dSeq (dIf (dOr (dNot (dTr (z2Y pLe pLe (eD (.int 1)) (eC1 pLen (bVar 0)) (bOf (eD (.int 40)))))) (dAnd (dTr (eOp pEq (eOpF pIx 0 (bOf (eD (.int 0)))) (bOf (eD (.str [48]))))) (dTr (eOpF pNe 0 (bOf (eD (.str [48]))))))) (dRet (eD (.bl false))) z0I) (dRet (eC1 pAll (bOf (z2q [1] (iSq (eVar 0)) (gNm [] 1) dYes (z2Y pLe pLe (eD (.str [48])) (eVar 1) (bOf (eD (.str [57])))))))))
def z0S:DF:=gOf [] 2 z2c
theorem z2f:z1s z0S:=z0p
theorem sc_number_written:FnScope ["text","sign"] ["text"] (z05 z28):=⟨rfl,rfl,rfl,by decide +kernel,rfl,by decide +kernel,by decide +kernel⟩
theorem z50 {K:W0} (F:Fun K "number_written" "number_written" z28 f fd) (hm:mg "number_written" = some (.ref f)) (hb:Binds K fd ["text"] []) (T:Txt ce K mg):KFn P w K mg base 1 "number_written" 1 z0S :=
 z1i (np:=[]) (fb:=z2c) F hm hb sc_number_written (fun c cdv A outer s H E hr hnp=>by
  have hq:=z1K hr
  refine (z01 ?_ ?_)
  ·refine (z16 ?_ ?_ ?_)
   ·exact (z2E (z2D (z1r (z6W z2x z2x z1N z1N z02 (z1g rfl T.z_len (z09 (pv 0)) (by rfl)) (z06 (z2k rfl T.g_MOST_FIGURES (by decide))) (by with_unfolding_all rfl))) (z1L (z2E (zac (z0J (z21 hq) z3n (z0A z0v z0O (pv 0) (z06 z02) (fun _ _=>rfl)) (z06 (z0x [48] (by decide +kernel))) (z0z _)) (z8B (z2F (z1G hq) z33 (pv 0) (z06 (z0x [48] (by decide +kernel))) (z0z _))))))))
   ·refine (z0c ?_)
    refine (z0n ?_)
    exact z3W
   ·exact z0F
  refine (z0c ?_)
  refine (z0n ?_)
  exact (z96 rfl rfl T.z_all (z06 (@z4V _ _ ([1]) _ _ _ _ _ _ _ _ _ _ rfl (z2r rfl rfl) (z5j (z0h (pv 0))) (fun l s0 H0 ex=>(@z2v _ _ _ _ ([]) (1) _ hnp sc_number_written.nd rfl (by first | exact Or.inl rfl | exact Or.inr rfl) (by first | exact Or.inl rfl | exact Or.inr rfl) (by decide))) (fun l s0 H0 ex=>z4O) (fun l s0 H0 ex=>(z93 z2x z2x z1N z1N (z0x [48] (by decide +kernel)) (z0h (pv 1)) (z06 (z0x [57] (by decide +kernel))) (by with_unfolding_all rfl))) (z5U hnp rfl) (by intro _; rfl))) (by rfl))) fun ss y h=>z0E h
def z3D:DS:=(dRet (eAnd (eIsi "int" (bVar 0)) (eAnd (eNot (eIsi "bool" (bVar 0))) (eOpF pLe 1 (bVar 0)))))
def z1B:DF:=gOf [] 2 z3D
theorem z5o:z1s z1B:=z0p
theorem z70:FnScope ["thing","least"] ["thing","least"] (z05 z3g):=⟨rfl,rfl,rfl,by decide +kernel,rfl,by decide +kernel,by decide +kernel⟩
theorem z7f {K:W0} (F:Fun K "whole_from" "whole_from" z3g f fd) (hm:mg "whole_from" = some (.ref f)) (hb:Binds K fd ["thing","least"] []) (T:Txt ce K mg):KFn P w K mg base 1 "whole_from" 2 z1B :=
 z1i (np:=[]) (fb:=z3D) F hm hb z70 (fun c cdv A outer s H E hr hnp=>by
  have hq:=z1K hr
  refine (z0c ?_)
  refine (z0n ?_)
  exact (z7H (z4t T.ty_int rfl T.z_isinstance rfl T.z_int boot_int (z09 (pv 0)) (by decide) (by decide) (by rfl) (by rfl)) (z7H (zd3 (z4t T.ty_bool rfl T.z_isinstance rfl T.z_bool boot_bool (z09 (pv 0)) (by decide) (by decide) (by rfl) (by rfl))) (z7E (z5G z2x z1N (pv 1) (z09 (pv 0)) (z0z _)))))) fun ss y h=>z0E h
def z2O:DS:=(dRet (eAnd (z08 z1B [.val (eVar 0),.val (eVar 1)]) (eOpF pLe 0 (bVar 2))))
def z0Z:DF:=gOf [] 3 z2O
theorem z2y:z1s z0Z:=z0p
theorem z5H:FnScope ["thing","least","most"] ["thing","least","most"] (z05 z2G):=⟨rfl,rfl,rfl,by decide +kernel,rfl,by decide +kernel,by decide +kernel⟩
theorem z5P {K:W0} (F:Fun K "whole_within" "whole_within" z2G f fd) (hm:mg "whole_within" = some (.ref f)) (hb:Binds K fd ["thing","least","most"] []) (T:Txt ce K mg) (k_whole_from:KFn P w K mg base 1 "whole_from" 2 z1B):KFn P w K mg base 2 "whole_within" 3 z0Z :=
 z1i (np:=[]) (fb:=z2O) F hm hb z5H (fun c cdv A outer s H E hr hnp=>by
  have hq:=z1K hr
  refine (z0c ?_)
  refine (z0n ?_)
  exact (z7H (@z0i _ _ _ _ _ (1) _ _ _ _ _ k_whole_from z5o (hr.mono (by decide)) rfl (z0a (z0h (pv 0)) (z0a (z0h (pv 1)) z0r (by rfl)) (by rfl)) rfl (by decide) (by rfl) (by rfl)) (z7E (z5G z2x z1N (pv 0) (z09 (pv 2)) (z0z _))))) fun ss y h=>z0E h
def z3F:DS:=(dSeq (dIf (dOr (dNot (dTr (z08 z0Z [.val (eVar 0),.val (eD (.int 1)),.val (eD (.int 4))]))) (dNot (dTr (z08 z0Z [.val (eVar 1),.val (eD (.int 1)),.val (eD (.int 4))])))) (dRet (eD (.bl false))) z0I) (dRet (eOr (eOpF pGt 0 (bOf (eD (.int 1)))) (eOpF pGt 1 (bOf (eD (.int 1)))))))
def z1D:DF:=gOf [] 2 z3F
theorem z5q:z1s z1D:=z0p
theorem z71:FnScope ["high","wide"] ["high","wide"] (z05 z3i):=⟨rfl,rfl,rfl,by decide +kernel,rfl,by decide +kernel,by decide +kernel⟩
theorem z7h {K:W0} (F:Fun K "sizes_good" "sizes_good" z3i f fd) (hm:mg "sizes_good" = some (.ref f)) (hb:Binds K fd ["high","wide"] []) (T:Txt ce K mg) (k_whole_within:KFn P w K mg base 2 "whole_within" 3 z0Z):KFn P w K mg base 3 "sizes_good" 2 z1D :=
 z1i (np:=[]) (fb:=z3F) F hm hb z71 (fun c cdv A outer s H E hr hnp=>by
  have hq:=z1K hr
  refine (z01 ?_ ?_)
  ·refine (z16 ?_ ?_ ?_)
   ·exact (z2E (z2D (z1r (z1E (@z0i _ _ _ _ _ (2) _ _ _ _ _ k_whole_within z2y (hr.mono (by decide)) rfl (z0a (z0h (pv 0)) (z0a z02 (z0a (z2k rfl T.g_MOST_SIZE (by decide)) z0r (by rfl)) (by rfl)) (by rfl)) rfl (by decide) (by rfl) (by rfl)) (by intro _; rfl))) (z1L (z1r (z1E (@z0i _ _ _ _ _ (2) _ _ _ _ _ k_whole_within z2y (hr.mono (by decide)) rfl (z0a (z0h (pv 1)) (z0a z02 (z0a (z2k rfl T.g_MOST_SIZE (by decide)) z0r (by rfl)) (by rfl)) (by rfl)) rfl (by decide) (by rfl) (by rfl)) (by intro _; rfl))))))
   ·refine (z0c ?_)
    refine (z0n ?_)
    exact z3W
   ·exact z0F
  refine (z0c ?_)
  refine (z0n ?_)
  exact (se_or (z5G zdd z1N (pv 0) (z06 z02) (z0z _)) (z7E (z5G zdd z1N (pv 1) (z06 z02) (z0z _))))) fun ss y h=>z0E h
abbrev z37 (G0:DF)(G1:DF):DS:=(dSeq (dAsg (eC1 (z0R 32) (bVar 0)) (gNm [] 1)) (dSeq (dIf (dOr (dTr (eOp pNe (eC1 pLen (bVar 1)) (bOf (eD (.int 3))))) (dOr (dTr (eOp pNe (eOpF pIx 1 (bOf (eD (.int 0)))) (bOf (eD (.str [114,117,108,101]))))) (dOr (dNot (dTr (z08 G0 [.val (eOpF pIx 1 (bOf (eD (.int 1))))]))) (dNot (dTr (z08 G0 [.val (eOpF pIx 1 (bOf (eD (.int 2))))])))))) (z0P [78,111,84,101,120,116] [[114,111,119]] (z0m (eD (.int 1)) aNil)) z0I) (dSeq (dAsg (eC1 z7R (bOf (eOpF pIx 1 (bOf (eD (.int 1)))))) (gNm [] 2)) (dSeq (dAsg (eC1 z7R (bOf (eOpF pIx 1 (bOf (eD (.int 2)))))) (gNm [] 3)) (dSeq (dIf (dNot (dTr (z08 G1 [.val (eVar 2),.val (eVar 3)]))) (z0P [78,111,84,101,120,116] [[114,111,119]] (z0m (eD (.int 1)) aNil)) z0I) (dRet (eTup (z0m (eVar 2) (z0m (eVar 3) aNil)))))))))
def z3E:DS:=z37 z0S z1D
def z1C:DX:=gOfX [] 4 z3E
theorem z5p:z6P z1C:=z59
theorem sc_sizes_read:FnScope ["row","words","high","wide"] ["row"] (z05 z3h):=⟨rfl,rfl,rfl,by decide +kernel,rfl,by decide +kernel,by decide +kernel⟩
theorem z7g {K:W0} (F:Fun K "sizes_read" "sizes_read" z3h f fd) (hm:mg "sizes_read" = some (.ref f)) (hb:Binds K fd ["row"] []) (T:Txt ce K mg) (k_number_written:KFn P w K mg base 1 "number_written" 1 z0S) (k_sizes_good:KFn P w K mg base 3 "sizes_good" 2 z1D) (n_h:IniK P w K mg base (ce [78,111,84,101,120,116]) ["row"]):KFnX P w K mg base 4 "sizes_read" 1 z1C :=
 z8R (np:=[]) (fb:=z3E) F hm hb sc_sizes_read (fun c cdv A outer s H E hr hnp hxo=>by
  have hq:=z1K hr
  refine (z01 ?_ ?_)
  ·exact (@z0t _ _ _ _ _ _ ([]) (1) _ hnp sc_sizes_read.nd rfl (Or.inl rfl) (z1F 32 (z09 (pv 0))) rfl (Or.inl rfl))
  refine (z01 ?_ ?_)
  ·refine (z16 ?_ ?_ ?_)
   ·exact (z2E (z2D (z0J (z1G hq) z33 (z1g rfl T.z_len (z09 (pv 1)) (by rfl)) (z06 z02) (z0z _)) (z2D (z0J (z1G hq) z33 (z0A z0v z0O (pv 1) (z06 z02) (fun _ _=>rfl)) (z06 (z0x [114,117,108,101] (by decide +kernel))) (z0z _)) (z2D (z1r (z1E (@z0i _ _ _ _ _ (1) _ _ _ _ _ k_number_written z2f (hr.mono (by decide)) rfl (z0a (z0A z0v z0O (pv 1) (z06 z02) (fun _ _=>rfl)) z0r (by rfl)) rfl (by decide) (by rfl) (by rfl)) (by intro _; rfl))) (z1L (z1r (z1E (@z0i _ _ _ _ _ (1) _ _ _ _ _ k_number_written z2f (hr.mono (by decide)) rfl (z0a (z0A z0v z0O (pv 1) (z06 z02) (fun _ _=>rfl)) z0r (by rfl)) rfl (by decide) (by rfl) (by rfl)) (by intro _; rfl))))))))
   ·refine (z0c ?_)
    exact (z1Y [78,111,84,101,120,116] [[114,111,119]] n_h (hr.mono (by decide)) rfl rfl T.c_h (z04 z02 z0H (by rfl)) hxo (by decide) (by decide +kernel) (by decide) (by decide +kernel) (by decide) (by rfl) (by rfl) (by rfl))
   ·exact z0F
  refine (z01 ?_ ?_)
  ·exact (@z0t _ _ _ _ _ _ ([]) (2) _ hnp sc_sizes_read.nd rfl (Or.inl rfl) (z8C rfl T.z_int (z06 (z0A z0v z0O (pv 1) (z06 z02) (fun _ _=>rfl)))) rfl (Or.inl rfl))
  refine (z01 ?_ ?_)
  ·exact (@z0t _ _ _ _ _ _ ([]) (3) _ hnp sc_sizes_read.nd rfl (Or.inl rfl) (z8C rfl T.z_int (z06 (z0A z0v z0O (pv 1) (z06 z02) (fun _ _=>rfl)))) rfl (Or.inl rfl))
  refine (z01 ?_ ?_)
  ·refine (z16 ?_ ?_ ?_)
   ·exact (z1r (z1E (@z0i _ _ _ _ _ (3) _ _ _ _ _ k_sizes_good z5q (hr.mono (by decide)) rfl (z0a (z0h (pv 2)) (z0a (z0h (pv 3)) z0r (by rfl)) (by rfl)) rfl (by decide) (by rfl) (by rfl)) (by intro _; rfl)))
   ·refine (z0c ?_)
    exact (z1Y [78,111,84,101,120,116] [[114,111,119]] n_h (hr.mono (by decide)) rfl rfl T.c_h (z04 z02 z0H (by rfl)) hxo (by decide) (by decide +kernel) (by decide) (by decide +kernel) (by decide) (by rfl) (by rfl) (by rfl))
   ·exact z0F
  refine (z0c ?_)
  refine (z0n ?_)
  exact (z4s (z04 (z0h (pv 2)) (z04 (z0h (pv 3)) z0H (by rfl)) (by rfl)) (by decide))) fun ss y h=>z5z h
def z4j:DS:=(dRet (eC1 z2m (bOf (eC1 (z0R 47) (bVar 0)))))
def z1b:DF:=gOf [] 1 z4j
theorem z3o:z1s z1b:=z0p
theorem z7J:FnScope ["text"] ["text"] (z05 z3Z):=⟨rfl,rfl,rfl,by decide +kernel,rfl,by decide +kernel,by decide +kernel⟩
theorem z7X {K:W0} (F:Fun K "rows_read" "rows_read" z3Z f fd) (hm:mg "rows_read" = some (.ref f)) (hb:Binds K fd ["text"] []) (T:Txt ce K mg):KFn P w K mg base 1 "rows_read" 1 z1b :=
 z1i (np:=[]) (fb:=z4j) F hm hb z7J (fun c cdv A outer s H E hr hnp=>by
  have hq:=z1K hr
  refine (z0c ?_)
  refine (z0n ?_)
  exact (z5w rfl T.z_tuple (z06 (z1F 47 (z09 (pv 0)))) (by rfl))) fun ss y h=>z0E h
abbrev z3C (G0:DF):DS:=(dSeq (dAsg (eC1 (z0R 32) (bVar 0)) (gNm [] 1)) (dRet (eIf (dTr (eOp pEq (eC1 pLen (bVar 1)) (bOf (eD (.int 2))))) (eTup (z0m (eOpF pIx 1 (bOf (eD (.int 0)))) (z0m (z08 G0 [.val (eOpF pIx 1 (bOf (eD (.int 1))))]) aNil))) (eD .non))))
def z4k:DS:=z3C z1b
def z1T:DF:=gOf [] 2 z4k
theorem z62:z1s z1T:=z0p
theorem sc_pair_read:FnScope ["row","words"] ["row"] (z05 z40):=⟨rfl,rfl,rfl,by decide +kernel,rfl,by decide +kernel,by decide +kernel⟩
theorem z7Y {K:W0} (F:Fun K "pair_read" "pair_read" z40 f fd) (hm:mg "pair_read" = some (.ref f)) (hb:Binds K fd ["row"] []) (T:Txt ce K mg) (k_rows_read:KFn P w K mg base 1 "rows_read" 1 z1b):KFn P w K mg base 2 "pair_read" 1 z1T :=
 z1i (np:=[]) (fb:=z4k) F hm hb sc_pair_read (fun c cdv A outer s H E hr hnp=>by
  have hq:=z1K hr
  refine (z01 ?_ ?_)
  ·exact (@z0t _ _ _ _ _ _ ([]) (1) _ hnp sc_pair_read.nd rfl (Or.inl rfl) (z1F 32 (z09 (pv 0))) rfl (Or.inl rfl))
  refine (z0c ?_)
  refine (z0n ?_)
  exact (se_if (z0J (z21 hq) z3n (z1g rfl T.z_len (z09 (pv 1)) (by rfl)) (z06 z02) (z0z _)) (z4s (z04 (z0A z0v z0O (pv 1) (z06 z02) (fun _ _=>rfl)) (z04 (@z0i _ _ _ _ _ (1) _ _ _ _ _ k_rows_read z3o (hr.mono (by decide)) rfl (z0a (z0A z0v z0O (pv 1) (z06 z02) (fun _ _=>rfl)) z0r (by rfl)) rfl (by decide) (by rfl) (by rfl)) z0H (by rfl)) (by rfl)) (by decide)) z2U)) fun ss y h=>z0E h
def z2P:DS:=(dSeq (dIf (dOr (dNot (dTr (eIsi "str" (bVar 0)))) (dNot (dTr (z2Y pLe pLe (eD (.int 1)) (eC1 pLen (bVar 0)) (bVar 1))))) (dRet (eD (.bl false))) z0I) (dRet (eC1 pAll (bOf (z2q [2] (iSq (eVar 0)) (gNm [] 2) dYes (z2Y pLe pLe (eD (.str [97])) (eVar 2) (bOf (eD (.str [122])))))))))
def z0C:DF:=gOf [] 3 z2P
theorem z2z:z1s z0C:=z0p
theorem sc_letters_good:FnScope ["thing","most","sign"] ["thing","most"] (z05 z2H):=⟨rfl,rfl,rfl,by decide +kernel,rfl,by decide +kernel,by decide +kernel⟩
theorem z5Q {K:W0} (F:Fun K "letters_good" "letters_good" z2H f fd) (hm:mg "letters_good" = some (.ref f)) (hb:Binds K fd ["thing","most"] []) (T:Txt ce K mg):KFn P w K mg base 1 "letters_good" 2 z0C :=
 z1i (np:=[]) (fb:=z2P) F hm hb sc_letters_good (fun c cdv A outer s H E hr hnp=>by
  have hq:=z1K hr
  refine (z01 ?_ ?_)
  ·refine (z16 ?_ ?_ ?_)
   ·exact (z2E (z2D (z1r (z1E (z4t T.ty_str rfl T.z_isinstance rfl T.z_str boot_str (z09 (pv 0)) (by decide) (by decide) (by rfl) (by rfl)) (by intro _; rfl))) (z1L (z1r (z6W z2x z2x z1N z1N z02 (z1g rfl T.z_len (z09 (pv 0)) (by rfl)) (z09 (pv 1)) (by with_unfolding_all rfl))))))
   ·refine (z0c ?_)
    refine (z0n ?_)
    exact z3W
   ·exact z0F
  refine (z0c ?_)
  refine (z0n ?_)
  exact (z96 rfl rfl T.z_all (z06 (@z4V _ _ ([2]) _ _ _ _ _ _ _ _ _ _ rfl (z2r rfl rfl) (z5j (z0h (pv 0))) (fun l s0 H0 ex=>(@z2v _ _ _ _ ([]) (2) _ hnp sc_letters_good.nd rfl (by first | exact Or.inl rfl | exact Or.inr rfl) (by first | exact Or.inl rfl | exact Or.inr rfl) (by decide))) (fun l s0 H0 ex=>z4O) (fun l s0 H0 ex=>(z93 z2x z2x z1N z1N (z0x [97] (by decide +kernel)) (z0h (pv 2)) (z06 (z0x [122] (by decide +kernel))) (by with_unfolding_all rfl))) (z5U hnp rfl) (by intro _; rfl))) (by rfl))) fun ss y h=>z0E h
abbrev B8_:DS:=dIf (dOr (dNot (dTr (z08 z0C [.val (eVar 1),.val (eD (.int 64))]))) (dTr (eOp pNe (eC1 pLen (bVar 1)) (bOf (eC1 pLen (bOf (eOpF pIx 0 (bOf (eD (.int 0)))))))))) (dRet (eD (.bl false))) z0I
def z3G:DS:=(dSeq (dIf (dOr (dNot (dTr (eIsi "tuple" (bVar 0)))) (dNot (dTr (z2Y pLe pLe (eD (.int 1)) (eC1 pLen (bVar 0)) (bOf (eD (.int 64))))))) (dRet (eD (.bl false))) z0I) (dSeq (dFor (iSq (eVar 0)) (gNm [] 1) (B8_)) (dRet (eD (.bl true)))))
def z0V:DF:=gOf [] 2 z3G
theorem z3d:z1s z0V:=z0p
theorem sc_floor_good:FnScope ["thing","row"] ["thing"] (z05 z3k):=⟨rfl,rfl,rfl,by decide +kernel,rfl,by decide +kernel,by decide +kernel⟩
theorem z7j {K:W0} (F:Fun K "floor_good" "floor_good" z3k f fd) (hm:mg "floor_good" = some (.ref f)) (hb:Binds K fd ["thing"] []) (T:Txt ce K mg) (k_letters_good:KFn P w K mg base 1 "letters_good" 2 z0C):KFn P w K mg base 2 "floor_good" 1 z0V :=
 z1i (np:=[]) (fb:=z3G) F hm hb sc_floor_good (fun c cdv A outer s H E hr hnp=>by
  have hq:=z1K hr
  refine (z01 ?_ ?_)
  ·refine (z16 ?_ ?_ ?_)
   ·exact (z2E (z2D (z1r (z1E (z4t T.ty_tuple rfl T.z_isinstance rfl T.z_tuple boot_tuple (z09 (pv 0)) (by decide) (by decide) (by rfl) (by rfl)) (by intro _; rfl))) (z1L (z1r (z6W z2x z2x z1N z1N z02 (z1g rfl T.z_len (z09 (pv 0)) (by rfl)) (z06 (z2k rfl T.g_MOST_TILES (by decide))) (by with_unfolding_all rfl))))))
   ·refine (z0c ?_)
    refine (z0n ?_)
    exact z3W
   ·exact z0F
  refine (z01 ?_ ?_)
  ·refine (z3f PassesOwn.never rfl ?_ ?_ ?_ (by intro _; rfl))
   ·exact (z5j (z0h (pv 0)))
   ·exact (@z0Q _ _ _ ([]) (1) _ hnp sc_floor_good.nd rfl (Or.inl rfl) (Or.inl rfl))
   ·refine (z0c ?_)
    refine (z16 ?_ ?_ ?_)
    ·exact (z2E (z2D (z1r (z1E (@z0i _ _ _ _ _ (1) _ _ _ _ _ k_letters_good z2z (hr.mono (by decide)) rfl (z0a (z0h (pv 1)) (z0a (z2k rfl T.g_MOST_TILES (by decide)) z0r (by rfl)) (by rfl)) rfl (by decide) (by rfl) (by rfl)) (by intro _; rfl))) (z1L (z0J (z1G hq) z33 (z1g rfl T.z_len (z09 (pv 1)) (by rfl)) (z06 (z1g rfl T.z_len (z06 (z0A z0v z0O (pv 0) (z06 z02) (fun _ _=>rfl))) (by rfl))) (z0z _)))))
    ·refine (z0c ?_)
     refine (z0n ?_)
     exact z3W
    ·exact z0F
  refine (z0c ?_)
  refine (z0n ?_)
  exact z3W) fun ss y h=>z0E h
def z4i:DS:=(dRet (z08 z0C [.val (eVar 0),.val (eD (.int 1))]))
def z1S:DF:=gOf [] 1 z4i
theorem z60:z1s z1S:=z0p
theorem z7I:FnScope ["thing"] ["thing"] (z05 z3X):=⟨rfl,rfl,rfl,by decide +kernel,rfl,by decide +kernel,by decide +kernel⟩
theorem z7V {K:W0} (F:Fun K "tile_good" "tile_good" z3X f fd) (hm:mg "tile_good" = some (.ref f)) (hb:Binds K fd ["thing"] []) (T:Txt ce K mg) (k_letters_good:KFn P w K mg base 1 "letters_good" 2 z0C):KFn P w K mg base 2 "tile_good" 1 z1S :=
 z1i (np:=[]) (fb:=z4i) F hm hb z7I (fun c cdv A outer s H E hr hnp=>by
  have hq:=z1K hr
  refine (z0c ?_)
  refine (z0n ?_)
  exact (@z0i _ _ _ _ _ (1) _ _ _ _ _ k_letters_good z2z (hr.mono (by decide)) rfl (z0a (z0h (pv 0)) (z0a z02 z0r (by rfl)) (by rfl)) rfl (by decide) (by rfl) (by rfl))) fun ss y h=>z0E h
def z4l:DS:=(dSeq (dIf (dOr (dNot (dTr (eIsi "tuple" (bVar 2)))) (dTr (eOp pNe (eC1 pLen (bVar 2)) (bOf (eD (.int 2)))))) (dRet (eD (.bl false))) z0I) (dSeq (dAsg (eVar 2) (gTp 2 (z0l (gNm [] 3) (z0l (gNm [] 4) z1j)))) (dSeq (dIf (dOr (dNot (dTr (z08 z1S [.val (eVar 3)]))) (dNot (dTr (z08 z0V [.val (eVar 4)])))) (dRet (eD (.bl false))) z0I) (dRet (eAnd (eOp pEq (eC1 pLen (bVar 4)) (bVar 0)) (eOp pEq (eC1 pLen (bOf (eOpF pIx 4 (bOf (eD (.int 0)))))) (bVar 1)))))))
def z1U:DF:=gOf [] 5 z4l
theorem z63:z1s z1U:=z0p
theorem sc_pair_good:FnScope ["high","wide","thing","tile","block"] ["high","wide","thing"] (z05 z41):=⟨rfl,rfl,rfl,by decide +kernel,rfl,by decide +kernel,by decide +kernel⟩
theorem z7Z {K:W0} (F:Fun K "pair_good" "pair_good" z41 f fd) (hm:mg "pair_good" = some (.ref f)) (hb:Binds K fd ["high","wide","thing"] []) (T:Txt ce K mg) (k_floor_good:KFn P w K mg base 2 "floor_good" 1 z0V) (k_tile_good:KFn P w K mg base 2 "tile_good" 1 z1S):KFn P w K mg base 3 "pair_good" 3 z1U :=
 z1i (np:=[]) (fb:=z4l) F hm hb sc_pair_good (fun c cdv A outer s H E hr hnp=>by
  have hq:=z1K hr
  refine (z01 ?_ ?_)
  ·refine (z16 ?_ ?_ ?_)
   ·exact (z2E (z2D (z1r (z1E (z4t T.ty_tuple rfl T.z_isinstance rfl T.z_tuple boot_tuple (z09 (pv 2)) (by decide) (by decide) (by rfl) (by rfl)) (by intro _; rfl))) (z1L (z0J (z1G hq) z33 (z1g rfl T.z_len (z09 (pv 2)) (by rfl)) (z06 z02) (z0z _)))))
   ·refine (z0c ?_)
    refine (z0n ?_)
    exact z3W
   ·exact z0F
  refine (z01 ?_ ?_)
  ·refine (z90 ?_ ?_ (by rfl) (by rfl) (by rfl))
   ·exact (z0h (pv 2))
   ·exact (z6A rfl (z1t (@z0Q _ _ _ ([]) (3) _ hnp sc_pair_good.nd rfl (Or.inl rfl) (Or.inl rfl)) (z1t (@z0Q _ _ _ ([]) (4) _ hnp sc_pair_good.nd rfl (Or.inl rfl) (Or.inl rfl)) z4U (by rfl)) (by rfl)) (by rfl) (by rfl))
  refine (z01 ?_ ?_)
  ·refine (z16 ?_ ?_ ?_)
   ·exact (z2E (z2D (z1r (z1E (@z0i _ _ _ _ _ (2) _ _ _ _ _ k_tile_good z60 (hr.mono (by decide)) rfl (z0a (z0h (pv 3)) z0r (by rfl)) rfl (by decide) (by rfl) (by rfl)) (by intro _; rfl))) (z1L (z1r (z1E (@z0i _ _ _ _ _ (2) _ _ _ _ _ k_floor_good z3d (hr.mono (by decide)) rfl (z0a (z0h (pv 4)) z0r (by rfl)) rfl (by decide) (by rfl) (by rfl)) (by intro _; rfl))))))
   ·refine (z0c ?_)
    refine (z0n ?_)
    exact z3W
   ·exact z0F
  refine (z0c ?_)
  refine (z0n ?_)
  exact (z7H (z92 (z21 hq) z3n (z1g rfl T.z_len (z09 (pv 4)) (by rfl)) (z09 (pv 0)) (z0z _)) (z7E (z92 (z21 hq) z3n (z1g rfl T.z_len (z06 (z0A z0v z0O (pv 4) (z06 z02) (fun _ _=>rfl))) (by rfl)) (z09 (pv 1)) (z0z _))))) fun ss y h=>z0E h
abbrev B3_:DS:=dFor (iSq (eC1 (z1w []) (bOf (eOpF pIx 3 (bOf (eD (.int 1))))))) (gNm [] 4) (dIf (dTr (eOp (pIn true) (eVar 4) (bVar 1))) (dRet (eVar 2)) z0I)
def z1p:DS:=(dSeq (dAsg (eC1 z46 (bVar 0)) (gNm [] 1)) (dSeq (dFor (zcG (eVar 0)) (gTp 2 (z0l (gNm [] 2) (z0l (gNm [] 3) z1j))) (B3_)) (dRet (eD .non))))
def z0G:DF:=gOf [] 5 z1p
theorem z3p:z1s z0G:=z0p
theorem sc_first_unblocked:FnScope ["pairs","block_of","place","pair","tile"] ["pairs"] (z05 z1R):=⟨rfl,rfl,rfl,by decide +kernel,rfl,by decide +kernel,by decide +kernel⟩
theorem z4z {K:W0} (F:Fun K "first_unblocked" "first_unblocked" z1R f fd) (hm:mg "first_unblocked" = some (.ref f)) (hb:Binds K fd ["pairs"] []) (T:Txt ce K mg):KFn P w K mg base 1 "first_unblocked" 1 z0G :=
 z1i (np:=[]) (fb:=z1p) F hm hb sc_first_unblocked (fun c cdv A outer s H E hr hnp=>by
  have hq:=z1K hr
  refine (z01 ?_ ?_)
  ·exact (@z0t _ _ _ _ _ _ ([]) (1) _ hnp sc_first_unblocked.nd rfl (Or.inl rfl) (zak rfl rfl T.z_dict (z09 (pv 0)) (by rfl)) rfl (Or.inl rfl))
  refine (z01 ?_ ?_)
  ·refine (z3f PassesOwn.never rfl ?_ ?_ ?_ (by intro _; rfl))
   ·exact (zdP rfl T.z_enumerate (z0h (pv 0)) (by rfl))
   ·exact (z6A rfl (z1t (@z0Q _ _ _ ([]) (2) _ hnp sc_first_unblocked.nd rfl (Or.inl rfl) (Or.inl rfl)) (z1t (@z0Q _ _ _ ([]) (3) _ hnp sc_first_unblocked.nd rfl (Or.inl rfl) (Or.inl rfl)) z4U (by rfl)) (by rfl)) (by rfl) (by rfl))
   ·refine (z0c ?_)
    refine (z3f PassesOwn.never rfl ?_ ?_ ?_ (by intro _; rfl))
    ·exact (z5j (z3V [] (z06 (z0A z0v z0O (pv 3) (z06 z02) (fun _ _=>rfl))) (by decide +kernel) (by rfl) (by rfl) (by rfl) (by rfl)))
    ·exact (@z0Q _ _ _ ([]) (4) _ hnp sc_first_unblocked.nd rfl (Or.inl rfl) (Or.inl rfl))
    ·refine (z0c ?_)
     refine (z16 ?_ ?_ ?_)
     ·exact (z0J (z5O hq) (z9f true) (z0h (pv 4)) (z09 (pv 1)) rfl)
     ·refine (z0c ?_)
      refine (z0n ?_)
      exact (z0h (pv 2))
     ·exact z0F
  refine (z0c ?_)
  refine (z0n ?_)
  exact z2U) fun ss y h=>z0E h
abbrev B7_:DS:=dIf (dNot (dTr (eIsi "str" (bVar 0)))) (z0P [78,111,84,101,120,116] [[114,111,119]] (z0m (eD (.int 0)) aNil)) z0I
abbrev z2B (G0:DX)(G1:DF)(G2:DF)(G3:DF):DS:=(dSeq (B7_) (dSeq (dAsg (eC1 (z0R 10) (bVar 0)) (gNm [] 1)) (dSeq (dAsg (z2A G0 [.val (eOpF pIx 1 (bOf (eD (.int 0))))]) (gTp 2 (z0l (gNm [] 2) (z0l (gNm [] 3) z1j)))) (dSeq (dAsg (eLst aNil) (gNm [] 4)) (dSeq (dAsg (eD (.str [])) (gNm [] 5)) (dSeq (dFor (z8f (eSlN 1 (z1x (eD (.int 1))) z2M)) (gTp 2 (z0l (gNm [] 6) (z0l (gNm [] 7) z1j))) (dSeq (dAsg (z08 G1 [.val (eVar 7)]) (gNm [] 8)) (dSeq (dIf (dOr (dNot (dTr (z08 G2 [.val (eVar 2),.val (eVar 3),.val (eVar 8)]))) (dTr (eOp pLe (eOpF pIx 8 (bOf (eD (.int 0)))) (bVar 5)))) (z0P [78,111,84,101,120,116] [[114,111,119]] (z0m (eVar 6) aNil)) z0I) (dSeq (dAsg (eOpF pIx 8 (bOf (eD (.int 0)))) (gNm [] 5)) (z1o 4 (eVar 8)))))) (dSeq (dIf (dTr (eOp pEq (eC1 pLen (bVar 4)) (bOf (eD (.int 0))))) (z0P [78,111,84,101,120,116] [[114,111,119]] (z0m (eD (.int 2)) aNil)) z0I) (dSeq (dAsg (z08 G3 [.val (eVar 4)]) (gNm [] 9)) (dSeq (dIf (dTr (eOp (pIsN true) (eVar 9) (bOf (eD .non)))) (z0P [78,111,84,101,120,116] [[114,111,119]] (z0m (eOpF pAdd 9 (bOf (eD (.int 2)))) aNil)) z0I) (dRet (eTup (z0m (eVar 2) (z0m (eVar 3) (z0m (eC1 z2m (bVar 4)) aNil))))))))))))))
def z39:DS:=z2B z1C z1T z1U z0G
def z1a:DX:=gOfX [] 10 z39
theorem z61:z6P z1a:=z59
theorem sc_rule_read:FnScope ["text","rows","high","wide","pairs","ahead","number","row","pair","lacking"] ["text"] (z05 z3Y):=⟨rfl,rfl,rfl,by decide +kernel,rfl,by decide +kernel,by decide +kernel⟩
theorem z7W {K:W0} (F:Fun K "rule_read" "rule_read" z3Y f fd) (hm:mg "rule_read" = some (.ref f)) (hb:Binds K fd ["text"] []) (T:Txt ce K mg) (k_sizes_read:KFnX P w K mg base 4 "sizes_read" 1 z1C) (k_pair_read:KFn P w K mg base 2 "pair_read" 1 z1T) (k_pair_good:KFn P w K mg base 3 "pair_good" 3 z1U) (k_first_unblocked:KFn P w K mg base 1 "first_unblocked" 1 z0G) (n_h:IniK P w K mg base (ce [78,111,84,101,120,116]) ["row"]):KFnX P w K mg base 5 "rule_read" 1 z1a :=
 z8R (np:=[]) (fb:=z39) F hm hb sc_rule_read (fun c cdv A outer s H E hr hnp hxo=>by
  have hq:=z1K hr
  refine (z01 ?_ ?_)
  ·refine (z16 ?_ ?_ ?_)
   ·exact (z1r (z1E (z4t T.ty_str rfl T.z_isinstance rfl T.z_str boot_str (z09 (pv 0)) (by decide) (by decide) (by rfl) (by rfl)) (by intro _; rfl)))
   ·refine (z0c ?_)
    exact (z1Y [78,111,84,101,120,116] [[114,111,119]] n_h (hr.mono (by decide)) rfl rfl T.c_h (z04 z02 z0H (by rfl)) hxo (by decide) (by decide +kernel) (by decide) (by decide +kernel) (by decide) (by rfl) (by rfl) (by rfl))
   ·exact z0F
  refine (z01 ?_ ?_)
  ·exact (@z0t _ _ _ _ _ _ ([]) (1) _ hnp sc_rule_read.nd rfl (Or.inl rfl) (z1F 10 (z09 (pv 0))) rfl (Or.inl rfl))
  refine (z01 ?_ ?_)
  ·refine (z90 ?_ ?_ (by rfl) (by rfl) (by rfl))
   ·exact (@z6Z _ _ _ _ _ (4) _ _ _ _ _ k_sizes_read z5p (hr.mono (by decide)) rfl hxo rfl (z0a (z0A z0v z0O (pv 1) (z06 z02) (fun _ _=>rfl)) z0r (by rfl)) rfl (by decide) (by rfl) (by rfl))
   ·exact (z6A rfl (z1t (@z0Q _ _ _ ([]) (2) _ hnp sc_rule_read.nd rfl (Or.inl rfl) (Or.inl rfl)) (z1t (@z0Q _ _ _ ([]) (3) _ hnp sc_rule_read.nd rfl (Or.inl rfl) (Or.inl rfl)) z4U (by rfl)) (by rfl)) (by rfl) (by rfl))
  refine (z01 ?_ ?_)
  ·exact (@z0t _ _ _ _ _ _ ([]) (4) _ hnp sc_rule_read.nd rfl (Or.inl rfl) (z1z z0H (by decide)) rfl (Or.inl rfl))
  refine (z01 ?_ ?_)
  ·exact (@z0t _ _ _ _ _ _ ([]) (5) _ hnp sc_rule_read.nd rfl (Or.inl rfl) (z0x [] (by decide +kernel)) rfl (Or.inl rfl))
  refine (z01 ?_ ?_)
  ·refine (zdJ rfl ?_ ?_ ?_ (by intro _; rfl))
   ·exact (zbT rfl T.z_enumerate (z2w (pv 1) (z1k z02) z1Q) (by rfl))
   ·exact (z6A rfl (z1t (@z0Q _ _ _ ([]) (6) _ hnp sc_rule_read.nd rfl (Or.inl rfl) (Or.inl rfl)) (z1t (@z0Q _ _ _ ([]) (7) _ hnp sc_rule_read.nd rfl (Or.inl rfl) (Or.inl rfl)) z4U (by rfl)) (by rfl)) (by rfl) (by rfl))
   ·have hxo:=zbK hxo rfl rfl rfl
    refine (z01 ?_ ?_)
    ·exact (@z0t _ _ _ _ _ _ ([]) (8) _ hnp sc_rule_read.nd rfl (Or.inl rfl) (@z0i _ _ _ _ _ (2) _ _ _ _ _ k_pair_read z62 (hr.mono (by decide)) rfl (z0a (z0h (pv 7)) z0r (by rfl)) rfl (by decide) (by rfl) (by rfl)) rfl (Or.inl rfl))
    refine (z01 ?_ ?_)
    ·refine (z16 ?_ ?_ ?_)
     ·exact (z2E (z2D (z1r (z1E (@z0i _ _ _ _ _ (3) _ _ _ _ _ k_pair_good z63 (hr.mono (by decide)) rfl (z0a (z0h (pv 2)) (z0a (z0h (pv 3)) (z0a (z0h (pv 8)) z0r (by rfl)) (by rfl)) (by rfl)) rfl (by decide) (by rfl) (by rfl)) (by intro _; rfl))) (z1L (z0J z2x z1N (z0A z0v z0O (pv 8) (z06 z02) (fun _ _=>rfl)) (z09 (pv 5)) (z0z _)))))
     ·refine (z0c ?_)
      exact (z1Y [78,111,84,101,120,116] [[114,111,119]] n_h (hr.mono (by decide)) rfl rfl T.c_h (z04 (z0h (pv 6)) z0H (by rfl)) hxo (by decide) (by decide +kernel) (by decide) (by decide +kernel) (by decide) (by rfl) (by rfl) (by rfl))
     ·exact z0F
    refine (z01 ?_ ?_)
    ·exact (@z0t _ _ _ _ _ _ ([]) (5) _ hnp sc_rule_read.nd rfl (Or.inl rfl) (z0A z0v z0O (pv 8) (z06 z02) (fun _ _=>rfl)) rfl (Or.inl rfl))
    refine (z0c ?_)
    exact (z2T (pv 4) (z0h (pv 8)) (by rfl) (by rfl) (by rfl) (by rfl) (by rfl))
  refine (z01 ?_ ?_)
  ·refine (z16 ?_ ?_ ?_)
   ·exact (z0J (z21 hq) z3n (z1g rfl T.z_len (z09 (pv 4)) (by rfl)) (z06 z02) (z0z _))
   ·refine (z0c ?_)
    exact (z1Y [78,111,84,101,120,116] [[114,111,119]] n_h (hr.mono (by decide)) rfl rfl T.c_h (z04 z02 z0H (by rfl)) hxo (by decide) (by decide +kernel) (by decide) (by decide +kernel) (by decide) (by rfl) (by rfl) (by rfl))
   ·exact z0F
  refine (z01 ?_ ?_)
  ·exact (@z0t _ _ _ _ _ _ ([]) (9) _ hnp sc_rule_read.nd rfl (Or.inl rfl) (@z0i _ _ _ _ _ (1) _ _ _ _ _ k_first_unblocked z3p (hr.mono (by decide)) rfl (z0a (z0h (pv 4)) z0r (by rfl)) rfl (by decide) (by rfl) (by rfl)) rfl (Or.inl rfl))
  refine (z01 ?_ ?_)
  ·refine (z16 ?_ ?_ ?_)
   ·exact (z0J zaP zaU (z0h (pv 9)) (z06 z2U) rfl)
   ·refine (z0c ?_)
    exact (z1Y [78,111,84,101,120,116] [[114,111,119]] n_h (hr.mono (by decide)) rfl rfl T.c_h (z04 (z0K z0f z0k (pv 9) (z06 z02)) z0H (by rfl)) hxo (by decide) (by decide +kernel) (by decide) (by decide +kernel) (by decide) (by rfl) (by rfl) (by rfl))
   ·exact z0F
  refine (z0c ?_)
  refine (z0n ?_)
  exact (z4s (z04 (z0h (pv 2)) (z04 (z0h (pv 3)) (z04 (z5w rfl T.z_tuple (z09 (pv 4)) (by rfl)) z0H (by rfl)) (by rfl)) (by rfl)) (by decide))) fun ss y h=>z5z h
abbrev z38 (G0:DF)(G1:DF):DS:=(dSeq (B7_) (dSeq (dAsg (z08 G0 [.val (eVar 0)]) (gNm [] 1)) (dSeq (dIf (dNot (dTr (z08 G1 [.val (eVar 1)]))) (z0P [78,111,84,101,120,116] [[114,111,119]] (z0m (eD (.int 1)) aNil)) z0I) (dRet (eVar 1)))))
def z2C:DS:=z38 z1b z0V
def z17:DX:=gOfX [] 2 z2C
theorem z5r:z6P z17:=z59
theorem sc_floor_read:FnScope ["text","floor"] ["text"] (z05 z3j):=⟨rfl,rfl,rfl,by decide +kernel,rfl,by decide +kernel,by decide +kernel⟩
theorem z7i {K:W0} (F:Fun K "floor_read" "floor_read" z3j f fd) (hm:mg "floor_read" = some (.ref f)) (hb:Binds K fd ["text"] []) (T:Txt ce K mg) (k_rows_read:KFn P w K mg base 1 "rows_read" 1 z1b) (k_floor_good:KFn P w K mg base 2 "floor_good" 1 z0V) (n_h:IniK P w K mg base (ce [78,111,84,101,120,116]) ["row"]):KFnX P w K mg base 3 "floor_read" 1 z17 :=
 z8R (np:=[]) (fb:=z2C) F hm hb sc_floor_read (fun c cdv A outer s H E hr hnp hxo=>by
  have hq:=z1K hr
  refine (z01 ?_ ?_)
  ·refine (z16 ?_ ?_ ?_)
   ·exact (z1r (z1E (z4t T.ty_str rfl T.z_isinstance rfl T.z_str boot_str (z09 (pv 0)) (by decide) (by decide) (by rfl) (by rfl)) (by intro _; rfl)))
   ·refine (z0c ?_)
    exact (z1Y [78,111,84,101,120,116] [[114,111,119]] n_h (hr.mono (by decide)) rfl rfl T.c_h (z04 z02 z0H (by rfl)) hxo (by decide) (by decide +kernel) (by decide) (by decide +kernel) (by decide) (by rfl) (by rfl) (by rfl))
   ·exact z0F
  refine (z01 ?_ ?_)
  ·exact (@z0t _ _ _ _ _ _ ([]) (1) _ hnp sc_floor_read.nd rfl (Or.inl rfl) (@z0i _ _ _ _ _ (1) _ _ _ _ _ k_rows_read z3o (hr.mono (by decide)) rfl (z0a (z0h (pv 0)) z0r (by rfl)) rfl (by decide) (by rfl) (by rfl)) rfl (Or.inl rfl))
  refine (z01 ?_ ?_)
  ·refine (z16 ?_ ?_ ?_)
   ·exact (z1r (z1E (@z0i _ _ _ _ _ (2) _ _ _ _ _ k_floor_good z3d (hr.mono (by decide)) rfl (z0a (z0h (pv 1)) z0r (by rfl)) rfl (by decide) (by rfl) (by rfl)) (by intro _; rfl)))
   ·refine (z0c ?_)
    exact (z1Y [78,111,84,101,120,116] [[114,111,119]] n_h (hr.mono (by decide)) rfl rfl T.c_h (z04 z02 z0H (by rfl)) hxo (by decide) (by decide +kernel) (by decide) (by decide +kernel) (by decide) (by rfl) (by rfl) (by rfl))
   ·exact z0F
  refine (z0c ?_)
  refine (z0n ?_)
  exact (z0h (pv 1))) fun ss y h=>z5z h
def z2R (ce:Tx→Nat):DS:=(dSeq (dAsg (eLst (z0m (eIsC ce ys (fun z=>z == [78,111,70,108,111,111,114]) (bVar 0)) (z0m (eIsC ce ys (fun z=>z == [78,111,80,108,97,99,101]) (bVar 0)) aNil))) (gNm [] 1)) (dSeq (dAsg (eOpF pAdd 1 (bOf (eLst (z0m (eIsC ce ys (fun z=>z == [78,111,78,117,109,98,101,114]) (bVar 0)) (z0m (eIsC ce ys (fun z=>z == [78,111,82,111,119]) (bVar 0)) aNil))))) (gNm [] 1)) (dSeq (dAsg (eOpF pAdd 1 (bOf (eLst (z0m (eIsC ce ys (fun z=>z == [85,110,108,105,107,101]) (bVar 0)) (z0m (eIsC ce ys (fun z=>z == [78,111,84,105,108,101]) (bVar 0)) aNil))))) (gNm [] 1)) (dSeq (dAsg (eOpF pAdd 1 (bOf (eLst (z0m (eIsC ce ys (fun z=>z == [78,111,82,117,108,101]) (bVar 0)) (z0m (eIsC ce ys (fun z=>z == [78,111,84,101,120,116]) (bVar 0)) aNil))))) (gNm [] 1)) (dSeq (z1o 1 (eIsC ce ys (fun z=>z == [84,111,111,71,114,101,97,116]) (bVar 0))) (dSeq (dIf (dOr (dNot (dTr (eIsC ce ys (fun _=>true) (bVar 0)))) (dTr (eOp pNe (eC1 z6G (bVar 1)) (bOf (eD (.int 1)))))) (dRet (eD (.str [111,116,104,101,114]))) z0I) (dSeq (dAsg (z3w [.str [102,108,111,111,114],.str [112,108,97,99,101],.str [110,117,109,98,101,114],.str [114,111,119],.str [117,110,108,105,107,101],.str [116,105,108,101],.str [114,117,108,101],.str [116,101,120,116],.str [103,114,101,97,116]]) (gNm [] 2)) (dRet (eOpF pIx 2 (bOf (eC1 z4Y (bVar 1))))))))))))
def z1f (ce:Tx→Nat):DF:=gOf [] 3 (z2R ce)
theorem z4G {ce:Tx→Nat}:z1s (z1f ce):=z0p
theorem sc__law_kind_of:FnScope ["e","marks","words"] ["e"] (z05 z2K):=⟨rfl,rfl,rfl,by decide +kernel,rfl,by decide +kernel,by decide +kernel⟩
theorem z5k {K:W0} (F:Fun K "_law_kind_of" "_law_kind_of" z2K f fd) (hm:mg "_law_kind_of" = some (.ref f)) (hb:Binds K fd ["e"] []) (T:Txt ce K mg):KFnH P w K mg base 1 "_law_kind_of" 1 (z1f ce) :=
 zbh (np:=[]) (fb:=(z2R ce)) F hm hb sc__law_kind_of (fun c cdv A outer s H E hr hnp=>by
  have hq:=zdk hr
  refine (z01 ?_ ?_)
  ·exact (@z0t _ _ _ _ _ _ ([]) (1) _ hnp sc__law_kind_of.nd rfl (Or.inl rfl) (z1z (z04 (z4u T.i_a rfl T.z_isinstance rfl T.c_a (z09 (pv 0)) (by decide) (by rfl) (by rfl)) (z04 (z4u T.i_b rfl T.z_isinstance rfl T.c_b (z09 (pv 0)) (by decide) (by rfl) (by rfl)) z0H (by rfl)) (by rfl)) (by decide)) rfl (Or.inl rfl))
  refine (z01 ?_ ?_)
  ·exact (@z0t _ _ _ _ _ _ ([]) (1) _ hnp sc__law_kind_of.nd rfl (Or.inl rfl) (z0K z0f z0k (pv 1) (z06 (z1z (z04 (z4u T.i_c rfl T.z_isinstance rfl T.c_c (z09 (pv 0)) (by decide) (by rfl) (by rfl)) (z04 (z4u T.i_d rfl T.z_isinstance rfl T.c_d (z09 (pv 0)) (by decide) (by rfl) (by rfl)) z0H (by rfl)) (by rfl)) (by decide)))) rfl (Or.inl rfl))
  refine (z01 ?_ ?_)
  ·exact (@z0t _ _ _ _ _ _ ([]) (1) _ hnp sc__law_kind_of.nd rfl (Or.inl rfl) (z0K z0f z0k (pv 1) (z06 (z1z (z04 (z4u T.i_e rfl T.z_isinstance rfl T.c_e (z09 (pv 0)) (by decide) (by rfl) (by rfl)) (z04 (z4u T.i_f rfl T.z_isinstance rfl T.c_f (z09 (pv 0)) (by decide) (by rfl) (by rfl)) z0H (by rfl)) (by rfl)) (by decide)))) rfl (Or.inl rfl))
  refine (z01 ?_ ?_)
  ·exact (@z0t _ _ _ _ _ _ ([]) (1) _ hnp sc__law_kind_of.nd rfl (Or.inl rfl) (z0K z0f z0k (pv 1) (z06 (z1z (z04 (z4u T.i_g rfl T.z_isinstance rfl T.c_g (z09 (pv 0)) (by decide) (by rfl) (by rfl)) (z04 (z4u T.i_h rfl T.z_isinstance rfl T.c_h (z09 (pv 0)) (by decide) (by rfl) (by rfl)) z0H (by rfl)) (by rfl)) (by decide)))) rfl (Or.inl rfl))
  refine (z01 ?_ ?_)
  ·exact (z2T (pv 1) (z4u T.i_i rfl T.z_isinstance rfl T.c_i (z09 (pv 0)) (by decide) (by rfl) (by rfl)) (by rfl) (by rfl) (by rfl) (by rfl) (by rfl))
  refine (z01 ?_ ?_)
  ·refine (z16 ?_ ?_ ?_)
   ·exact (z2E (z2D (z1r (z1E (zfc T.i_ValueError rfl T.z_isinstance rfl T.z_ValueError z6h (z09 (pv 0)) (by decide) (by decide) (by rfl) (by rfl)) (by intro _; rfl))) (z1L (z0J (z1G hq) z33 (zc0 (z09 (pv 1)) (by rfl) (by rfl) (by rfl) (by rfl)) (z06 z02) (z0z _)))))
   ·refine (z0c ?_)
    refine (z0n ?_)
    exact (z0x [111,116,104,101,114] (by decide +kernel))
   ·exact z0F
  refine (z01 ?_ ?_)
  ·exact (@z0t _ _ _ _ _ _ ([]) (2) _ hnp sc__law_kind_of.nd rfl (Or.inl rfl) (z1d (by rfl) (by decide)) rfl (Or.inl rfl))
  refine (z0c ?_)
  refine (z0n ?_)
  exact (z0A z0v z0O (pv 2) (z06 (zbY (z09 (pv 1)) (by rfl) (by rfl) (by rfl) (by rfl))) (fun _ _=>rfl))) fun ss y h=>z0E h
def z5i:DS:=(dRet (eAnd (eIsi "int" (bVar 0)) (eNot (eIsi "bool" (bVar 0)))))
def z27:DF:=gOf [] 1 z5i
theorem z5s:z1s z27:=z0p
theorem z72:FnScope ["found"] ["found"] (z05 z3l):=⟨rfl,rfl,rfl,by decide +kernel,rfl,by decide +kernel,by decide +kernel⟩
theorem z6l {K:W0} (F:Fun K "_law_whole" "_law_whole" z3l f fd) (hm:mg "_law_whole" = some (.ref f)) (hb:Binds K fd ["found"] []) (T:Txt ce K mg):KFnH P w K mg base 1 "_law_whole" 1 z27 :=
 zbh (np:=[]) (fb:=z5i) F hm hb z72 (fun c cdv A outer s H E hr hnp=>by
  have hq:=zdk hr
  refine (z0c ?_)
  refine (z0n ?_)
  exact (z7H (z4t T.ty_int rfl T.z_isinstance rfl T.z_int boot_int (z09 (pv 0)) (by decide) (by decide) (by rfl) (by rfl)) (z7E (zd3 (z4t T.ty_bool rfl T.z_isinstance rfl T.z_bool boot_bool (z09 (pv 0)) (by decide) (by decide) (by rfl) (by rfl)))))) fun ss y h=>z0E h
abbrev z25 (ce:Tx→Nat)(G0:DX)(G1:DX)(G2:DF)(G3:DF):DS:=(dSeq (dTry ce ys 2 (dIf (dTr (eOpF pEq 0 (bOf (eD (.int 0))))) (z8m (z2A G0 [.val (eVar 1)])) (z8m (z2A G1 [.val (eVar 1)]))) (dSeq (dIf (dOr (dTr (eOp pNe (z08 G2 [.val (eVar 2)]) (bOf (eD (.str [116,101,120,116]))))) (dNot (dTr (z08 G3 [.val (z5u ce ys [114,111,119] (bVar 2))])))) (dRet (eC1 pNeg (bOf (eD (.int 1))))) z0I) (dRet (z5u ce ys [114,111,119] (bVar 2))))) (dRet (eD .non)))
def z2s (ce:Tx→Nat):DS:=z25 ce z1a z17 (z1f ce) z27
def z0e (ce:Tx→Nat):DF:=gOf [] 3 (z2s ce)
theorem z14 {ce:Tx→Nat}:z1s (z0e ce):=z0p
theorem sc__law_told:FnScope ["way","thing","e"] ["way","thing"] (z05 z42):=⟨rfl,rfl,rfl,by decide +kernel,rfl,by decide +kernel,by decide +kernel⟩
theorem z80 {K:W0} (F:Fun K "_law_told" "_law_told" z42 f fd) (hm:mg "_law_told" = some (.ref f)) (hb:Binds K fd ["way","thing"] []) (T:Txt ce K mg) (k_rule_read:KFnX P w K mg base 5 "rule_read" 1 z1a) (k_floor_read:KFnX P w K mg base 3 "floor_read" 1 z17) (h__law_kind_of:KFnH P w K mg base 1 "_law_kind_of" 1 (z1f ce)) (h__law_whole:KFnH P w K mg base 1 "_law_whole" 1 z27):KFn P w K mg base 6 "_law_told" 2 (z0e ce) :=
 z1i (np:=[]) (fb:=(z2s ce)) F hm hb sc__law_told (fun c cdv A outer s H E hr hnp=>by
  have hq:=z1K hr
  refine (z01 ?_ ?_)
  ·refine zf9 (ce:=ce) (ys:=ys) (i:=2) rfl hnp rfl rfl sc__law_told.nd rfl rfl rfl T.c_j T.q_j (fun y hy=>T.m_j y hy) ?_ ?_
   ·intro c pn xe hnp hxo
    refine (z0c ?_)
    refine (z16 ?_ ?_ ?_)
    ·exact (z2F (z21 hq) z3n (pv 0) (z06 z02) (z0z _))
    ·refine (z0c ?_)
     exact (z8Z (@z6Z _ _ _ _ _ (5) _ _ _ _ _ k_rule_read z61 (hr.mono (by decide)) rfl hxo rfl (z0a (z0h (pv 1)) z0r (by rfl)) rfl (by decide) (by rfl) (by rfl)) (by rfl))
    ·refine (z0c ?_)
     exact (z8Z (@z6Z _ _ _ _ _ (3) _ _ _ _ _ k_floor_read z5r (hr.mono (by decide)) rfl hxo rfl (z0a (z0h (pv 1)) z0r (by rfl)) rfl (by decide) (by rfl) (by rfl)) (by rfl))
   ·intro ea
    refine (z01 ?_ ?_)
    ·refine (z16 ?_ ?_ ?_)
     ·exact (z2E (z2D (z0J (z1G hq) z33 (@z94 _ _ _ _ _ (1) _ _ _ _ _ h__law_kind_of z4G ((hr.h.mono (by decide)).mark _) rfl (z0a (z0h (pv 2)) z0r (by rfl)) rfl (by decide) (by rfl) (by rfl)) (z06 (z0x [116,101,120,116] (by decide +kernel))) (z0z _)) (z1L (z1r (z1E (@z94 _ _ _ _ _ (1) _ _ _ _ _ h__law_whole z5s ((hr.h.mono (by decide)).mark _) rfl (z0a (zal [114,111,119] T.at_row (z09 (pv 2)) (by decide +kernel) (by rfl)) z0r (by rfl)) rfl (by decide) (by rfl) (by rfl)) (by intro _; rfl))))))
     ·refine (z0c ?_)
      refine (z0n ?_)
      exact (z7F (z06 z02))
     ·exact z0F
    refine (z0c ?_)
    refine (z0n ?_)
    exact (zal [114,111,119] T.at_row (z09 (pv 2)) (by decide +kernel) (by rfl))
  refine (z0c ?_)
  refine (z0n ?_)
  exact z2U) fun ss y h=>z0E h
def z4m:DS:=(dSeq (dIf (dAnd (dTr (eOp pEq (eC1 pLen (bVar 0)) (bOf (eD (.int 1))))) (dTr (eOp (pInS false) (eVar 0) (bOf (eD (.str [49,50,51,52])))))) (dRet (eC1 z7R (bVar 0))) z0I) (dRet (eD .non)))
def z1V:DF:=gOf [] 1 z4m
theorem z3q:z1s z1V:=z0p
theorem z7K:FnScope ["word"] ["word"] (z05 z43):=⟨rfl,rfl,rfl,by decide +kernel,rfl,by decide +kernel,by decide +kernel⟩
theorem z81 {K:W0} (F:Fun K "_law_size" "_law_size" z43 f fd) (hm:mg "_law_size" = some (.ref f)) (hb:Binds K fd ["word"] []) (T:Txt ce K mg):KFn P w K mg base 1 "_law_size" 1 z1V :=
 z1i (np:=[]) (fb:=z4m) F hm hb z7K (fun c cdv A outer s H E hr hnp=>by
  have hq:=z1K hr
  refine (z01 ?_ ?_)
  ·refine (z16 ?_ ?_ ?_)
   ·exact (z2E (zac (z0J (z21 hq) z3n (z1g rfl T.z_len (z09 (pv 0)) (by rfl)) (z06 z02) (z0z _)) (z8B (z0J z7U zdf (z0h (pv 0)) (z06 (z0x [49,50,51,52] (by decide +kernel))) rfl))))
   ·refine (z0c ?_)
    refine (z0n ?_)
    exact (z8C rfl T.z_int (z09 (pv 0)))
   ·exact z0F
  refine (z0c ?_)
  refine (z0n ?_)
  exact z2U) fun ss y h=>z0E h
def z2t:DS:=(dSeq (dAsg (eC1 (z0R 47) (bVar 1)) (gNm [] 2)) (dSeq (dIf (dOr (dTr (eOp pNe (eC1 pLen (bVar 2)) (bOf (eOpF pIx 0 (bOf (eD (.int 0))))))) (dNot (dTr (eC1 pAll (bOf (z2q [4] (iSq (eVar 2)) (gNm [] 4) dYes (eOp pEq (eC1 pLen (bVar 4)) (bOf (eOpF pIx 0 (bOf (eD (.int 1)))))))))))) (dRet (eD .non)) z0I) (dSeq (dIf (dNot (dTr (eC1 pAll (bOf (z2q [3] (iSq (eC1 (z1w []) (bVar 2))) (gNm [] 3) dYes (eOp (pInS false) (eVar 3) (bOf (eD (.str [97,98,99,100,101,102,103,104,105,106,107,108,109,110,111,112,113,114,115,116,117,118,119,120,121,122]))))))))) (dRet (eD .non)) z0I) (dRet (eVar 2)))))
def z15:DF:=gOf [] 5 z2t
theorem z4d:z1s z15:=z0p
theorem sc__law_block_of:FnScope ["sizes","text","rows","sign","row"] ["sizes","text"] (z05 z2l):=⟨rfl,rfl,rfl,by decide +kernel,rfl,by decide +kernel,by decide +kernel⟩
theorem z5l {K:W0} (F:Fun K "_law_block_of" "_law_block_of" z2l f fd) (hm:mg "_law_block_of" = some (.ref f)) (hb:Binds K fd ["sizes","text"] []) (T:Txt ce K mg):KFn P w K mg base 1 "_law_block_of" 2 z15 :=
 z1i (np:=[]) (fb:=z2t) F hm hb sc__law_block_of (fun c cdv A outer s H E hr hnp=>by
  have hq:=z1K hr
  refine (z01 ?_ ?_)
  ·exact (@z0t _ _ _ _ _ _ ([]) (2) _ hnp sc__law_block_of.nd rfl (by first | exact Or.inl rfl | exact Or.inr rfl) (z1F 47 (z09 (pv 1))) rfl (Or.inl rfl))
  refine (z01 ?_ ?_)
  ·refine (z16 ?_ ?_ ?_)
   ·exact (z2E (z2D (z0J (z1G hq) z33 (z1g rfl T.z_len (z09 (pv 2)) (by rfl)) (z06 (z0A z0v z0O (pv 0) (z06 z02) (fun _ _=>rfl))) (z0z _)) (z1L (z1r (z1E (z96 rfl rfl T.z_all (z06 (@z4V _ _ ([4]) _ _ _ _ _ _ _ _ _ _ rfl (z2r rfl rfl) (z5j (z0h (pv 2))) (fun l s0 H0 ex=>(@z2v _ _ _ _ ([]) (4) _ hnp sc__law_block_of.nd rfl (by first | exact Or.inl rfl | exact Or.inr rfl) (by first | exact Or.inl rfl | exact Or.inr rfl) (by decide))) (fun l s0 H0 ex=>z4O) (fun l s0 H0 ex=>(z92 (z21 hq) z3n (z1g rfl T.z_len (z09 (pv 4)) (by rfl)) (z06 (z0A z0v z0O (pv 0) (z06 z02) (fun _ _=>rfl))) (z0z _))) (z5U hnp rfl) (by intro _; rfl))) (by rfl)) (by intro _; rfl))))))
   ·refine (z0c ?_)
    refine (z0n ?_)
    exact z2U
   ·exact z0F
  refine (z01 ?_ ?_)
  ·refine (z16 ?_ ?_ ?_)
   ·exact (z1r (z1E (z96 rfl rfl T.z_all (z06 (@z4V _ _ ([3]) _ _ _ _ _ _ _ _ _ _ rfl (z2r rfl rfl) (z5j (z3V [] (z09 (pv 2)) (by decide +kernel) (by rfl) (by rfl) (by rfl) (by rfl))) (fun l s0 H0 ex=>(@z2v _ _ _ _ ([]) (3) _ hnp sc__law_block_of.nd rfl (by first | exact Or.inl rfl | exact Or.inr rfl) (by first | exact Or.inl rfl | exact Or.inr rfl) (by decide))) (fun l s0 H0 ex=>z4O) (fun l s0 H0 ex=>(z92 z7U zdf (z0h (pv 3)) (z06 (z0x [97,98,99,100,101,102,103,104,105,106,107,108,109,110,111,112,113,114,115,116,117,118,119,120,121,122] (by decide +kernel))) rfl)) (z5U hnp rfl) (by intro _; rfl))) (by rfl)) (by intro _; rfl)))
   ·refine (z0c ?_)
    refine (z0n ?_)
    exact z2U
   ·exact z0F
  refine (z0c ?_)
  refine (z0n ?_)
  exact (z0h (pv 2))) fun ss y h=>z0E h
abbrev B1_:DS:=dIf (dTr (eOp pNe (z2q [6] (iSq (eOp pIx (eC1 (z0R 32) (bOf (eOpF pIx 1 (bVar 5)))) (bOf (eD (.int 1))))) (gNm [] 6) (dAnd (dTr (eOpF pNe 6 (bOf (eD (.str [47]))))) (dTr (eOp (pIn true) (eVar 6) (bVar 4)))) (eVar 6)) (bOf (eLst aNil)))) (dRet (eOpF pAdd 5 (bOf (eD (.int 1))))) z0I
abbrev B4_:DS:=dIf (dOr (dTr (eOp pNe (eC1 pLen (bVar 2)) (bOf (eD (.int 2))))) (dOr (dTr (eOp pNe (eC1 pLen (bOf (eOpF pIx 2 (bOf (eD (.int 0)))))) (bOf (eD (.int 1))))) (dTr (eOp (pInS true) (eOpF pIx 2 (bOf (eD (.int 0)))) (bOf (eD (.str [97,98,99,100,101,102,103,104,105,106,107,108,109,110,111,112,113,114,115,116,117,118,119,120,121,122]))))))) (dRet (eOpF pAdd 5 (bOf (eD (.int 1))))) z0I
abbrev B9_:DS:=dIf (dOr (dTr (eOp pNe (eC1 pLen (bVar 2)) (bOf (eD (.int 3))))) (dTr (eOp pNe (eOpF pIx 2 (bOf (eD (.int 0)))) (bOf (eD (.str [114,117,108,101])))))) (dRet (eD (.int 1))) z0I
abbrev B10_:DS:=dIf (dOr (dTr (eOp (pInN false) (eD .non) (bVar 3))) (dTr (eOpF pEq 3 (bOf (eD (.tup [.int 1,.int 1])))))) (dRet (eD (.int 1))) z0I
abbrev z4h (G0:DF)(G1:DF):DS:=(dSeq (dAsg (eC1 (z0R 10) (bVar 0)) (gNm [] 1)) (dSeq (dAsg (eC1 (z0R 32) (bOf (eOpF pIx 1 (bOf (eD (.int 0)))))) (gNm [] 2)) (dSeq (B9_) (dSeq (dAsg (eTup (z0m (z08 G0 [.val (eOpF pIx 2 (bOf (eD (.int 1))))]) (z0m (z08 G0 [.val (eOpF pIx 2 (bOf (eD (.int 2))))]) aNil))) (gNm [] 3)) (dSeq (B10_) (dSeq (dAsg (z3w [.str []]) (gNm [] 4)) (dSeq (dFor (z58 (eD (.int 1)) (eC1 pLen (bVar 1))) (gNm [] 5) (dSeq (dAsg (eC1 (z0R 32) (bOf (eOpF pIx 1 (bVar 5)))) (gNm [] 2)) (dSeq (B4_) (dSeq (dIf (dOr (dTr (eOp pLe (eOpF pIx 2 (bOf (eD (.int 0)))) (bOf (eOpF pIx 4 (bOf (eC1 pNeg (bOf (eD (.int 1))))))))) (dTr (eOp (pIsN false) (z08 G1 [.val (eVar 3),.val (eOpF pIx 2 (bOf (eD (.int 1))))]) (bOf (eD .non))))) (dRet (eOpF pAdd 5 (bOf (eD (.int 1))))) z0I) (z1o 4 (eOpF pIx 2 (bOf (eD (.int 0))))))))) (dSeq (dIf (dTr (eOp pEq (eC1 pLen (bVar 1)) (bOf (eD (.int 1))))) (dRet (eD (.int 2))) z0I) (dSeq (dFor (z58 (eD (.int 1)) (eC1 pLen (bVar 1))) (gNm [] 5) (B1_)) (dRet (eD .non)))))))))))
def z5d:DS:=z4h z1V z15
def z0U:DF:=gOf [] 7 z5d
theorem z3T:z1s z0U:=z0p
theorem sc__law_due:FnScope ["text","rows","words","sizes","tiles","k","sign"] ["text"] (z05 z4W):=⟨rfl,rfl,rfl,by decide +kernel,rfl,by decide +kernel,by decide +kernel⟩
theorem z8L {K:W0} (F:Fun K "_law_due" "_law_due" z4W f fd) (hm:mg "_law_due" = some (.ref f)) (hb:Binds K fd ["text"] []) (T:Txt ce K mg) (k__law_size:KFn P w K mg base 1 "_law_size" 1 z1V) (k__law_block_of:KFn P w K mg base 1 "_law_block_of" 2 z15):KFn P w K mg base 2 "_law_due" 1 z0U :=
 z1i (np:=[]) (fb:=z5d) F hm hb sc__law_due (fun c cdv A outer s H E hr hnp=>by
  have hq:=z1K hr
  refine (z01 ?_ ?_)
  ·exact (@z0t _ _ _ _ _ _ ([]) (1) _ hnp sc__law_due.nd rfl (by first | exact Or.inl rfl | exact Or.inr rfl) (z1F 10 (z09 (pv 0))) rfl (Or.inl rfl))
  refine (z01 ?_ ?_)
  ·exact (@z0t _ _ _ _ _ _ ([]) (2) _ hnp sc__law_due.nd rfl (by first | exact Or.inl rfl | exact Or.inr rfl) (z1F 32 (z06 (z0A z0v z0O (pv 1) (z06 z02) (fun _ _=>rfl)))) rfl (Or.inl rfl))
  refine (z01 ?_ ?_)
  ·refine (z16 ?_ ?_ ?_)
   ·exact (z2E (z2D (z0J (z1G hq) z33 (z1g rfl T.z_len (z09 (pv 2)) (by rfl)) (z06 z02) (z0z _)) (z1L (z0J (z1G hq) z33 (z0A z0v z0O (pv 2) (z06 z02) (fun _ _=>rfl)) (z06 (z0x [114,117,108,101] (by decide +kernel))) (z0z _)))))
   ·refine (z0c ?_)
    refine (z0n ?_)
    exact z02
   ·exact z0F
  refine (z01 ?_ ?_)
  ·exact (@z0t _ _ _ _ _ _ ([]) (3) _ hnp sc__law_due.nd rfl (by first | exact Or.inl rfl | exact Or.inr rfl) (z4s (z04 (@z0i _ _ _ _ _ (1) _ _ _ _ _ k__law_size z3q (hr.mono (by decide)) rfl (z0a (z0A z0v z0O (pv 2) (z06 z02) (fun _ _=>rfl)) z0r (by rfl)) rfl (by decide) (by rfl) (by rfl)) (z04 (@z0i _ _ _ _ _ (1) _ _ _ _ _ k__law_size z3q (hr.mono (by decide)) rfl (z0a (z0A z0v z0O (pv 2) (z06 z02) (fun _ _=>rfl)) z0r (by rfl)) rfl (by decide) (by rfl) (by rfl)) z0H (by rfl)) (by rfl)) (by decide)) rfl (Or.inl rfl))
  refine (z01 ?_ ?_)
  ·refine (z16 ?_ ?_ ?_)
   ·exact (z2E (z2D (z0J zaR (zg6 false) z2U (z09 (pv 3)) rfl) (z1L (z2F (z21 hq) z3n (pv 3) (z06 (z91 (by rfl))) (z0z _)))))
   ·refine (z0c ?_)
    refine (z0n ?_)
    exact z02
   ·exact z0F
  refine (z01 ?_ ?_)
  ·exact (@z0t _ _ _ _ _ _ ([]) (4) _ hnp sc__law_due.nd rfl (by first | exact Or.inl rfl | exact Or.inr rfl) (z1d (by rfl) (by decide)) rfl (Or.inl rfl))
  refine (z01 ?_ ?_)
  ·refine (z3f PassesOwn.never rfl ?_ ?_ ?_ (by intro _; rfl))
   ·exact (z7C rfl T.z_range z02 (z1g rfl T.z_len (z09 (pv 1)) (by rfl)) (by rfl) (by rfl) (by rfl))
   ·exact (@z0Q _ _ _ ([]) (5) _ hnp sc__law_due.nd rfl (by first | exact Or.inl rfl | exact Or.inr rfl) (Or.inl rfl))
   ·refine (z01 ?_ ?_)
    ·exact (@z0t _ _ _ _ _ _ ([]) (2) _ hnp sc__law_due.nd rfl (by first | exact Or.inl rfl | exact Or.inr rfl) (z1F 32 (z06 (z0A z0v z0O (pv 1) (z09 (pv 5)) (fun _ _=>rfl)))) rfl (Or.inl rfl))
    refine (z01 ?_ ?_)
    ·refine (z16 ?_ ?_ ?_)
     ·exact (z2E (z2D (z0J (z1G hq) z33 (z1g rfl T.z_len (z09 (pv 2)) (by rfl)) (z06 z02) (z0z _)) (z2D (z0J (z1G hq) z33 (z1g rfl T.z_len (z06 (z0A z0v z0O (pv 2) (z06 z02) (fun _ _=>rfl))) (by rfl)) (z06 z02) (z0z _)) (z1L (z0J z5f zaT (z0A z0v z0O (pv 2) (z06 z02) (fun _ _=>rfl)) (z06 (z0x [97,98,99,100,101,102,103,104,105,106,107,108,109,110,111,112,113,114,115,116,117,118,119,120,121,122] (by decide +kernel))) rfl)))))
     ·refine (z0c ?_)
      refine (z0n ?_)
      exact (z0K z0f z0k (pv 5) (z06 z02))
     ·exact z0F
    refine (z01 ?_ ?_)
    ·refine (z16 ?_ ?_ ?_)
     ·exact (z2E (z2D (z0J z2x z1N (z0A z0v z0O (pv 2) (z06 z02) (fun _ _=>rfl)) (z06 (z0A z0v z0O (pv 4) (z06 (z7F (z06 z02))) (fun _ _=>rfl))) (z0z _)) (z1L (z0J zfZ zg5 (@z0i _ _ _ _ _ (1) _ _ _ _ _ k__law_block_of z4d (hr.mono (by decide)) rfl (z0a (z0h (pv 3)) (z0a (z0A z0v z0O (pv 2) (z06 z02) (fun _ _=>rfl)) z0r (by rfl)) (by rfl)) rfl (by decide) (by rfl) (by rfl)) (z06 z2U) rfl))))
     ·refine (z0c ?_)
      refine (z0n ?_)
      exact (z0K z0f z0k (pv 5) (z06 z02))
     ·exact z0F
    refine (z0c ?_)
    exact (z2T (pv 4) (z0A z0v z0O (pv 2) (z06 z02) (fun _ _=>rfl)) (by rfl) (by rfl) (by rfl) (by rfl) (by rfl))
  refine (z01 ?_ ?_)
  ·refine (z16 ?_ ?_ ?_)
   ·exact (z0J (z21 hq) z3n (z1g rfl T.z_len (z09 (pv 1)) (by rfl)) (z06 z02) (z0z _))
   ·refine (z0c ?_)
    refine (z0n ?_)
    exact z02
   ·exact z0F
  refine (z01 ?_ ?_)
  ·refine (z3f PassesOwn.never rfl ?_ ?_ ?_ (by intro _; rfl))
   ·exact (z7C rfl T.z_range z02 (z1g rfl T.z_len (z09 (pv 1)) (by rfl)) (by rfl) (by rfl) (by rfl))
   ·exact (@z0Q _ _ _ ([]) (5) _ hnp sc__law_due.nd rfl (by first | exact Or.inl rfl | exact Or.inr rfl) (Or.inl rfl))
   ·refine (z0c ?_)
    refine (z16 ?_ ?_ ?_)
    ·exact (z0J (z1G hq) z33 (@z4V _ _ ([6]) _ _ _ _ _ _ _ _ _ _ rfl (z2r rfl rfl) (z5j (zaj z0v z0O (z1F 32 (z06 (z0A z0v z0O (pv 1) (z09 (pv 5)) (fun _ _=>rfl)))) (z06 z02) (fun _ _=>rfl))) (fun l s0 H0 ex=>(@z2v _ _ _ _ ([]) (6) _ hnp sc__law_due.nd rfl (by first | exact Or.inl rfl | exact Or.inr rfl) (by first | exact Or.inl rfl | exact Or.inr rfl) (by decide))) (fun l s0 H0 ex=>(zdF (z2E (zac (z2F (z1G hq) z33 (pv 6) (z06 (z0x [47] (by decide +kernel))) (z0z _)) (z8B (z0J (z5O hq) (z9f true) (z0h (pv 6)) (z09 (pv 4)) rfl)))))) (fun l s0 H0 ex=>(z0h (pv 6))) (z5U hnp rfl) (by intro _; rfl)) (z06 (z1z z0H (by decide))) (z0z _))
    ·refine (z0c ?_)
     refine (z0n ?_)
     exact (z0K z0f z0k (pv 5) (z06 z02))
    ·exact z0F
  refine (z0c ?_)
  refine (z0n ?_)
  exact z2U) fun ss y h=>z0E h
def z2S:DS:=(dSeq (dIf (dTr (eOpF pLt 1 (bOf (eC1 pLen (bVar 0))))) (dRet (eOpF pIx 0 (bVar 1))) z0I) (dRet (eD (.int 0))))
def z10:DF:=gOf [] 2 z2S
theorem z4H:z1s z10:=z0p
theorem z5I:FnScope ["script","k"] ["script","k"] (z05 z2L):=⟨rfl,rfl,rfl,by decide +kernel,rfl,by decide +kernel,by decide +kernel⟩
theorem z5T {K:W0} (F:Fun K "_law_cell_at" "_law_cell_at" z2L f fd) (hm:mg "_law_cell_at" = some (.ref f)) (hb:Binds K fd ["script","k"] []) (T:Txt ce K mg):KFn P w K mg base 1 "_law_cell_at" 2 z10 :=
 z1i (np:=[]) (fb:=z2S) F hm hb z5I (fun c cdv A outer s H E hr hnp=>by
  have hq:=z1K hr
  refine (z01 ?_ ?_)
  ·refine (z16 ?_ ?_ ?_)
   ·exact (z2F zfY o2_lt (pv 1) (z06 (z1g rfl T.z_len (z09 (pv 0)) (by rfl))) (z0z _))
   ·refine (z0c ?_)
    refine (z0n ?_)
    exact (z0A z0v z0O (pv 0) (z09 (pv 1)) (fun _ _=>rfl))
   ·exact z0F
  refine (z0c ?_)
  refine (z0n ?_)
  exact z02) fun ss y h=>z0E h
def z3b:DS:=(dSeq (dAsg (eMax (eVar 0) (eOp pSub (eD (.int 0)) (bVar 0))) (gNm [] 1)) (dRet (eLst (z0m (eVar 1) (z0m (eC1 pInt (bOf (eOpF pGe 1 (bOf (eOp pPow (eD (.int 10)) (bOf (eD (.int 18)))))))) (z0m (eOpF pMod 1 (bOf (eD (.int 1000003)))) aNil))))))
def z0W:DF:=gOf [] 2 z3b
theorem z57:z1s z0W:=z0p
theorem sc__law_pen_of:FnScope ["cell","left"] ["cell"] (z05 z31):=⟨rfl,rfl,rfl,by decide +kernel,rfl,by decide +kernel,by decide +kernel⟩
theorem z6n {K:W0} (F:Fun K "_law_pen_of" "_law_pen_of" z31 f fd) (hm:mg "_law_pen_of" = some (.ref f)) (hb:Binds K fd ["cell"] []) (T:Txt ce K mg):KFn P w K mg base 1 "_law_pen_of" 1 z0W :=
 z1i (np:=[]) (fb:=z3b) F hm hb sc__law_pen_of (fun c cdv A outer s H E hr hnp=>by
  have hq:=z1K hr
  refine (z01 ?_ ?_)
  ·exact (@z0t _ _ _ _ _ _ ([]) (1) _ hnp sc__law_pen_of.nd rfl (Or.inl rfl) (zfb rfl rfl T.z_max (z0h (pv 0)) (z12 zdc zde z02 (z09 (pv 0))) (by rfl) (by rfl) (by rfl)) rfl (Or.inl rfl))
  refine (z0c ?_)
  refine (z0n ?_)
  exact (z1z (z04 (z0h (pv 1)) (z04 (zdS rfl T.z_int (z06 (z5G zg0 z1N (pv 1) (z06 (z12 zfX zg3 z02 (z06 z02))) (z0z _))) (by rfl)) (z04 (z0K z7T z84 (pv 1) (z06 z02)) z0H (by rfl)) (by rfl)) (by rfl)) (by decide))) fun ss y h=>z0E h
def z4n:DS:=(dSeq (dAsg (eOp pMod (eOpF pAdd 0 (bOf (eD (.int 7919)))) (bOf (eD (.int 2147483647)))) (gNm [] 0)) (dRet (eOp pMod (eOp pAdd (eOp pAdd (eOpF z4X 0 (bVar 0)) (bOf (eOp z4X (eD (.int 48271)) (bVar 0)))) (bOf (eD (.int 12345)))) (bOf (eD (.int 2147483629))))))
def z1y:DF:=gOf [] 1 z4n
theorem z3r:z1s z1y:=z0p
theorem sc__law_next:FnScope ["seed"] ["seed"] (z05 z44):=⟨rfl,rfl,rfl,by decide +kernel,rfl,by decide +kernel,by decide +kernel⟩
theorem z82 {K:W0} (F:Fun K "_law_next" "_law_next" z44 f fd) (hm:mg "_law_next" = some (.ref f)) (hb:Binds K fd ["seed"] []) (T:Txt ce K mg):KFn P w K mg base 1 "_law_next" 1 z1y :=
 z1i (np:=[]) (fb:=z4n) F hm hb sc__law_next (fun c cdv A outer s H E hr hnp=>by
  have hq:=z1K hr
  refine (z01 ?_ ?_)
  ·exact (@z0t _ _ _ _ _ _ ([]) (0) _ hnp sc__law_next.nd rfl (Or.inl rfl) (z12 z7T z84 (z0K z0f z0k (pv 0) (z06 z02)) (z06 z02)) rfl (Or.inl rfl))
  refine (z0c ?_)
  refine (z0n ?_)
  exact (z12 z7T z84 (z12 z0f z0k (z12 z0f z0k (z0K z7e z7k (pv 0) (z09 (pv 0))) (z06 (z12 z7e z7k z02 (z09 (pv 0))))) (z06 z02)) (z06 z02))) fun ss y h=>z0E h
def z4o:DS:=(dSeq (dIf (dTr (eOp pEq (eOpF pIx 0 (bOf (eD (.int 1)))) (bOf (eD (.int 1))))) (dSeq (dAsg (eOp pMod (eOpF pIx 0 (bOf (eD (.int 0)))) (bVar 1)) (gNm [0] 2)) (dSeq (z4K 0 (eD (.int 0)) (eOp pDiv (eOpF pIx 0 (bOf (eD (.int 0)))) (bVar 1))) (dRet (eVar 2)))) z0I) (dSeq (z4K 0 (eD (.int 2)) (z08 z1y [.val (eOp pAdd (z08 z1y [.val (eOpF pIx 0 (bOf (eD (.int 2))))]) (bOf (eD (.int 7))))])) (dRet (eOp pMod (eOp pDiv (eOpF pIx 0 (bOf (eD (.int 2)))) (bOf (eD (.int 64)))) (bVar 1)))))
def z0g:DF:=gOf [0] 3 z4o
theorem z0u:z1s z0g:=z0p
theorem sc__law_draw:FnScope ["pen","many","found"] ["pen","many"] (z05 z45):=⟨rfl,rfl,rfl,by decide +kernel,rfl,by decide +kernel,by decide +kernel⟩
theorem z83 {K:W0} (F:Fun K "_law_draw" "_law_draw" z45 f fd) (hm:mg "_law_draw" = some (.ref f)) (hb:Binds K fd ["pen","many"] []) (T:Txt ce K mg) (k__law_next:KFn P w K mg base 1 "_law_next" 1 z1y):KFn P w K mg base 2 "_law_draw" 2 z0g :=
 z1i (np:=[0]) (fb:=z4o) F hm hb sc__law_draw (fun c cdv A outer s H E hr hnp=>by
  have hq:=z1K hr
  refine (z01 ?_ ?_)
  ·refine (z16 ?_ ?_ ?_)
   ·exact (z0J (z21 hq) z3n (z0A z0v z0O (pv 0) (z06 z02) (fun _ _=>rfl)) (z06 z02) (z0z _))
   ·refine (z01 ?_ ?_)
    ·exact (@z0t _ _ _ _ _ _ ([0]) (2) _ hnp sc__law_draw.nd rfl (Or.inl rfl) (z12 z7T z84 (z0A z0v z0O (pv 0) (z06 z02) (fun _ _=>rfl)) (z09 (pv 1))) rfl (Or.inl rfl))
    refine (z01 ?_ ?_)
    ·exact (z4R (pv 0) z02 (z12 z8K zaV (z0A z0v z0O (pv 0) (z06 z02) (fun _ _=>rfl)) (z09 (pv 1))) (by intro _; rfl) (by rfl) (by rfl) (by rfl))
    refine (z0c ?_)
    refine (z0n ?_)
    exact (z0h (pv 2))
   ·exact z0F
  refine (z01 ?_ ?_)
  ·exact (z4R (pv 0) z02 (@z0i _ _ _ _ _ (1) _ _ _ _ _ k__law_next z3r (hr.mono (by decide)) rfl (z0a (z12 z0f z0k (@z0i _ _ _ _ _ (1) _ _ _ _ _ k__law_next z3r (hr.mono (by decide)) rfl (z0a (z0A z0v z0O (pv 0) (z06 z02) (fun _ _=>rfl)) z0r (by rfl)) rfl (by decide) (by rfl) (by rfl)) (z06 z02)) z0r (by rfl)) rfl (by decide) (by rfl) (by rfl)) (by intro _; rfl) (by rfl) (by rfl) (by rfl))
  refine (z0c ?_)
  refine (z0n ?_)
  exact (z12 z7T z84 (z12 z8K zaV (z0A z0v z0O (pv 0) (z06 z02) (fun _ _=>rfl)) (z06 z02)) (z09 (pv 1)))) fun ss y h=>z0E h
def z1W:DS:=(dSeq (dAsg (eD (.str [97,98,99,100,101,102,103,104,105,106,107,108,109,110,111,112,113,114,115,116,117,118,119,120,121,122])) (gNm [0] 2)) (dSeq (dAsg (eOp pIx (z3w [.tup [.int 2,.int 2],.tup [.int 1,.int 2],.tup [.int 2,.int 1],.tup [.int 2,.int 2],.tup [.int 1,.int 3],.tup [.int 2,.int 3],.tup [.int 3,.int 1],.tup [.int 3,.int 2],.tup [.int 4,.int 4],.tup [.int 2,.int 2]]) (bOf (z08 z0g [.io 0,.val (eD (.int 10))]))) (gTp 2 (z0l (gNm [0] 3) (z0l (gNm [0] 4) z1j)))) (dSeq (dAsg (z08 z0g [.io 0,.val (eOp pSub (eD (.int 27)) (bVar 1))]) (gNm [0] 5)) (dSeq (dAsg (eSlN 2 (z1x (eVar 5)) (z1x (eOp pAdd (eOpF pAdd 5 (bOf (eD (.int 1)))) (bOf (z08 z0g [.io 0,.val (eVar 1)]))))) (gNm [0] 6)) (dSeq (dAsg (eOp pAdd (eD (.int 1)) (bOf (z08 z0g [.io 0,.val (eD (.int 3))]))) (gNm [0] 7)) (dSeq (dAsg (eLst aNil) (gNm [0] 8)) (dSeq (dFor (iSq (eVar 6)) (gNm [0] 9) (dSeq (dAsg (eLst aNil) (gNm [0] 10)) (dSeq (dFor (z2n (eVar 3)) (gNm [0] 11) (dSeq (dAsg (z2q [14] (z2n (eVar 4)) (gNm [0] 14) dYes (eOpF pIx 6 (bOf (eOp pDiv (z08 z0g [.io 0,.val (eC1 pLen (bVar 6))]) (bVar 7))))) (gNm [0] 12)) (z1o 10 (eC1 (z1w []) (bVar 12))))) (z1o 8 (eTup (z0m (eVar 9) (z0m (eC1 z2m (bVar 10)) aNil))))))) (dSeq (dIf (dTr (eOp pEq (z08 z0g [.io 0,.val (eD (.int 2))]) (bOf (eD (.int 0))))) (dSeq (dAsg (eOpF pIx 8 (bOf (eD (.int 0)))) (gTp 2 (z0l (gNm [0] 9) (z0l (gNm [0] 13) z1j)))) (z4K 8 (eD (.int 0)) (eTup (z0m (eVar 9) (z0m (eOp pAdd (eTup (z0m (eOpF pAdd 9 (bOf (eSl (eOpF pIx 13 (bOf (eD (.int 0)))) (z1x (eD (.int 1))) z2M))) aNil)) (bOf (eSlN 13 (z1x (eD (.int 1))) z2M))) aNil))))) z0I) (dRet (eTup (z0m (eVar 3) (z0m (eVar 4) (z0m (eC1 z2m (bVar 8)) aNil)))))))))))))
def z0N:DF:=gOf [0] 15 z1W
theorem z4E:z1s z0N:=z0p
theorem sc__law_rule_by:FnScope ["pen","most","letters","high","wide","start","tiles","alike","blocks","tile","rows","row","signs","block","column"] ["pen","most"] (z05 z2I):=⟨rfl,rfl,rfl,by decide +kernel,rfl,by decide +kernel,by decide +kernel⟩
theorem z5R {K:W0} (F:Fun K "_law_rule_by" "_law_rule_by" z2I f fd) (hm:mg "_law_rule_by" = some (.ref f)) (hb:Binds K fd ["pen","most"] []) (T:Txt ce K mg) (k__law_draw:KFn P w K mg base 2 "_law_draw" 2 z0g):KFn P w K mg base 3 "_law_rule_by" 2 z0N :=
 z1i (np:=[0]) (fb:=z1W) F hm hb sc__law_rule_by (fun c cdv A outer s H E hr hnp=>by
  have hq:=z1K hr
  refine (@z01 _ _ _ _ _ _ ?_ ?_)
  ·exact (@z0t _ _ _ _ _ _ ([0]) (2) _ hnp sc__law_rule_by.nd rfl (by first | exact Or.inl rfl | exact Or.inr rfl) (@z0x _ _ _ _ _ [97,98,99,100,101,102,103,104,105,106,107,108,109,110,111,112,113,114,115,116,117,118,119,120,121,122] (by decide +kernel)) rfl (Or.inl rfl))
  refine (@z01 _ _ _ _ _ _ ?_ ?_)
  ·refine (@z90 _ _ _ _ _ _ _ ?_ ?_ (by rfl) (by rfl) (by rfl))
   ·exact (@zaj _ _ _ _ _ _ _ _ _ z0v z0O (@z1d _ _ _ _ _ (by rfl) (by decide)) (@z06 _ _ _ _ (@z0i _ _ _ _ _ (2) _ _ _ _ _ k__law_draw z0u (hr.mono (by decide)) rfl (@z1X _ _ _ _ _ _ (pv 0) (@z0a _ _ _ _ _ _ (@z02 _ _ _ _ _) (@z0r _ _) (by rfl)) (by rfl)) rfl (by decide) (by rfl) (by rfl))) (fun _ _=>rfl))
   ·exact (@z6A _ _ _ _ _ _ _ rfl (@z1t _ _ _ _ _ _ (@z0Q _ _ _ ([0]) (3) _ hnp sc__law_rule_by.nd rfl (by first | exact Or.inl rfl | exact Or.inr rfl) (Or.inl rfl)) (@z1t _ _ _ _ _ _ (@z0Q _ _ _ ([0]) (4) _ hnp sc__law_rule_by.nd rfl (by first | exact Or.inl rfl | exact Or.inr rfl) (Or.inl rfl)) (@z4U _ _) (by rfl)) (by rfl)) (by rfl) (by rfl))
  refine (@z01 _ _ _ _ _ _ ?_ ?_)
  ·exact (@z0t _ _ _ _ _ _ ([0]) (5) _ hnp sc__law_rule_by.nd rfl (by first | exact Or.inl rfl | exact Or.inr rfl) (@z0i _ _ _ _ _ (2) _ _ _ _ _ k__law_draw z0u (hr.mono (by decide)) rfl (@z1X _ _ _ _ _ _ (pv 0) (@z0a _ _ _ _ _ _ (@z12 _ _ _ _ _ _ _ _ _ _ zdc zde (@z02 _ _ _ _ _) (@z09 _ _ _ _ (pv 1))) (@z0r _ _) (by rfl)) (by rfl)) rfl (by decide) (by rfl) (by rfl)) rfl (Or.inl rfl))
  refine (@z01 _ _ _ _ _ _ ?_ ?_)
  ·exact (@z0t _ _ _ _ _ _ ([0]) (6) _ hnp sc__law_rule_by.nd rfl (by first | exact Or.inl rfl | exact Or.inr rfl) (@z2w _ _ _ _ _ _ _ _ _ _ (pv 2) (@z1k _ _ _ _ (@z0h _ _ _ _ (pv 5))) (@z1k _ _ _ _ (@z12 _ _ _ _ _ _ _ _ _ _ z0f z0k (@z0K _ _ _ _ _ _ _ _ _ _ z0f z0k (pv 5) (@z06 _ _ _ _ (@z02 _ _ _ _ _))) (@z06 _ _ _ _ (@z0i _ _ _ _ _ (2) _ _ _ _ _ k__law_draw z0u (hr.mono (by decide)) rfl (@z1X _ _ _ _ _ _ (pv 0) (@z0a _ _ _ _ _ _ (@z0h _ _ _ _ (pv 1)) (@z0r _ _) (by rfl)) (by rfl)) rfl (by decide) (by rfl) (by rfl)))))) rfl (Or.inl rfl))
  refine (@z01 _ _ _ _ _ _ ?_ ?_)
  ·exact (@z0t _ _ _ _ _ _ ([0]) (7) _ hnp sc__law_rule_by.nd rfl (by first | exact Or.inl rfl | exact Or.inr rfl) (@z12 _ _ _ _ _ _ _ _ _ _ z0f z0k (@z02 _ _ _ _ _) (@z06 _ _ _ _ (@z0i _ _ _ _ _ (2) _ _ _ _ _ k__law_draw z0u (hr.mono (by decide)) rfl (@z1X _ _ _ _ _ _ (pv 0) (@z0a _ _ _ _ _ _ (@z02 _ _ _ _ _) (@z0r _ _) (by rfl)) (by rfl)) rfl (by decide) (by rfl) (by rfl)))) rfl (Or.inl rfl))
  refine (@z01 _ _ _ _ _ _ ?_ ?_)
  ·exact (@z0t _ _ _ _ _ _ ([0]) (8) _ hnp sc__law_rule_by.nd rfl (by first | exact Or.inl rfl | exact Or.inr rfl) (@z1z _ _ _ _ _ (@z0H _ _) (by decide)) rfl (Or.inl rfl))
  refine (@z01 _ _ _ _ _ _ ?_ ?_)
  ·refine (@z3f _ _ _ _ _ _ _ _ _ PassesOwn.never rfl ?_ ?_ ?_ (by intro _; rfl))
   ·exact (@z5j _ _ _ _ _ (@z0h _ _ _ _ (pv 6)))
   ·exact (@z0Q _ _ _ ([0]) (9) _ hnp sc__law_rule_by.nd rfl (by first | exact Or.inl rfl | exact Or.inr rfl) (Or.inl rfl))
   ·refine (@z01 _ _ _ _ _ _ ?_ ?_)
    ·exact (@z0t _ _ _ _ _ _ ([0]) (10) _ hnp sc__law_rule_by.nd rfl (by first | exact Or.inl rfl | exact Or.inr rfl) (@z1z _ _ _ _ _ (@z0H _ _) (by decide)) rfl (Or.inl rfl))
    refine (@z01 _ _ _ _ _ _ ?_ ?_)
    ·refine (@z3f _ _ _ _ _ _ _ _ _ PassesOwn.never rfl ?_ ?_ ?_ (by intro _; rfl))
     ·exact (@z5F _ _ _ _ _ _ _ rfl T.z_range (@z0h _ _ _ _ (pv 3)) (by rfl))
     ·exact (@z0Q _ _ _ ([0]) (11) _ hnp sc__law_rule_by.nd rfl (by first | exact Or.inl rfl | exact Or.inr rfl) (Or.inl rfl))
     ·refine (@z01 _ _ _ _ _ _ ?_ ?_)
      ·exact (@z9H _ _ ([14]) _ _ _ _ _ _ _ _ _ _ ([0]) (12) _ _ _ hnp rfl (@z2r _ _ _ rfl rfl) sc__law_rule_by.nd rfl rfl (@z5F _ _ _ _ _ _ _ rfl T.z_range (@z0h _ _ _ _ (pv 4)) (by rfl)) (fun l s0 H0 ex=>(@z2v _ _ _ _ ([0]) (14) _ hnp sc__law_rule_by.nd rfl (by first | exact Or.inl rfl | exact Or.inr rfl) (by first | exact Or.inl rfl | exact Or.inr rfl) (by decide))) (fun l s0 H0 ex=>(@z4O _ _)) (fun l s0 H0 ex=>(@z0A _ _ _ _ _ _ _ _ _ z0v z0O (pv 6) (@z06 _ _ _ _ (@z12 _ _ _ _ _ _ _ _ _ _ z8K zaV (@z0i _ _ _ _ _ (2) _ _ _ _ _ k__law_draw z0u (hr.mono (by decide)) rfl (@z1X _ _ _ _ _ _ (pv 0) (@z0a _ _ _ _ _ _ (@z1g _ _ _ _ _ _ rfl T.z_len (@z09 _ _ _ _ (pv 6)) (by rfl)) (@z0r _ _) (by rfl)) (by rfl)) rfl (by decide) (by rfl) (by rfl)) (@z09 _ _ _ _ (pv 7)))) (fun _ _=>rfl))) (z5U hnp rfl) (by rfl) (by intro _; rfl))
      refine (@z0c _ _ _ _ ?_)
      exact (@z2T _ _ _ _ _ _ _ _ _ (pv 10) (@z3V _ _ _ _ _ _ _ _ _ [] (@z09 _ _ _ _ (pv 12)) (by decide +kernel) (by rfl) (by rfl) (by rfl) (by rfl)) (by rfl) (by rfl) (by rfl) (by rfl) (by rfl))
    refine (@z0c _ _ _ _ ?_)
    exact (@z2T _ _ _ _ _ _ _ _ _ (pv 8) (@z4s _ _ _ _ _ _ (@z04 _ _ _ _ _ _ (@z0h _ _ _ _ (pv 9)) (@z04 _ _ _ _ _ _ (@z5w _ _ _ _ _ _ rfl T.z_tuple (@z09 _ _ _ _ (pv 10)) (by rfl)) (@z0H _ _) (by rfl)) (by rfl)) (by decide)) (by rfl) (by rfl) (by rfl) (by rfl) (by rfl))
  refine (@z01 _ _ _ _ _ _ ?_ ?_)
  ·refine (@z16 _ _ _ _ _ _ _ _ _ ?_ ?_ ?_)
   ·exact (@z0J _ _ _ _ _ _ _ _ _ _ (z21 hq) z3n (@z0i _ _ _ _ _ (2) _ _ _ _ _ k__law_draw z0u (hr.mono (by decide)) rfl (@z1X _ _ _ _ _ _ (pv 0) (@z0a _ _ _ _ _ _ (@z02 _ _ _ _ _) (@z0r _ _) (by rfl)) (by rfl)) rfl (by decide) (by rfl) (by rfl)) (@z06 _ _ _ _ (@z02 _ _ _ _ _)) (z0z _))
   ·refine (@z01 _ _ _ _ _ _ ?_ ?_)
    ·refine (@z90 _ _ _ _ _ _ _ ?_ ?_ (by rfl) (by rfl) (by rfl))
     ·exact (@z0A _ _ _ _ _ _ _ _ _ z0v z0O (pv 8) (@z06 _ _ _ _ (@z02 _ _ _ _ _)) (fun _ _=>rfl))
     ·exact (@z6A _ _ _ _ _ _ _ rfl (@z1t _ _ _ _ _ _ (@z0Q _ _ _ ([0]) (9) _ hnp sc__law_rule_by.nd rfl (by first | exact Or.inl rfl | exact Or.inr rfl) (Or.inl rfl)) (@z1t _ _ _ _ _ _ (@z0Q _ _ _ ([0]) (13) _ hnp sc__law_rule_by.nd rfl (by first | exact Or.inl rfl | exact Or.inr rfl) (Or.inl rfl)) (@z4U _ _) (by rfl)) (by rfl)) (by rfl) (by rfl))
    refine (@z0c _ _ _ _ ?_)
    exact (@z4R _ _ _ _ _ _ _ _ _ _ (pv 8) (@z02 _ _ _ _ _) (@z4s _ _ _ _ _ _ (@z04 _ _ _ _ _ _ (@z0h _ _ _ _ (pv 9)) (@z04 _ _ _ _ _ _ (@z12 _ _ _ _ _ _ _ _ _ _ z0f z0k (@z4s _ _ _ _ _ _ (@z04 _ _ _ _ _ _ (@z0K _ _ _ _ _ _ _ _ _ _ z0f z0k (pv 9) (@z06 _ _ _ _ (@se_sl _ _ _ _ _ _ _ _ _ _ (@z0A _ _ _ _ _ _ _ _ _ z0v z0O (pv 13) (@z06 _ _ _ _ (@z02 _ _ _ _ _)) (fun _ _=>rfl)) (@z1k _ _ _ _ (@z02 _ _ _ _ _)) (@z1Q _ _)))) (@z0H _ _) (by rfl)) (by decide)) (@z06 _ _ _ _ (@z2w _ _ _ _ _ _ _ _ _ _ (pv 13) (@z1k _ _ _ _ (@z02 _ _ _ _ _)) (@z1Q _ _)))) (@z0H _ _) (by rfl)) (by rfl)) (by decide)) (by intro _; rfl) (by rfl) (by rfl) (by rfl))
   ·exact z0F
  refine (@z0c _ _ _ _ ?_)
  refine (@z0n _ _ _ _ _ ?_)
  exact (@z4s _ _ _ _ _ _ (@z04 _ _ _ _ _ _ (@z0h _ _ _ _ (pv 3)) (@z04 _ _ _ _ _ _ (@z0h _ _ _ _ (pv 4)) (@z04 _ _ _ _ _ _ (@z5w _ _ _ _ _ _ rfl T.z_tuple (@z09 _ _ _ _ (pv 8)) (by rfl)) (@z0H _ _) (by rfl)) (by rfl)) (by rfl)) (by decide))) fun ss y h=>z0E h
def z2e:DS:=(dSeq (dAsg (z3w [.str [],.str [114,117,108,101],.str [114,117,108,101,32,50],.str [114,117,108,101,32,50,32,50,32,50],.str [114,117,108,101,32,49,32,49]]) (gNm [0] 1)) (dSeq (dAsg (eOpF pAdd 1 (bOf (z3w [.str [114,117,108,101,32,48,32,50],.str [114,117,108,101,32,53,32,50],.str [114,117,108,101,32,50,32,53],.str [114,117,108,101,32,48,50,32,50],.str [114,117,108,101,32,45,49,32,50]]))) (gNm [0] 1)) (dSeq (dAsg (eOpF pAdd 1 (bOf (z3w [.str [114,117,108,101,32,32,50,32,50],.str [114,117,108,101,32,50,32,50,32],.str [32,114,117,108,101,32,50,32,50],.str [82,117,108,101,32,50,32,50]]))) (gNm [0] 1)) (dSeq (dAsg (eOpF pAdd 1 (bOf (z3w [.str [114,117,108,101,32,97,32,50],.str [97,32,97,98,47,98,97],.str [114,117,108,101,32,50,32,43,50],.str [114,117,108,101,32,50,32,50,46,48]]))) (gNm [0] 1)) (dRet (eOp pIx (eOpF pAdd 1 (bOf (eLst (z0m (eOp pAdd (eD (.str [114,117,108,101,32,50,32])) (bOf (eOp z4X (eD (.str [49])) (bOf (eD (.int 41)))))) (z0m (eD (.str [114,117,108,101,32,52,32,52])) (z0m (eD (.str [114,117,108,101,32,49,32,51])) aNil)))))) (bOf (z08 z0g [.io 0,.val (eD (.int 21))]))))))))
def z0T:DF:=gOf [0] 2 z2e
theorem z3Q:z1s z0T:=z0p
theorem sc__law_odd_first:FnScope ["pen","some"] ["pen"] (z05 z2a):=⟨rfl,rfl,rfl,by decide +kernel,rfl,by decide +kernel,by decide +kernel⟩
theorem z52 {K:W0} (F:Fun K "_law_odd_first" "_law_odd_first" z2a f fd) (hm:mg "_law_odd_first" = some (.ref f)) (hb:Binds K fd ["pen"] []) (T:Txt ce K mg) (k__law_draw:KFn P w K mg base 2 "_law_draw" 2 z0g):KFn P w K mg base 3 "_law_odd_first" 1 z0T :=
 z1i (np:=[0]) (fb:=z2e) F hm hb sc__law_odd_first (fun c cdv A outer s H E hr hnp=>by
  have hq:=z1K hr
  refine (z01 ?_ ?_)
  ·exact (@z0t _ _ _ _ _ _ ([0]) (1) _ hnp sc__law_odd_first.nd rfl (Or.inl rfl) (z1d (by rfl) (by decide)) rfl (Or.inl rfl))
  refine (z01 ?_ ?_)
  ·exact (@z0t _ _ _ _ _ _ ([0]) (1) _ hnp sc__law_odd_first.nd rfl (Or.inl rfl) (z0K z0f z0k (pv 1) (z06 (z1d (by rfl) (by decide)))) rfl (Or.inl rfl))
  refine (z01 ?_ ?_)
  ·exact (@z0t _ _ _ _ _ _ ([0]) (1) _ hnp sc__law_odd_first.nd rfl (Or.inl rfl) (z0K z0f z0k (pv 1) (z06 (z1d (by rfl) (by decide)))) rfl (Or.inl rfl))
  refine (z01 ?_ ?_)
  ·exact (@z0t _ _ _ _ _ _ ([0]) (1) _ hnp sc__law_odd_first.nd rfl (Or.inl rfl) (z0K z0f z0k (pv 1) (z06 (z1d (by rfl) (by decide)))) rfl (Or.inl rfl))
  refine (z0c ?_)
  refine (z0n ?_)
  exact (zaj z0v z0O (z0K z0f z0k (pv 1) (z06 (z1z (z04 (z12 z0f z0k (z0x [114,117,108,101,32,50,32] (by decide +kernel)) (z06 (z12 z7e z7k (z0x [49] (by decide +kernel)) (z06 z02)))) (z04 (z0x [114,117,108,101,32,52,32,52] (by decide +kernel)) (z04 (z0x [114,117,108,101,32,49,32,51] (by decide +kernel)) z0H (by rfl)) (by rfl)) (by rfl)) (by decide)))) (z06 (@z0i _ _ _ _ _ (2) _ _ _ _ _ k__law_draw z0u (hr.mono (by decide)) rfl (z1X (pv 0) (z0a z02 z0r (by rfl)) (by rfl)) rfl (by decide) (by rfl) (by rfl))) (fun _ _=>rfl))) fun ss y h=>z0E h
def z2Q:DS:=(dSeq (dAsg (eSlN 1 z2M (z1x (eD (.int 1)))) (gNm [0] 2)) (dSeq (dAsg (eSlN 1 (z1x (eD (.int 2))) z2M) (gNm [0] 3)) (dSeq (dAsg (eLst (z0m (eD (.str [])) (z0m (eVar 2) (z0m (eVar 3) (z0m (eOp pAdd (eOpF pAdd 3 (bOf (eD (.str [32])))) (bVar 2)) aNil))))) (gNm [0] 4)) (dSeq (dAsg (eOpF pAdd 4 (bOf (eLst (z0m (eOpF pAdd 1 (bOf (eD (.str [32])))) (z0m (eOp pAdd (eD (.str [32])) (bVar 1)) (z0m (eOp pAdd (eOpF pAdd 2 (bOf (eD (.str [32,32])))) (bVar 3)) (z0m (eOp pAdd (eOp pAdd (eC1 z6F (bVar 2)) (bOf (eD (.str [32])))) (bVar 3)) aNil))))))) (gNm [0] 4)) (dSeq (dAsg (eOpF pAdd 4 (bOf (eLst (z0m (eOpF pAdd 1 (bOf (eD (.str [97])))) (z0m (eOp pAdd (eOpF pAdd 1 (bOf (eD (.str [47])))) (bVar 3)) (z0m (eOp pAdd (eOp pAdd (eOpF pAdd 2 (bVar 2)) (bOf (eD (.str [32])))) (bVar 3)) aNil)))))) (gNm [0] 4)) (dSeq (dAsg (eOpF pAdd 4 (bOf (eLst (z0m (eSlN 1 z2M (z1x (eC1 pNeg (bOf (eD (.int 1)))))) (z0m (eOp pAdd (eSlN 1 z2M (z1x (eC1 pNeg (bOf (eD (.int 1)))))) (bOf (eD (.str [49])))) (z0m (eOp pAdd (eSlN 1 z2M (z1x (eC1 pNeg (bOf (eD (.int 1)))))) (bOf (eD (.str [65])))) aNil)))))) (gNm [0] 4)) (dRet (eOp pIx (eOpF pAdd 4 (bOf (eLst (z0m (eOpF pAdd 1 (bOf (eD (.str [47])))) (z0m (eOp pAdd (eOpF pAdd 2 (bOf (eD (.str [32,47])))) (bVar 3)) (z0m (eOp pAdd (eD (.str [49,32])) (bVar 3)) (z0m (eOp pAdd (eOpF pAdd 1 (bOf (eD (.str [32])))) (bVar 3)) (z0m (eOp pAdd (eD (.str [122,32])) (bVar 3)) aNil)))))))) (bOf (z08 z0g [.io 0,.val (eD (.int 19))]))))))))))
def z1e:DF:=gOf [0] 5 z2Q
theorem z4F:z1s z1e:=z0p
theorem sc__law_odd_row:FnScope ["pen","row","tile","block","some"] ["pen","row"] (z05 z2J):=⟨rfl,rfl,rfl,by decide +kernel,rfl,by decide +kernel,by decide +kernel⟩
theorem z5S {K:W0} (F:Fun K "_law_odd_row" "_law_odd_row" z2J f fd) (hm:mg "_law_odd_row" = some (.ref f)) (hb:Binds K fd ["pen","row"] []) (T:Txt ce K mg) (k__law_draw:KFn P w K mg base 2 "_law_draw" 2 z0g):KFn P w K mg base 3 "_law_odd_row" 2 z1e :=
 z1i (np:=[0]) (fb:=z2Q) F hm hb sc__law_odd_row (fun c cdv A outer s H E hr hnp=>by
  have hq:=z1K hr
  refine (z01 ?_ ?_)
  ·exact (@z0t _ _ _ _ _ _ ([0]) (2) _ hnp sc__law_odd_row.nd rfl (Or.inl rfl) (z2w (pv 1) z1Q (z1k z02)) rfl (Or.inl rfl))
  refine (z01 ?_ ?_)
  ·exact (@z0t _ _ _ _ _ _ ([0]) (3) _ hnp sc__law_odd_row.nd rfl (Or.inl rfl) (z2w (pv 1) (z1k z02) z1Q) rfl (Or.inl rfl))
  refine (z01 ?_ ?_)
  ·exact (@z0t _ _ _ _ _ _ ([0]) (4) _ hnp sc__law_odd_row.nd rfl (Or.inl rfl) (z1z (z04 (z0x [] (by decide +kernel)) (z04 (z0h (pv 2)) (z04 (z0h (pv 3)) (z04 (z12 z0f z0k (z0K z0f z0k (pv 3) (z06 (z0x [32] (by decide +kernel)))) (z09 (pv 2))) z0H (by rfl)) (by rfl)) (by rfl)) (by rfl)) (by decide)) rfl (Or.inl rfl))
  refine (z01 ?_ ?_)
  ·exact (@z0t _ _ _ _ _ _ ([0]) (4) _ hnp sc__law_odd_row.nd rfl (Or.inl rfl) (z0K z0f z0k (pv 4) (z06 (z1z (z04 (z0K z0f z0k (pv 1) (z06 (z0x [32] (by decide +kernel)))) (z04 (z12 z0f z0k (z0x [32] (by decide +kernel)) (z09 (pv 1))) (z04 (z12 z0f z0k (z0K z0f z0k (pv 2) (z06 (z0x [32,32] (by decide +kernel)))) (z09 (pv 3))) (z04 (z12 z0f z0k (z12 z0f z0k (zbW (z09 (pv 2)) (by rfl) (by rfl)) (z06 (z0x [32] (by decide +kernel)))) (z09 (pv 3))) z0H (by rfl)) (by rfl)) (by rfl)) (by rfl)) (by decide)))) rfl (Or.inl rfl))
  refine (z01 ?_ ?_)
  ·exact (@z0t _ _ _ _ _ _ ([0]) (4) _ hnp sc__law_odd_row.nd rfl (Or.inl rfl) (z0K z0f z0k (pv 4) (z06 (z1z (z04 (z0K z0f z0k (pv 1) (z06 (z0x [97] (by decide +kernel)))) (z04 (z12 z0f z0k (z0K z0f z0k (pv 1) (z06 (z0x [47] (by decide +kernel)))) (z09 (pv 3))) (z04 (z12 z0f z0k (z12 z0f z0k (z0K z0f z0k (pv 2) (z09 (pv 2))) (z06 (z0x [32] (by decide +kernel)))) (z09 (pv 3))) z0H (by rfl)) (by rfl)) (by rfl)) (by decide)))) rfl (Or.inl rfl))
  refine (z01 ?_ ?_)
  ·exact (@z0t _ _ _ _ _ _ ([0]) (4) _ hnp sc__law_odd_row.nd rfl (Or.inl rfl) (z0K z0f z0k (pv 4) (z06 (z1z (z04 (z2w (pv 1) z1Q (z1k (z7F (z06 z02)))) (z04 (z12 z0f z0k (z2w (pv 1) z1Q (z1k (z7F (z06 z02)))) (z06 (z0x [49] (by decide +kernel)))) (z04 (z12 z0f z0k (z2w (pv 1) z1Q (z1k (z7F (z06 z02)))) (z06 (z0x [65] (by decide +kernel)))) z0H (by rfl)) (by rfl)) (by rfl)) (by decide)))) rfl (Or.inl rfl))
  refine (z0c ?_)
  refine (z0n ?_)
  exact (zaj z0v z0O (z0K z0f z0k (pv 4) (z06 (z1z (z04 (z0K z0f z0k (pv 1) (z06 (z0x [47] (by decide +kernel)))) (z04 (z12 z0f z0k (z0K z0f z0k (pv 2) (z06 (z0x [32,47] (by decide +kernel)))) (z09 (pv 3))) (z04 (z12 z0f z0k (z0x [49,32] (by decide +kernel)) (z09 (pv 3))) (z04 (z12 z0f z0k (z0K z0f z0k (pv 1) (z06 (z0x [32] (by decide +kernel)))) (z09 (pv 3))) (z04 (z12 z0f z0k (z0x [122,32] (by decide +kernel)) (z09 (pv 3))) z0H (by rfl)) (by rfl)) (by rfl)) (by rfl)) (by rfl)) (by decide)))) (z06 (@z0i _ _ _ _ _ (2) _ _ _ _ _ k__law_draw z0u (hr.mono (by decide)) rfl (z1X (pv 0) (z0a z02 z0r (by rfl)) (by rfl)) rfl (by decide) (by rfl) (by rfl))) (fun _ _=>rfl))) fun ss y h=>z0E h
def z3a:DS:=(dSeq (dAsg (z08 z0g [.io 0,.val (eC1 pLen (bVar 1))]) (gNm [0] 2)) (dSeq (dAsg (z08 z0g [.io 0,.val (eC1 pLen (bVar 1))]) (gNm [0] 3)) (dSeq (dAsg (z08 z0g [.io 0,.val (eD (.int 7))]) (gNm [0] 4)) (dSeq (dAsg (eC1 z7Q (bVar 1)) (gNm [0] 5)) (dSeq (dIf (dTr (eOpF pEq 4 (bOf (eD (.int 0))))) (dRet (eSlN 5 z2M (z1x (eD (.int 1))))) z0I) (dSeq (dIf (dTr (eOpF pEq 4 (bOf (eD (.int 1))))) (dRet (eOp pAdd (eSlN 5 z2M (z1x (eVar 2))) (bOf (eSlN 5 (z1x (eOpF pAdd 2 (bOf (eD (.int 1))))) z2M)))) z0I) (dSeq (dIf (dTr (eOpF pEq 4 (bOf (eD (.int 2))))) (dRet (eOp pAdd (eSlN 5 z2M (z1x (eOpF pAdd 2 (bOf (eD (.int 1)))))) (bOf (eSlN 5 (z1x (eVar 2)) z2M)))) z0I) (dSeq (dIf (dTr (eOpF pEq 4 (bOf (eD (.int 3))))) (z4K 5 (eVar 2) (eOpF pIx 1 (bVar 3))) (dIf (dTr (eOpF pEq 2 (bOf (eD (.int 0))))) (z4K 5 (eD (.int 0)) (z08 z0T [.io 0])) (z4K 5 (eVar 2) (z08 z1e [.io 0,.val (eOpF pIx 1 (bVar 2))])))) (z9Z [0] 5)))))))))
def z1q:DF:=gOf [0] 6 z3a
theorem z56:z1s z1q:=z0p
theorem sc__law_spoilt:FnScope ["pen","rows","spot","other","way","found"] ["pen","rows"] (z05 z30):=⟨rfl,rfl,rfl,by decide +kernel,rfl,by decide +kernel,by decide +kernel⟩
theorem z6m {K:W0} (F:Fun K "_law_spoilt" "_law_spoilt" z30 f fd) (hm:mg "_law_spoilt" = some (.ref f)) (hb:Binds K fd ["pen","rows"] []) (T:Txt ce K mg) (k__law_draw:KFn P w K mg base 2 "_law_draw" 2 z0g) (k__law_odd_first:KFn P w K mg base 3 "_law_odd_first" 1 z0T) (k__law_odd_row:KFn P w K mg base 3 "_law_odd_row" 2 z1e):KFn P w K mg base 4 "_law_spoilt" 2 z1q :=
 z1i (np:=[0]) (fb:=z3a) F hm hb sc__law_spoilt (fun c cdv A outer s H E hr hnp=>by
  have hq:=z1K hr
  refine (z01 ?_ ?_)
  ·exact (@z0t _ _ _ _ _ _ ([0]) (2) _ hnp sc__law_spoilt.nd rfl (Or.inl rfl) (@z0i _ _ _ _ _ (2) _ _ _ _ _ k__law_draw z0u (hr.mono (by decide)) rfl (z1X (pv 0) (z0a (z1g rfl T.z_len (z09 (pv 1)) (by rfl)) z0r (by rfl)) (by rfl)) rfl (by decide) (by rfl) (by rfl)) rfl (Or.inl rfl))
  refine (z01 ?_ ?_)
  ·exact (@z0t _ _ _ _ _ _ ([0]) (3) _ hnp sc__law_spoilt.nd rfl (Or.inl rfl) (@z0i _ _ _ _ _ (2) _ _ _ _ _ k__law_draw z0u (hr.mono (by decide)) rfl (z1X (pv 0) (z0a (z1g rfl T.z_len (z09 (pv 1)) (by rfl)) z0r (by rfl)) (by rfl)) rfl (by decide) (by rfl) (by rfl)) rfl (Or.inl rfl))
  refine (z01 ?_ ?_)
  ·exact (@z0t _ _ _ _ _ _ ([0]) (4) _ hnp sc__law_spoilt.nd rfl (Or.inl rfl) (@z0i _ _ _ _ _ (2) _ _ _ _ _ k__law_draw z0u (hr.mono (by decide)) rfl (z1X (pv 0) (z0a z02 z0r (by rfl)) (by rfl)) rfl (by decide) (by rfl) (by rfl)) rfl (Or.inl rfl))
  refine (z01 ?_ ?_)
  ·exact (@z0t _ _ _ _ _ _ ([0]) (5) _ hnp sc__law_spoilt.nd rfl (Or.inl rfl) (zbX rfl rfl T.z_list (z09 (pv 1)) (by rfl)) rfl (Or.inl rfl))
  refine (z01 ?_ ?_)
  ·refine (z16 ?_ ?_ ?_)
   ·exact (z2F (z21 hq) z3n (pv 4) (z06 z02) (z0z _))
   ·refine (z0c ?_)
    refine (z0n ?_)
    exact (z2w (pv 5) z1Q (z1k z02))
   ·exact z0F
  refine (z01 ?_ ?_)
  ·refine (z16 ?_ ?_ ?_)
   ·exact (z2F (z21 hq) z3n (pv 4) (z06 z02) (z0z _))
   ·refine (z0c ?_)
    refine (z0n ?_)
    exact (z12 z0f z0k (z2w (pv 5) z1Q (z1k (z0h (pv 2)))) (z06 (z2w (pv 5) (z1k (z0K z0f z0k (pv 2) (z06 z02))) z1Q)))
   ·exact z0F
  refine (z01 ?_ ?_)
  ·refine (z16 ?_ ?_ ?_)
   ·exact (z2F (z21 hq) z3n (pv 4) (z06 z02) (z0z _))
   ·refine (z0c ?_)
    refine (z0n ?_)
    exact (z12 z0f z0k (z2w (pv 5) z1Q (z1k (z0K z0f z0k (pv 2) (z06 z02)))) (z06 (z2w (pv 5) (z1k (z0h (pv 2))) z1Q)))
   ·exact z0F
  refine (z01 ?_ ?_)
  ·refine (z16 ?_ ?_ ?_)
   ·exact (z2F (z21 hq) z3n (pv 4) (z06 z02) (z0z _))
   ·refine (z0c ?_)
    exact (z4R (pv 5) (z0h (pv 2)) (z0A z0v z0O (pv 1) (z09 (pv 3)) (fun _ _=>rfl)) (by intro _; rfl) (by rfl) (by rfl) (by rfl))
   ·refine (z0c ?_)
    refine (z16 ?_ ?_ ?_)
    ·exact (z2F (z21 hq) z3n (pv 2) (z06 z02) (z0z _))
    ·refine (z0c ?_)
     exact (z4R (pv 5) z02 (@z0i _ _ _ _ _ (3) _ _ _ _ _ k__law_odd_first z3Q (hr.mono (by decide)) rfl (z1X (pv 0) z0r (by rfl)) rfl (by decide) (by rfl) (by rfl)) (by intro _; rfl) (by rfl) (by rfl) (by rfl))
    ·refine (z0c ?_)
     exact (z4R (pv 5) (z0h (pv 2)) (@z0i _ _ _ _ _ (3) _ _ _ _ _ k__law_odd_row z4F (hr.mono (by decide)) rfl (z1X (pv 0) (z0a (z0A z0v z0O (pv 1) (z09 (pv 2)) (fun _ _=>rfl)) z0r (by rfl)) (by rfl)) rfl (by decide) (by rfl) (by rfl)) (by intro _; rfl) (by rfl) (by rfl) (by rfl))
  refine (z0c ?_)
  exact (zdI hnp (pv 5))) fun ss y h=>z0E h
def z2d:DS:=(dSeq (dAsg (z3w [.str [],.str [47],.str [97,98,47],.str [47,97,98],.str [97,98,47,97],.str [97,47,98,99],.str [97,98,47,47,97,98]]) (gNm [0] 1)) (dSeq (dAsg (eOpF pAdd 1 (bOf (eLst (z0m (eD (.str [97,66])) (z0m (eD (.str [97,32,98])) (z0m (eD (.str [97,49])) (z0m (eD (.str [97,47,98,32])) (z0m (eOp z4X (eD (.str [97])) (bOf (eD (.int 65)))) (z0m (eC1 (z1w [47]) (bOf (eOp z9N (z3w [.str [97]]) (bOf (eD (.int 65)))))) aNil))))))))) (gNm [0] 1)) (dRet (eOp pIx (eOpF pAdd 1 (bOf (z3w [.str [32,97,98],.str [97,98,59],.str [97,45,98]]))) (bOf (z08 z0g [.io 0,.val (eD (.int 16))]))))))
def z0D:DF:=gOf [0] 2 z2d
theorem z3P:z1s z0D:=z0p
theorem sc__law_odd_floor:FnScope ["pen","some"] ["pen"] (z05 z29):=⟨rfl,rfl,rfl,by decide +kernel,rfl,by decide +kernel,by decide +kernel⟩
theorem z51 {K:W0} (F:Fun K "_law_odd_floor" "_law_odd_floor" z29 f fd) (hm:mg "_law_odd_floor" = some (.ref f)) (hb:Binds K fd ["pen"] []) (T:Txt ce K mg) (k__law_draw:KFn P w K mg base 2 "_law_draw" 2 z0g):KFn P w K mg base 3 "_law_odd_floor" 1 z0D :=
 z1i (np:=[0]) (fb:=z2d) F hm hb sc__law_odd_floor (fun c cdv A outer s H E hr hnp=>by
  have hq:=z1K hr
  refine (z01 ?_ ?_)
  ·exact (@z0t _ _ _ _ _ _ ([0]) (1) _ hnp sc__law_odd_floor.nd rfl (Or.inl rfl) (z1d (by rfl) (by decide)) rfl (Or.inl rfl))
  refine (z01 ?_ ?_)
  ·exact (@z0t _ _ _ _ _ _ ([0]) (1) _ hnp sc__law_odd_floor.nd rfl (Or.inl rfl) (z0K z0f z0k (pv 1) (z06 (z1z (z04 (z0x [97,66] (by decide +kernel)) (z04 (z0x [97,32,98] (by decide +kernel)) (z04 (z0x [97,49] (by decide +kernel)) (z04 (z0x [97,47,98,32] (by decide +kernel)) (z04 (z12 z7e z7k (z0x [97] (by decide +kernel)) (z06 z02)) (z04 (z3V [47] (z06 (z12 zep zes (z1d (by rfl) (by decide)) (z06 z02))) (by decide +kernel) (by rfl) (by rfl) (by rfl) (by rfl)) z0H (by rfl)) (by rfl)) (by rfl)) (by rfl)) (by rfl)) (by rfl)) (by decide)))) rfl (Or.inl rfl))
  refine (z0c ?_)
  refine (z0n ?_)
  exact (zaj z0v z0O (z0K z0f z0k (pv 1) (z06 (z1d (by rfl) (by decide)))) (z06 (@z0i _ _ _ _ _ (2) _ _ _ _ _ k__law_draw z0u (hr.mono (by decide)) rfl (z1X (pv 0) (z0a z02 z0r (by rfl)) (by rfl)) rfl (by decide) (by rfl) (by rfl))) (fun _ _=>rfl))) fun ss y h=>z0E h
abbrev B5_:DS:=dAsg (eC1 (z1w [10]) (bOf (z08 z1q [.io 4,.val (eVar 6)]))) (gNm [] 2)
abbrev B11_:DS:=dAsg (z08 z0N [.io 4,.val (eD (.int 6))]) (gNm [] 5)
def zeQ (ce:Tx→Nat):DS:=(dSeq (dFor (iSq (eLst (z0m (eD .non) (z0m (eD (.int 0)) (z0m (eD (.bl true)) (z0m (z3w [.str [97]]) (z0m (eD (.tup [.str [97]])) (z0m zbq aNil)))))))) (gNm [] 1) (dIf (dOr (dTr (eOp pNe (z08 (z0e ce) [.val (eD (.int 0)),.val (eVar 1)]) (bOf (eD (.int 0))))) (dTr (eOp pNe (z08 (z0e ce) [.val (eD (.int 1)),.val (eVar 1)]) (bOf (eD (.int 0)))))) (dRet (eD (.bl false))) z0I)) (dSeq (dFor (iSq (z3w [.str [],.str [114,117,108,101,32,50,32,50],.str [114,117,108,101,32,49,32,50,10,97,32,97,97],.str [114,117,108,101,32,49,32,50,10,97,32,97,98],.str [114,117,108,101,32,49,32,50,10,97,32,97,98,10,98,32,98,99],.str [114,117,108,101,32,49,32,50,10],.str [10]])) (gNm [] 2) (dIf (dTr (eOp pNe (z08 (z0e ce) [.val (eD (.int 0)),.val (eVar 2)]) (bOf (z08 z0U [.val (eVar 2)])))) (dRet (eD (.bl false))) z0I)) (dSeq (dFor (iSq (eOp pAdd (eLst (z0m (z08 z10 [.val (eVar 0),.val (eD (.int 0))]) aNil)) (bOf (eSlN 0 (z1x (eD (.int 1))) (z1x (eD (.int 6))))))) (gNm [] 3) (dSeq (dAsg (z08 z0W [.val (eVar 3)]) (gNm [] 4)) (dSeq (B11_) (dSeq (dAsg (eLst (z0m (eOp pAdd (eOp pAdd (eOp pAdd (eD (.str [114,117,108,101,32])) (bOf (eC1 z5M (bOf (eOpF pIx 5 (bOf (eD (.int 0)))))))) (bOf (eD (.str [32])))) (bOf (eC1 z5M (bOf (eOpF pIx 5 (bOf (eD (.int 1)))))))) aNil)) (gNm [] 6)) (dSeq (z5b 6 (z2q [8,9] (iSq (eOpF pIx 5 (bOf (eD (.int 2))))) (gTp 2 (z0l (gNm [] 8) (z0l (gNm [] 9) z1j))) dYes (eOp pAdd (eOpF pAdd 8 (bOf (eD (.str [32])))) (bOf (eC1 (z1w [47]) (bVar 9)))))) (dSeq (dFor (z2n (eD (.int 4))) (gNm [] 7) (dSeq (B5_) (dIf (dTr (eOp pNe (z08 (z0e ce) [.val (eD (.int 0)),.val (eVar 2)]) (bOf (z08 z0U [.val (eVar 2)])))) (dRet (eD (.bl false))) z0I))) (dIf (dOr (dTr (eOp (pIsN true) (z08 (z0e ce) [.val (eD (.int 0)),.val (eC1 (z1w [10]) (bVar 6))]) (bOf (eD .non)))) (dTr (eOp pNe (z08 (z0e ce) [.val (eD (.int 1)),.val (z08 z0D [.io 4])]) (bOf (eD (.int 1)))))) (dRet (eD (.bl false))) z0I))))))) (dRet (eD (.bl true))))))
def za5 (ce:Tx→Nat):DF:=gOf [] 10 (zeQ ce)
theorem zgn {ce:Tx→Nat}:z1s (za5 ce):=z0p
theorem sc_law:FnScope ["script","thing","text","cell","pen","rule","rows","turn","tile","block"] ["script"] (z05 z73):=⟨rfl,rfl,rfl,by decide +kernel,rfl,by decide +kernel,by decide +kernel⟩
theorem zg1 {K:W0} (F:Fun K "law" "law" z73 f fd) (T:Txt ce K mg) (k__law_told:KFn P w K mg base 6 "_law_told" 2 (z0e ce)) (k__law_due:KFn P w K mg base 2 "_law_due" 1 z0U) (k__law_cell_at:KFn P w K mg base 1 "_law_cell_at" 2 z10) (k__law_pen_of:KFn P w K mg base 1 "_law_pen_of" 1 z0W) (k__law_rule_by:KFn P w K mg base 3 "_law_rule_by" 2 z0N) (k__law_spoilt:KFn P w K mg base 4 "_law_spoilt" 2 z1q) (k__law_odd_floor:KFn P w K mg base 3 "_law_odd_floor" 1 z0D) {Gt:DF} (hGt:∀ ss y,Gt ss=some y→za5 ce ss=some y):FnOk P w K mg base CX0 7 f fd ["script"] (spD 1 Gt) :=
 zgs (np:=[]) (fb:=(zeQ ce)) F sc_law (fun c cdv A outer s H E hr hnp=>by
  have hq:=z1K hr
  refine (@z01 _ _ _ _ _ _ ?_ ?_)
  ·refine (@z3f _ _ _ _ _ _ _ _ _ PassesOwn.never rfl ?_ ?_ ?_ (by intro _; rfl))
   ·exact (@z5j _ _ _ _ _ (@z1z _ _ _ _ _ (@z04 _ _ _ _ _ _ (@z2U _ _ _ _) (@z04 _ _ _ _ _ _ (@z02 _ _ _ _ _) (@z04 _ _ _ _ _ _ (@z3W _ _ _ _ _) (@z04 _ _ _ _ _ _ (@z1d _ _ _ _ _ (by rfl) (by decide)) (@z04 _ _ _ _ _ _ (@z91 _ _ _ _ (by rfl)) (@z04 _ _ _ _ _ _ (@zbZ _ _ _) (@z0H _ _) (by rfl)) (by rfl)) (by rfl)) (by rfl)) (by rfl)) (by rfl)) (by decide)))
   ·exact (@z0Q _ _ _ ([]) (1) _ hnp sc_law.nd rfl (by first | exact Or.inl rfl | exact Or.inr rfl) (Or.inl rfl))
   ·refine (@z0c _ _ _ _ ?_)
    refine (@z16 _ _ _ _ _ _ _ _ _ ?_ ?_ ?_)
    ·exact (@z2E _ _ _ _ (@z2D _ _ _ _ _ _ _ _ (@z0J _ _ _ _ _ _ _ _ _ _ (z1G hq) z33 (@z0i _ _ _ _ _ (6) _ _ _ _ _ k__law_told z14 (hr.mono (by decide)) rfl (@z0a _ _ _ _ _ _ (@z02 _ _ _ _ _) (@z0a _ _ _ _ _ _ (@z0h _ _ _ _ (pv 1)) (@z0r _ _) (by rfl)) (by rfl)) rfl (by decide) (by rfl) (by rfl)) (@z06 _ _ _ _ (@z02 _ _ _ _ _)) (z0z _)) (@z1L _ _ _ _ _ (@z0J _ _ _ _ _ _ _ _ _ _ (z1G hq) z33 (@z0i _ _ _ _ _ (6) _ _ _ _ _ k__law_told z14 (hr.mono (by decide)) rfl (@z0a _ _ _ _ _ _ (@z02 _ _ _ _ _) (@z0a _ _ _ _ _ _ (@z0h _ _ _ _ (pv 1)) (@z0r _ _) (by rfl)) (by rfl)) rfl (by decide) (by rfl) (by rfl)) (@z06 _ _ _ _ (@z02 _ _ _ _ _)) (z0z _)))))
    ·refine (@z0c _ _ _ _ ?_)
     refine (@z0n _ _ _ _ _ ?_)
     exact (@z3W _ _ _ _ _)
    ·exact z0F
  refine (@z01 _ _ _ _ _ _ ?_ ?_)
  ·refine (@z3f _ _ _ _ _ _ _ _ _ PassesOwn.never rfl ?_ ?_ ?_ (by intro _; rfl))
   ·exact (@z5j _ _ _ _ _ (@z1d _ _ _ _ _ (by rfl) (by decide)))
   ·exact (@z0Q _ _ _ ([]) (2) _ hnp sc_law.nd rfl (by first | exact Or.inl rfl | exact Or.inr rfl) (Or.inl rfl))
   ·refine (@z0c _ _ _ _ ?_)
    refine (@z16 _ _ _ _ _ _ _ _ _ ?_ ?_ ?_)
    ·exact (@z0J _ _ _ _ _ _ _ _ _ _ (z1G hq) z33 (@z0i _ _ _ _ _ (6) _ _ _ _ _ k__law_told z14 (hr.mono (by decide)) rfl (@z0a _ _ _ _ _ _ (@z02 _ _ _ _ _) (@z0a _ _ _ _ _ _ (@z0h _ _ _ _ (pv 2)) (@z0r _ _) (by rfl)) (by rfl)) rfl (by decide) (by rfl) (by rfl)) (@z06 _ _ _ _ (@z0i _ _ _ _ _ (2) _ _ _ _ _ k__law_due z3T (hr.mono (by decide)) rfl (@z0a _ _ _ _ _ _ (@z0h _ _ _ _ (pv 2)) (@z0r _ _) (by rfl)) rfl (by decide) (by rfl) (by rfl))) (z0z _))
    ·refine (@z0c _ _ _ _ ?_)
     refine (@z0n _ _ _ _ _ ?_)
     exact (@z3W _ _ _ _ _)
    ·exact z0F
  refine (@z01 _ _ _ _ _ _ ?_ ?_)
  ·refine (@z3f _ _ _ _ _ _ _ _ _ PassesOwn.never rfl ?_ ?_ ?_ (by intro _; rfl))
   ·exact (@z5j _ _ _ _ _ (@z12 _ _ _ _ _ _ _ _ _ _ z0f z0k (@z1z _ _ _ _ _ (@z04 _ _ _ _ _ _ (@z0i _ _ _ _ _ (1) _ _ _ _ _ k__law_cell_at z4H (hr.mono (by decide)) rfl (@z0a _ _ _ _ _ _ (@z0h _ _ _ _ (pv 0)) (@z0a _ _ _ _ _ _ (@z02 _ _ _ _ _) (@z0r _ _) (by rfl)) (by rfl)) rfl (by decide) (by rfl) (by rfl)) (@z0H _ _) (by rfl)) (by decide)) (@z06 _ _ _ _ (@z2w _ _ _ _ _ _ _ _ _ _ (pv 0) (@z1k _ _ _ _ (@z02 _ _ _ _ _)) (@z1k _ _ _ _ (@z02 _ _ _ _ _))))))
   ·exact (@z0Q _ _ _ ([]) (3) _ hnp sc_law.nd rfl (by first | exact Or.inl rfl | exact Or.inr rfl) (Or.inl rfl))
   ·refine (@z01 _ _ _ _ _ _ ?_ ?_)
    ·exact (@z0t _ _ _ _ _ _ ([]) (4) _ hnp sc_law.nd rfl (by first | exact Or.inl rfl | exact Or.inr rfl) (@z0i _ _ _ _ _ (1) _ _ _ _ _ k__law_pen_of z57 (hr.mono (by decide)) rfl (@z0a _ _ _ _ _ _ (@z0h _ _ _ _ (pv 3)) (@z0r _ _) (by rfl)) rfl (by decide) (by rfl) (by rfl)) rfl (Or.inl rfl))
    refine (@z01 _ _ _ _ _ _ ?_ ?_)
    ·exact (@z0t _ _ _ _ _ _ ([]) (5) _ hnp sc_law.nd rfl (by first | exact Or.inl rfl | exact Or.inr rfl) (@z0i _ _ _ _ _ (3) _ _ _ _ _ k__law_rule_by z4E (hr.mono (by decide)) rfl (@z1X _ _ _ _ _ _ (pv 4) (@z0a _ _ _ _ _ _ (@z02 _ _ _ _ _) (@z0r _ _) (by rfl)) (by rfl)) rfl (by decide) (by rfl) (by rfl)) rfl (Or.inl rfl))
    refine (@z01 _ _ _ _ _ _ ?_ ?_)
    ·exact (@z0t _ _ _ _ _ _ ([]) (6) _ hnp sc_law.nd rfl (by first | exact Or.inl rfl | exact Or.inr rfl) (@z1z _ _ _ _ _ (@z04 _ _ _ _ _ _ (@z12 _ _ _ _ _ _ _ _ _ _ z0f z0k (@z12 _ _ _ _ _ _ _ _ _ _ z0f z0k (@z12 _ _ _ _ _ _ _ _ _ _ z0f z0k (@z0x _ _ _ _ _ [114,117,108,101,32] (by decide +kernel)) (@z06 _ _ _ _ (@zai _ _ _ _ _ _ rfl T.z_str (@z06 _ _ _ _ (@z0A _ _ _ _ _ _ _ _ _ z0v z0O (pv 5) (@z06 _ _ _ _ (@z02 _ _ _ _ _)) (fun _ _=>rfl))) (by rfl)))) (@z06 _ _ _ _ (@z0x _ _ _ _ _ [32] (by decide +kernel)))) (@z06 _ _ _ _ (@zai _ _ _ _ _ _ rfl T.z_str (@z06 _ _ _ _ (@z0A _ _ _ _ _ _ _ _ _ z0v z0O (pv 5) (@z06 _ _ _ _ (@z02 _ _ _ _ _)) (fun _ _=>rfl))) (by rfl)))) (@z0H _ _) (by rfl)) (by decide)) rfl (Or.inl rfl))
    refine (@z01 _ _ _ _ _ _ ?_ ?_)
    ·exact (zae (pv 6) (@z4V _ _ ([8,9]) _ _ _ _ _ _ _ _ _ _ rfl (@z2r _ _ _ rfl rfl) (@z5j _ _ _ _ _ (@z0A _ _ _ _ _ _ _ _ _ z0v z0O (pv 5) (@z06 _ _ _ _ (@z02 _ _ _ _ _)) (fun _ _=>rfl))) (fun l s0 H0 ex=>(@zdQ _ _ _ _ _ _ _ _ rfl (@z7D _ _ _ _ _ _ _ (@z2v _ _ _ _ ([]) (8) _ hnp sc_law.nd rfl (by first | exact Or.inl rfl | exact Or.inr rfl) (by first | exact Or.inl rfl | exact Or.inr rfl) (by decide)) (@z7D _ _ _ _ _ _ _ (@z2v _ _ _ _ ([]) (9) _ hnp sc_law.nd rfl (by first | exact Or.inl rfl | exact Or.inr rfl) (by first | exact Or.inl rfl | exact Or.inr rfl) (by decide)) (@zbU _ _ _) (by rfl)) (by rfl)) (by rfl) (by rfl))) (fun l s0 H0 ex=>(@z4O _ _)) (fun l s0 H0 ex=>(@z12 _ _ _ _ _ _ _ _ _ _ z0f z0k (@z0K _ _ _ _ _ _ _ _ _ _ z0f z0k (pv 8) (@z06 _ _ _ _ (@z0x _ _ _ _ _ [32] (by decide +kernel)))) (@z06 _ _ _ _ (@z3V _ _ _ _ _ _ _ _ _ [47] (@z09 _ _ _ _ (pv 9)) (by decide +kernel) (by rfl) (by rfl) (by rfl) (by rfl))))) (z5U hnp rfl) (by intro _; rfl)))
    refine (@z01 _ _ _ _ _ _ ?_ ?_)
    ·refine (@z3f _ _ _ _ _ _ _ _ _ PassesOwn.never rfl ?_ ?_ ?_ (by intro _; rfl))
     ·exact (@z5F _ _ _ _ _ _ _ rfl T.z_range (@z02 _ _ _ _ _) (by rfl))
     ·exact (@z0Q _ _ _ ([]) (7) _ hnp sc_law.nd rfl (by first | exact Or.inl rfl | exact Or.inr rfl) (Or.inl rfl))
     ·refine (@z01 _ _ _ _ _ _ ?_ ?_)
      ·exact (@z0t _ _ _ _ _ _ ([]) (2) _ hnp sc_law.nd rfl (by first | exact Or.inl rfl | exact Or.inr rfl) (@z3V _ _ _ _ _ _ _ _ _ [10] (@z06 _ _ _ _ (@z0i _ _ _ _ _ (4) _ _ _ _ _ k__law_spoilt z56 (hr.mono (by decide)) rfl (@z1X _ _ _ _ _ _ (pv 4) (@z0a _ _ _ _ _ _ (@z0h _ _ _ _ (pv 6)) (@z0r _ _) (by rfl)) (by rfl)) rfl (by decide) (by rfl) (by rfl))) (by decide +kernel) (by rfl) (by rfl) (by rfl) (by rfl)) rfl (Or.inl rfl))
      refine (@z0c _ _ _ _ ?_)
      refine (@z16 _ _ _ _ _ _ _ _ _ ?_ ?_ ?_)
      ·exact (@z0J _ _ _ _ _ _ _ _ _ _ (z1G hq) z33 (@z0i _ _ _ _ _ (6) _ _ _ _ _ k__law_told z14 (hr.mono (by decide)) rfl (@z0a _ _ _ _ _ _ (@z02 _ _ _ _ _) (@z0a _ _ _ _ _ _ (@z0h _ _ _ _ (pv 2)) (@z0r _ _) (by rfl)) (by rfl)) rfl (by decide) (by rfl) (by rfl)) (@z06 _ _ _ _ (@z0i _ _ _ _ _ (2) _ _ _ _ _ k__law_due z3T (hr.mono (by decide)) rfl (@z0a _ _ _ _ _ _ (@z0h _ _ _ _ (pv 2)) (@z0r _ _) (by rfl)) rfl (by decide) (by rfl) (by rfl))) (z0z _))
      ·refine (@z0c _ _ _ _ ?_)
       refine (@z0n _ _ _ _ _ ?_)
       exact (@z3W _ _ _ _ _)
      ·exact z0F
    refine (@z0c _ _ _ _ ?_)
    refine (@z16 _ _ _ _ _ _ _ _ _ ?_ ?_ ?_)
    ·exact (@z2E _ _ _ _ (@z2D _ _ _ _ _ _ _ _ (@z0J _ _ _ _ _ _ _ _ _ _ zaP zaU (@z0i _ _ _ _ _ (6) _ _ _ _ _ k__law_told z14 (hr.mono (by decide)) rfl (@z0a _ _ _ _ _ _ (@z02 _ _ _ _ _) (@z0a _ _ _ _ _ _ (@z3V _ _ _ _ _ _ _ _ _ [10] (@z09 _ _ _ _ (pv 6)) (by decide +kernel) (by rfl) (by rfl) (by rfl) (by rfl)) (@z0r _ _) (by rfl)) (by rfl)) rfl (by decide) (by rfl) (by rfl)) (@z06 _ _ _ _ (@z2U _ _ _ _)) rfl) (@z1L _ _ _ _ _ (@z0J _ _ _ _ _ _ _ _ _ _ (z1G hq) z33 (@z0i _ _ _ _ _ (6) _ _ _ _ _ k__law_told z14 (hr.mono (by decide)) rfl (@z0a _ _ _ _ _ _ (@z02 _ _ _ _ _) (@z0a _ _ _ _ _ _ (@z0i _ _ _ _ _ (3) _ _ _ _ _ k__law_odd_floor z3P (hr.mono (by decide)) rfl (@z1X _ _ _ _ _ _ (pv 4) (@z0r _ _) (by rfl)) rfl (by decide) (by rfl) (by rfl)) (@z0r _ _) (by rfl)) (by rfl)) rfl (by decide) (by rfl) (by rfl)) (@z06 _ _ _ _ (@z02 _ _ _ _ _)) (z0z _)))))
    ·refine (@z0c _ _ _ _ ?_)
     refine (@z0n _ _ _ _ _ ?_)
     exact (@z3W _ _ _ _ _)
    ·exact z0F
  refine (@z0c _ _ _ _ ?_)
  refine (@z0n _ _ _ _ _ ?_)
  exact (@z3W _ _ _ _ _)) fun ss y h=>z0E (hGt ss y h)
theorem all_mk {l:PySem.W.OpenLaw} {w:Wr} {K:W0} {h:Heap} {mg:Str→Option Value} {fa:Addr} {Gt:DF} (hGt:∀ ce ss y,Gt ss=some y→za5 ce ss=some y) (X:K.In h) (G:h.Ns Wl mg) (hfa:mg "law" = some (.ref fa))
  (d0:FnH K "number_written" z28)
  (d1:FnH K "whole_from" z3g)
  (d2:FnH K "whole_within" z2G)
  (d3:FnH K "sizes_good" z3i)
  (d4:FnH K "sizes_read" z3h)
  (d5:FnH K "rows_read" z3Z)
  (d6:FnH K "pair_read" z40)
  (d7:FnH K "letters_good" z2H)
  (d8:FnH K "floor_good" z3k)
  (d9:FnH K "tile_good" z3X)
  (d10:FnH K "pair_good" z41)
  (d11:FnH K "first_unblocked" z1R)
  (d12:FnH K "rule_read" z3Y)
  (d13:FnH K "floor_read" z3j)
  (d14:FnH K "_law_kind_of" z2K)
  (d15:FnH K "_law_whole" z3l)
  (d16:FnH K "_law_told" z42)
  (d17:FnH K "_law_size" z43)
  (d18:FnH K "_law_block_of" z2l)
  (d19:FnH K "_law_due" z4W)
  (d20:FnH K "_law_cell_at" z2L)
  (d21:FnH K "_law_pen_of" z31)
  (d22:FnH K "_law_next" z44)
  (d23:FnH K "_law_draw" z45)
  (d24:FnH K "_law_rule_by" z2I)
  (d25:FnH K "_law_odd_first" z2a)
  (d26:FnH K "_law_odd_row" z2J)
  (d27:FnH K "_law_spoilt" z30)
  (d28:FnH K "_law_odd_floor" z29)
  (a29:nsIn K Wl "law" = some (some (.ref f29)))
  (l29:K.lookup f29=some ⟨oc29,od29,.func (Qk "law" "law" (z35 z73) (z1n z73) (z05 z73) .none kV29 dc29 pm29 an29 cd29 ct29),sl29⟩)
  (c29:codeIn K cd29 "law" = true)
  (k29:keepIn K (.ref f29)=true)
  (z_ValueError:nsIn K Wl "ValueError" = some none)
  (z_all:nsIn K Wl "all" = some none)
  (z_bool:nsIn K Wl "bool" = some none)
  (z_dict:nsIn K Wl "dict" = some none)
  (z_enumerate:nsIn K Wl "enumerate" = some none)
  (z_int:nsIn K Wl "int" = some none)
  (z_isinstance:nsIn K Wl "isinstance" = some none)
  (z_len:nsIn K Wl "len" = some none)
  (z_list:nsIn K Wl "list" = some none)
  (z_max:nsIn K Wl "max" = some none)
  (z_range:nsIn K Wl "range" = some none)
  (z_str:nsIn K Wl "str" = some none)
  (z_tuple:nsIn K Wl "tuple" = some none)
  (g_MOST_FIGURES:nsIn K Wl "MOST_FIGURES" = some (some (.int 40 t_MOST_FIGURES)))
  (g_MOST_SIZE:nsIn K Wl "MOST_SIZE" = some (some (.int 4 t_MOST_SIZE)))
  (g_MOST_TILES:nsIn K Wl "MOST_TILES" = some (some (.int 64 t_MOST_TILES)))
  (ac_j:nsIn K Wl "FloorError" = some (some (.ref C_j)))
  (ac_a:nsIn K Wl "NoFloor" = some (some (.ref C_a)))
  (ac_b:nsIn K Wl "NoPlace" = some (some (.ref C_b)))
  (ac_c:nsIn K Wl "NoNumber" = some (some (.ref C_c)))
  (ac_d:nsIn K Wl "NoRow" = some (some (.ref C_d)))
  (ac_e:nsIn K Wl "Unlike" = some (some (.ref C_e)))
  (ac_f:nsIn K Wl "NoTile" = some (some (.ref C_f)))
  (ac_g:nsIn K Wl "NoRule" = some (some (.ref C_g)))
  (ac_h:nsIn K Wl "NoText" = some (some (.ref C_h)))
  (ac_i:nsIn K Wl "TooGreat" = some (some (.ref C_i)))
  (ia_h:Jg K (.ref C_h) "__init__" = some (some (.ref fi_h)))
  (li_h:K.lookup fi_h=some ⟨oci_h,odi_h,.func (Qk "__init__" "NoText.__init__" (z35 si_h) (z1n si_h) (z05 si_h) .none kVi_h dci_h pmi_h ani_h cdi_h cti_h),sli_h⟩)
  (cci_h:codeIn K cdi_h "NoText.__init__" = true)
  (kfi_h:keepIn K (.ref fi_h)=true)
  (qi_h:excI K C_h fi_h=true)
  (fni_h:PySem.W.isFn K (.ref fi_h)=true)
  (kci_h:keepIn K (.ref C_h)=true)
  (sai_h:Jg K (.ref C_h) "__setattr__" = some (some (.builtin "object.__setattr__")))
  (ovi_h:z9e K C_h=true)
  (hdi_h:Jt K C_h=true)
  (tki_h_row:PySem.W.takerIn K C_h "row" = some none)
  (qc_j:PySem.W.excIn K C_j vErr "ValueError.__new__" = true)
  (spc:PySem.W.specialIn K (.builtin "object.__class__") "__get__" = some (some (.builtin "getset_descriptor.__get__")))
  (tkc:PySem.W.takesIn K (.builtin "object.__class__")=some true)
  (ga_h:Jg K (.ref C_h) "__getattribute__" = some (some (.builtin "BaseException.__getattribute__")))
  (gt_h:Jg K (.ref C_h) "__getattr__" = some none)
  (cl_h:Jg K (.ref C_h) "__class__" = some (some (.builtin "object.__class__")))
  (mo_h:mroIn K C_h (.type "object")=some true)
  (mb_h:mroIn K C_h (.type "BaseException")=some true)
  (ci_h:PySem.W.isClsIn K C_h=true)
  (kv_h:kitOne K (.ref C_h) (.type "ValueError")=some true)
  (no_h_row:Jg K (.ref C_h) "row" = some none)
  (hx_h:Jt K C_h=true)
  (ki_h_a:kitOne K (.ref C_h) (.ref C_a)=some false)
  (ki_h_b:kitOne K (.ref C_h) (.ref C_b)=some false)
  (ki_h_c:kitOne K (.ref C_h) (.ref C_c)=some false)
  (ki_h_d:kitOne K (.ref C_h) (.ref C_d)=some false)
  (ki_h_e:kitOne K (.ref C_h) (.ref C_e)=some false)
  (ki_h_f:kitOne K (.ref C_h) (.ref C_f)=some false)
  (ki_h_g:kitOne K (.ref C_h) (.ref C_g)=some false)
  (ki_h_h:kitOne K (.ref C_h) (.ref C_h)=some true)
  (ki_h_i:kitOne K (.ref C_h) (.ref C_i)=some false)
  (mr_h_j:mroIn K C_h (.ref C_j)=some true)
  : ∃ fd:WD,(∀ (s:W2) (v:Value),BindsTo s fd ⟨[v],[]⟩ [("script",v)])∧∀ base:Heap,K.In base→base.Ns Wl mg→FnOk l.prog w K mg base CX0 7 fa fd ["script"] (spD 1 Gt):=by
 have e:=hfa.symm.trans (mg_of X G a29)
 cases e
 have E_h:ExcK K C_h:=⟨ga_h,gt_h,cl_h,spc,tkc,mo_h,mb_h⟩
 have T:Txt (ceOf [([70,108,111,111,114,69,114,114,111,114],C_j),([78,111,70,108,111,111,114],C_a),([78,111,80,108,97,99,101],C_b),([78,111,78,117,109,98,101,114],C_c),([78,111,82,111,119],C_d),([85,110,108,105,107,101],C_e),([78,111,84,105,108,101],C_f),([78,111,82,117,108,101],C_g),([78,111,84,101,120,116],C_h),([84,111,111,71,114,101,97,116],C_i)]) K mg:=⟨WG X G z_ValueError,WG X G z_all,WG X G z_bool,WG X G z_dict,WG X G z_enumerate,WG X G z_int,WG X G z_isinstance,WG X G z_len,WG X G z_list,WG X G z_max,WG X G z_range,WG X G z_str,WG X G z_tuple,zbO,zdw,zdv,za7,⟨_,mg_of X G g_MOST_FIGURES⟩,⟨_,mg_of X G g_MOST_SIZE⟩,⟨_,mg_of X G g_MOST_TILES⟩,mg_of X G ac_j,mg_of X G ac_a,mg_of X G ac_b,mg_of X G ac_c,mg_of X G ac_d,mg_of X G ac_e,mg_of X G ac_f,mg_of X G ac_g,mg_of X G ac_h,mg_of X G ac_i,qc_j,⟨(fm1 E_h),(fm1 ci_h),(fm1 ki_h_a)⟩,⟨(fm1 E_h),(fm1 ci_h),(fm1 ki_h_b)⟩,⟨(fm1 E_h),(fm1 ci_h),(fm1 ki_h_c)⟩,⟨(fm1 E_h),(fm1 ci_h),(fm1 ki_h_d)⟩,⟨(fm1 E_h),(fm1 ci_h),(fm1 ki_h_e)⟩,⟨(fm1 E_h),(fm1 ci_h),(fm1 ki_h_f)⟩,⟨(fm1 E_h),(fm1 ci_h),(fm1 ki_h_g)⟩,⟨(fm1 E_h),(fm1 ci_h),(fm1 ki_h_h)⟩,⟨(fm1 E_h),(fm1 ci_h),(fm1 ki_h_i)⟩,⟨(fm1 E_h),(fm1 no_h_row),(fm1 hx_h)⟩,⟨(fm1 E_h),(fm1 ci_h),(fm1 kv_h)⟩,(fm1 ⟨(by rw [show toS [78,111,84,101,120,116]=("NoText" : Str) from by decide +kernel]; exact mg_of X G ac_h),mr_h_j⟩)⟩
 obtain ⟨f0,fd0,F0,m0⟩:=fnH X G d0
 obtain ⟨f1,fd1,F1,m1⟩:=fnH X G d1
 obtain ⟨f2,fd2,F2,m2⟩:=fnH X G d2
 obtain ⟨f3,fd3,F3,m3⟩:=fnH X G d3
 obtain ⟨f4,fd4,F4,m4⟩:=fnH X G d4
 obtain ⟨f5,fd5,F5,m5⟩:=fnH X G d5
 obtain ⟨f6,fd6,F6,m6⟩:=fnH X G d6
 obtain ⟨f7,fd7,F7,m7⟩:=fnH X G d7
 obtain ⟨f8,fd8,F8,m8⟩:=fnH X G d8
 obtain ⟨f9,fd9,F9,m9⟩:=fnH X G d9
 obtain ⟨f10,fd10,F10,m10⟩:=fnH X G d10
 obtain ⟨f11,fd11,F11,m11⟩:=fnH X G d11
 obtain ⟨f12,fd12,F12,m12⟩:=fnH X G d12
 obtain ⟨f13,fd13,F13,m13⟩:=fnH X G d13
 obtain ⟨f14,fd14,F14,m14⟩:=fnH X G d14
 obtain ⟨f15,fd15,F15,m15⟩:=fnH X G d15
 obtain ⟨f16,fd16,F16,m16⟩:=fnH X G d16
 obtain ⟨f17,fd17,F17,m17⟩:=fnH X G d17
 obtain ⟨f18,fd18,F18,m18⟩:=fnH X G d18
 obtain ⟨f19,fd19,F19,m19⟩:=fnH X G d19
 obtain ⟨f20,fd20,F20,m20⟩:=fnH X G d20
 obtain ⟨f21,fd21,F21,m21⟩:=fnH X G d21
 obtain ⟨f22,fd22,F22,m22⟩:=fnH X G d22
 obtain ⟨f23,fd23,F23,m23⟩:=fnH X G d23
 obtain ⟨f24,fd24,F24,m24⟩:=fnH X G d24
 obtain ⟨f25,fd25,F25,m25⟩:=fnH X G d25
 obtain ⟨f26,fd26,F26,m26⟩:=fnH X G d26
 obtain ⟨f27,fd27,F27,m27⟩:=fnH X G d27
 obtain ⟨f28,fd28,F28,m28⟩:=fnH X G d28
 have F29:=zbf (st:=z73) l29 c29 k29
 have Fi_h:=zbf (st:=si_h) li_h cci_h kfi_h
 have bi_h:Binds K _ ["self","row"] []:=bd2 Fi_h fun _ _ _ _ _ _ _ _=>rfl
 refine ⟨Qk "law" "law" (z35 z73) (z1n z73) (z05 z73) .none kV29 dc29 pm29 an29 cd29 ct29,fun s v=>.of_eq rfl,fun base _ _=>?_⟩
 have n_h:IniK l.prog w K mg base C_h ["row"]:=⟨fi_h,_,["self","row"],qi_h,fni_h,kci_h,(Wo.mpr ⟨⟨sai_h,ovi_h,hdi_h,tki_h_row⟩,(fun _ h=>nomatch h)⟩),bi_h,zcK Fi_h sci_h rfl (fun vs h=>by unfold L2.start; simp [h]) fun cdv A outer s H E hr=>zaA (zeb rfl (pv 0) (pv 1) rfl)⟩
 have k_number_written:=z50 (P:=l.prog) (w:=w) (base:=base) F0 m0 (bd1 F0 fun _ _ _ _ _ _ _=>rfl) T
 have k_whole_from:=z7f (P:=l.prog) (w:=w) (base:=base) F1 m1 (bd2 F1 fun _ _ _ _ _ _ _ _=>rfl) T
 have k_whole_within:=z5P F2 m2 (bd3 F2 fun _ _ _ _ _ _ _ _ _=>rfl) T k_whole_from
 have k_sizes_good:=z7h F3 m3 (bd2 F3 fun _ _ _ _ _ _ _ _=>rfl) T k_whole_within
 have k_sizes_read:=z7g F4 m4 (bd1 F4 fun _ _ _ _ _ _ _=>rfl) T k_number_written k_sizes_good n_h
 have k_rows_read:=z7X (P:=l.prog) (w:=w) (base:=base) F5 m5 (bd1 F5 fun _ _ _ _ _ _ _=>rfl) T
 have k_pair_read:=z7Y F6 m6 (bd1 F6 fun _ _ _ _ _ _ _=>rfl) T k_rows_read
 have k_letters_good:=z5Q (P:=l.prog) (w:=w) (base:=base) F7 m7 (bd2 F7 fun _ _ _ _ _ _ _ _=>rfl) T
 have k_floor_good:=z7j F8 m8 (bd1 F8 fun _ _ _ _ _ _ _=>rfl) T k_letters_good
 have k_tile_good:=z7V F9 m9 (bd1 F9 fun _ _ _ _ _ _ _=>rfl) T k_letters_good
 have k_pair_good:=z7Z F10 m10 (bd3 F10 fun _ _ _ _ _ _ _ _ _=>rfl) T k_floor_good k_tile_good
 have k_first_unblocked:=z4z (P:=l.prog) (w:=w) (base:=base) F11 m11 (bd1 F11 fun _ _ _ _ _ _ _=>rfl) T
 have k_rule_read:=z7W F12 m12 (bd1 F12 fun _ _ _ _ _ _ _=>rfl) T k_sizes_read k_pair_read k_pair_good k_first_unblocked n_h
 have k_floor_read:=z7i F13 m13 (bd1 F13 fun _ _ _ _ _ _ _=>rfl) T k_rows_read k_floor_good n_h
 have h__law_kind_of:=z5k (P:=l.prog) (w:=w) (base:=base) F14 m14 (bd1 F14 fun _ _ _ _ _ _ _=>rfl) T
 have h__law_whole:=z6l (P:=l.prog) (w:=w) (base:=base) F15 m15 (bd1 F15 fun _ _ _ _ _ _ _=>rfl) T
 have k__law_told:=z80 F16 m16 (bd2 F16 fun _ _ _ _ _ _ _ _=>rfl) T k_rule_read k_floor_read h__law_kind_of h__law_whole
 have k__law_size:=z81 (P:=l.prog) (w:=w) (base:=base) F17 m17 (bd1 F17 fun _ _ _ _ _ _ _=>rfl) T
 have k__law_block_of:=z5l (P:=l.prog) (w:=w) (base:=base) F18 m18 (bd2 F18 fun _ _ _ _ _ _ _ _=>rfl) T
 have k__law_due:=z8L F19 m19 (bd1 F19 fun _ _ _ _ _ _ _=>rfl) T k__law_size k__law_block_of
 have k__law_cell_at:=z5T (P:=l.prog) (w:=w) (base:=base) F20 m20 (bd2 F20 fun _ _ _ _ _ _ _ _=>rfl) T
 have k__law_pen_of:=z6n (P:=l.prog) (w:=w) (base:=base) F21 m21 (bd1 F21 fun _ _ _ _ _ _ _=>rfl) T
 have k__law_next:=z82 (P:=l.prog) (w:=w) (base:=base) F22 m22 (bd1 F22 fun _ _ _ _ _ _ _=>rfl) T
 have k__law_draw:=z83 F23 m23 (bd2 F23 fun _ _ _ _ _ _ _ _=>rfl) T k__law_next
 have k__law_rule_by:=z5R F24 m24 (bd2 F24 fun _ _ _ _ _ _ _ _=>rfl) T k__law_draw
 have k__law_odd_first:=z52 F25 m25 (bd1 F25 fun _ _ _ _ _ _ _=>rfl) T k__law_draw
 have k__law_odd_row:=z5S F26 m26 (bd2 F26 fun _ _ _ _ _ _ _ _=>rfl) T k__law_draw
 have k__law_spoilt:=z6m F27 m27 (bd2 F27 fun _ _ _ _ _ _ _ _=>rfl) T k__law_draw k__law_odd_first k__law_odd_row
 have k__law_odd_floor:=z51 F28 m28 (bd1 F28 fun _ _ _ _ _ _ _=>rfl) T k__law_draw
 exact zg1 F29 T k__law_told k__law_due k__law_cell_at k__law_pen_of k__law_rule_by k__law_spoilt k__law_odd_floor (hGt _)
open PySem (sizeLine)
theorem z4J (f:DE) (δ:Dl):iSq f δ=(f δ).bind fun r δ1=>match r.d with
 | .lst ds=>.ok ds δ1
 | .tup ds=>.ok ds δ1
 | .str x=>.ok (x.map fun n=>.str [n]) δ1
 | _=>.stuck:=id rfl
theorem z13 (p p':D→D→Option S) (fa fb:DE) (fc:BE) (δ:Dl):z2Y p p' fa fb fc δ=(fa δ).bind fun x δ1=>(fb δ1).bind fun y δ2=>(p2 p x.d y.d δ2).bind fun z δ3=>match z with
 | .pure (.bl true)=>(fc δ3).bind fun w δ4=>p2 p' y.d w δ4
 | .pure (.bl false)=>.ok (.pure (.bl false)) δ3
 | _=>.stuck:=id rfl
theorem ev_inR (neg:Bool) (fa f g:DE) (δ:Dl):eInR neg fa f g δ=(fa δ).bind fun v δ1=>(f δ1).bind fun lo δ2=>(g δ2).bind fun hi δ3=>match v.d,lo.d,hi.d with
 | .int i,.int l,.int h=>.ok (.pure (.bl (if neg then !(decide (l≤i) && decide (i < h)) else (decide (l≤i) && decide (i < h))))) δ3
 | _,_,_=>.stuck:=id rfl
theorem z3z (f F:A→D) (p:A→Bool) (δ:Dl):∀ (as:List A) (acc:List D),acc.length + as.length≤W8 →
  (∀ a ∈ as,∃ δ1 δ2 x δ3,g (.pure (f a)) δ=some δ1∧t δ1 = .ok (p a) δ2∧clrD cs δ2=δ∧el δ2 = .ok x δ3∧clrD cs δ3=δ∧x.d=F a)→z2h cs g t el (as.map f) δ acc = .ok (acc ++ (as.filter p).map F) δ
 | [],acc,_,_=>by simp [z2h]
 | a :: r,acc,hl,hs=>by
  obtain ⟨δ1,δ2,x,δ3,e1,e2,e2',e3,e4,e5⟩:=hs a Wi
  have hl':acc.length < W8:=by simp at hl; omega
  rw [WB]
  unfold z2h
  rw [e1]
  cases hp:p a with
  | true =>
   have ih:=z3z (cs:=cs) (g:=g) (t:=t) (el:=el) f F p δ r (acc ++ [x.d]) (by simp at hl ⊢; omega) (fun a ha=>hs a (Wc _ ha))
   rw [e5] at ih
   rw [hp] at e2
   simp only [e2,z0j,if_true,e3,if_pos hl',e4,e5,ih,List.filter_cons,hp]
   simp
  | false =>
   have ih:=z3z (cs:=cs) (g:=g) (t:=t) (el:=el) f F p δ r acc (by simp at hl ⊢; omega) (fun a ha=>hs a (Wc _ ha))
   rw [hp] at e2
   simp only [e2,z0j,e2',ih,List.filter_cons,hp]
   simp
theorem z67 (I:Nat→Dl→Prop) (bad:D→Bool) (r:S) (R:Dl→Prop) :
  ∀ (ds:List D) (n:Nat) (δ:Dl),I n δ →
   (∀ (i:Nat) d δ,ds[i]? = some d→I (n + i) δ→∃ δ1,g (.pure d) δ=some δ1∧((bad d=true∧∃ δ2,b δ1 = .ok (.ret r) δ2∧R δ2)∨(bad d=false∧∃ δ2,b δ1 = .ok .next δ2∧I (n + i + 1) δ2))) →
   (ds.any bad=true∧∃ δ',forL g b ds δ = .ok (.ret r) δ'∧R δ')∨(ds.any bad=false∧∃ δ',forL g b ds δ = .ok .next δ'∧I (n + ds.length) δ')
 | [],n,δ,h,_=>.inr ⟨rfl,δ,rfl,h⟩
 | d :: rs,n,δ,h,hs=>by
  obtain ⟨δ1,e1,hh⟩:=hs 0 d δ rfl h
  rcases hh with ⟨hb,δ2,e2,h2⟩ | ⟨hb,δ2,e2,h2⟩
  ·refine .inl ⟨by simp [hb],δ2,?_,h2⟩
   unfold forL
   rw [e1]
   simp only [e2,z0j]
  ·have ih:=z67 (g:=g) (b:=b) I bad r R rs (n + 1) δ2 h2 (fun i d' δ' e hi=>by
    have:=hs (i + 1) d' δ' (by simpa using e) (by rw [show n + (i + 1)=n + 1 + i by omega]; exact hi)
    rw [show n + (i + 1) + 1=n + 1 + i + 1 by omega] at this
    exact this)
   have ef:∀ x,forL g b rs δ2=x→forL g b (d :: rs) δ=x:=fun x hx=>by
    unfold forL
    rw [e1]
    simp only [e2,z0j,hx]
   rcases ih with ⟨ha,δ',e3,h3⟩ | ⟨ha,δ',e3,h3⟩
   ·exact .inl ⟨by simp [ha],δ',ef _ e3,h3⟩
   ·exact .inr ⟨by simp [hb,ha],δ',ef _ e3,by rw [Ws,show n + (rs.length + 1)=n + 1 + rs.length by omega]; exact h3⟩
def nx (s:Int):Int:=(((s + 7919) % 2147483647) * ((s + 7919) % 2147483647) + 48271 * ((s + 7919) % 2147483647) + 12345) % 2147483629
theorem zfq (s:Int):z1y [.pure (.int s)]=some (.pure (.int (nx s)),[.pure (.int s)]):=by
 unfold z1y gOf z4n runD
 have h1:=Int.emod_nonneg (s + 7919) (b:=2147483647) (by decide)
 have h2:=Int.emod_lt_of_pos (s + 7919) (b:=2147483647) (by decide)
 have c1:cMul ((s + 7919) % 2147483647) ((s + 7919) % 2147483647)=true:=by unfold cMul; simp; omega
 have c2:cMul 48271 ((s + 7919) % 2147483647)=true:=by unfold cMul; simp
 simp [ioOk,z0b,dAsg,eOpF,eOpN,bVar,pAdd,pMod,pII,z4X,pMul,c1,c2,z0o,z07]
 rfl
def Pen (d:D):Prop:=∃ l f s:Int,d = .lst [.int l,.int f,.int s]∧0≤l
theorem z9b (hp:Pen d) (m:Nat) (h0:0 < m) (h1:m < 1073741824):∃ (r:Nat) (d':D),z0g [.own d,.pure (.int m)]=some (.pure (.int r),[.own d',.pure (.int m)])∧r < m∧Pen d':=by
 obtain ⟨l,f,s,rfl,hl⟩:=hp
 have hm:(0:Int) < (m:Int):=by omega
 have hd:cDiv l m=true:=by unfold cDiv; simp; omega
 unfold z0g gOf z4o runD
 by_cases hf:f=1
 ·subst hf
  have e1:=Int.emod_nonneg l (b:=(m:Int)) (by omega)
  have e2:=Int.emod_lt_of_pos l hm
  refine ⟨(l % (m:Int)).toNat,.lst [.int (l / m),.int 1,.int s],?_,by omega,⟨_,_,_,rfl,Int.ediv_nonneg hl (by omega)⟩⟩
  simp [ioOk,z0b,dAsg,eOpF,eOpN,bVar,eVar,pIx,pEq,eqD,flat,z1J,z6i,z8T,dTr,pMod,pDiv,pII,h0,hd,z4K,z23,putL,z0o,z07,ixN]
  omega
 ·have e1:=Int.emod_nonneg (nx (nx s + 7) / 64) (b:=(m:Int)) (by omega)
  have e2:=Int.emod_lt_of_pos (nx (nx s + 7) / 64) hm
  refine ⟨(nx (nx s + 7) / 64 % (m:Int)).toNat,.lst [.int l,.int f,.int (nx (nx s + 7))],?_,by omega,⟨_,_,_,rfl,hl⟩⟩
  simp [ioOk,z0b,dAsg,eOpF,eOpN,bVar,eVar,pIx,pEq,eqD,flat,z1J,z6i,z8T,dTr,pMod,pDiv,pII,h0,hd,z4K,z23,putL,z0o,z07,ixN,hf,z08,ios,z0w,ndup,evX,mkA,zfq,pAdd,putA,cDiv]
  omega
theorem r_pen (c:Int):∃ d,z0W [.pure (.int c)]=some (.own d,[.pure (.int c)])∧Pen d:=by
 unfold z0W gOf z3b runD
 refine ⟨.lst [.int (if 0 - c > c then 0 - c else c),.int (if decide (1000000000000000000≤(if 0 - c > c then 0 - c else c)) then 1 else 0),.int ((if 0 - c > c then 0 - c else c) % 1000003)],?_,⟨_,_,_,rfl,by split <;> omega⟩⟩
 simp [ioOk,z0b,dAsg,eOpF,eOpN,bVar,eVar,pMax,pSub,pII,pInt,pGe,pCmp,pPow,cPow,pMod,z0o,z07]
theorem z8E (ns:List Int):∃ c:Int,z10 [.pure (.lst (ns.map .int)),.pure (.int 0)]=some (.pure (.int c),[.pure (.lst (ns.map .int)),.pure (.int 0)]):=by
 unfold z10 gOf z2S runD
 cases ns with
 | nil=>exact ⟨0,by simp [ioOk,z0b,eOpF,eOpN,bVar,pLt,pCmp,dTr,pLen,z0o,z07]⟩
 | cons n r=>exact ⟨n,by
   have:(0:Int) < (r.length:Int) + 1:=by omega
   simp [ioOk,z0b,eOpF,eOpN,bVar,pLt,pCmp,dTr,pLen,z0o,z07,pIx,z1J,this]⟩
theorem z76 (hp:Pen d) (m:Nat) (i:Int) (hi:i=m) (h0:0 < m) (h1:m < 1073741824):∃ (r:Nat) (d':D),z0g [.own d,.pure (.int i)]=some (.pure (.int r),[.own d',.pure (.int i)])∧r < m∧Pen d':=by
 subst hi
 exact z9b hp m h0 h1
def lettersT:Tx:=[97,98,99,100,101,102,103,104,105,106,107,108,109,110,111,112,113,114,115,116,117,118,119,120,121,122]
def tsOf (s n:Nat):Tx:=(Ql n).map fun k=>97 + s + k
theorem z8Q:∀ s,s < 26→∀ r,r < 26→s + 1 + r≤26→(lettersT.drop s).take (1 + r)=tsOf s (1 + r):=by decide
theorem z88 {s r:Nat} (h:s + 1 + r≤26):cutL lettersT (some (s:Int)) (some ((s:Int) + 1 + (r:Int)))=tsOf s (1 + r):=by
 rw [← z8Q s (by omega) r (by omega) h]
 have h1:¬ (s:Int) < 0:=by omega
 have h2:¬ (s:Int) + 1 + (r:Int) < 0:=by omega
 have h3:((s:Int) + 1 + (r:Int)).toNat=s + 1 + r:=by omega
 have hl:lettersT.length=26:=rfl
 unfold cutL HT.sIx
 simp only [h1,h2,if_false,h3,hl]
 have e1:min ((s:Int).toNat) 26=s:=by omega
 have e2:min (s + 1 + r) 26 - min ((s:Int).toNat) 26=1 + r:=by omega
 rw [e1] at e2 ⊢
 rw [e2]
theorem zf0 (s n:Nat):(tsOf s n).length=n:=by simp [tsOf]
theorem ts_up (s n:Nat):(tsOf s n).Pairwise (· < ·):=by
 unfold tsOf
 rw [List.pairwise_map]
 exact (List.pairwise_lt_range (n:=n)).imp fun h=>by omega
theorem zeZ (h:s + n≤26) (ht:t ∈ tsOf s n):97≤t∧t≤122:=by
 simp [tsOf] at ht
 obtain ⟨k,hk,rfl⟩:=ht
 omega
def rb2 (pd:D) (m h w s:Nat) (ts:Tx) (al:Nat) (blocks:List D) (o9 o10 o11 o12 o13:Option S):Dl :=
 [some (.own pd),some (.pure (.int m)),some (.pure (.str lettersT)),some (.pure (.int h)),some (.pure (.int w)),some (.pure (.int s)),some (.pure (.str ts)),some (.pure (.int (1 + (al:Int)))),some (.own (.lst blocks)),o9,o10,o11,o12,o13,none]
abbrev z9u:DE:=eOpF pIx 6 (bOf (eOp pDiv (z08 z0g [.io 0,.val (eC1 pLen (bVar 6))]) (bVar 7)))
theorem zdX (hts0:0 < ts.length) (hts:ts.length≤26) (hal:al < 3) (hw:w≤4) (hpd:Pen pd) (blocks:List D) (o9 o10 o11 o12 o13:Option S) :
  ∃ (x:Tx) (pd':D),z2h [14] (gNm [0] 14) dYes z9u (z1h 0 w) (rb2 pd m h w s ts al blocks o9 o10 o11 o12 o13) [] = .ok (x.map fun n=>.str [n]) (rb2 pd' m h w s ts al blocks o9 o10 o11 o12 o13)∧x.length=w∧(∀ n ∈ x,n ∈ ts)∧Pen pd':=by
 obtain ⟨xs,δ',e,⟨pd',hpd',rfl⟩,hn,hf⟩:=z8p (cs:=[14]) (g:=gNm [0] 14) (t:=dYes) (el:=z9u) (fun δ=>∃ pd,Pen pd∧δ=rb2 pd m h w s ts al blocks o9 o10 o11 o12 o13)
  (fun _ x=>∃ n,n ∈ ts∧x = .str [n]) (z1h 0 w) _ [] ⟨pd,hpd,rfl⟩ (by rw [z0Y]; simp; omega) (fun d hd δ ⟨pd,hpd,e⟩=>by
   subst e
   obtain ⟨i,hi,rfl⟩:=z8i hd
   obtain ⟨r,d',e,l,p⟩:=z9b hpd ts.length hts0 (by omega)
   have hd:pDiv (.int r) (.int (1 + (al:Int)))=some (.pure (.int ((r / (1 + al):Nat):Int))):=by
    have hc:cDiv (r:Int) (1 + (al:Int))=true:=by unfold cDiv; simp; omega
    show (if cDiv (r:Int) (1 + (al:Int)) then _ else _)=_
    rw [if_pos hc]
    simp
   have hlt:r / (1 + al) < ts.length:=Nat.lt_of_le_of_lt (Nat.div_le_self _ _) l
   refine ⟨_,_,.pure (.str [ts.getD (r / (1 + al)) 0]),(rb2 d' m h w s ts al blocks o9 o10 o11 o12 o13).set 14 (some (.pure (.int i))),rfl,rfl,?_,⟨d',p,rfl⟩,⟨_,?_,rfl⟩⟩
   ·have hx:=zbm ts (r / (1 + al)) hlt (by omega)
    simp only [rb2,z9u,eOpF,eOpN,zgy,zgx,List.set_cons_succ,List.set_cons_zero,List.getElem?_cons_succ,QU,z08,ios,ndup,Qb,List.all_nil,z0w,Bool.and_true,if_true,evX,zdm,bVar,z0j,ev_p1,ev_d1,z9Y ts (by omega),List.contains_nil,Bool.not_false,mkA,WI,e,putA,ev_p2,hd,hx]
   ·simp [hlt])
 obtain ⟨x,rfl,hx⟩:=zah (P:=fun n=>n ∈ ts) (zdT hn hf fun d x _ h=>h)
 exact ⟨x,pd',by simpa using e,by simpa using hn,hx,hpd'⟩
abbrev bRow:DS:=(dSeq (dAsg (z2q [14] (z2n (eVar 4)) (gNm [0] 14) dYes z9u) (gNm [0] 12)) (z1o 10 (eC1 (z1w []) (bVar 12))))
theorem zfm (hts0:0 < ts.length) (hts:ts.length≤26) (hal:al < 3) (hw:w≤4) (hh:h≤4) (hpd:Pen pd) (blocks:List D) (o9 o11 o12 o13:Option S) :
  ∃ (fl:List Tx) (pd':D) (o11' o12':Option S),forL (gNm [0] 11) bRow (z1h 0 h) (rb2 pd m h w s ts al blocks o9 (some (.own (.lst []))) o11 o12 o13) = .ok .next (rb2 pd' m h w s ts al blocks o9 (some (.own (.lst (fl.map .str)))) o11' o12' o13)∧fl.length=h∧(∀ r ∈ fl,r.length=w∧∀ n ∈ r,n ∈ ts)∧Pen pd':=by
 obtain ⟨δ',e3,pd',fl,o11',o12',hpd',hfl,hall,rfl⟩:=z34 (g:=gNm [0] 11) (b:=bRow) (fun k δ=>∃ (pd:D) (fl:List Tx) (o11 o12:Option S),Pen pd∧fl.length=k∧(∀ r ∈ fl,r.length=w∧∀ n ∈ r,n ∈ ts)∧δ=rb2 pd m h w s ts al blocks o9 (some (.own (.lst (fl.map .str)))) o11 o12 o13)
  (z1h 0 h) 0 _ ⟨pd,[],o11,o12,hpd,rfl,by simp,rfl⟩ (fun i d δ hd ⟨pd,fl,o11,o12,hpd,hfl,hall,e⟩=>by
   subst e
   obtain ⟨hi,rfl⟩:=z5h hd
   obtain ⟨x,pd',e,hx,hxt,hpd'⟩:=zdX (m:=m) (h:=h) (s:=s) hts0 hts hal hw hpd blocks o9 (some (.own (.lst (fl.map .str)))) (some (.pure (.int i))) o12 o13
   have hz:fl.length < W8:=by rw [z0Y]; omega
   have ej:=zcM x (by omega)
   refine ⟨_,rb2 pd' m h w s ts al blocks o9 (some (.own (.lst ((fl ++ [x]).map .str)))) (some (.pure (.int i))) (some (.own (.lst (x.map fun n=>.str [n])))) o13,rfl,?_,⟨pd',fl ++ [x],_,_,hpd',by simp [hfl],?_,rfl⟩⟩
   ·unfold rb2 at e ⊢
    simp [bRow,dAsg,eVar,zd4 w (by omega),z0w,clrD]
    rw [e]
    simp [z26,z1o,z23,bVar,ej,putL,hz]
   ·intro r hr
    rcases QW.mp hr with hr | hr
    ·exact hall r hr
    ·simp at hr; subst hr; exact ⟨hx,hxt⟩)
 exact ⟨fl,pd',o11',o12',e3,by simpa using hfl,hall,hpd'⟩
abbrev zeR:DS:=(dSeq (dAsg (eLst aNil) (gNm [0] 10)) (dSeq (dFor (z2n (eVar 3)) (gNm [0] 11) bRow) (z1o 8 (eTup (z0m (eVar 9) (z0m (eC1 z2m (bVar 10)) aNil))))))
theorem zc7 (hts0:0 < ts.length) (hts:ts.length≤26) (hal:al < 3) (hw:w≤4) (hh:h≤4) (hpd:Pen pd) :
  ∃ (bs:List (Nat×List Tx)) (pd':D) (o9 o10 o11 o12:Option S),forL (gNm [0] 9) zeR (ts.map fun n=>.str [n]) (rb2 pd m h w s ts al [] none none none none none) = .ok .next (rb2 pd' m h w s ts al (bs.map blD) o9 o10 o11 o12 none)∧bs.map (·.1)=ts∧(∀ b ∈ bs,b.2.length=h∧∀ r ∈ b.2,r.length=w∧∀ n ∈ r,n ∈ ts)∧Pen pd':=by
 obtain ⟨δ',e3,pd',bs,o9,o10,o11,o12,hpd',hbs,hall,rfl⟩:=z34 (g:=gNm [0] 9) (b:=zeR) (fun k δ=>∃ (pd:D) (bs:List (Nat×List Tx)) (o9 o10 o11 o12:Option S),Pen pd∧bs.map (·.1)=ts.take k∧(∀ b ∈ bs,b.2.length=h∧∀ r ∈ b.2,r.length=w∧∀ n ∈ r,n ∈ ts)∧δ=rb2 pd m h w s ts al (bs.map blD) o9 o10 o11 o12 none)
  (ts.map fun n=>D.str [n]) 0 _ ⟨pd,[],none,none,none,none,hpd,rfl,by simp,rfl⟩ (fun i d δ hd ⟨pd,bs,o9,o10,o11,o12,hpd,hbs,hall,e⟩=>by
   subst e
   rw [WN,Option.map_eq_some_iff] at hd
   obtain ⟨n,hn,rfl⟩:=hd
   have hi:i < ts.length:=(Wb.mp hn).1
   rw [Jn] at hbs
   have hbl:bs.length=i:=by have:=congrArg Ju hbs; simp at this; omega
   obtain ⟨fl,pd',o11',o12',e,hfl,hflt,hpd'⟩:=zfm (m:=m) (h:=h) (s:=s) hts0 hts hal hw hh hpd (bs.map blD) (some (.pure (.str [n]))) o11 o12 none
   have hz:bs.length < W8:=by rw [z0Y]; omega
   refine ⟨_,rb2 pd' m h w s ts al ((bs ++ [(n,fl)]).map blD) (some (.pure (.str [n]))) (some (.own (.lst (fl.map .str)))) o11' o12' none,rfl,?_,⟨pd',bs ++ [(n,fl)],_,_,_,_,hpd',?_,?_,rfl⟩⟩
   ·unfold rb2 at e ⊢
    simp [zeR,dAsg,eVar,zd4 h (by omega)]
    rw [e]
    simp [z1o,z23,eVar,bVar,z2m,putL,hz,blD]
   ·rw [Jn,List.map_append,hbs,List.take_add_one,hn]
    simp
   ·intro b hb
    rcases QW.mp hb with hb | hb
    ·exact hall b hb
    ·simp at hb; subst hb; exact ⟨hfl,hflt⟩)
 refine ⟨bs,pd',o9,o10,o11,o12,e3,?_,hall,hpd'⟩
 rw [hbs,List.take_of_length_le]
 simp
theorem zbS:∀ r:Nat,r < 10→∃ h w:Nat,pIx (.lst [.tup [.int 2,.int 2],.tup [.int 1,.int 2],.tup [.int 2,.int 1],.tup [.int 2,.int 2],.tup [.int 1,.int 3],.tup [.int 2,.int 3],.tup [.int 3,.int 1],.tup [.int 3,.int 2],.tup [.int 4,.int 4],.tup [.int 2,.int 2]]) (.int r)=some (.pure (.tup [.int h,.int w]))∧0 < h∧h≤4∧0 < w∧w≤4∧2 < h + w:=by
 intro r hr
 have:r=0∨r=1∨r=2∨r=3∨r=4∨r=5∨r=6∨r=7∨r=8∨r=9:=by omega
 rcases this with rfl | rfl | rfl | rfl | rfl | rfl | rfl | rfl | rfl | rfl
 ·exact ⟨2,2,rfl,by decide⟩
 ·exact ⟨1,2,rfl,by decide⟩
 ·exact ⟨2,1,rfl,by decide⟩
 ·exact ⟨2,2,rfl,by decide⟩
 ·exact ⟨1,3,rfl,by decide⟩
 ·exact ⟨2,3,rfl,by decide⟩
 ·exact ⟨3,1,rfl,by decide⟩
 ·exact ⟨3,2,rfl,by decide⟩
 ·exact ⟨4,4,rfl,by decide⟩
 ·exact ⟨2,2,rfl,by decide⟩
theorem sub_int (i j:Int):pSub (.int i) (.int j)=some (.pure (.int (i - j))):=rfl
theorem zdO (x:Tx) (h:x.length≤1000):pSl (some 1) none (.str x)=some (.pure (.str x.tail)):=by
 unfold pSl
 have hz:W8=16777216:=rfl
 simp only
 rw [if_pos (by omega)]
 have:cutL x (some 1) none=x.tail:=by
  unfold cutL HT.sIx
  simp
  cases x with
  | nil=>simp
  | cons a r=>simp
 rw [this]
theorem zdN (ds:List D):pSl (some 1) none (.tup ds)=some (.pure (.tup ds.tail)):=by
 have:cutL ds (some 1) none=ds.tail:=by
  unfold cutL HT.sIx
  simp
  cases ds with
  | nil=>simp
  | cons a r=>simp
 show some (S.pure (.tup (cutL ds (some 1) none)))=_
 rw [this]
theorem add_str (x y:Tx) (h:x.length + y.length≤1000):pAdd (.str x) (.str y)=some (.pure (.str (x ++ y))):=by
 have hz:W8=16777216:=rfl
 simp only [pAdd]
 rw [if_pos (by omega)]
theorem zeV (x y:List D) (h:x.length + y.length≤1000):pAdd (.tup x) (.tup y)=some (.pure (.tup (x ++ y))):=by
 have hz:W8=16777216:=rfl
 simp only [pAdd]
 rw [if_pos (by omega)]
def fixB:List (Nat×List Tx)→List (Nat×List Tx)
 | (n,r :: q) :: bs=>(n,(n :: r.tail) :: q) :: bs
 | bs=>bs
theorem zbi (bs:List (Nat×List Tx)):(fixB bs).map (·.1)=bs.map (·.1):=by
 match bs with
 | []=>rfl
 | (n,[]) :: bs=>rfl
 | (n,r :: q) :: bs=>rfl
theorem zeG (R:Rul h w bs):Rul h w (fixB bs):=by
 have hf:=zbi bs
 have hl:(fixB bs).length=bs.length:=by have:=congrArg Ju hf; simpa using this
 refine ⟨R.h0,R.h1,R.w0,R.w1,R.hw,by rw [hl]; exact R.n0,by rw [hl]; exact R.n1,by rw [hf]; exact R.up,fun b hb=>?_,fun b hb=>?_⟩
 ·have:b.1 ∈ (fixB bs).map (·.1):=QS hb
  rw [hf] at this
  obtain ⟨b',hb',e⟩:=Qw.mp this
  rw [← e]; exact R.let' b' hb'
 ·rw [hf]
  match bs,R,hb with
  | [],R,hb=>have:=R.n0; simp at this
  | (n,[]) :: bs,R,hb=>exact R.blk b hb
  | (n,r :: q) :: bs,R,hb =>
   rcases Wh.mp hb with e | hb
   ·subst e
    have:=R.blk _ Wi
    refine ⟨this.1,fun x hx=>?_⟩
    rcases Wh.mp hx with e | hx
    ·subst e
     have h1:=this.2 r Wi
     refine ⟨by have:=R.w0; simp; omega,fun k hk=>?_⟩
     rcases Wh.mp hk with e | hk
     ·subst e; simp
     ·exact h1.2 k (List.mem_of_mem_tail hk)
    ·exact this.2 x (Wc _ hx)
   ·exact R.blk b (Wc _ hb)
theorem zaw (hp:Pen d) (m:Nat) (hm0:0 < m) (hm1:m≤26):∃ (h w:Nat) (bs:List (Nat×List Tx)) (d':D),
  z0N [.own d,.pure (.int m)]=some (.pure (ruD h w bs),[.own d',.pure (.int m)])∧Rul h w bs∧bs.length≤m∧Pen d':=by
 obtain ⟨r1,d1,e1,l1,p1⟩:=z76 hp 10 10 rfl (by decide) (by decide)
 obtain ⟨h,w,hx,h0,h1,w0,w1,hw⟩:=zbS r1 l1
 obtain ⟨s,d2,e2,l2,p2⟩:=z76 p1 (27 - m) (27 - (m:Int)) (by omega) (by omega) (by omega)
 obtain ⟨r3,d3,e3,l3,p3⟩:=z9b p2 m hm0 (by omega)
 obtain ⟨al,d4,e4,l4,p4⟩:=z76 p3 3 3 rfl (by decide) (by decide)
 have hc:=z88 (s:=s) (r:=r3) (by omega)
 have hlen:=zf0 s (1 + r3)
 have hup:=ts_up s (1 + r3)
 have hlet:∀ t ∈ tsOf s (1 + r3),97≤t∧t≤122:=fun t ht=>zeZ (by omega) ht
 generalize tsOf s (1 + r3)=ts at hc hlen hup hlet
 obtain ⟨bs,d5,o9,o10,o11,o12,e5,hfst,hall,p5⟩:=zc7 (m:=m) (h:=h) (w:=w) (s:=s) (ts:=ts) (al:=al) (by omega) (by omega) l4 w1 h1 p4
 obtain ⟨r6,d6,e6,l6,p6⟩:=z76 p5 2 2 rfl (by decide) (by decide)
 have hbl:bs.length=1 + r3:=by have:=congrArg Ju hfst; simp at this; omega
 have R:Rul h w bs:=⟨h0,h1,w0,w1,hw,by omega,by omega,by rw [hfst]; exact hup,fun b hb=>hlet _ (by rw [← hfst]; exact QS hb),fun b hb=>by rw [hfst]; exact hall b hb⟩
 have hsl:pSl (some (s:Int)) (some ((s:Int) + 1 + (r3:Int))) (.str lettersT)=some (.pure (.str ts)):=by rw [← hc]; rfl
 have hsz:[some (S.own d4),some (.pure (.int m)),some (.pure (.str lettersT)),some (.pure (.int h)),some (.pure (.int w)),some (.pure (.int s)),some (.pure (.str ts)),some (.pure (.int (1 + (al:Int)))),some (.own (.lst [])),none,none,none,none,none,none]=rb2 d4 m h w s ts al [] none none none none none:=rfl
 have hlT:D.str [97,98,99,100,101,102,103,104,105,106,107,108,109,110,111,112,113,114,115,116,117,118,119,120,121,122] = .str lettersT:=rfl
 by_cases hr6:r6=0
 ·-- the first block is changed
  match bs,R,hbl,e5,hall with
  | [],R,hbl,e5,hall=>simp at hbl; omega
  | (n,[]) :: q,R,hbl,e5,hall=>have:=(R.blk _ Wi).1; simp at this; omega
  | (n,x :: fl) :: q,R,hbl,e5,hall =>
   have hxl:=(R.blk _ Wi).2 x Wi
   have hfl:=(R.blk _ Wi).1
   simp only at hxl hfl
   refine ⟨h,w,fixB ((n,x :: fl) :: q),d6,?_,zeG R,?_,p6⟩
   ·have a1:pAdd (.str [n]) (.str x.tail)=some (.pure (.str (n :: x.tail))):=add_str [n] x.tail (by simp; omega)
    have a2:pAdd (.tup [.str (n :: x.tail)]) (.tup (fl.map .str))=some (.pure (.tup (.str (n :: x.tail) :: fl.map .str))):=zeV [.str (n :: x.tail)] (fl.map .str) (by simp at hfl ⊢; omega)
    have s1:=zdO x (by omega)
    have s2:pSl (some 1) none (flD (x :: fl))=some (.pure (.tup (fl.map .str))):=zdN ((x :: fl).map D.str)
    unfold z0N gOf z1W runD
    rw [hlT]
    generalize lettersT=LT at *
    generalize [D.tup [.int 2,.int 2],.tup [.int 1,.int 2],.tup [.int 2,.int 1],.tup [.int 2,.int 2],.tup [.int 1,.int 3],.tup [.int 2,.int 3],.tup [.int 3,.int 1],.tup [.int 3,.int 2],.tup [.int 4,.int 4],.tup [.int 2,.int 2]]=SZ at *
    simp [ioOk,z0b,dAsg,z08,ios,ndup,z0w,evX,mkA,e1,putA,hx,gTp,z0l,z1j,sub_int,bVar,e2,eSlN,z1x,eVar,eOpF,eOpN,pAdd,e3,hsl,e4,z4J]
    simp only [hsz]
    rw [e5]
    simp [rb2,dTr,z08,ios,ndup,z0w,evX,mkA,e6,putA,hr6,pEq,flat,eqD,eOpF,eOpN,bVar,pIx,z1J,gTp,z0l,z1j,z4K,z23,eVar,eSlN,z1x,s1,a1,s2,a2,ixN,putL,blD,z2m,z0o,z07,fixB]
   ·have:=congrArg Ju (zbi ((n,x :: fl) :: q))
    simp at this hbl ⊢
    omega
 ·refine ⟨h,w,bs,d6,?_,R,by omega,p6⟩
  unfold z0N gOf z1W runD
  rw [hlT]
  generalize lettersT=LT at *
  generalize [D.tup [.int 2,.int 2],.tup [.int 1,.int 2],.tup [.int 2,.int 1],.tup [.int 2,.int 2],.tup [.int 1,.int 3],.tup [.int 2,.int 3],.tup [.int 3,.int 1],.tup [.int 3,.int 2],.tup [.int 4,.int 4],.tup [.int 2,.int 2]]=SZ at *
  simp [ioOk,z0b,dAsg,z08,ios,ndup,z0w,evX,mkA,e1,putA,hx,gTp,z0l,z1j,sub_int,bVar,e2,eSlN,z1x,eVar,eOpF,eOpN,pAdd,e3,hsl,e4,z4J]
  simp only [hsz]
  rw [e5]
  simp [rb2,dTr,z08,ios,ndup,z0w,evX,mkA,e6,putA,hr6,pEq,flat,eqD,bVar,z2m,z0o,z07,eVar]
theorem le_int (i j:Int):pLe (.int i) (.int j)=some (.pure (.bl (decide (i≤j)))):=rfl
theorem gt_int (i j:Int):pGt (.int i) (.int j)=some (.pure (.bl (decide (j < i)))):=rfl
theorem z3e (i j:Int):pEq (.int i) (.int j)=some (.pure (.bl (i == j))):=rfl
theorem z2W (i j:Int):pNe (.int i) (.int j)=some (.pure (.bl (!(i == j)))):=rfl
theorem add_int (i j:Int):pAdd (.int i) (.int j)=some (.pure (.int (i + j))):=rfl
theorem z1H (np:List Nat) (n:Nat) (b:DS) (ss:List S):gOf np n b ss=if ioOk np 0 ss then (match b (z0b n ss) with
 | .ok fl δ=>(z0o fl).bind fun r=>(z07 0 ss δ).map fun outs=>(r,outs)
 | _=>none) else none:=rfl
theorem ru_ix (h w:Nat) (bs:List (Nat×List Tx)):pIx (ruD h w bs) (.int 0)=some (.pure (.int h))∧pIx (ruD h w bs) (.int 1)=some (.pure (.int w))∧pIx (ruD h w bs) (.int 2)=some (.pure (.tup (bs.map blD))):=by
 refine ⟨?_,?_,?_⟩
 ·simp [pIx,z1J]
 ·simp [pIx,z6i]
 ·simp [pIx,z8T]
def zgG (GD:DF):Prop:=∀ (d:D) (m:Nat),Pen d→0 < m→m < 1073741824→∃ (r:Nat) (d':D),GD [.own d,.pure (.int m)]=some (.pure (.int r),[.own d',.pure (.int m)])∧r < m∧Pen d'
theorem z5a:zgG z0g:=fun d m hp h0 h1=>z9b hp m h0 h1
def letN (n:Nat):Bool:=decide (97≤n) && decide (n≤122)
def lg (m:Nat):D→Bool
 | .str x=>decide (1≤x.length) && decide (x.length≤m) && x.all letN
 | _=>false
def z2o (w:Nat):D→Bool
 | .str x=>lg 64 (.str x) && x.length == w
 | _=>false
def len0:List D→Nat
 | .str x :: _=>x.length
 | _=>0
def isFl:D→Bool
 | .tup ds=>decide (1≤ds.length) && decide (ds.length≤64) && ds.all (z2o (len0 ds))
 | _=>false
def Sm:D→Prop
 | .str x=>x.length≤1000
 | .exc _ _=>False
 | .xd _=>False
 | _=>True
def SmT:D→Prop
 | .tup ds=>ds.length≤1000∧∀ d ∈ ds,Sm d
 | .exc _ _=>False
 | .xd _=>False
 | _=>True
theorem le_a (n:Nat):pLe (.str [97]) (.str [n])=some (.pure (.bl (decide (97≤n)))):=by
 unfold pLe pCmp
 simp only [lt1]
 congr 3
 by_cases h:97≤n <;> simp [h] <;> omega
theorem le_z (n:Nat):pLe (.str [n]) (.str [122])=some (.pure (.bl (decide (n≤122)))):=by
 unfold pLe pCmp
 simp only [lt1]
 congr 3
 by_cases h:n≤122 <;> simp [h] <;> omega
theorem z1u (x:Tx) (h:x.length≤1000):pLen (.str x)=some (.pure (.int x.length)):=by
 unfold pLen
 have:W8=16777216:=rfl
 simp only
 rw [if_pos (by omega)]
theorem z8y (xs:List Nat) (p:Nat→Bool):pAll (.lst (xs.map fun n=>.bl (p n)))=some (.pure (.bl (xs.all p))):=by
 have e:(xs.map fun n=>D.bl (p n))=(xs.map p).map D.bl:=by simp
 unfold pAll
 simp only [e,z9t,WI]
 simp [Jz,Function.comp_def]
theorem z7N (d:D) (m:Nat) (hd:Sm d):z0C [.pure d,.pure (.int m)]=some (.pure (.bl (lg m d)),[.pure d,.pure (.int m)]):=by
 unfold z0C gOf z2P runD
 cases d with
 | str x =>
  have hx:x.length≤1000:=hd
  by_cases h1:1≤x.length
  ·by_cases h2:x.length≤m
   ·have e:=z2j (cs:=[2]) (g:=gNm [] 2) (t:=dYes) (el:=z2Y pLe pLe (eD (.str [97])) (eVar 2) (bOf (eD (.str [122])))) (fun n:Nat=>D.str [n]) (fun n=>.bl (letN n)) [some (.pure (.str x)),some (.pure (.int m)),none] x [] (by rw [z0Y]; simp; omega) (fun n hn=>by
     refine ⟨_,_,.pure (.bl (letN n)),[some (.pure (.str x)),some (.pure (.int m)),some (.pure (.str [n]))],rfl,rfl,?_,rfl,rfl⟩
     unfold letN
     by_cases ha:97≤n
     ·simp [z13,eVar,le_a,le_z,ha]
     ·simp [z13,eVar,le_a,ha])
    have ea:=z8y x letN
    simp only [WM] at e
    have c1:(1:Int)≤(x.length:Int):=by omega
    simp [ioOk,z0b,dTr,eIsi,isTy,bVar,eVar,z13,z1u x hx,le_int,h2,c1,z4J,z0w,clrD]
    rw [e]
    simp [ea,z26,z0o,z07,lg,h1,h2]
   ·have c1:(1:Int)≤(x.length:Int):=by omega
    simp [ioOk,z0b,dTr,eIsi,isTy,bVar,z13,z1u x hx,le_int,h2,c1,z0o,z07,lg]
  ·have c1:¬ (1:Int)≤(x.length:Int):=by omega
   simp [ioOk,z0b,dTr,eIsi,isTy,bVar,z13,z1u x hx,le_int,c1,z0o,z07,lg,h1]
 | exc _ _=>exact hd.elim
 | xd _=>exact hd.elim
 | _=>simp [ioOk,z0b,dTr,eIsi,isTy,bVar,z0o,z07,lg]
theorem z49 (ds:List D):pLen (.tup ds)=some (.pure (.int ds.length)):=rfl
theorem ix0 (ds:List D) (d:D) (h:ds[0]? = some d):pIx (.tup ds) (.int 0)=some (.pure d):=by simp [pIx,z1J,h]
theorem z5e (d:D) (hd:SmT d):z0V [.pure d]=some (.pure (.bl (isFl d)),[.pure d]):=by
 unfold z0V gOf z3G runD
 cases d with
 | tup ds =>
  obtain ⟨hl,hs⟩:=hd
  by_cases h1:1≤ds.length
  ·have c1:(1:Int)≤(ds.length:Int):=by omega
   by_cases h2:ds.length≤64
   ·have c2:(ds.length:Int)≤64:=by omega
    obtain ⟨d0,h0⟩:∃ d0,ds[0]? = some d0:=⟨ds[0],by simp [h1]⟩
    have hw:∀ x,d0 = .str x→len0 ds=x.length:=fun x e=>by
     cases ds with
     | nil=>simp at h0
     | cons a r=>simp at h0; subst h0; subst e; rfl
    have F:=z67 (g:=gNm [] 1) (b:=(B8_))
     (fun n δ=>(∃ a,δ=[some (.pure (.tup ds)),a])∧(0 < n→∃ x,d0 = .str x∧x.length≤1000)) (fun d=>!z2o (len0 ds) d) (.pure (.bl false)) (fun _=>True) ds 0 [some (.pure (.tup ds)),none] ⟨⟨_,rfl⟩,fun h=>absurd h (by omega)⟩ (fun i d δ hi ⟨⟨a,e⟩,hx⟩=>by
      subst e
      have hm:Sm d:=hs d (Ww hi)
      have el:=z7N d 64 hm
      have el':z0C [.pure d,.pure (.int 64)]=some (.pure (.bl (lg 64 d)),[.pure d,.pure (.int 64)]):=el
      refine ⟨[some (.pure (.tup ds)),some (.pure d)],rfl,?_⟩
      cases hg:lg 64 d with
      | false =>
       refine .inl ⟨?_,[some (.pure (.tup ds)),some (.pure d)],?_,trivial⟩
       ·cases d <;> simp [z2o] at hg ⊢
        simp [hg]
       ·rw [hg] at el'
        simp [dTr,z08,ios,ndup,evX,eVar,mkA,el',putA]
      | true =>
       obtain ⟨x,rfl⟩:∃ x,d = .str x:=by cases d <;> simp [lg] at hg <;> exact ⟨_,rfl⟩
       have hx1:x.length≤1000:=hm
       obtain ⟨x0,ex0,hx0⟩:∃ x,d0 = .str x∧x.length≤1000:=by
        cases i with
        | zero=>rw [h0] at hi; cases hi; exact ⟨x,rfl,hx1⟩
        | succ i=>exact hx (by omega)
       have ei:=ix0 ds d0 h0
       rw [ex0] at ei
       rw [hg] at el'
       have hw':=hw x0 ex0
       by_cases hc:x.length=x0.length
       ·refine .inr ⟨by simp [z2o,hg,hw',hc],[some (.pure (.tup ds)),some (.pure (.str x))],?_,⟨⟨_,rfl⟩,fun _=>⟨x0,ex0,hx0⟩⟩⟩
        simp [dTr,z08,ios,ndup,evX,eVar,mkA,el',putA,bVar,z1u x hx1,eOpF,eOpN,ei,z1u x0 hx0,z2W,hc]
       ·refine .inl ⟨by simp [z2o,hg,hw',hc],[some (.pure (.tup ds)),some (.pure (.str x))],?_,trivial⟩
        have hc':¬ (x.length:Int)=(x0.length:Int):=by omega
        simp [dTr,z08,ios,ndup,evX,eVar,mkA,el',putA,bVar,z1u x hx1,eOpF,eOpN,ei,z1u x0 hx0,z2W,hc'])
    have hall:ds.any (fun d=>!z2o (len0 ds) d) = !ds.all (z2o (len0 ds)):=by rw [List.any_eq_not_all_not]; simp
    rcases F with ⟨ha,δ',e,_⟩ | ⟨ha,δ',e,⟨a,rfl⟩,_⟩
    ·have:ds.all (z2o (len0 ds))=false:=by rw [hall] at ha; simpa using ha
     simp [ioOk,z0b,dTr,eIsi,isTy,bVar,z13,z49,le_int,c1,c2,z4J,eVar]
     rw [e]
     simp [z0o,z07,isFl,h1,h2,this]
    ·have:ds.all (z2o (len0 ds))=true:=by rw [hall] at ha; simpa using ha
     simp [ioOk,z0b,dTr,eIsi,isTy,bVar,z13,z49,le_int,c1,c2,z4J,eVar]
     rw [e]
     simp [z0o,z07,isFl,h1,h2,this]
   ·have c2:¬ (ds.length:Int)≤64:=by omega
    simp [ioOk,z0b,dTr,eIsi,isTy,bVar,z13,z49,le_int,c1,c2,z0o,z07,isFl,h2]
  ·have c1:¬ (1:Int)≤(ds.length:Int):=by omega
   simp [ioOk,z0b,dTr,eIsi,isTy,bVar,z13,z49,le_int,c1,z0o,z07,isFl,h1]
 | exc _ _=>exact hd.elim
 | xd _=>exact hd.elim
 | _=>simp [ioOk,z0b,dTr,eIsi,isTy,bVar,z0o,z07,isFl]
def wh:D→Bool
 | .int i=>decide (1≤i) && decide (i≤4)
 | _=>false
def NX:D→Prop
 | .exc _ _=>False
 | .xd _=>False
 | _=>True
theorem zfr (d:D) (hd:NX d):z1B [.pure d,.pure (.int 1)]=some (.pure (.bl (match d with | .int i=>decide (1≤i) | _=>false)),[.pure d,.pure (.int 1)]):=by
 unfold z1B gOf z3D runD
 cases d with
 | int i=>simp [ioOk,z0b,eAnd,eNot,eIsi,isTy,bVar,eVar,eOpF,eOpN,le_int,z0o,z07]
 | exc _ _=>exact hd.elim
 | xd _=>exact hd.elim
 | _=>simp [ioOk,z0b,eAnd,eNot,eIsi,isTy,bVar,eVar,z0o,z07]
theorem z9a (d:D) (hd:NX d):z0Z [.pure d,.pure (.int 1),.pure (.int 4)]=some (.pure (.bl (wh d)),[.pure d,.pure (.int 1),.pure (.int 4)]):=by
 unfold z0Z gOf z2O runD
 have e:=zfr d hd
 cases d with
 | int i =>
  by_cases h1:1≤i
  ·simp [h1] at e
   simp [ioOk,z0b,eAnd,z08,ios,ndup,z0w,evX,mkA,e,putA,bVar,eVar,eOpF,eOpN,le_int,h1,z0o,z07,wh]
  ·simp [h1] at e
   simp [ioOk,z0b,eAnd,z08,ios,ndup,z0w,evX,mkA,e,putA,bVar,eVar,h1,z0o,z07,wh]
 | exc _ _=>exact hd.elim
 | xd _=>exact hd.elim
 | _=>simp [ioOk,z0b,eAnd,z08,ios,ndup,z0w,evX,mkA,e,putA,bVar,eVar,z0o,z07,wh]
def szD (a b:D):Bool:=match a,b with
 | .int h,.int w=>wh (.int h) && wh (.int w) && (decide (1 < h) || decide (1 < w))
 | _,_=>false
theorem zf7 {a b:D} (h:wh a=false):szD a b=false:=by
 cases a <;> cases b <;> simp [szD,h]
theorem zf6 {a b:D} (h:wh b=false):szD a b=false:=by
 cases a <;> cases b <;> simp [szD,h]
theorem zd1 {a:D} (h:wh a=true):∃ i,a = .int i∧1≤i∧i≤4:=by
 cases a <;> simp [wh] at h
 exact ⟨_,rfl,h.1,h.2⟩
theorem z7M (a b:D) (ha:NX a) (hb:NX b):z1D [.pure a,.pure b]=some (.pure (.bl (szD a b)),[.pure a,.pure b]):=by
 have ea:=z9a a ha
 have eb:=z9a b hb
 clear ha hb
 unfold z1D gOf z3F runD
 cases ha:wh a with
 | false =>
  rw [ha] at ea
  simp [ioOk,z0b,dTr,z08,ios,ndup,evX,eVar,mkA,ea,putA,z0o,z07,zf7 ha]
 | true =>
  rw [ha] at ea
  cases hb:wh b with
  | false =>
   rw [hb] at eb
   simp [ioOk,z0b,dTr,z08,ios,ndup,evX,eVar,mkA,ea,eb,putA,z0o,z07,zf6 hb]
  | true =>
   rw [hb] at eb
   obtain ⟨i,rfl,i1,i4⟩:=zd1 ha
   obtain ⟨j,rfl,j1,j4⟩:=zd1 hb
   by_cases h1:1 < i
   ·simp [ioOk,z0b,dTr,z08,ios,ndup,evX,eVar,mkA,ea,eb,putA,eOr,eOpF,eOpN,bVar,gt_int,h1,z0o,z07,szD,ha,hb]
   ·simp [ioOk,z0b,dTr,z08,ios,ndup,evX,eVar,mkA,ea,eb,putA,eOr,eOpF,eOpN,bVar,gt_int,h1,z0o,z07,szD,ha,hb]
theorem z74 (i:Int):z27 [.pure (.int i)]=some (.pure (.bl true),[.pure (.int i)]):=rfl
theorem zfk (d:D) (hd:Sm d):z1S [.pure d]=some (.pure (.bl (lg 1 d)),[.pure d]):=by
 have e:=z7N d 1 hd
 have e':z0C [.pure d,.pure (.int 1)]=some (.pure (.bl (lg 1 d)),[.pure d,.pure (.int 1)]):=e
 unfold z1S gOf z4i runD
 simp [ioOk,z0b,z08,ios,ndup,evX,eVar,mkA,e',putA,z0o,z07]
def dims (h w:Int):D→Bool
 | .tup ds=>((ds.length:Int) == h) && ((len0 ds:Int) == w)
 | _=>false
def isPr (h w:Int):D→Bool
 | .tup [t,b]=>lg 1 t && isFl b && dims h w b
 | _=>false
def SmP:D→Prop
 | .tup [t,b]=>Sm t∧SmT b
 | .exc _ _=>False
 | .xd _=>False
 | _=>True
theorem zgv {b:D} (h:isFl b=true) (hs:SmT b):∃ ds x,b = .tup ds∧ds[0]? = some (.str x)∧x.length≤1000∧len0 ds=x.length:=by
 cases b <;> simp [isFl] at h
 rename_i ds
 obtain ⟨⟨h1,h2⟩,h3⟩:=h
 cases ds with
 | nil=>simp at h1
 | cons a r =>
  have ha:=h3 a (by simp)
  cases a <;> simp [z2o] at ha
  rename_i x
  have:=hs.2 (.str x) (by simp)
  exact ⟨_,x,rfl,rfl,this,rfl⟩
theorem tup2 (ds:List D) (h:ds.length=2):∃ a b,ds=[a,b]:=by
 match ds,h with
 | [a,b],_=>exact ⟨a,b,rfl⟩
theorem z8D (h w:Int) (d:D) (hd:SmP d):z1U [.pure (.int h),.pure (.int w),.pure d]=some (.pure (.bl (isPr h w d)),[.pure (.int h),.pure (.int w),.pure d]):=by
 unfold z1U gOf z4l runD
 cases d with
 | tup ds =>
  by_cases hl:ds.length=2
  ·obtain ⟨t,b,rfl⟩:=tup2 ds hl
   obtain ⟨ht,hb⟩:=hd
   have et:=zfk t ht
   have eb:=z5e b hb
   have el:pLen (.tup [t,b])=some (.pure (.int 2)):=rfl
   cases h1:lg 1 t with
   | false =>
    rw [h1] at et
    simp [ioOk,z0b,dTr,eIsi,isTy,bVar,el,z2W,dAsg,eVar,gTp,z0l,z1j,z08,ios,ndup,evX,mkA,et,putA,z0o,z07,isPr,h1]
   | true =>
    rw [h1] at et
    cases h2:isFl b with
    | false =>
     rw [h2] at eb
     simp [ioOk,z0b,dTr,eIsi,isTy,bVar,el,z2W,dAsg,eVar,gTp,z0l,z1j,z08,ios,ndup,evX,mkA,et,eb,putA,z0o,z07,isPr,h2]
    | true =>
     rw [h2] at eb
     obtain ⟨rs,x,rfl,h0,hx,hx0⟩:=zgv h2 hb
     have ei:=ix0 rs _ h0
     by_cases hh:(rs.length:Int)=h
     ·simp [ioOk,z0b,dTr,eIsi,isTy,bVar,el,z2W,dAsg,eVar,gTp,z0l,z1j,z08,ios,ndup,evX,mkA,et,eb,putA,z0o,z07,isPr,h1,h2,dims,eAnd,z49,z3e,hh,eOpF,eOpN,ei,z1u x hx,hx0]
     ·have hh':((rs.length:Int) == h)=false:=by simpa using hh
      simp [ioOk,z0b,dTr,eIsi,isTy,bVar,el,z2W,dAsg,eVar,gTp,z0l,z1j,z08,ios,ndup,evX,mkA,et,eb,putA,z0o,z07,isPr,h1,h2,dims,eAnd,z49,z3e,hh']
  ·have hl':¬ (ds.length:Int)=2:=by omega
   have hp:isPr h w (.tup ds)=false:=by
    unfold isPr
    split
    ·rename_i heq; cases heq; simp at hl
    ·rfl
   simp [ioOk,z0b,dTr,eIsi,isTy,bVar,z49,z2W,hl',z0o,z07,hp]
 | exc _ _=>exact hd.elim
 | xd _=>exact hd.elim
 | _=>simp [ioOk,z0b,dTr,eIsi,isTy,bVar,z0o,z07,isPr]
theorem ix1 (a b:D) (r:List D):pIx (.tup (a :: b :: r)) (.int 1)=some (.pure b):=by simp [pIx,z6i]
structure GP (h w:Int) (b:Nat×List Tx):Prop where
 t:letN b.1=true
 l:(b.2.length:Int)=h
 n:b.2.length≤64
 r:∀ r ∈ b.2,r.length≤64
theorem zcm (bs:List (Nat×List Tx)):z3S (bs.map blD)=some (bs.map fun b=>(Sum.inr [b.1],flD b.2)):=by
 induction bs with
 | nil=>rfl
 | cons b r ih=>simp [z3S,keyD,ih]
theorem zca (kvs:List (DKey×D)) (k j:DKey) (v:D):((putD kvs k v).any fun kv=>decide (kv.1=j))=(decide (k=j) || kvs.any fun kv=>decide (kv.1=j)):=by
 unfold putD
 split
 ·rename_i h
  have e:((kvs.map fun kv=>if kv.1=k then (kv.1,v) else kv).any fun kv=>decide (kv.1=j))=kvs.any fun kv=>decide (kv.1=j):=by
   rw [JB]
   congr 1
   funext kv
   simp only [Function.comp]
   split <;> rfl
  rw [e]
  by_cases hk:k=j
  ·subst hk; simp [h]
  ·simp [hk]
 ·rw [List.any_append]
  simp [Bool.or_comm]
theorem z7O (j:DKey):∀ (kps acc:List (DKey×D)),((z8F kps acc).any fun kv=>decide (kv.1=j))=((kps.any fun kv=>decide (kv.1=j)) || acc.any fun kv=>decide (kv.1=j))
 | [],acc=>rfl
 | p :: kps,acc=>by
  show ((z8F kps (putD acc p.1 p.2)).any fun kv=>decide (kv.1=j))=_
  rw [z7O j kps,zca,Q2]
  cases (decide (p.1=j)) <;> cases (kps.any fun kv=>decide (kv.1=j)) <;> simp
theorem z8z (kvs:List (DKey×D)) (k:DKey):(valD kvs k).isSome=kvs.any fun kv=>decide (kv.1=k):=by
 unfold valD
 rw [Option.isSome_map,List.isSome_find?]
theorem z5X:∀ fl:List Tx,(∀ r ∈ fl,r.length≤64)→z1m fl≤fl.length * 64
 | [],_=>by simp [z1m]
 | x :: fl,h=>by
  have h1:=h x (by simp)
  have h2:=z5X fl fun r hr=>h r (by simp [hr])
  unfold z1m at h2 ⊢
  rw [WB,List.sum_cons,Ws]
  omega
theorem zez {h w:Int} {b:Nat×List Tx} (g:GP h w b):z1w [] (flD b.2)=some (.pure (.str b.2.flatten)):=by
 have hl:=z5X b.2 g.r
 have hn:=g.n
 unfold z1w
 simp only [z5A,z3s]
 rw [if_pos (by have:W8=16777216:=rfl; simp; omega)]
def txt:D→Tx
 | .str x=>x
 | _=>[]
def dcD (bs:List (Nat×List Tx)):D:=.dct (z8F (bs.map fun b=>(Sum.inr [b.1],flD b.2)) [])
theorem in_dc (bs:List (Nat×List Tx)) (n:Nat):pIn true (.str [n]) (dcD bs)=some (.pure (.bl (!(bs.map (·.1)).contains n))):=by
 unfold dcD pIn
 simp only [keyD,WI,if_true,z8z,z7O]
 congr 4
 simp only [List.any_nil,Bool.or_false,JB]
 rw [List.contains_eq_any_beq,JB]
 congr 1
 funext b
 simp only [Function.comp]
 by_cases e:b.1=n
 ·subst e; simp
 ·have:¬ n=b.1:=fun z=>e z.symm
  simp [e,this]
theorem zeM (bs:List (Nat×List Tx)) (hn:bs.length≤1000):z46 (.lst (bs.map blD))=some (.own (dcD bs)):=by
 unfold z46
 simp only [zcm,WQ]
 rw [if_pos (by have:W8=16777216:=rfl; simp; omega)]
 rfl
theorem zbn (f:DE) (δ:Dl):zcG f δ=(f δ).bind fun r δ1=>match r.d with
 | .lst ds=>.ok (z6s ds) δ1
 | .tup ds=>.ok (z6s ds) δ1
 | _=>.stuck:=id rfl
theorem zdj (x y:Tx):pLe (.str x) (.str y)=some (.pure (.bl (!decide (y < x)))):=by
 unfold pLe pCmp
 rfl
theorem z2X (xs:List Tx) (m:Nat) (h:∀ x ∈ xs,x.length≤m):z1m xs≤xs.length * m:=by
 induction xs with
 | nil=>simp [z1m]
 | cons x r ih =>
  have h1:=h x Wi
  have h2:=ih fun y hy=>h y (Wc _ hy)
  have e:z1m (x :: r)=x.length + z1m r:=by simp [z1m]
  rw [e,Ws,Nat.succ_mul]
  omega
theorem z3K (z:Tx):∀ ts:List Tx,(z0s z ts).length≤z1m ts + ts.length * z.length
 | []=>by simp [z0s]
 | [x]=>by simp [z0s,z1m]
 | x :: y :: r=>by
  have ih:=z3K z (y :: r)
  have e:z1m (x :: y :: r)=x.length + z1m (y :: r):=by simp [z1m]
  rw [e,z0s,WP,WP,Ws (as:=y :: r),Nat.succ_mul]
  omega
theorem z7o (z:Tx) {n:Nat}:∀ ts:List Tx,n ∈ z0s z ts→n ∈ z∨∃ t ∈ ts,n ∈ t
 | [],h=>by simp [z0s] at h
 | [x],h=>.inr ⟨x,by simp,by simpa [z0s] using h⟩
 | x :: y :: r,h=>by
  rw [z0s,List.mem_append,List.mem_append] at h
  rcases h with (h | h) | h
  ·exact .inr ⟨x,by simp,h⟩
  ·exact .inl h
  ·rcases z7o z (y :: r) h with h | ⟨t,ht,hn⟩
   ·exact .inl h
   ·exact .inr ⟨t,Wc _ ht,hn⟩
theorem z4T (c:Nat):∀ x:Tx,c ∉ x→z0d c x=[x]
 | [],_=>rfl
 | a :: r,h=>by
  have h1:¬ a=c:=fun e=>h (by simp [e])
  have ih:=z4T c r fun z=>h (Wc _ z)
  simp [z0d,h1,ih]
theorem z6X (c:Nat) (r:Tx):∀ x:Tx,c ∉ x→z0d c (x ++ c :: r)=x :: z0d c r
 | [],_=>by simp [z0d]
 | a :: x,h=>by
  have h1:¬ a=c:=fun e=>h (by simp [e])
  have ih:=z6X c r x fun z=>h (Wc _ z)
  simp [z0d,h1,ih]
theorem z4S (c:Nat):∀ ts:List Tx,ts≠[]→(∀ t ∈ ts,c ∉ t)→z0d c (z0s [c] ts)=ts
 | [],h,_=>(h rfl).elim
 | [x],_,h=>by rw [z0s]; exact z4T c x (h x (by simp))
 | x :: y :: r,_,h=>by
  have ih:=z4S c (y :: r) (by simp) fun t ht=>h t (Wc _ ht)
  rw [z0s,List.append_assoc,List.singleton_append,z6X c _ x (h x (by simp)),ih]
theorem z8a (z:Tx) (hz:z.length≤1) (ts:List Tx) (h1:ts.length≤1000) (h2:∀ t ∈ ts,t.length≤1000):z1w z (.tup (ts.map .str))=some (.pure (.str (z0s z ts)))∧z1w z (.lst (ts.map .str))=some (.pure (.str (z0s z ts))):=by
 have hs:=z2X ts 1000 h2
 have h3:ts.length * 1000≤1000 * 1000:=Nat.mul_le_mul_right 1000 h1
 have h4:ts.length * z.length≤1000 * 1:=Nat.mul_le_mul h1 hz
 have:z1m ts + ts.length * z.length≤16777216:=by omega
 unfold z1w
 simp only [z5A]
 rw [if_pos this]
 exact ⟨rfl,rfl⟩
structure FG (fl:List Tx):Prop where
 r0:fl≠[]
 r1:fl.length≤64
 c0:0 < (fl.headD []).length
 c1:(fl.headD []).length≤64
 eq:∀ r ∈ fl,r.length=(fl.headD []).length
 lt:∀ r ∈ fl,∀ n ∈ r,97≤n∧n≤122
theorem FG.join {fl:List Tx} (F:FG fl):(z0s [47] fl).length≤5000∧z0s [47] fl≠[]∧(∀ n ∈ z0s [47] fl,n=47∨(97≤n∧n≤122))∧(∀ t ∈ fl,47 ∉ t)∧∀ t ∈ fl,t.length≤64:=by
 have hrow:∀ t ∈ fl,t.length≤64:=fun t ht=>by rw [F.eq t ht]; exact F.c1
 have hl:=z3K [47] fl
 have hs:=z2X fl 64 hrow
 have r1:=F.r1
 have h3:fl.length * 64≤64 * 64:=Nat.mul_le_mul_right 64 r1
 have hone:([47]:Tx).length=1:=rfl
 rw [hone] at hl
 refine ⟨by omega,?_,fun n hn=>?_,fun t ht hm=>?_,hrow⟩
 ·have hne:=F.r0
  have hc:=F.c0
  cases fl with
  | nil=>exact (hne rfl).elim
  | cons a r =>
   cases r with
   | nil =>
    intro e
    have e':a=[]:=e
    subst e'
    simp at hc
   | cons b q =>
    intro e
    have:a ++ [47] ++ z0s [47] (b :: q)=[]:=e
    simp at this
 ·rcases z7o [47] fl hn with h | ⟨t,ht,h⟩
  ·exact .inl (by simpa using h)
  ·exact .inr (F.lt t ht n h)
 ·have:=F.lt t ht 47 hm
  omega
theorem zbF {h w:Nat} {bs:List (Nat×List Tx)} (R:Rul h w bs) {b:Nat×List Tx} (hb:b ∈ bs):FG b.2∧b.2.length=h∧(b.2.headD []).length=w∧97≤b.1∧b.1≤122:=by
 have B:=R.blk b hb
 have h0:=R.h0
 have h1:=R.h1
 have w0:=R.w0
 have w1:=R.w1
 have L:=R.let' b hb
 have hne:b.2≠[]:=by intro e; have:=B.1; rw [e] at this; simp at this; omega
 have hm:b.2.headD [] ∈ b.2:=by
  cases e:b.2 with
  | nil=>exact (hne e).elim
  | cons a r=>simp
 have hh:=(B.2 _ hm).1
 refine ⟨⟨hne,by omega,by omega,by omega,fun r hr=>by rw [(B.2 r hr).1,hh],fun r hr n hn=>?_⟩,B.1,hh,L.1,L.2⟩
 obtain ⟨b',hb',e⟩:=Qw.mp ((B.2 r hr).2 n hn)
 rw [← e]
 exact R.let' b' hb'
def rowT (b:Nat×List Tx):Tx:=b.1 :: 32 :: z0s [47] b.2
def hdr (h w:Nat):Tx:=[114,117,108,101,32,48 + h,32,48 + w]
def ruT (h w:Nat) (bs:List (Nat×List Tx)):Tx:=z0s [10] (hdr h w :: bs.map rowT)
theorem z97 {h w:Nat} {bs:List (Nat×List Tx)} (R:Rul h w bs) {b:Nat×List Tx} (hb:b ∈ bs):(rowT b).length≤900∧10 ∉ rowT b∧z0d 32 (rowT b)=[[b.1],z0s [47] b.2]∧pAdd (.str [b.1]) (.str [32])=some (.pure (.str [b.1,32]))∧pAdd (.str [b.1,32]) (.str (z0s [47] b.2))=some (.pure (.str (rowT b))):=by
 obtain ⟨F,l1,l2,a1,a2⟩:=zbF R hb
 obtain ⟨j1,j2,j3,j4,j5⟩:=F.join
 have h1:=R.h1
 have w1:=R.w1
 have hl:=z3K [47] b.2
 have hs:=z2X b.2 4 fun t ht=>by rw [F.eq t ht,l2]; exact w1
 have h3:b.2.length * 4≤4 * 4:=Nat.mul_le_mul_right 4 (by omega)
 have hone:([47]:Tx).length=1:=rfl
 rw [hone] at hl
 have n32:32 ∉ z0s [47] b.2:=fun z=>by have:=j3 32 z; omega
 have n10:10 ∉ z0s [47] b.2:=fun z=>by have:=j3 10 z; omega
 refine ⟨by simp [rowT]; omega,?_,?_,add_str [b.1] [32] (by simp),add_str [b.1,32] (z0s [47] b.2) (by simp; omega)⟩
 ·intro z
  simp only [rowT,Wh] at z
  rcases z with z | z | z
  ·omega
  ·omega
  ·exact n10 z
 ·have:z0d 32 ([b.1] ++ 32 :: z0s [47] b.2)=[b.1] :: z0d 32 (z0s [47] b.2):=z6X 32 _ [b.1] (by simp; omega)
  rw [z4T 32 _ n32] at this
  exact this
theorem z8X (h:Nat) (h1:h≤4):z5M (.int h)=some (.pure (.str [48 + h])):=by
 unfold z5M
 simp only
 rw [if_pos (by omega)]
 simp
theorem zaq {h w:Nat} {bs:List (Nat×List Tx)} (R:Rul h w bs):z1w [10] (.lst ((hdr h w :: bs.map rowT).map .str))=some (.pure (.str (ruT h w bs))):=by
 have n1:=R.n1
 exact (z8a [10] (by simp) (hdr h w :: bs.map rowT) (by simp; omega) fun t ht=>by
  rcases Wh.mp ht with rfl | ht
  ·simp [hdr]
  ·obtain ⟨b,hb,rfl⟩:=Qw.mp ht
   have:=(z97 R hb).1
   omega).2
theorem zcE {xs:List Tx} {k:Nat} {r:Tx} (h:xs[k]? = some r):pIx (.lst (xs.map .str)) (.int k)=some (.pure (.str r)):=by
 have hlt:k < xs.length:=(Wb.mp h).1
 have hx:ixN (xs.map D.str).length (k:Int)=some k:=by
  rw [Wu]
  unfold ixN
  simp
  try omega
 have:atI (xs.map D.str) (k:Int)=some (.str r):=by
  unfold atI
  rw [hx]
  show (xs.map D.str)[k]? = _
  rw [WN,h]
  rfl
 simp [pIx,this]
theorem le1 (a b:Nat):pLe (.str [a]) (.str [b])=some (.pure (.bl (decide (a≤b)))):=by
 unfold pLe pCmp
 simp only [lt1]
 congr 3
 by_cases h:a≤b <;> simp [h] <;> omega
theorem zgz (x y:Tx):pEq (.str x) (.str y)=some (.pure (.bl (x == y))):=by
 simp only [pEq,flat,Bool.and_self,if_true,eqD]
theorem z9g (x y:Tx):pNe (.str x) (.str y)=some (.pure (.bl (!(x == y)))):=by
 simp only [pNe,flat,Bool.and_self,if_true,eqD]
theorem ix_str (a:Nat) (r:Tx) (h:r.length≤1000):pIx (.str (a :: r)) (.int 0)=some (.pure (.str [a])):=by
 simp [pIx,z1J,z0Y]
 omega
def figN (n:Nat):Bool:=decide (48≤n) && decide (n≤57)
def nw (z:Tx):Bool:=decide (1≤z.length) && decide (z.length≤40) && !(z.headD 0 == 48 && !(z == [48])) && z.all figN
theorem zcL (z:Tx) (hz:z.length≤1000):z2h [1] (gNm [] 1) dYes (z2Y pLe pLe (eD (.str [48])) (eVar 1) (bOf (eD (.str [57])))) (z.map fun n=>D.str [n]) [some (.pure (.str z)),none] [] = .ok (z.map fun n=>D.bl (figN n)) [some (.pure (.str z)),none]:=by
 have e:=z2j (cs:=[1]) (g:=gNm [] 1) (t:=dYes) (el:=(z2Y pLe pLe (eD (.str [48])) (eVar 1) (bOf (eD (.str [57]))))) (fun n:Nat=>D.str [n]) (fun n=>.bl (figN n)) [some (.pure (.str z)),none] z [] (by rw [z0Y]; simp; omega) (fun n hn=>by
  refine ⟨_,_,.pure (.bl (figN n)),[some (.pure (.str z)),some (.pure (.str [n]))],rfl,rfl,?_,rfl,rfl⟩
  unfold figN
  by_cases ha:48≤n
  ·simp [z13,eVar,le1,ha]
  ·simp [z13,eVar,le1,ha])
 simpa using e
theorem zc5 (z:Tx) (hz:z.length≤1000):z0S [.pure (.str z)]=some (.pure (.bl (nw z)),[.pure (.str z)]):=by
 have e:=zcL z hz
 have ea:=z8y z figN
 have l1:=z1u z hz
 rw [z0S,z1H,z2c]
 cases z with
 | nil=>simp [ioOk,z0b,dTr,z13,bVar,l1,le_int,z0o,z07,nw]
 | cons a r =>
  have i0:=ix_str a r (by simp at hz; omega)
  have q0:=zgz [a] [48]
  have q1:=z9g (a :: r) [48]
  have hn:nw (a :: r)=(decide ((a :: r).length≤40) && !(([a] == [48]) && !((a :: r) == [48])) && (a :: r).all figN):=by
   unfold nw
   have:decide (1≤(a :: r).length)=true:=by simp
   have h2:([a] == [48])=(a == 48):=by simp [List.cons_beq_cons]
   rw [this,h2]
   rfl
  have c1:decide ((1:Int)≤((a :: r).length:Int))=true:=by simp; omega
  have c2:decide (((a :: r).length:Int)≤40)=decide ((a :: r).length≤40):=by simp; omega
  rw [hn]
  generalize ((a :: r) == [48])=b1 at *
  generalize ([a] == [48])=b2 at *
  generalize decide ((a :: r).length≤40)=b3 at *
  generalize hx:(a :: r)=x at *
  generalize x.all figN=b4 at *
  generalize x.length=n at *
  have h1:=le_int 1 n
  have h2:=le_int n 40
  rw [c1] at h1
  rw [c2] at h2
  cases b3
  ·simp [ioOk,z0b,dTr,z13,bVar,l1,h1,h2,z0o,z07]
  ·cases b2
   ·simp [ioOk,z0b,dTr,z13,bVar,l1,h1,h2,eOpF,eOpN,i0,q0,z4J,eVar,z0w,clrD]
    rw [e]
    simp [z26,ea,z0o,z07]
   ·cases b1
    ·simp [ioOk,z0b,dTr,z13,bVar,l1,h1,h2,eOpF,eOpN,i0,q0,q1,z0o,z07]
    ·simp [ioOk,z0b,dTr,z13,bVar,l1,h1,h2,eOpF,eOpN,i0,q0,q1,z4J,eVar,z0w,clrD]
     rw [e]
     simp [z26,ea,z0o,z07]
open PySem.NumText (digitsVal)
theorem z4I (np:List Nat) (n:Nat) (b:DS) (ss:List S):gOfX np n b ss=if ioOk np 0 ss then (match b (z0b n ss) with
 | .ok fl δ=>(z0o fl).bind fun r=>(z07 0 ss δ).map fun outs=>.inl (r,outs)
 | .exc x δ=>(z07 0 ss δ).map fun outs=>.inr (x,outs)
 | .stuck=>none) else none:=rfl
@[simp] theorem zeL {α β:Type} (x:Xc) (δ:Dl) (f:α→Dl→Rs β):(Rs.exc x δ:Rs α).bind f = .exc x δ:=id rfl
theorem z1c (c:Nat):∀ (z:Tx) (t:Tx),t ∈ z0d c z→t.length≤z.length
 | [],t,h=>by simp [z0d] at h; simp [h]
 | a :: r,t,h=>by
  have ih:=z1c c r
  unfold z0d at h
  split at h
  ·rcases Wh.mp h with e | h
   ·simp [e]
   ·have:=ih t h; simp; omega
  ·split at h
   ·rename_i p q e
    rcases Wh.mp h with e2 | h
    ·have:=ih p (by rw [e]; simp); simp [e2]; omega
    ·have:=ih t (by rw [e]; exact Wc _ h); simp; omega
   ·simp at h; simp [h]
def dg:Tx→Option Nat
 | [n]=>if 49≤n∧n≤52 then some (n - 48) else none
 | _=>none
def rlT:Tx:=[114,117,108,101]
def nt (k:D):Xc:=⟨[78,111,84,101,120,116],.xd [([114,111,119],k)]⟩
def szN (o p:Option Nat):Option (Nat×Nat):=match o,p with
 | some h,some w=>if h=1∧w=1 then none else some (h,w)
 | _,_=>none
def szW:List Tx→Option (Nat×Nat)
 | [a,b,c]=>if a=rlT then szN (dg b) (dg c) else none
 | _=>none
def szO (r:Tx) (o:Option (Nat×Nat)):(S×List S) ⊕ (Xc×List S):=match o with
 | some (h,w)=>.inl (.pure (.tup [.int h,.int w]),[.pure (.str r)])
 | none=>.inr (nt (.int 1),[.pure (.str r)])
def sz (r:Tx):Option (Nat×Nat):=szW (z0d 32 r)
theorem zbg:∀ (r:List Nat) (a:Nat),a≤r.foldl (fun acc c=>acc * 10 + (c - 48)) a
 | [],a=>W7 _
 | c :: r,a=>by
  rw [Qg]
  exact Wn (by omega) (zbg r _)
theorem zcv {z:Tx} (h:nw z=true):match dg z with
  | some n=>digitsVal z=n∧1≤n∧n≤4
  | none=>¬ (1≤digitsVal z∧digitsVal z≤4):=by
 cases z with
 | nil=>simp [nw] at h
 | cons n r =>
  cases r with
  | nil =>
   simp [nw,figN] at h
   unfold dg digitsVal
   simp only [Qg,List.foldl_nil]
   split
   ·rename_i m hm
    split at hm
    ·cases hm; omega
    ·cases hm
   ·rename_i hm
    split at hm
    ·cases hm
    ·omega
  | cons m r =>
   simp [nw,figN] at h
   unfold dg digitsVal
   simp only [Qg]
   have:=zbg r ((0 * 10 + (n - 48)) * 10 + (m - 48))
   omega
theorem zbt {z:Tx} {n:Nat} (h:dg z=some n):nw z=true:=by
 unfold dg at h
 split at h
 ·split at h
  ·rename_i k hk
   have:¬ k=48:=by omega
   simp [nw,figN,this]
   omega
  ·cases h
 ·cases h
theorem zeB {z:Tx} (h:nw z=true):z7R (.str z)=some (.pure (.int ((digitsVal z:Nat):Int))):=by
 have h1:z.all (fun n=>decide (48≤n) && decide (n≤57))=true:=by
  unfold nw figN at h
  simp only [We] at h
  exact h.2
 have h2:1≤z.length∧z.length≤40:=by
  unfold nw at h
  simp only [We,decide_eq_true_eq] at h
  exact h.1.1
 simp only [z7R]
 have h3:z.isEmpty=false:=by cases z <;> simp at h2 ⊢
 rw [if_pos (by simp only [h1,h3,Bool.not_false,Bool.and_self,Bool.true_and,decide_eq_true_eq]; omega)]
theorem z4r (c:Nat) (z:Tx) (h:z.length≤1000):z0R c (.str z)=some (.own (.lst ((z0d c z).map .str))):=by
 simp only [z0R]
 rw [if_pos (by omega)]
theorem z4a (ds:List D):pLen (.lst ds)=some (.pure (.int ds.length)):=rfl
theorem zf2 {ws:List Tx} (h:ws.length=3):∃ a b c,ws=[a,b,c]:=by
 match ws,h with
 | [a,b,c],_=>exact ⟨a,b,c,rfl⟩
theorem ze4 (GN GS:DF) (gn:∀ z:Tx,z.length≤1000→GN [.pure (.str z)]=some (.pure (.bl (nw z)),[.pure (.str z)])) (gs:∀ a b:Int,GS [.pure (.int a),.pure (.int b)]=some (.pure (.bl (szD (.int a) (.int b))),[.pure (.int a),.pure (.int b)])) (r:Tx) (hr:r.length≤1000) :
  gOfX [] 4 (z37 GN GS) [.pure (.str r)]
   = some (szO r (sz r)):=by
 unfold z37
 have hs:=z4r 32 r hr
 have hm:=z1c 32 r
 unfold sz
 generalize z0d 32 r=ws at *
 rw [z4I]
 have ln:=z4a (ws.map .str)
 rw [Wu] at ln
 have n3:=z2W ws.length 3
 by_cases h3:ws.length=3
 ·obtain ⟨a,b,c,rfl⟩:=zf2 h3
  have i0:pIx (.lst ([a,b,c].map D.str)) (.int 0)=some (.pure (.str a)):=by simp [pIx,atI,ixN]
  have i1:pIx (.lst ([a,b,c].map D.str)) (.int 1)=some (.pure (.str b)):=by simp [pIx,atI,ixN]
  have i2:pIx (.lst ([a,b,c].map D.str)) (.int 2)=some (.pure (.str c)):=by simp [pIx,atI,ixN]
  have g1:=gn b (by have:=hm b (by simp); omega)
  have g2:=gn c (by have:=hm c (by simp); omega)
  have q1:=z9g a [114,117,108,101]
  replace ln:pLen (.lst ([a,b,c].map D.str))=some (.pure (.int 3)):=ln
  replace n3:pNe (.int 3) (.int 3)=some (.pure (.bl false)):=rfl
  generalize hL:D.lst ([a,b,c].map D.str)=L at *
  rw [show szW [a,b,c]=if a=rlT then szN (dg b) (dg c) else none from rfl]
  by_cases ha:a=rlT
  ·rw [if_pos ha]
   rw [show (a == [114,117,108,101])=true by rw [ha]; rfl] at q1
   cases hb:nw b with
   | false =>
    rw [hb] at g1
    have:dg b=none:=by
     cases e:dg b with
     | none=>rfl
     | some n=>rw [zbt e] at hb; cases hb
    rw [this,show szN none (dg c)=none from rfl]
    simp [ioOk,z0b,dAsg,bVar,hs,dTr,ln,n3,eOpF,eOpN,i0,q1,z08,ios,ndup,z0w,evX,i1,mkA,g1,putA,z0P,z07,nt,szO]
   | true =>
    rw [hb] at g1
    cases hc:nw c with
    | false =>
     rw [hc] at g2
     have:dg c=none:=by
      cases e:dg c with
      | none=>rfl
      | some n=>rw [zbt e] at hc; cases hc
     rw [this]
     rw [show szN (dg b) none=none by cases dg b <;> rfl]
     simp [ioOk,z0b,dAsg,bVar,hs,dTr,ln,n3,eOpF,eOpN,i0,q1,z08,ios,ndup,z0w,evX,i1,i2,mkA,g1,g2,putA,z0P,z07,nt,szO]
    | true =>
     rw [hc] at g2
     have d1:=zcv hb
     have d2:=zcv hc
     have p1:=zeB hb
     have p2:=zeB hc
     have gz:=gs (digitsVal b) (digitsVal c)
     have key:szD (.int (digitsVal b)) (.int (digitsVal c))=(szN (dg b) (dg c)).isSome∧∀ h w,(szN (dg b) (dg c))=some (h,w)→digitsVal b=h∧digitsVal c=w:=by
      cases e1:dg b with
      | none =>
       rw [e1] at d1
       simp only at d1
       refine ⟨?_,fun h w e=>by simp [szN] at e⟩
       simp [szD,wh,szN]
       omega
      | some h =>
       rw [e1] at d1
       simp only at d1
       cases e2:dg c with
       | none =>
        rw [e2] at d2
        simp only at d2
        refine ⟨?_,fun h w e=>by simp [szN] at e⟩
        simp [szD,wh,szN]
        omega
       | some w =>
        rw [e2] at d2
        simp only at d2
        obtain ⟨d1,d3,d4⟩:=d1
        obtain ⟨d2,d5,d6⟩:=d2
        rw [d1,d2]
        by_cases hw:h=1∧w=1
        ·obtain ⟨rfl,rfl⟩:=hw
         exact ⟨rfl,fun h w e=>by simp [szN] at e⟩
        ·simp only [szN,if_neg hw]
         refine ⟨?_,fun h w e=>by cases e; exact ⟨rfl,rfl⟩⟩
         simp [szD,wh,szN]
         omega
     generalize (szN (dg b) (dg c))=o at *
     rw [key.1] at gz
     cases o with
     | none =>
      simp only [Option.isSome_none] at gz
      simp [ioOk,z0b,dAsg,bVar,hs,dTr,ln,n3,eOpF,eOpN,i0,q1,z08,ios,ndup,z0w,evX,i1,i2,mkA,g1,g2,p1,p2,eVar,gz,putA,z0P,z07,nt,szO]
     | some hw =>
      obtain ⟨h,w⟩:=hw
      obtain ⟨k1,k2⟩:=key.2 h w rfl
      simp only [Option.isSome_some] at gz
      rw [k1,k2] at gz
      rw [k1] at p1
      rw [k2] at p2
      simp [ioOk,z0b,dAsg,bVar,hs,dTr,ln,n3,eOpF,eOpN,i0,q1,z08,ios,ndup,z0w,evX,i1,i2,mkA,g1,g2,p1,p2,eVar,gz,putA,z0o,z07,szO]
  ·rw [if_neg ha]
   have:(a == [114,117,108,101])=false:=by simpa [rlT] using ha
   rw [this] at q1
   simp [ioOk,z0b,dAsg,bVar,hs,dTr,ln,n3,eOpF,eOpN,i0,q1,z0P,z07,nt,szO]
 ·have hz:szW ws=none:=by
   unfold szW
   split
   ·exact (h3 rfl).elim
   ·rfl
  rw [show ((ws.length:Int) == 3)=false by simp; omega] at n3
  rw [hz]
  simp [ioOk,z0b,dAsg,bVar,hs,dTr,ln,n3,z0P,z07,nt,szO]
theorem zdW (r:Tx) (hr:r.length≤1000):z1C [.pure (.str r)]=some (szO r (sz r)):=by
 rw [z1C,z3E]
 exact ze4 _ _ zc5 (fun a b=>z7M _ _ trivial trivial) r hr
def prT (r:Tx):D:=match z0d 32 r with
 | [a,b]=>.tup [.str a,.tup ((z0d 47 b).map .str)]
 | _=>.non
theorem zax (z:Tx) (hz:z.length≤1000):z1b [.pure (.str z)]=some (.pure (.tup ((z0d 47 z).map .str)),[.pure (.str z)]):=by
 have hs:=z4r 47 z hz
 rw [z1b,z1H,z4j]
 generalize (z0d 47 z).map D.str=L at *
 simp [ioOk,z0b,bVar,hs,z2m,z0o,z07]
theorem two {ws:List Tx} (h:ws.length=2):∃ a b,ws=[a,b]:=by
 match ws,h with
 | [a,b],_=>exact ⟨a,b,rfl⟩
theorem zfC (GR:DF) (gr:∀ z:Tx,z.length≤1000→GR [.pure (.str z)]=some (.pure (.tup ((z0d 47 z).map .str)),[.pure (.str z)])) (r:Tx) (hr:r.length≤1000) :
  gOf [] 2 (z3C GR) [.pure (.str r)]=some (.pure (prT r),[.pure (.str r)]):=by
 unfold z3C
 have hs:=z4r 32 r hr
 have hm:=z1c 32 r
 unfold prT
 generalize z0d 32 r=ws at *
 have ln:=z4a (ws.map .str)
 rw [Wu] at ln
 rw [z1H]
 by_cases h2:ws.length=2
 ·obtain ⟨a,b,rfl⟩:=two h2
  have i0:pIx (.lst ([a,b].map D.str)) (.int 0)=some (.pure (.str a)):=by simp [pIx,atI,ixN]
  have i1:pIx (.lst ([a,b].map D.str)) (.int 1)=some (.pure (.str b)):=by simp [pIx,atI,ixN]
  have g:=gr b (by have:=hm b (by simp); omega)
  replace ln:pLen (.lst ([a,b].map D.str))=some (.pure (.int 2)):=ln
  have n2:pEq (.int 2) (.int 2)=some (.pure (.bl true)):=rfl
  simp only
  generalize D.lst ([a,b].map D.str)=L at *
  generalize (z0d 47 b).map D.str=rb at *
  simp [ioOk,z0b,dAsg,bVar,hs,dTr,ln,n2,eOpF,eOpN,i0,i1,z08,ios,ndup,z0w,evX,eVar,mkA,g,putA,z0o,z07]
 ·have n2:=z3e ws.length 2
  rw [show ((ws.length:Int) == 2)=false by simp; omega] at n2
  have hz:(match ws with | [a,b]=>D.tup [.str a,.tup ((z0d 47 b).map .str)] | _=>.non) = .non:=by
   split
   ·exact (h2 rfl).elim
   ·rfl
  rw [hz]
  simp [ioOk,z0b,dAsg,bVar,hs,dTr,ln,n2,z0o,z07]
theorem zdZ (r:Tx) (hr:r.length≤1000):z1T [.pure (.str r)]=some (.pure (prT r),[.pure (.str r)]):=by
 rw [z1T,z4k]
 exact zfC _ zax r hr
def blk (h w:Nat) (vs:List Tx):Bool:=decide (vs.length=h) && vs.all (fun x=>decide (x.length=w)) && vs.all (fun x=>x.all letN)
def par (h w:Nat) (ah r:Tx):Option (Nat×List Tx):=match z0d 32 r with
 | [[t],b]=>if letN t && blk h w (z0d 47 b) then (if ah < [t] then some (t,z0d 47 b) else none) else none
 | _=>none
theorem zgE {h w:Nat} (h1:h≤4) (w0:1≤w) (w1:w≤4) {vs:List Tx} (hv:vs≠[]):(isFl (.tup (vs.map .str)) && dims h w (.tup (vs.map .str)))=blk h w vs:=by
 obtain ⟨x,r,rfl⟩:∃ x r,vs=x :: r:=by
  cases vs with
  | nil=>exact (hv rfl).elim
  | cons x r=>exact ⟨x,r,rfl⟩
 have hl:len0 ((x :: r).map D.str)=x.length:=rfl
 rw [Qh]
 simp only [isFl,dims,blk,hl,We,decide_eq_true_eq,WC,Wu,beq_iff_eq,List.mem_map,forall_exists_index,and_imp,forall_apply_eq_imp_iff₂,z2o,lg]
 constructor
 ·rintro ⟨⟨⟨a,b⟩,c⟩,d,e⟩
  refine ⟨⟨by omega,fun y hy=>?_⟩,fun y hy=>(c y hy).1.2⟩
  have:=(c y hy).2
  omega
 ·rintro ⟨⟨a,b⟩,c⟩
  have hx:=b x Wi
  refine ⟨⟨⟨by simp,by omega⟩,fun y hy=>?_⟩,by omega,by omega⟩
  have:=b y hy
  exact ⟨⟨⟨by omega,by omega⟩,c y hy⟩,by omega⟩
theorem z6J (c:Nat):∀ z:Tx,z0s [c] (z0d c z)=z
 | []=>rfl
 | a :: r=>by
  have ih:=z6J c r
  obtain ⟨p,q,e⟩:=z1Z c r
  unfold z0d
  by_cases h:a=c
  ·rw [if_pos h,e]
   rw [e] at ih
   have:z0s [c] ([] :: p :: q)=c :: z0s [c] (p :: q):=rfl
   rw [this,ih,h]
  ·rw [if_neg h,e]
   rw [e] at ih
   simp only
   cases q with
   | nil=>simpa [z0s] using ih
   | cons q1 q2 =>
    have h1:z0s [c] (p :: q1 :: q2)=p ++ [c] ++ z0s [c] (q1 :: q2):=rfl
    have h2:z0s [c] ((a :: p) :: q1 :: q2)=(a :: p) ++ [c] ++ z0s [c] (q1 :: q2):=rfl
    rw [h1] at ih
    rw [h2,← ih]
    simp
theorem z7a {h w:Nat} (h1:h≤4) (w0:1≤w) (w1:w≤4) (ah r:Tx):(isPr h w (prT r)=false∧par h w ah r=none)∨∃ b:Nat×List Tx,isPr h w (prT r)=true∧prT r=blD b∧letN b.1=true∧blk h w b.2=true∧z0d 32 r=[[b.1],z0s [47] b.2]∧par h w ah r=if ah < [b.1] then some b else none:=by
 unfold prT par
 generalize z0d 32 r=ws at *
 match ws with
 | []=>exact .inl ⟨rfl,rfl⟩
 | [x]=>exact .inl ⟨rfl,by split <;> simp_all⟩
 | x :: y :: z :: q=>exact .inl ⟨rfl,by split <;> simp_all⟩
 | [[],b]=>exact .inl ⟨rfl,rfl⟩
 | [_ :: _ :: _,b]=>exact .inl ⟨by simp [isPr,lg],rfl⟩
 | [[t],b] =>
  have hb:=zgE h1 w0 w1 (vs:=z0d 47 b) (by obtain ⟨p,q,e⟩:=z1Z 47 b; rw [e]; simp)
  have ht:lg 1 (.str [t])=letN t:=by simp [lg]
  have hp:isPr h w (.tup [.str [t],.tup ((z0d 47 b).map .str)])=(letN t && blk h w (z0d 47 b)):=by
   show (lg 1 (.str [t]) && isFl (.tup ((z0d 47 b).map .str)) && dims h w (.tup ((z0d 47 b).map .str)))=_
   rw [Bool.and_assoc,hb,ht]
  simp only
  rw [hp]
  cases hz:(letN t && blk h w (z0d 47 b)) with
  | false=>exact .inl ⟨rfl,rfl⟩
  | true =>
   rw [We] at hz
   refine .inr ⟨(t,z0d 47 b),rfl,rfl,hz.1,hz.2,by rw [z6J],rfl⟩
def z3u:Nat→List D→List D
 | _,[]=>[]
 | k,d :: r=>.tup [.int (k:Nat),d] :: z3u (k + 1) r
theorem z7t:∀ (ds:List D) (k:Nat),(ds.mapIdx fun i d=>D.tup [.int ((k + i:Nat):Int),d])=z3u k ds
 | [],_=>rfl
 | d :: r,k=>by
  rw [List.mapIdx_cons]
  unfold z3u
  rw [← z7t r (k + 1)]
  congr 1
  apply congrArg (fun f=>List.mapIdx f r)
  funext i d
  rw [show k + (i + 1)=k + 1 + i by omega]
theorem zcQ (ds:List D):z8S ds=z3u 2 ds:=z7t ds 2
def goR (h w:Nat):Tx→Nat→List Tx→List (Nat×List Tx)→Nat ⊕ List (Nat×List Tx)
 | _,_,[],bs=>.inr bs
 | ah,k,r :: rs,bs=>match par h w ah r with
  | none=>.inl k
  | some b=>goR h w [b.1] (k + 1) rs (bs ++ [b])
abbrev B2_ (GP:DF) (GQ:DF):DS:=dSeq (dAsg (z08 GP [.val (eVar 7)]) (gNm [] 8)) (dSeq (dIf (dOr (dNot (dTr (z08 GQ [.val (eVar 2),.val (eVar 3),.val (eVar 8)]))) (dTr (eOp pLe (eOpF pIx 8 (bOf (eD (.int 0)))) (bVar 5)))) (z0P [78,111,84,101,120,116] [[114,111,119]] (z0m (eVar 6) aNil)) z0I) (dSeq (dAsg (eOpF pIx 8 (bOf (eD (.int 0)))) (gNm [] 5)) (z1o 4 (eVar 8))))
theorem zge (GP GQ:DF) {h w:Nat} (h1:h≤4) (w0:1≤w) (w1:w≤4) (gp:∀ r:Tx,r.length≤1000→GP [.pure (.str r)]=some (.pure (prT r),[.pure (.str r)]))
  (gq:∀ r:Tx,r.length≤900→GQ [.pure (.int h),.pure (.int w),.pure (prT r)]=some (.pure (.bl (isPr h w (prT r))),[.pure (.int h),.pure (.int w),.pure (prT r)])) (tx L:D) :
  ∀ (rs:List Tx) (k:Nat) (bs:List (Nat×List Tx)) (ah:Tx) (o6 o7 o8:Option S),(∀ r ∈ rs,r.length≤900)→bs.length + rs.length≤2000 →
   (match goR h w ah k rs bs with
   | .inl j=>∃ rest,forL (gTp 2 (z0l (gNm [] 6) (z0l (gNm [] 7) z1j))) (B2_ GP GQ) (z3u k (rs.map .str)) [some (.pure tx),some (.own L),some (.pure (.int h)),some (.pure (.int w)),some (.own (.lst (bs.map blD))),some (.pure (.str ah)),o6,o7,o8,none] = .exc (nt (.int j)) (some (.pure tx) :: rest)
   | .inr cs=>∃ q5 q6 q7 q8,forL (gTp 2 (z0l (gNm [] 6) (z0l (gNm [] 7) z1j))) (B2_ GP GQ) (z3u k (rs.map .str)) [some (.pure tx),some (.own L),some (.pure (.int h)),some (.pure (.int w)),some (.own (.lst (bs.map blD))),some (.pure (.str ah)),o6,o7,o8,none] = .ok .next [some (.pure tx),some (.own L),some (.pure (.int h)),some (.pure (.int w)),some (.own (.lst (cs.map blD))),q5,q6,q7,q8,none])
 | [],k,bs,ah,o6,o7,o8,_,_=>⟨_,_,_,_,rfl⟩
 | r :: rs,k,bs,ah,o6,o7,o8,hr,hn=>by
  have g1:=gp r (by have:=hr r Wi; omega)
  have g2:=gq r (hr r Wi)
  have hcons:z3u k ((r :: rs).map D.str) = .tup [.int k,.str r] :: z3u (k + 1) (rs.map .str):=rfl
  simp only [Ws] at hn
  rw [hcons]
  unfold goR
  rcases z7a h1 w0 w1 ah r with ⟨z1,z2⟩ | ⟨b,z1,z2,_,_,_,z3⟩
  ·rw [z2]
   rw [z1] at g2
   generalize prT r=pd at *
   generalize D.str r=rd at *
   generalize D.lst (bs.map blD)=bd at *
   refine ⟨[some (.own L),some (.pure (.int h)),some (.pure (.int w)),some (.own bd),some (.pure (.str ah)),some (.pure (.int k)),some (.pure rd),some (.pure pd),none],?_⟩
   unfold forL
   simp [gTp,z0l,z1j,dAsg,z08,ios,ndup,z0w,evX,eVar,mkA,g1,g2,putA,dTr,z0P,nt]
  ·rw [z1] at g2
   rw [z2] at g1 g2
   have i0:pIx (blD b) (.int 0)=some (.pure (.str [b.1])):=by simp [blD,pIx,z1J]
   have l0:=zdj [b.1] ah
   by_cases ha:ah < [b.1]
   ·rw [if_pos ha] at z3
    rw [z3]
    rw [show decide (ah < [b.1])=true by simpa using ha] at l0
    have ih:=zge GP GQ h1 w0 w1 gp gq tx L rs (k + 1) (bs ++ [b]) [b.1] (some (.pure (.int k))) (some (.pure (.str r))) (some (.pure (blD b))) (fun x hx=>hr x (Wc _ hx)) (by simp; omega)
    have st:forL (gTp 2 (z0l (gNm [] 6) (z0l (gNm [] 7) z1j))) (B2_ GP GQ) (.tup [.int k,.str r] :: z3u (k + 1) (rs.map .str)) [some (.pure tx),some (.own L),some (.pure (.int h)),some (.pure (.int w)),some (.own (.lst (bs.map blD))),some (.pure (.str ah)),o6,o7,o8,none]=forL (gTp 2 (z0l (gNm [] 6) (z0l (gNm [] 7) z1j))) (B2_ GP GQ) (z3u (k + 1) (rs.map .str)) [some (.pure tx),some (.own L),some (.pure (.int h)),some (.pure (.int w)),some (.own (.lst ((bs ++ [b]).map blD))),some (.pure (.str [b.1])),some (.pure (.int k)),some (.pure (.str r)),some (.pure (blD b)),none]:=by
     conv=>lhs; unfold forL
     rw [List.map_append,WB,Jy]
     have hz:(bs.map blD).length < W8:=by rw [z0Y,Wu]; omega
     generalize hbd:blD b=pd at *
     generalize D.str r=rd at *
     generalize hbs:bs.map blD=bd at *
     simp [gTp,z0l,z1j,dAsg,z08,ios,ndup,z0w,evX,eVar,mkA,g1,g2,putA,dTr,eOpF,eOpN,bVar,i0,l0,z1o,z23,putL,hz]
    rw [st]
    exact ih
   ·rw [if_neg ha] at z3
    rw [z3]
    rw [show decide (ah < [b.1])=false by simpa using ha] at l0
    generalize blD b=pd at *
    generalize D.str r=rd at *
    generalize D.lst (bs.map blD)=bd at *
    refine ⟨[some (.own L),some (.pure (.int h)),some (.pure (.int w)),some (.own bd),some (.pure (.str ah)),some (.pure (.int k)),some (.pure rd),some (.pure pd),none],?_⟩
    unfold forL
    simp [gTp,z0l,z1j,dAsg,z08,ios,ndup,z0w,evX,eVar,mkA,g1,g2,putA,dTr,eOpF,eOpN,bVar,i0,l0,z0P,nt]
theorem inner {h w:Int} (bs:List (Nat×List Tx)) {bb:Nat×List Tx} (gb:GP h w bb) (i:Nat) (c:Option S) :
  (bb.2.flatten.all (fun c=>(bs.map (·.1)).contains c)=false∧∃ δ',(B3_) [some (.pure (.lst (bs.map blD))),some (.own (dcD bs)),some (.pure (.int i)),some (.pure (blD bb)),c] = .ok (.ret (.pure (.int i))) δ') ∨
  (bb.2.flatten.all (fun c=>(bs.map (·.1)).contains c)=true∧∃ c',(B3_) [some (.pure (.lst (bs.map blD))),some (.own (dcD bs)),some (.pure (.int i)),some (.pure (blD bb)),c] = .ok .next [some (.pure (.lst (bs.map blD))),some (.own (dcD bs)),some (.pure (.int i)),some (.pure (blD bb)),c']):=by
 have ej:=zez gb
 have e1:=ix1 (.str [bb.1]) (flD bb.2) []
 have Fi:=z67 (g:=gNm [] 4) (b:=(dIf (dTr (eOp (pIn true) (eVar 4) (bVar 1))) (dRet (eVar 2)) z0I)) (fun _ δ=>∃ c,δ=[some (.pure (.lst (bs.map blD))),some (.own (dcD bs)),some (.pure (.int i)),some (.pure (blD bb)),c])
  (fun d=>!((txt d).all fun c=>(bs.map (·.1)).contains c)) (.pure (.int i)) (fun _=>True) (bb.2.flatten.map fun n=>D.str [n]) 0 [some (.pure (.lst (bs.map blD))),some (.own (dcD bs)),some (.pure (.int i)),some (.pure (blD bb)),c] ⟨_,rfl⟩ (fun j d δ hj ⟨c,e⟩=>by
   subst e
   rw [WN] at hj
   cases en:bb.2.flatten[j]? with
   | none=>rw [en] at hj; cases hj
   | some n =>
    rw [en] at hj
    cases hj
    have hin:=in_dc bs n
    refine ⟨[some (.pure (.lst (bs.map blD))),some (.own (dcD bs)),some (.pure (.int i)),some (.pure (blD bb)),some (.pure (.str [n]))],rfl,?_⟩
    cases hc:(bs.map (·.1)).contains n with
    | true =>
     rw [hc] at hin
     refine .inr ⟨by simp only [txt,Qb,List.all_nil,hc]; rfl,[some (.pure (.lst (bs.map blD))),some (.own (dcD bs)),some (.pure (.int i)),some (.pure (blD bb)),some (.pure (.str [n]))],?_,⟨_,rfl⟩⟩
     simp [dTr,eVar,bVar,hin]
    | false =>
     rw [hc] at hin
     refine .inl ⟨by simp only [txt,Qb,List.all_nil,hc]; rfl,[some (.pure (.lst (bs.map blD))),some (.own (dcD bs)),some (.pure (.int i)),some (.pure (blD bb)),some (.pure (.str [n]))],?_,trivial⟩
     simp [dTr,eVar,bVar,hin])
 have ha:((bb.2.flatten.map fun n=>D.str [n]).any fun d=>!((txt d).all fun c=>(bs.map (·.1)).contains c)) = !(bb.2.flatten.all (fun c=>(bs.map (·.1)).contains c)):=by
  rw [JB,List.any_eq_not_all_not]
  simp [Function.comp_def,txt]
 rw [ha] at Fi
 rcases Fi with ⟨hq,δ',e3,_⟩ | ⟨hq,δ',e3,c',rfl⟩
 ·refine .inl ⟨by simpa using hq,δ',?_⟩
  simp [-List.map_flatten,z4J,eOpF,eOpN,bVar,e1,ej]
  rw [e3]
 ·refine .inr ⟨by simpa using hq,c',?_⟩
  simp [-List.map_flatten,z4J,eOpF,eOpN,bVar,e1,ej]
  rw [e3]
def fstO (ts:List Nat):Nat→List (Nat×List Tx)→Option Nat
 | _,[]=>none
 | k,b :: r=>if b.2.flatten.all (fun c=>ts.contains c) then fstO ts (k + 1) r else some k
def oD:Option Nat→D
 | none=>.non
 | some k=>.int k
theorem outer {h w:Int} (bs:List (Nat×List Tx)):∀ (suf:List (Nat×List Tx)) (k:Nat) (a b c:Option S),(∀ b ∈ suf,GP h w b) →
  (match fstO (bs.map (·.1)) k suf with
  | some j=>∃ δ',forL (gTp 2 (z0l (gNm [] 2) (z0l (gNm [] 3) z1j))) (B3_) (z3u k (suf.map blD)) [some (.pure (.lst (bs.map blD))),some (.own (dcD bs)),a,b,c] = .ok (.ret (.pure (.int j))) δ'
  | none=>∃ δ',forL (gTp 2 (z0l (gNm [] 2) (z0l (gNm [] 3) z1j))) (B3_) (z3u k (suf.map blD)) [some (.pure (.lst (bs.map blD))),some (.own (dcD bs)),a,b,c] = .ok .next δ')
 | [],k,a,b,c,_=>⟨_,rfl⟩
 | x :: suf,k,a,b,c,hg=>by
  have hc:z3u k ((x :: suf).map blD) = .tup [.int k,blD x] :: z3u (k + 1) (suf.map blD):=rfl
  rw [hc]
  unfold fstO
  have gt:gTp 2 (z0l (gNm [] 2) (z0l (gNm [] 3) z1j)) (.pure (.tup [.int k,blD x])) [some (.pure (.lst (bs.map blD))),some (.own (dcD bs)),a,b,c]=some [some (.pure (.lst (bs.map blD))),some (.own (dcD bs)),some (.pure (.int k)),some (.pure (blD x)),c]:=rfl
  rcases inner bs (hg x Wi) k c with ⟨z,δ',e⟩ | ⟨z,c',e⟩
  ·rw [z]
   simp only [Qr,if_false]
   refine ⟨δ',?_⟩
   unfold forL
   rw [gt]
   simp only [e,z0j]
  ·rw [z]
   simp only [if_true]
   have ih:=outer bs suf (k + 1) (some (.pure (.int k))) (some (.pure (blD x))) c' (fun b hb=>hg b (Wc _ hb))
   have st:forL (gTp 2 (z0l (gNm [] 2) (z0l (gNm [] 3) z1j))) (B3_) (.tup [.int k,blD x] :: z3u (k + 1) (suf.map blD)) [some (.pure (.lst (bs.map blD))),some (.own (dcD bs)),a,b,c]=forL (gTp 2 (z0l (gNm [] 2) (z0l (gNm [] 3) z1j))) (B3_) (z3u (k + 1) (suf.map blD)) [some (.pure (.lst (bs.map blD))),some (.own (dcD bs)),some (.pure (.int k)),some (.pure (blD x)),c']:=by
    conv=>lhs; unfold forL
    rw [gt]
    simp only [e,z0j]
   rw [st]
   exact ih
theorem zc6 {h w:Int} (bs:List (Nat×List Tx)) (hn:bs.length≤1000) (hg:∀ b ∈ bs,GP h w b):z0G [.pure (.lst (bs.map blD))]=some (.pure (oD (fstO (bs.map (·.1)) 0 bs)),[.pure (.lst (bs.map blD))]):=by
 have F:=outer bs bs 0 none none none hg
 have ed:=zeM bs hn
 have en:z6s (bs.map blD)=z3u 0 (bs.map blD):=by
  rw [← z7t (bs.map blD) 0]
  unfold z6s
  congr 1
  funext i d
  rw [Jn]
 cases hf:fstO (bs.map (·.1)) 0 bs with
 | none =>
  rw [hf] at F
  obtain ⟨δ',e⟩:=F
  unfold z0G gOf z1p runD
  simp [ioOk,z0b,dAsg,bVar,ed,zbn,eVar,en]
  rw [e]
  simp [z0o,z07,oD]
 | some j =>
  rw [hf] at F
  obtain ⟨δ',e⟩:=F
  unfold z0G gOf z1p runD
  simp [ioOk,z0b,dAsg,bVar,ed,zbn,eVar,en]
  rw [e]
  simp [z0o,z07,oD]
theorem z9p {h w:Nat} (P:Nat×List Tx→Prop) (hp:∀ ah r b,par h w ah r=some b→P b):∀ (rs:List Tx) (ah:Tx) (k:Nat) (bs cs:List (Nat×List Tx)),goR h w ah k rs bs = .inr cs→(∀ b ∈ bs,P b)→(∀ b ∈ cs,P b)∧cs.length=bs.length + rs.length
 | [],ah,k,bs,cs,e,hb=>by
  unfold goR at e
  cases e
  exact ⟨hb,rfl⟩
 | r :: rs,ah,k,bs,cs,e,hb=>by
  unfold goR at e
  split at e
  ·cases e
  ·rename_i b hpb
   obtain ⟨a1,a2⟩:=z9p P hp rs _ _ _ _ e (fun x hx=>by
    rcases QW.mp hx with hx | hx
    ·exact hb x hx
    ·rw [List.mem_singleton.mp hx]; exact hp _ _ _ hpb)
   refine ⟨a1,?_⟩
   rw [a2]
   simp
   omega
theorem zcl {h w:Nat} (h1:h≤4) (w0:1≤w) (w1:w≤4) {ah r:Tx} {b:Nat×List Tx} (e:par h w ah r=some b):GP h w b:=by
 rcases z7a h1 w0 w1 ah r with ⟨_,z⟩ | ⟨c,_,_,c1,c2,_,z⟩
 ·rw [z] at e; cases e
 ·rw [z] at e
  split at e
  ·cases e
   unfold blk at c2
   simp only [We,decide_eq_true_eq,WC] at c2
   exact ⟨c1,by omega,by omega,fun r hr=>by have:=c2.1.2 r hr; omega⟩
  ·cases e
def dueB (bs:List (Nat×List Tx)):Option Nat:=match bs with
 | []=>some 2
 | _=>(fstO (bs.map (·.1)) 0 bs).map (· + 2)
def dueR (h w:Nat) (rs:List Tx):Option Nat:=match goR h w [] 2 rs [] with
 | .inl k=>some k
 | .inr bs=>dueB bs
def due (z:Tx):Option Nat:=match z0d 10 z with
 | []=>none
 | r0 :: rs=>match sz r0 with
  | none=>some 1
  | some (h,w)=>dueR h w rs
theorem zcO (f:DE) (δ:Dl):z8f f δ=(f δ).bind fun r δ1=>match r.d with
 | .lst ds=>.ok (z8S ds) δ1
 | _=>.stuck:=rfl
theorem zcT (a:D) (r:List D):cutL (a :: r) (some 1) none=r:=by
 unfold cutL HT.sIx
 simp
theorem isN (o:Option Nat):pIsN true (oD o) .non=some (.pure (.bl o.isSome)):=by cases o <;> rfl
theorem sz_bd {r:Tx} {h w:Nat} (e:sz r=some (h,w)):1≤h∧h≤4∧1≤w∧w≤4∧¬ (h=1∧w=1):=by
 have dgb:∀ {z:Tx} {n:Nat},dg z=some n→1≤n∧n≤4:=fun {z n} e=>by
  have:=zcv (zbt e)
  rw [e] at this
  exact this.2
 unfold sz szW at e
 split at e
 ·split at e
  ·unfold szN at e
   split at e
   ·rename_i h' w' e1 e2
    split at e
    ·cases e
    ·rename_i hne
     cases e
     have:=dgb e1
     have:=dgb e2
     omega
   ·cases e
  ·cases e
 ·cases e
theorem ze5 (GS:DX) (GP GQ GU:DF) (gs:∀ r:Tx,r.length≤1000→GS [.pure (.str r)]=some (szO r (sz r))) (gp:∀ r:Tx,r.length≤1000→GP [.pure (.str r)]=some (.pure (prT r),[.pure (.str r)]))
  (gq:∀ (h w:Nat) (r:Tx),r.length≤900→GQ [.pure (.int h),.pure (.int w),.pure (prT r)]=some (.pure (.bl (isPr h w (prT r))),[.pure (.int h),.pure (.int w),.pure (prT r)]))
  (gu:∀ (h w:Int) (bs:List (Nat×List Tx)),bs.length≤1000→(∀ b ∈ bs,K76.GP h w b)→GU [.pure (.lst (bs.map blD))]=some (.pure (oD (fstO (bs.map (·.1)) 0 bs)),[.pure (.lst (bs.map blD))]))
  (z:Tx) (hz:z.length≤900) :
  (∃ k,due z=some k∧gOfX [] 10 (z2B GS GP GQ GU) [.pure (.str z)]=some (.inr (nt (.int (k:Nat)),[.pure (.str z)])))∨(due z=none∧∃ r,gOfX [] 10 (z2B GS GP GQ GU) [.pure (.str z)]=some (.inl (r,[.pure (.str z)]))):=by
 unfold z2B
 have sp:=z4r 10 z (by omega)
 have sl1:=z1P 10 z
 have hm:=z1c 10 z
 obtain ⟨r0,rs,er⟩:=z1Z 10 z
 unfold due
 rw [er] at sp sl1 hm ⊢
 rw [WB] at sp
 have i0:pIx (.lst (.str r0 :: rs.map .str)) (.int 0)=some (.pure (.str r0)):=by simp [pIx,z1J]
 have sl:pSl (some 1) none (.lst (.str r0 :: rs.map .str))=some (.own (.lst (rs.map .str))):=by
  show some (S.own (.lst (cutL _ (some 1) none)))=_
  rw [zcT]
 have g:=gs r0 (by have:=hm r0 (by simp); omega)
 rw [z4I]
 simp only [show z0b 10 [S.pure (.str z)]=[some (.pure (.str z)),none,none,none,none,none,none,none,none,none] from rfl]
 cases hs:sz r0 with
 | none =>
  rw [hs] at g
  refine .inl ⟨1,rfl,?_⟩
  generalize D.lst (.str r0 :: rs.map .str)=L at *
  simp [ioOk,dTr,eIsi,isTy,bVar,dAsg,sp,z2A,ios,ndup,z0w,evX,eOpF,eOpN,i0,mkA,g,szO,putA,z07]
 | some hw =>
  obtain ⟨h,w⟩:=hw
  obtain ⟨h0,h1,w0,w1,_⟩:=sz_bd hs
  rw [hs] at g
  have lp:=zge GP GQ h1 w0 w1 gp (gq h w) (.str z) (.lst (.str r0 :: rs.map .str)) rs 2 [] [] none none none (fun r hr=>by have:=hm r (Wc _ hr); omega) (by simp only [Ws] at sl1; simp; omega)
  rw [← zcQ] at lp
  -- up to the loop
  have st:∀ k:DS,(dSeq (dAsg (eC1 (z0R 10) (bVar 0)) (gNm [] 1)) (dSeq (dAsg (z2A GS [.val (eOpF pIx 1 (bOf (eD (.int 0))))]) (gTp 2 (z0l (gNm [] 2) (z0l (gNm [] 3) z1j)))) (dSeq (dAsg (eLst aNil) (gNm [] 4)) (dSeq (dAsg (eD (.str [])) (gNm [] 5)) k)))) [some (.pure (.str z)),none,none,none,none,none,none,none,none,none]=k [some (.pure (.str z)),some (.own (.lst (.str r0 :: rs.map .str))),some (.pure (.int h)),some (.pure (.int w)),some (.own (.lst [])),some (.pure (.str [])),none,none,none,none]:=fun k=>by
   generalize D.lst (.str r0 :: rs.map .str)=L at *
   simp [dAsg,bVar,sp,z2A,ios,ndup,z0w,evX,eOpF,eOpN,i0,mkA,g,szO,putA,gTp,z0l,z1j]
  have it:z8f (eSlN 1 (z1x (eD (.int 1))) z2M) [some (.pure (.str z)),some (.own (.lst (.str r0 :: rs.map .str))),some (.pure (.int h)),some (.pure (.int w)),some (.own (.lst [])),some (.pure (.str [])),none,none,none,none] = .ok (z8S (rs.map .str)) [some (.pure (.str z)),some (.own (.lst (.str r0 :: rs.map .str))),some (.pure (.int h)),some (.pure (.int w)),some (.own (.lst [])),some (.pure (.str [])),none,none,none,none]:=by
   generalize D.lst (.str r0 :: rs.map .str)=L at *
   simp [zcO,eSlN,z1x,z2M,bVar,sl]
  have top:∀ k:DS,(dSeq (B7_) k) [some (.pure (.str z)),none,none,none,none,none,none,none,none,none]=k [some (.pure (.str z)),none,none,none,none,none,none,none,none,none]:=fun k=>by
   simp [dTr,eIsi,isTy,bVar]
  rw [top,st]
  have io:ioOk [] 0 [S.pure (.str z)]=true:=rfl
  rw [io]
  simp only [if_true]
  show (∃ k,dueR h w rs=some k∧_)∨(dueR h w rs=none∧_)
  unfold dueR
  cases hg:goR h w [] 2 rs [] with
  | inl k =>
   rw [hg] at lp
   obtain ⟨rest,e⟩:=lp
   refine .inl ⟨k,rfl,?_⟩
   rw [Jy] at e
   generalize D.lst (.str r0 :: rs.map .str)=L at *
   rw [z2N,z3t,it]
   simp only [z0j]
   rw [e]
   simp [z07]
  | inr bs =>
   rw [hg] at lp
   obtain ⟨q5,q6,q7,q8,e⟩:=lp
   obtain ⟨gg,gl⟩:=z9p (K76.GP h w) (fun ah r b hb=>zcl h1 w0 w1 hb) rs [] 2 [] bs hg (by simp)
   simp only [Q8,Ws] at gl sl1
   have u:=gu h w bs (by omega) gg
   rw [Jy] at e
   generalize D.lst (.str r0 :: rs.map .str)=L at *
   rw [z2N,z3t,it]
   simp only [z0j]
   rw [e]
   cases bs with
   | nil =>
    refine .inl ⟨2,rfl,?_⟩
    have l0:pLen (.lst [])=some (.pure (.int 0)):=rfl
    have e0:pEq (.int 0) (.int 0)=some (.pure (.bl true)):=rfl
    simp [dTr,bVar,l0,e0,z0P,z07,nt]
   | cons b r =>
    have l0:pLen (.lst ((b :: r).map blD))=some (.pure (.int ((r.length:Int) + 1))):=by
     show some (S.pure (.int (((b :: r).map blD).length:Nat)))=_
     simp
    have e0:pEq (.int ((r.length:Int) + 1)) (.int 0)=some (.pure (.bl false)):=by
     rw [z3e,show ((r.length:Int) + 1 == 0)=false by simp; omega]
    have hd:dueB (b :: r)=(fstO ((b :: r).map (·.1)) 0 (b :: r)).map (· + 2):=rfl
    rw [hd]
    generalize hfo:fstO ((b :: r).map (·.1)) 0 (b :: r)=o at *
    have pt:z2m (.lst ((b :: r).map blD))=some (.pure (.tup ((b :: r).map blD))):=rfl
    generalize (b :: r).map blD=bl at *
    generalize D.lst bl=bd at *
    have n0:=isN o
    cases o with
    | none =>
     refine .inr ⟨rfl,.pure (.tup [.int h,.int w,.tup bl]),?_⟩
     simp only [Option.isSome_none] at n0
     simp [dTr,bVar,l0,e0,dAsg,z08,ios,ndup,z0w,evX,eVar,mkA,u,putA,n0,eOpF,eOpN,pt,z0o,z07]
    | some k =>
     refine .inl ⟨k + 2,rfl,?_⟩
     simp only [Option.isSome_some] at n0
     have a2:pAdd (oD (some k)) (.int 2)=some (.pure (.int ((k:Int) + 2))):=rfl
     simp [dTr,bVar,l0,e0,dAsg,z08,ios,ndup,z0w,evX,eVar,mkA,u,putA,n0,eOpF,eOpN,a2,z0P,z07,nt]
theorem zfJ (r:Tx) (hr:r.length≤900):SmP (prT r):=by
 have hm:=z1c 32 r
 unfold prT
 split
 ·rename_i a b e
  rw [e] at hm
  have ha:=hm a (by simp)
  have hb:=hm b (by simp)
  have l1:=z1P 47 b
  have m1:=z1c 47 b
  refine ⟨?_,by rw [Wu]; omega,fun d hd=>?_⟩
  ·show a.length≤1000
   omega
  ·obtain ⟨x,hx,rfl⟩:=Qw.mp hd
   have:=m1 x hx
   show x.length≤1000
   omega
 ·trivial
theorem zdY (z:Tx) (hz:z.length≤900):(∃ k,due z=some k∧z1a [.pure (.str z)]=some (.inr (nt (.int (k:Nat)),[.pure (.str z)])))∨(due z=none∧∃ r,z1a [.pure (.str z)]=some (.inl (r,[.pure (.str z)]))):=by
 rw [z1a,z39]
 exact ze5 _ _ _ _ zdW zdZ (fun h w r hr=>z8D h w _ (zfJ r hr)) (fun h w bs hn hg=>zc6 bs hn hg) z hz
theorem zc9 (GR GF:DF) (z:Tx) (L:List D) (gr:GR [.pure (.str z)]=some (.pure (.tup L),[.pure (.str z)])) (gf:GF [.pure (.tup L)]=some (.pure (.bl false),[.pure (.tup L)])) :
  gOfX [] 2 (z38 GR GF) [.pure (.str z)]=some (.inr (nt (.int 1),[.pure (.str z)])):=by
 unfold z38
 rw [z4I]
 generalize D.tup L=fl at *
 simp [ioOk,z0b,dTr,eIsi,isTy,bVar,dAsg,z08,ios,ndup,z0w,evX,eVar,mkA,gr,gf,putA,z0P,z07,nt]
theorem zeY (z:Tx) (hz:z.length≤900):SmT (.tup ((z0d 47 z).map .str)):=by
 have l1:=z1P 47 z
 have m1:=z1c 47 z
 refine ⟨by rw [Wu]; omega,fun d hd=>?_⟩
 obtain ⟨x,hx,rfl⟩:=Qw.mp hd
 have:=m1 x hx
 show x.length≤1000
 omega
theorem zbL (z:Tx) (hz:z.length≤900) (hb:isFl (.tup ((z0d 47 z).map .str))=false):z17 [.pure (.str z)]=some (.inr (nt (.int 1),[.pure (.str z)])):=by
 rw [z17,z2C]
 have g:=z5e _ (zeY z hz)
 rw [hb] at g
 exact zc9 z1b z0V z _ (zax z (by omega)) g
theorem zds (d:D) (hd:eIsi "str" (bVar 0) [some (.pure d),none,none,none,none,none,none,none,none,none] = .ok (.pure (.bl false)) [some (.pure d),none,none,none,none,none,none,none,none,none]):z1a [.pure d]=some (.inr (nt (.int 0),[.pure d])):=by
 rw [z1a,z4I,z39]
 simp [ioOk,z0b,dTr,hd,z0P,z07,nt]
theorem zbM (d:D) (hd:eIsi "str" (bVar 0) [some (.pure d),none] = .ok (.pure (.bl false)) [some (.pure d),none]):z17 [.pure d]=some (.inr (nt (.int 0),[.pure d])):=by
 rw [z17,z4I,z2C]
 simp [ioOk,z0b,dTr,hd,z0P,z07,nt]
section
variable (ce:Tx→Nat)
theorem is0 (fl:D) (tab:Tx→Bool) (rest:Dl):eIsC ce ys tab (bVar 0) (some (.pure (.exc (ce [78,111,84,101,120,116]) fl)) :: rest) = .ok (.pure (.bl (tab [78,111,84,101,120,116]))) (some (.pure (.exc (ce [78,111,84,101,120,116]) fl)) :: rest):=by
 simp [eIsC,bVar,ys]
theorem z75 (fl:D):z1f ce [.pure (.exc (ce [78,111,84,101,120,116]) fl)]=some (.pure (.str [116,101,120,116]),[.pure (.exc (ce [78,111,84,101,120,116]) fl)]):=by
 have i0:=is0 ce fl
 have c1:z6G (.lst [.bl false,.bl false,.bl false,.bl false,.bl false,.bl false,.bl false,.bl true,.bl false])=some (.pure (.int 1)):=by rfl
 have c2:z4Y (.lst [.bl false,.bl false,.bl false,.bl false,.bl false,.bl false,.bl false,.bl true,.bl false])=some (.pure (.int 7)):=by rfl
 rw [z1f,z1H,z2R]
 generalize ce [78,111,84,101,120,116]=n at *
 simp [ioOk,z0b,dAsg,i0,eOpF,eOpN,bVar,pAdd,z0Y,z1o,z23,putL,dTr,c1,c2,pNe,flat,eqD,pIx,atI,ixN,z0o,z07]
abbrev B6_ (GF:DX) (GR:DX):DS:=dIf (dTr (eOpF pEq 0 (bOf (eD (.int 0))))) (z8m (z2A GR [.val (eVar 1)])) (z8m (z2A GF [.val (eVar 1)]))
theorem z77 (GR GF:DX) (GK GW:DF) (wy:Int) (v:D) (k:Int) (hc:(wy=0∧GR [.pure v]=some (.inr (nt (.int k),[.pure v])))∨(wy=1∧GF [.pure v]=some (.inr (nt (.int k),[.pure v]))))
  (gk:∀ fl,GK [.pure (.exc (ce [78,111,84,101,120,116]) fl)]=some (.pure (.str [116,101,120,116]),[.pure (.exc (ce [78,111,84,101,120,116]) fl)])) (gw:∀ i:Int,GW [.pure (.int i)]=some (.pure (.bl true),[.pure (.int i)])) :
  gOf [] 3 (z25 ce GR GF GK GW) [.pure (.int wy),.pure v]=some (.pure (.int k),[.pure (.int wy),.pure v]):=by
 unfold z25
 have st:z0b 3 [S.pure (.int wy),.pure v]=[some (S.pure (.int wy)),some (.pure v),none]:=rfl
 have no:z9Q [some (S.pure (.int wy)),some (.pure v),none]=true:=by simp [z9Q]
 have eb:(B6_ GF GR) [some (S.pure (.int wy)),some (.pure v),none] = .exc (nt (.int k)) [some (S.pure (.int wy)),some (.pure v),none]:=by
  have q0:pEq (.int 0) (.int 0)=some (.pure (.bl true)):=rfl
  have q1:pEq (.int 1) (.int 0)=some (.pure (.bl false)):=rfl
  rcases hc with ⟨rfl,g⟩ | ⟨rfl,g⟩
  ·simp [dTr,eOpF,eOpN,bVar,q0,z2A,ios,ndup,z0w,evX,eVar,mkA,g,putA]
  ·simp [dTr,eOpF,eOpN,bVar,q1,z2A,ios,ndup,z0w,evX,eVar,mkA,g,putA]
 have hcc:(ys.contains (nt (.int k)).cls && decide (2 < [some (S.pure (.int wy)),some (.pure v),none].length))=true:=by simp [ys,nt]
 have f:ys.find? (fun z=>ce z == ce [78,111,84,101,120,116])=some [78,111,84,101,120,116]:=by simp [ys]
 have ea:z5u ce ys [114,111,119] (bVar 2) [some (S.pure (.int wy)),some (.pure v),some (.pure (.exc (ce (nt (.int k)).cls) (nt (.int k)).flds))] = .ok (.pure (.int k)) [some (S.pure (.int wy)),some (.pure v),some (.pure (.exc (ce (nt (.int k)).cls) (nt (.int k)).flds))]:=by simp [z5u,bVar,nt,f]
 have eh:(dSeq (dIf (dOr (dTr (eOp pNe (z08 GK [.val (eVar 2)]) (bOf (eD (.str [116,101,120,116]))))) (dNot (dTr (z08 GW [.val (z5u ce ys [114,111,119] (bVar 2))])))) (dRet (eC1 pNeg (bOf (eD (.int 1))))) z0I) (dRet (z5u ce ys [114,111,119] (bVar 2)))) [some (S.pure (.int wy)),some (.pure v),some (.pure (.exc (ce (nt (.int k)).cls) (nt (.int k)).flds))] = .ok (.ret (.pure (.int k))) [some (S.pure (.int wy)),some (.pure v),some (.pure (.exc (ce (nt (.int k)).cls) (nt (.int k)).flds))]:=by
  have g:=gk (nt (.int k)).flds
  rw [show ([78,111,84,101,120,116]:Tx)=(nt (.int k)).cls from rfl] at g
  have q1:pNe (.str [116,101,120,116]) (.str [116,101,120,116])=some (.pure (.bl false)):=rfl
  have w:=gw k
  generalize (nt (.int k)).flds=fd at *
  generalize ce (nt (.int k)).cls=nn at *
  simp [dTr,z08,ios,ndup,z0w,evX,eVar,mkA,g,q1,ea,w,putA]
 have et:(dTry ce ys 2 (B6_ GF GR) (dSeq (dIf (dOr (dTr (eOp pNe (z08 GK [.val (eVar 2)]) (bOf (eD (.str [116,101,120,116]))))) (dNot (dTr (z08 GW [.val (z5u ce ys [114,111,119] (bVar 2))])))) (dRet (eC1 pNeg (bOf (eD (.int 1))))) z0I) (dRet (z5u ce ys [114,111,119] (bVar 2))))) [some (S.pure (.int wy)),some (.pure v),none] = .ok (.ret (.pure (.int k))) [some (S.pure (.int wy)),some (.pure v),none]:=by
  unfold dTry
  rw [no,eb]
  simp only [if_true]
  rw [if_pos hcc,List.set_cons_succ,List.set_cons_succ,List.set_cons_zero,eh]
  simp [unset]
 rw [z1H,st,z2N,et]
 simp [ioOk,z0o,z07]
theorem ze3 (GR GF:DX) (GK GW:DF) (v:D) (r:S) (g:GR [.pure v]=some (.inl (r,[.pure v]))) :
  gOf [] 3 (z25 ce GR GF GK GW) [.pure (.int 0),.pure v]=some (.pure .non,[.pure (.int 0),.pure v]):=by
 unfold z25
 have st:z0b 3 [S.pure (.int 0),.pure v]=[some (S.pure (.int 0)),some (.pure v),none]:=rfl
 have no:z9Q [some (S.pure (.int 0)),some (.pure v),none]=true:=by simp [z9Q]
 have eb:(B6_ GF GR) [some (S.pure (.int 0)),some (.pure v),none] = .ok .next [some (S.pure (.int 0)),some (.pure v),none]:=by
  have q0:pEq (.int 0) (.int 0)=some (.pure (.bl true)):=rfl
  simp [dTr,eOpF,eOpN,bVar,q0,z2A,ios,ndup,z0w,evX,eVar,mkA,g,putA]
 have et:(dTry ce ys 2 (B6_ GF GR) (dSeq (dIf (dOr (dTr (eOp pNe (z08 GK [.val (eVar 2)]) (bOf (eD (.str [116,101,120,116]))))) (dNot (dTr (z08 GW [.val (z5u ce ys [114,111,119] (bVar 2))])))) (dRet (eC1 pNeg (bOf (eD (.int 1))))) z0I) (dRet (z5u ce ys [114,111,119] (bVar 2))))) [some (S.pure (.int 0)),some (.pure v),none] = .ok .next [some (S.pure (.int 0)),some (.pure v),none]:=by
  unfold dTry
  rw [no,eb]
  simp
 rw [z1H,st,z2N,et]
 simp [ioOk,z0o,z07]
theorem zav (z:Tx) (hz:z.length≤900):z0e ce [.pure (.int 0),.pure (.str z)]=some (.pure (oD (due z)),[.pure (.int 0),.pure (.str z)]):=by
 rw [z0e,z2s]
 rcases zdY z hz with ⟨k,e,g⟩ | ⟨e,r,g⟩
 ·rw [e]
  exact z77 ce _ _ _ _ 0 _ k (.inl ⟨rfl,g⟩) (z75 ce) z74
 ·rw [e]
  exact ze3 ce _ _ _ _ _ r g
theorem zdV (z:Tx) (hz:z.length≤900) (hb:isFl (.tup ((z0d 47 z).map .str))=false):z0e ce [.pure (.int 1),.pure (.str z)]=some (.pure (.int 1),[.pure (.int 1),.pure (.str z)]):=by
 rw [z0e,z2s]
 exact z77 ce _ _ _ _ 1 _ 1 (.inr ⟨rfl,zbL z hz hb⟩) (z75 ce) z74
theorem zdU (d:D) (h1:eIsi "str" (bVar 0) [some (.pure d),none,none,none,none,none,none,none,none,none] = .ok (.pure (.bl false)) [some (.pure d),none,none,none,none,none,none,none,none,none]) (h2:eIsi "str" (bVar 0) [some (.pure d),none] = .ok (.pure (.bl false)) [some (.pure d),none]) :
  z0e ce [.pure (.int 0),.pure d]=some (.pure (.int 0),[.pure (.int 0),.pure d])∧z0e ce [.pure (.int 1),.pure d]=some (.pure (.int 0),[.pure (.int 1),.pure d]):=by
 rw [z0e,z2s]
 exact ⟨z77 ce _ _ _ _ 0 _ 0 (.inl ⟨rfl,zds d h1⟩) (z75 ce) z74,z77 ce _ _ _ _ 1 _ 0 (.inr ⟨rfl,zbM d h2⟩) (z75 ce) z74⟩
end
theorem zfl (z:Tx) (hz:z.length≤1000):z1V [.pure (.str z)]=some (.pure (oD (dg z)),[.pure (.str z)]):=by
 have ln:=z1u z hz
 rw [z1V,z1H,z4m]
 match z with
 | [] =>
  have q:pEq (.int 0) (.int 1)=some (.pure (.bl false)):=rfl
  replace ln:pLen (.str [])=some (.pure (.int 0)):=ln
  simp [ioOk,z0b,dTr,bVar,ln,q,z0o,z07,oD,dg]
 | a :: b :: r =>
  have q:=z3e ((a :: b :: r).length:Nat) 1
  rw [show ((((a :: b :: r).length:Nat):Int) == 1)=false by simp; omega] at q
  generalize hx:a :: b :: r=x at *
  generalize (x.length:Nat)=n at *
  have hd:dg x=none:=by rw [← hx]; rfl
  simp [ioOk,z0b,dTr,bVar,ln,q,z0o,z07,oD,hd]
 | [n] =>
  have q:pEq (.int 1) (.int 1)=some (.pure (.bl true)):=rfl
  replace ln:pLen (.str [n])=some (.pure (.int 1)):=ln
  have hin:pInS false (.str [n]) (.str [49,50,51,52])=some (.pure (.bl (decide (49≤n∧n≤52)))):=by
   show some (S.pure (.bl (decide (n ∈ [49,50,51,52]))))=_
   congr 3
   rw [Qh]
   simp only [decide_eq_true_eq,Wh,Jw,or_false]
   omega
  by_cases h:49≤n∧n≤52
  ·have hd:dg [n]=some (n - 48):=by show (if 49≤n∧n≤52 then some (n - 48) else none)=_; rw [if_pos h]
   have hi:=zeB (zbt hd)
   have hv:digitsVal [n]=n - 48:=by simp [digitsVal]
   rw [hv] at hi
   rw [decide_eq_true h] at hin
   simp [ioOk,z0b,dTr,bVar,ln,q,eVar,hin,hi,z0o,z07,oD,hd]
  ·have hd:dg [n]=none:=by show (if 49≤n∧n≤52 then some (n - 48) else none)=_; rw [if_neg h]
   rw [decide_eq_false h] at hin
   simp [ioOk,z0b,dTr,bVar,ln,q,eVar,hin,z0o,z07,oD,hd]
theorem zgF {α:Type} (xs:List α) (p:α→Bool):pAll (.lst (xs.map fun n=>.bl (p n)))=some (.pure (.bl (xs.all p))):=by
 have e:(xs.map fun n=>D.bl (p n))=(xs.map p).map D.bl:=by simp
 unfold pAll
 simp only [e,z9t,WI]
 simp [Jz,Function.comp_def]
theorem z5g (c:Nat):∀ z:Tx,z1m (z0d c z)≤z.length
 | []=>by simp [z0d,z1m]
 | a :: r=>by
  have ih:=z5g c r
  obtain ⟨p,q,e⟩:=z1Z c r
  unfold z0d
  rw [e] at ih ⊢
  split
  ·simp [z1m] at ih ⊢; omega
  ·simp [z1m] at ih ⊢; omega
theorem zdi (n:Nat):pInS false (.str [n]) (.str [97,98,99,100,101,102,103,104,105,106,107,108,109,110,111,112,113,114,115,116,117,118,119,120,121,122])=some (.pure (.bl (letN n))):=by
 show some (S.pure (.bl (decide (n ∈ _))))=_
 congr 3
 by_cases h:n<123
 ·revert n; decide
 ·rw [decide_eq_false fun m=>h ((by decide:∀ x∈_,x<123) n m)]; simp [letN]; omega
theorem ze6 {h w:Nat} (b:Tx) (hb:b.length≤900):∃ s:S,z15 [.pure (.tup [.int h,.int w]),.pure (.str b)]=some (s,[.pure (.tup [.int h,.int w]),.pure (.str b)])∧z3R s.d = !blk h w (z0d 47 b):=by
 have hs:=z4r 47 b (by omega)
 have l1:=z1P 47 b
 have m1:=z1c 47 b
 have ls:=z5g 47 b
 generalize hvs:z0d 47 b=vs at *
 have x0:pIx (.tup [.int h,.int w]) (.int 0)=some (.pure (.int h)):=by simp [pIx,z1J]
 have x1:pIx (.tup [.int h,.int w]) (.int 1)=some (.pure (.int w)):=by simp [pIx,z6i]
 have ln:=z4a (vs.map .str)
 rw [Wu] at ln
 have n1:=z2W vs.length h
 have e1:=z2j (cs:=[4]) (g:=gNm [] 4) (t:=dYes) (el:=(eOp pEq (eC1 pLen (bVar 4)) (bOf (eOpF pIx 0 (bOf (eD (.int 1))))))) D.str (fun x:Tx=>.bl (decide (x.length=w))) [some (.pure (.tup [.int h,.int w])),some (.pure (.str b)),some (.pure (.lst (vs.map .str))),none,none] vs [] (by rw [z0Y]; simp; omega) (fun x hx=>by
  refine ⟨_,_,.pure (.bl (decide (x.length=w))),[some (.pure (.tup [.int h,.int w])),some (.pure (.str b)),some (.pure (.lst (vs.map .str))),none,some (.pure (.str x))],rfl,rfl,?_,rfl,rfl⟩
  have lx:=z1u x (by have:=m1 x hx; omega)
  have q:=z3e x.length w
  rw [show ((x.length:Int) == (w:Int))=decide (x.length=w) by rw [Qh]; simp only [beq_iff_eq,decide_eq_true_eq]; omega] at q
  generalize D.lst (vs.map .str)=L at *
  generalize D.tup [.int h,.int w]=T at *
  simp [bVar,lx,eOpF,eOpN,x1,q])
 have a1:=zgF vs (fun x=>decide (x.length=w))
 have ej:z1w [] (.lst (vs.map .str))=some (.pure (.str vs.flatten)):=by
  rw [← z8b]
  exact (z8a [] (by simp) vs (by omega) (fun t ht=>by have:=m1 t ht; omega)).2
 have fl:vs.flatten.length≤900:=by rw [List.length_flatten]; exact Wn ls hb
 have e2:=z2j (cs:=[3]) (g:=gNm [] 3) (t:=dYes) (el:=(eOp (pInS false) (eVar 3) (bOf (eD (.str [97,98,99,100,101,102,103,104,105,106,107,108,109,110,111,112,113,114,115,116,117,118,119,120,121,122]))))) (fun n:Nat=>D.str [n]) (fun n=>.bl (letN n)) [some (.pure (.tup [.int h,.int w])),some (.pure (.str b)),some (.pure (.lst (vs.map .str))),none,none] vs.flatten [] (by rw [z0Y]; simp only [Q8]; omega) (fun n hn=>by
  refine ⟨_,_,.pure (.bl (letN n)),[some (.pure (.tup [.int h,.int w])),some (.pure (.str b)),some (.pure (.lst (vs.map .str))),some (.pure (.str [n])),none],rfl,rfl,?_,rfl,rfl⟩
  have q:=zdi n
  generalize D.lst (vs.map .str)=L at *
  generalize D.tup [.int h,.int w]=T at *
  simp [eVar,q])
 have a2:=zgF vs.flatten letN
 have hb':blk h w vs=(decide (vs.length=h) && vs.all (fun x=>decide (x.length=w)) && vs.flatten.all letN):=by
  unfold blk
  rw [List.all_flatten]
 rw [hb',z15,z1H,z2t]
 rw [show ((vs.length:Int) == (h:Int))=decide (vs.length=h) by rw [Qh]; simp only [beq_iff_eq,decide_eq_true_eq]; omega] at n1
 generalize decide (vs.length=h)=b1 at *
 generalize vs.all (fun x=>decide (x.length=w))=b2 at *
 generalize vs.flatten.all letN=b3 at *
 generalize D.tup [.int h,.int w]=T at *
 rw [WM] at e1 e2
 generalize (vs.map fun x:Tx=>D.bl (decide (x.length=w)))=c1 at *
 generalize (vs.flatten.map fun n=>D.bl (letN n))=c2 at *
 generalize hf:(vs.flatten.map fun n=>D.str [n])=c3 at *
 generalize hL:vs.map D.str=L at *
 have h1:(z2q [4] (iSq (eVar 2)) (gNm [] 4) dYes (eOp pEq (eC1 pLen (bVar 4)) (bOf (eOpF pIx 0 (bOf (eD (.int 1))))))) [some (.pure T),some (.pure (.str b)),some (.own (.lst L)),none,none] = .ok (.own (.lst c1)) [some (.pure T),some (.pure (.str b)),some (.pure (.lst L)),none,none]:=by
  rw [z5B]
  simp [z4J,eVar,z0w,clrD]
  rw [e1]
  simp [z26]
 have h2:(z2q [3] (iSq (eC1 (z1w []) (bVar 2))) (gNm [] 3) dYes (eOp (pInS false) (eVar 3) (bOf (eD (.str [97,98,99,100,101,102,103,104,105,106,107,108,109,110,111,112,113,114,115,116,117,118,119,120,121,122]))))) [some (.pure T),some (.pure (.str b)),some (.pure (.lst L)),none,none] = .ok (.own (.lst c2)) [some (.pure T),some (.pure (.str b)),some (.pure (.lst L)),none,none]:=by
  rw [z5B]
  have it:iSq (eC1 (z1w []) (bVar 2)) [some (.pure T),some (.pure (.str b)),some (.pure (.lst L)),none,none] = .ok c3 [some (.pure T),some (.pure (.str b)),some (.pure (.lst L)),none,none]:=by
   rw [← hf]
   simp [-List.map_flatten,z4J,bVar,ej]
  rw [it]
  simp [z0w,clrD]
  rw [e2]
  simp [z26]
 generalize (z2q [4] (iSq (eVar 2)) (gNm [] 4) dYes (eOp pEq (eC1 pLen (bVar 4)) (bOf (eOpF pIx 0 (bOf (eD (.int 1)))))))=E1 at *
 generalize (z2q [3] (iSq (eC1 (z1w []) (bVar 2))) (gNm [] 3) dYes (eOp (pInS false) (eVar 3) (bOf (eD (.str [97,98,99,100,101,102,103,104,105,106,107,108,109,110,111,112,113,114,115,116,117,118,119,120,121,122])))))=E2 at *
 cases b1
 ·refine ⟨.pure .non,?_,rfl⟩
  simp [ioOk,z0b,dAsg,bVar,hs,dTr,ln,eOpF,eOpN,x0,n1,z0o,z07]
 ·cases b2
  ·refine ⟨.pure .non,?_,rfl⟩
   simp [ioOk,z0b,dAsg,bVar,hs,dTr,ln,eOpF,eOpN,x0,n1,h1,a1,z0o,z07]
  ·cases b3
   ·refine ⟨.pure .non,?_,rfl⟩
    simp [ioOk,z0b,dAsg,bVar,hs,dTr,ln,eOpF,eOpN,x0,n1,h1,a1,h2,a2,z0o,z07]
   ·refine ⟨.pure (.lst L),?_,rfl⟩
    simp [ioOk,z0b,dAsg,bVar,hs,dTr,ln,eOpF,eOpN,x0,n1,h1,a1,h2,a2,eVar,z0o,z07]
def idx {α:Type}:Nat→List α→List D
 | _,[]=>[]
 | k,_ :: r=>.int (k:Nat) :: idx (k + 1) r
theorem z9n {α:Type}:∀ (r:List α) (k:Nat),z1h (k:Int) r.length=idx k r
 | [],k=>rfl
 | a :: r,k=>by
  have ih:=z9n r (k + 1)
  unfold idx
  rw [← ih]
  unfold z1h
  rw [Ws,List.range_succ_eq_map,WB,JA]
  congr 1
  simp
  intro a _
  omega
def tl (bs:List (Nat×List Tx)):List D:=.str [] :: bs.map fun b=>.str [b.1]
theorem zdy (bs:List (Nat×List Tx)) (b:Nat×List Tx):tl bs ++ [.str [b.1]]=tl (bs ++ [b]):=by simp [tl]
def lst1 (bs:List (Nat×List Tx)):Tx:=match bs.getLast? with
 | none=>[]
 | some b=>[b.1]
theorem zex (bs:List (Nat×List Tx)):pIx (.lst (tl bs)) (.int (-1))=some (.pure (.str (lst1 bs))):=by
 have h:atI (tl bs) (-1)=some (.str (lst1 bs)):=by
  have hl:(tl bs).length=bs.length + 1:=by simp [tl]
  have hx:ixN (tl bs).length (-1)=some bs.length:=by
   rw [hl]
   unfold ixN
   simp
   try omega
  unfold atI
  rw [hx]
  show (tl bs)[bs.length]? = _
  rcases List.eq_nil_or_concat bs with rfl | ⟨r,b,rfl⟩
  ·rfl
  ·unfold tl lst1
   simp
 simp [pIx,h]
theorem zew (n:Nat):pInS true (.str [n]) (.str [97,98,99,100,101,102,103,104,105,106,107,108,109,110,111,112,113,114,115,116,117,118,119,120,121,122])=some (.pure (.bl (!letN n))):=by
 have:=zdi n
 simp only [pInS,Qr,if_false,if_true,W5,S.pure.injEq,D.bl.injEq] at this ⊢
 rw [this]
abbrev B0_ (GB:DF):DS:=dSeq (dAsg (eC1 (z0R 32) (bOf (eOpF pIx 1 (bVar 5)))) (gNm [] 2)) (dSeq (B4_) (dSeq (dIf (dOr (dTr (eOp pLe (eOpF pIx 2 (bOf (eD (.int 0)))) (bOf (eOpF pIx 4 (bOf (eC1 pNeg (bOf (eD (.int 1))))))))) (dTr (eOp (pIsN false) (z08 GB [.val (eVar 3),.val (eOpF pIx 2 (bOf (eD (.int 1))))]) (bOf (eD .non))))) (dRet (eOpF pAdd 5 (bOf (eD (.int 1))))) z0I) (z1o 4 (eOpF pIx 2 (bOf (eD (.int 0)))))))
theorem step1 (GB:DF) {h w:Nat} (gb:∀ b:Tx,b.length≤900→∃ s:S,GB [.pure (.tup [.int h,.int w]),.pure (.str b)]=some (s,[.pure (.tup [.int h,.int w]),.pure (.str b)])∧z3R s.d = !blk h w (z0d 47 b)) (tx:D) (rows:List Tx) (r:Tx) (k:Nat) (hk:rows[k]? = some r) (hr:r.length≤900) (bs:List (Nat×List Tx)) (hn:bs.length≤2000) (o2:Option S) :
  (par h w (lst1 bs) r=none∧∃ δ',(B0_ GB) [some (.pure tx),some (.own (.lst (rows.map .str))),o2,some (.pure (.tup [.int h,.int w])),some (.own (.lst (tl bs))),some (.pure (.int k)),none] = .ok (.ret (.pure (.int ((k + 1:Nat):Int)))) δ')∨(∃ b,par h w (lst1 bs) r=some b∧∃ q2,(B0_ GB) [some (.pure tx),some (.own (.lst (rows.map .str))),o2,some (.pure (.tup [.int h,.int w])),some (.own (.lst (tl bs))),some (.pure (.int k)),none] = .ok .next [some (.pure tx),some (.own (.lst (rows.map .str))),q2,some (.pure (.tup [.int h,.int w])),some (.own (.lst (tl (bs ++ [b])))),some (.pure (.int k)),none]):=by
 have hs:=z4r 32 r (by omega)
 have hm:=z1c 32 r
 have ik:=zcE hk
 have ak:=add_int k 1
 have lt:=zex bs
 have ht:(tl bs).length < W8:=by rw [z0Y]; simp [tl]; omega
 have ts:=zdy bs
 rw [show ((k:Int) + 1)=((k + 1:Nat):Int) by omega] at ak
 generalize hp:par h w (lst1 bs) r=pp
 unfold par at hp
 generalize z0d 32 r=ws at *
 generalize hT:D.tup [.int h,.int w]=T at *
 generalize D.lst (rows.map .str)=L at *
 have ln:=z4a (ws.map .str)
 rw [Wu] at ln
 have ng:pNeg (.int 1)=some (.pure (.int (-1))):=rfl
 by_cases h2:ws.length=2
 ·obtain ⟨a,b,rfl⟩:=two h2
  have i0:pIx (.lst ([a,b].map D.str)) (.int 0)=some (.pure (.str a)):=by simp [pIx,atI,ixN]
  have i1:pIx (.lst ([a,b].map D.str)) (.int 1)=some (.pure (.str b)):=by simp [pIx,atI,ixN]
  replace ln:pLen (.lst ([a,b].map D.str))=some (.pure (.int 2)):=ln
  have n2:pNe (.int 2) (.int 2)=some (.pure (.bl false)):=rfl
  have la:=z1u a (by have:=hm a (by simp); omega)
  have na:=z2W a.length 1
  obtain ⟨s,gs,hs2⟩:=gb b (by have:=hm b (by simp); omega)
  generalize D.lst ([a,b].map D.str)=W at *
  by_cases ha:a.length=1
  ·obtain ⟨t,rfl⟩:∃ t,a=[t]:=by
    match a,ha with
    | [t],_=>exact ⟨t,rfl⟩
   replace la:pLen (.str [t])=some (.pure (.int 1)):=la
   replace na:pNe (.int 1) (.int 1)=some (.pure (.bl false)):=rfl
   have lo:=zew t
   have l0:=zdj [t] (lst1 bs)
   have is0:pIsN false s.d .non=some (.pure (.bl (z3R s.d))):=by
    show some (S.pure (.bl (false != z3R s.d)))=_
    simp
   rw [hs2] at is0
   simp only at hp
   cases hl:letN t with
   | false =>
    rw [hl] at lo hp
    simp only [Bool.false_and,Qr,if_false] at hp
    refine .inl ⟨hp.symm,[some (.pure tx),some (.own L),some (.own W),some (.pure T),some (.own (.lst (tl bs))),some (.pure (.int k)),none],?_⟩
    simp [dAsg,eOpF,eOpN,bVar,ik,hs,dTr,ln,n2,i0,la,na,lo,ak]
   | true =>
    rw [hl,Bool.true_and] at hp
    rw [hl] at lo
    by_cases hlt:lst1 bs < [t]
    ·rw [show decide (lst1 bs < [t])=true by simpa using hlt] at l0
     cases hb:blk h w (z0d 47 b) with
     | false =>
      rw [hb] at is0 hp
      simp only [Qr,if_false] at hp
      refine .inl ⟨hp.symm,[some (.pure tx),some (.own L),some (.own W),some (.pure T),some (.own (.lst (tl bs))),some (.pure (.int k)),none],?_⟩
      simp [dAsg,eOpF,eOpN,bVar,ik,hs,dTr,ln,n2,i0,i1,la,na,lo,ak,ng,lt,l0,z08,ios,ndup,z0w,evX,eVar,mkA,gs,putA,is0]
     | true =>
      rw [hb] at is0 hp
      simp only [if_true,if_pos hlt] at hp
      refine .inr ⟨(t,z0d 47 b),hp.symm,some (.own W),?_⟩
      have tt:=ts (t,z0d 47 b)
      simp only at tt
      rw [← tt]
      generalize tl bs=tb at *
      simp [dAsg,eOpF,eOpN,bVar,ik,hs,dTr,ln,n2,i0,i1,la,na,lo,ak,ng,lt,l0,z08,ios,ndup,z0w,evX,eVar,mkA,gs,putA,is0,z1o,z23,putL,ht]
    ·rw [show decide (lst1 bs < [t])=false by simpa using hlt] at l0
     rw [if_neg hlt] at hp
     refine .inl ⟨by rw [← hp]; split <;> rfl,[some (.pure tx),some (.own L),some (.own W),some (.pure T),some (.own (.lst (tl bs))),some (.pure (.int k)),none],?_⟩
     simp [dAsg,eOpF,eOpN,bVar,ik,hs,dTr,ln,n2,i0,i1,la,na,lo,ak,ng,lt,l0]
  ·rw [show ((a.length:Int) == 1)=false by simp; omega] at na
   have hpn:pp=none:=by
    rw [← hp]
    split
    ·rename_i heq
     cases heq
     simp at ha
    ·rfl
   refine .inl ⟨hpn,[some (.pure tx),some (.own L),some (.own W),some (.pure T),some (.own (.lst (tl bs))),some (.pure (.int k)),none],?_⟩
   simp [dAsg,eOpF,eOpN,bVar,ik,hs,dTr,ln,n2,i0,la,na,ak]
 ·have n2:=z2W ws.length 2
  rw [show ((ws.length:Int) == 2)=false by simp; omega] at n2
  have hpn:pp=none:=by
   rw [← hp]
   split
   ·exact (h2 rfl).elim
   ·rfl
  refine .inl ⟨hpn,[some (.pure tx),some (.own L),some (.own (.lst (ws.map .str))),some (.pure T),some (.own (.lst (tl bs))),some (.pure (.int k)),none],?_⟩
  simp [dAsg,eOpF,eOpN,bVar,ik,hs,dTr,ln,n2,ak]
theorem zb1 (bs:List (Nat×List Tx)) (b:Nat×List Tx):lst1 (bs ++ [b])=[b.1]:=by simp [lst1]
theorem zgg (GB:DF) {h w:Nat} (gb:∀ b:Tx,b.length≤900→∃ s:S,GB [.pure (.tup [.int h,.int w]),.pure (.str b)]=some (s,[.pure (.tup [.int h,.int w]),.pure (.str b)])∧z3R s.d = !blk h w (z0d 47 b)) (tx:D) (rows:List Tx) (hr:∀ r ∈ rows,r.length≤900):∀ (suf:List Tx) (k:Nat) (bs:List (Nat×List Tx)) (o2 o5:Option S),(∀ (i:Nat) r,suf[i]? = some r→rows[k + i]? = some r)→bs.length + suf.length≤2000 →
  (match goR h w (lst1 bs) (k + 1) suf bs with
  | .inl j=>∃ δ',forL (gNm [] 5) (B0_ GB) (idx k suf) [some (.pure tx),some (.own (.lst (rows.map .str))),o2,some (.pure (.tup [.int h,.int w])),some (.own (.lst (tl bs))),o5,none] = .ok (.ret (.pure (.int (j:Nat)))) δ'
  | .inr cs=>∃ q2 q5,forL (gNm [] 5) (B0_ GB) (idx k suf) [some (.pure tx),some (.own (.lst (rows.map .str))),o2,some (.pure (.tup [.int h,.int w])),some (.own (.lst (tl bs))),o5,none] = .ok .next [some (.pure tx),some (.own (.lst (rows.map .str))),q2,some (.pure (.tup [.int h,.int w])),some (.own (.lst (tl cs))),q5,none])
 | [],k,bs,o2,o5,_,_=>⟨_,_,rfl⟩
 | r :: suf,k,bs,o2,o5,hx,hn=>by
  have hk:=hx 0 r rfl
  rw [Nat.add_zero] at hk
  simp only [Ws] at hn
  have gt:(gNm [] 5) (.pure (.int (k:Nat))) [some (.pure tx),some (.own (.lst (rows.map .str))),o2,some (.pure (.tup [.int h,.int w])),some (.own (.lst (tl bs))),o5,none]=some [some (.pure tx),some (.own (.lst (rows.map .str))),o2,some (.pure (.tup [.int h,.int w])),some (.own (.lst (tl bs))),some (.pure (.int k)),none]:=rfl
  have hc:idx k (r :: suf) = .int (k:Nat) :: idx (k + 1) suf:=rfl
  rw [hc]
  unfold goR
  rcases step1 GB gb tx rows r k hk (hr r (Ww hk)) bs (by omega) o2 with ⟨e1,δ',e2⟩ | ⟨b,e1,q2,e2⟩
  ·rw [e1]
   refine ⟨δ',?_⟩
   unfold forL
   rw [gt]
   simp only [e2,z0j]
  ·rw [e1]
   have ih:=zgg GB gb tx rows hr suf (k + 1) (bs ++ [b]) q2 (some (.pure (.int k))) (fun i r hi=>by
    have:=hx (i + 1) r (by simpa using hi)
    rwa [show k + (i + 1)=k + 1 + i by omega] at this) (by simp; omega)
   rw [zb1] at ih
   have st:forL (gNm [] 5) (B0_ GB) (.int (k:Nat) :: idx (k + 1) suf) [some (.pure tx),some (.own (.lst (rows.map .str))),o2,some (.pure (.tup [.int h,.int w])),some (.own (.lst (tl bs))),o5,none]=forL (gNm [] 5) (B0_ GB) (idx (k + 1) suf) [some (.pure tx),some (.own (.lst (rows.map .str))),q2,some (.pure (.tup [.int h,.int w])),some (.own (.lst (tl (bs ++ [b])))),some (.pure (.int k)),none]:=by
    conv=>lhs; unfold forL
    rw [gt]
    simp only [e2,z0j]
   rw [st]
   exact ih
theorem z9o {h w:Nat} (h1:h≤4) (w0:1≤w) (w1:w≤4):∀ (rs:List Tx) (ah:Tx) (k:Nat) (bs cs:List (Nat×List Tx)),goR h w ah k rs bs = .inr cs→∃ ds,cs=bs ++ ds∧ds.length=rs.length∧∀ (i:Nat) b,ds[i]? = some b→∃ r,rs[i]? = some r∧z0d 32 r=[[b.1],z0s [47] b.2]∧blk h w b.2=true
 | [],ah,k,bs,cs,e=>by
  unfold goR at e
  cases e
  exact ⟨[],by simp,rfl,fun i b hb=>by simp at hb⟩
 | r :: rs,ah,k,bs,cs,e=>by
  unfold goR at e
  split at e
  ·cases e
  ·rename_i b hpb
   obtain ⟨ds,e1,e2,e3⟩:=z9o h1 w0 w1 rs _ _ _ _ e
   refine ⟨b :: ds,by rw [e1]; simp,by simp [e2],fun i c hc=>?_⟩
   cases i with
   | zero =>
    simp only [QU,W5] at hc
    subst hc
    refine ⟨r,rfl,?_⟩
    rcases z7a h1 w0 w1 ah r with ⟨_,z⟩ | ⟨c,_,_,_,c2,c3,z⟩
    ·rw [z] at hpb; cases hpb
    ·rw [z] at hpb
     split at hpb
     ·cases hpb; exact ⟨c3,c2⟩
     ·cases hpb
   | succ i =>
    obtain ⟨x,x1,x2⟩:=e3 i c (by simpa using hc)
    exact ⟨x,by simpa using x1,x2⟩
theorem z9i (c:Nat) {n:Nat}:∀ ts:List Tx,(∃ t ∈ ts,n ∈ t)→n ∈ z0s [c] ts
 | [],⟨t,h,_⟩=>by cases h
 | [x],⟨t,h,hn⟩=>by
  simp only [List.mem_singleton] at h
  subst h
  exact hn
 | x :: y :: r,⟨t,h,hn⟩=>by
  have e:z0s [c] (x :: y :: r)=x ++ [c] ++ z0s [c] (y :: r):=rfl
  rw [e]
  rcases Wh.mp h with rfl | h
  ·simp [hn]
  ·have:=z9i c (y :: r) ⟨t,h,hn⟩
   simp [this]
def odd (ts:List Nat) (n:Nat):Bool:=!(n == 47) && !ts.contains n
theorem zg2 {h w:Nat} (ts:List Nat) {fl:List Tx} (hb:blk h w fl=true):((z0s [47] fl).filter (odd ts)).isEmpty=fl.flatten.all (fun c=>ts.contains c):=by
 have hlet:∀ n,n ∈ fl.flatten→n≠47:=fun n hn=>by
  unfold blk at hb
  simp only [We,WC] at hb
  obtain ⟨x,hx,hn⟩:=List.mem_flatten.mp hn
  have:=hb.2 x hx n hn
  unfold letN at this
  simp only [We,decide_eq_true_eq] at this
  omega
 rw [Qh]
 simp only [List.isEmpty_iff,List.filter_eq_nil_iff,WC]
 constructor
 ·intro a n hn
  have hj:=a n (z9i 47 fl (List.mem_flatten.mp hn))
  have:=hlet n hn
  unfold odd at hj
  simpa [this] using hj
 ·intro a n hn ho
  unfold odd at ho
  simp only [We,Qx,beq_eq_false_iff_ne] at ho
  rcases z7o [47] fl hn with z | z
  ·exact ho.1 (by simpa using z)
  ·have:=a n (List.mem_flatten.mpr z)
   rw [this] at ho
   cases ho.2
theorem zbQ (cs:List (Nat×List Tx)):z3M (tl cs)=some ([] :: cs.map fun b=>[b.1]):=by
 have:tl cs=([] :: cs.map fun b=>[b.1]).map D.str:=by simp [tl]
 rw [this]
 exact z5A _
theorem in_tl (cs:List (Nat×List Tx)) (n:Nat):pIn true (.str [n]) (.lst (tl cs))=some (.pure (.bl (!(cs.map (·.1)).contains n))):=by
 simp only [pIn,zbQ,if_true]
 congr 4
 rw [Qh]
 simp
theorem zgd (xs:List Nat):pNe (.lst (xs.map fun n=>D.str [n])) (.lst [])=some (.pure (.bl (!xs.isEmpty))):=by
 have hf:∀ (m:Nat) (ys:List Nat),z69 m (ys.map fun n=>D.str [n])=true:=fun m ys=>by
  induction ys with
  | nil=>rfl
  | cons y r ih=>simp only [WB,z69,flat,ih,Bool.and_self]
 unfold pNe
 have h1:flat 50 (.lst (xs.map fun n=>D.str [n]))=true:=by unfold flat; exact hf 49 xs
 have h2:flat 50 (.lst [])=true:=rfl
 rw [h1,h2]
 cases xs with
 | nil=>rfl
 | cons x r=>rfl
theorem step2 (tx:D) {h w:Nat} (rows:List Tx) (r:Tx) (k:Nat) (hk:rows[k]? = some r) (hr:r.length≤900) (cs:List (Nat×List Tx)) {b:Nat×List Tx} (hs:z0d 32 r=[[b.1],z0s [47] b.2]) (hb:blk h w b.2=true) (o2:Option S) :
  (B1_) [some (.pure tx),some (.own (.lst (rows.map .str))),o2,some (.pure (.tup [.int h,.int w])),some (.own (.lst (tl cs))),some (.pure (.int k)),none]=(match b.2.flatten.all (fun c=>(cs.map (·.1)).contains c) with | true=>.ok .next [some (.pure tx),some (.own (.lst (rows.map .str))),o2,some (.pure (.tup [.int h,.int w])),some (.own (.lst (tl cs))),some (.pure (.int k)),none] | false=>.ok (.ret (.pure (.int ((k + 1:Nat):Int)))) [some (.pure tx),some (.own (.lst (rows.map .str))),o2,some (.pure (.tup [.int h,.int w])),some (.own (.lst (tl cs))),some (.pure (.int k)),none]):=by
 unfold B1_
 have sp:=z4r 32 r (by omega)
 have hm:=z1c 32 r
 rw [hs] at sp hm
 have ik:=zcE hk
 have ak:=add_int k 1
 rw [show ((k:Int) + 1)=((k + 1:Nat):Int) by omega] at ak
 have i1:pIx (.lst ([[b.1],z0s [47] b.2].map D.str)) (.int 1)=some (.pure (.str (z0s [47] b.2))):=by simp [pIx,atI,ixN]
 have jl:(z0s [47] b.2).length≤900:=by have:=hm (z0s [47] b.2) (by simp); omega
 have oe:=zg2 (cs.map (·.1)) hb
 have e:=z3z (cs:=[6]) (g:=gNm [] 6) (t:=(dAnd (dTr (eOpF pNe 6 (bOf (eD (.str [47]))))) (dTr (eOp (pIn true) (eVar 6) (bVar 4))))) (el:=(eVar 6)) (fun n:Nat=>D.str [n]) (fun n:Nat=>D.str [n]) (odd (cs.map (·.1))) [some (.pure tx),some (.own (.lst (rows.map .str))),o2,some (.pure (.tup [.int h,.int w])),some (.own (.lst (tl cs))),some (.pure (.int k)),none] (z0s [47] b.2) [] (by rw [z0Y]; simp only [Q8]; omega) (fun n hn=>by
  refine ⟨[some (.pure tx),some (.own (.lst (rows.map .str))),o2,some (.pure (.tup [.int h,.int w])),some (.own (.lst (tl cs))),some (.pure (.int k)),some (.pure (.str [n]))],[some (.pure tx),some (.own (.lst (rows.map .str))),o2,some (.pure (.tup [.int h,.int w])),some (.own (.lst (tl cs))),some (.pure (.int k)),some (.pure (.str [n]))],.pure (.str [n]),[some (.pure tx),some (.own (.lst (rows.map .str))),o2,some (.pure (.tup [.int h,.int w])),some (.own (.lst (tl cs))),some (.pure (.int k)),some (.pure (.str [n]))],rfl,?_,rfl,rfl,rfl,rfl⟩
  have q1:=z9g [n] [47]
  rw [show (([n]:Tx) == [47])=(n == 47) by simp] at q1
  have q2:=in_tl cs n
  unfold odd
  generalize D.lst (rows.map .str)=L at *
  generalize D.tup [.int h,.int w]=T at *
  generalize D.lst (tl cs)=tb at *
  cases hz:(n == 47)
  ·rw [hz] at q1
   simp [dTr,eOpF,eOpN,bVar,q1,eVar,q2]
  ·rw [hz] at q1
   simp [dTr,eOpF,eOpN,bVar,q1])
 have hnn:=zgd ((z0s [47] b.2).filter (odd (cs.map (·.1))))
 rw [oe] at hnn
 rw [WM] at e
 have h1:(z2q [6] (iSq (eOp pIx (eC1 (z0R 32) (bOf (eOpF pIx 1 (bVar 5)))) (bOf (eD (.int 1))))) (gNm [] 6) (dAnd (dTr (eOpF pNe 6 (bOf (eD (.str [47]))))) (dTr (eOp (pIn true) (eVar 6) (bVar 4)))) (eVar 6)) [some (.pure tx),some (.own (.lst (rows.map .str))),o2,some (.pure (.tup [.int h,.int w])),some (.own (.lst (tl cs))),some (.pure (.int k)),none] = .ok (.own (.lst (((z0s [47] b.2).filter (odd (cs.map (·.1)))).map fun n=>D.str [n]))) [some (.pure tx),some (.own (.lst (rows.map .str))),o2,some (.pure (.tup [.int h,.int w])),some (.own (.lst (tl cs))),some (.pure (.int k)),none]:=by
  rw [z5B]
  have it:iSq (eOp pIx (eC1 (z0R 32) (bOf (eOpF pIx 1 (bVar 5)))) (bOf (eD (.int 1)))) [some (.pure tx),some (.own (.lst (rows.map .str))),o2,some (.pure (.tup [.int h,.int w])),some (.own (.lst (tl cs))),some (.pure (.int k)),none] = .ok ((z0s [47] b.2).map fun n=>D.str [n]) [some (.pure tx),some (.own (.lst (rows.map .str))),o2,some (.pure (.tup [.int h,.int w])),some (.own (.lst (tl cs))),some (.pure (.int k)),none]:=by
   generalize D.lst (rows.map .str)=L at *
   generalize D.lst ([[b.1],z0s [47] b.2].map D.str)=W at *
   simp [z4J,eOpF,eOpN,bVar,ik,sp,i1]
  rw [it]
  simp [z0w,clrD]
  rw [e]
  simp [z26]
 generalize (z2q [6] (iSq (eOp pIx (eC1 (z0R 32) (bOf (eOpF pIx 1 (bVar 5)))) (bOf (eD (.int 1))))) (gNm [] 6) (dAnd (dTr (eOpF pNe 6 (bOf (eD (.str [47]))))) (dTr (eOp (pIn true) (eVar 6) (bVar 4)))) (eVar 6))=CO at *
 generalize (((z0s [47] b.2).filter (odd (cs.map (·.1)))).map fun n=>D.str [n])=FL at *
 generalize b.2.flatten.all (fun c=>(cs.map (·.1)).contains c)=bb at *
 cases bb
 ·simp [dTr,h1,hnn,eOpF,eOpN,bVar,ak]
 ·simp [dTr,h1,hnn]
theorem zgf (tx:D) {h w:Nat} (rows:List Tx) (hr:∀ r ∈ rows,r.length≤900) (cs:List (Nat×List Tx)) (o2:Option S):∀ (ds:List (Nat×List Tx)) (k:Nat) (o5:Option S),(∀ (i:Nat) b,ds[i]? = some b→∃ r,rows[k + 1 + i]? = some r∧z0d 32 r=[[b.1],z0s [47] b.2]∧blk h w b.2=true) →
  (match fstO (cs.map (·.1)) k ds with
  | some j=>∃ δ',forL (gNm [] 5) (B1_) (idx (k + 1) ds) [some (.pure tx),some (.own (.lst (rows.map .str))),o2,some (.pure (.tup [.int h,.int w])),some (.own (.lst (tl cs))),o5,none] = .ok (.ret (.pure (.int ((j + 2:Nat):Int)))) δ'
  | none=>∃ δ',forL (gNm [] 5) (B1_) (idx (k + 1) ds) [some (.pure tx),some (.own (.lst (rows.map .str))),o2,some (.pure (.tup [.int h,.int w])),some (.own (.lst (tl cs))),o5,none] = .ok .next δ')
 | [],k,o5,_=>⟨_,rfl⟩
 | b :: ds,k,o5,hx=>by
  obtain ⟨r,hk,hs,hb⟩:=hx 0 b rfl
  rw [Nat.add_zero] at hk
  have gt:(gNm [] 5) (.pure (.int ((k + 1:Nat):Int))) [some (.pure tx),some (.own (.lst (rows.map .str))),o2,some (.pure (.tup [.int h,.int w])),some (.own (.lst (tl cs))),o5,none]=some [some (.pure tx),some (.own (.lst (rows.map .str))),o2,some (.pure (.tup [.int h,.int w])),some (.own (.lst (tl cs))),some (.pure (.int ((k + 1:Nat):Int))),none]:=rfl
  have hc:idx (k + 1) (b :: ds) = .int ((k + 1:Nat):Int) :: idx (k + 1 + 1) ds:=rfl
  have st:=step2 tx rows r (k + 1) hk (hr r (Ww hk)) cs hs hb o2
  rw [hc]
  unfold fstO
  cases ha:b.2.flatten.all (fun c=>(cs.map (·.1)).contains c) with
  | false =>
   rw [ha] at st
   simp only [Qr,if_false]
   refine ⟨[some (.pure tx),some (.own (.lst (rows.map .str))),o2,some (.pure (.tup [.int h,.int w])),some (.own (.lst (tl cs))),some (.pure (.int ((k + 1:Nat):Int))),none],?_⟩
   unfold forL
   rw [gt]
   simp only [st,z0j]
  | true =>
   rw [ha] at st
   simp only [if_true]
   have ih:=zgf tx rows hr cs o2 ds (k + 1) (some (.pure (.int ((k + 1:Nat):Int)))) (fun i b hi=>by
    have:=hx (i + 1) b (by simpa using hi)
    rwa [show k + 1 + (i + 1)=k + 1 + 1 + i by omega] at this)
   have st2:forL (gNm [] 5) (B1_) (.int ((k + 1:Nat):Int) :: idx (k + 1 + 1) ds) [some (.pure tx),some (.own (.lst (rows.map .str))),o2,some (.pure (.tup [.int h,.int w])),some (.own (.lst (tl cs))),o5,none]=forL (gNm [] 5) (B1_) (idx (k + 1 + 1) ds) [some (.pure tx),some (.own (.lst (rows.map .str))),o2,some (.pure (.tup [.int h,.int w])),some (.own (.lst (tl cs))),some (.pure (.int ((k + 1:Nat):Int))),none]:=by
    conv=>lhs; unfold forL
    rw [gt]
    simp only [st,z0j]
   rw [st2]
   exact ih
theorem zeD {α β:Type} (xs:List α) (ys:List β) (h:xs.length=ys.length) (k:Nat):idx k xs=idx k ys:=by rw [← z9n,← z9n,h]
theorem q_due (GZ GB:DF) (gz:∀ z:Tx,z.length≤1000→GZ [.pure (.str z)]=some (.pure (oD (dg z)),[.pure (.str z)])) (gb:∀ (h w:Nat) (b:Tx),b.length≤900→∃ s:S,GB [.pure (.tup [.int h,.int w]),.pure (.str b)]=some (s,[.pure (.tup [.int h,.int w]),.pure (.str b)])∧z3R s.d = !blk h w (z0d 47 b)) (z:Tx) (hz:z.length≤900) :
  gOf [] 7 (z4h GZ GB) [.pure (.str z)]=some (.pure (oD (due z)),[.pure (.str z)]):=by
 unfold z4h
 have sp:=z4r 10 z (by omega)
 have sl1:=z1P 10 z
 have hm:=z1c 10 z
 obtain ⟨r0,rs,er⟩:=z1Z 10 z
 unfold due
 rw [er] at sp sl1 hm ⊢
 simp only [Ws] at sl1
 have i0:pIx (.lst ((r0 :: rs).map .str)) (.int 0)=some (.pure (.str r0)):=by simp [pIx,z1J]
 have lr:pLen (.lst ((r0 :: rs).map .str))=some (.pure (.int ((rs.length + 1:Nat):Int))):=by
  rw [z4a]
  simp
 have hr0:r0.length≤900:=by have:=hm r0 (by simp); omega
 have s0:=z4r 32 r0 (by omega)
 have m0:=z1c 32 r0
 rw [z1H]
 simp only [show z0b 7 [S.pure (.str z)]=[some (.pure (.str z)),none,none,none,none,none,none] from rfl]
 have io:ioOk [] 0 [S.pure (.str z)]=true:=rfl
 rw [io]
 simp only [if_true]
 unfold sz
 generalize z0d 32 r0=ws at *
 have ln:=z4a (ws.map .str)
 rw [Wu] at ln
 by_cases h3:ws.length=3
 ·obtain ⟨a,b,c,rfl⟩:=zf2 h3
  have j0:pIx (.lst ([a,b,c].map D.str)) (.int 0)=some (.pure (.str a)):=by simp [pIx,atI,ixN]
  have j1:pIx (.lst ([a,b,c].map D.str)) (.int 1)=some (.pure (.str b)):=by simp [pIx,atI,ixN]
  have j2:pIx (.lst ([a,b,c].map D.str)) (.int 2)=some (.pure (.str c)):=by simp [pIx,atI,ixN]
  have g1:=gz b (by have:=m0 b (by simp); omega)
  have g2:=gz c (by have:=m0 c (by simp); omega)
  have q1:=z9g a [114,117,108,101]
  replace ln:pLen (.lst ([a,b,c].map D.str))=some (.pure (.int 3)):=ln
  have n3:pNe (.int 3) (.int 3)=some (.pure (.bl false)):=rfl
  rw [show szW [a,b,c]=if a=rlT then szN (dg b) (dg c) else none from rfl]
  generalize D.lst ([a,b,c].map D.str)=W at *
  by_cases ha:a=rlT
  ·rw [if_pos ha]
   rw [show (a == [114,117,108,101])=true by rw [ha]; rfl] at q1
   have dgb:∀ {z:Tx} {n:Nat},dg z=some n→1≤n∧n≤4:=fun {z n} e=>by
    have:=zcv (zbt e)
    rw [e] at this
    exact this.2
   cases e1:dg b with
   | none =>
    rw [e1] at g1
    have pn:pInN false .non (.tup [oD none,oD (dg c)])=some (.pure (.bl true)):=by cases dg c <;> rfl
    rw [show szN none (dg c)=none from rfl]
    generalize oD (dg c)=oc at *
    generalize oD none=ob at *
    generalize D.lst ((r0 :: rs).map .str)=L at *
    simp [dAsg,bVar,sp,eOpF,eOpN,i0,s0,dTr,ln,n3,j0,q1,z08,ios,ndup,z0w,evX,j1,j2,mkA,g1,g2,putA,pn,z0o,z07,oD]
   | some h =>
    rw [e1] at g1
    cases e2:dg c with
    | none =>
     rw [e2] at g2
     have pn:pInN false .non (.tup [oD (some h),oD none])=some (.pure (.bl true)):=rfl
     rw [show szN (some h) none=none from rfl]
     generalize oD (some h)=ob at *
     generalize oD none=oc at *
     generalize D.lst ((r0 :: rs).map .str)=L at *
     simp [dAsg,bVar,sp,eOpF,eOpN,i0,s0,dTr,ln,n3,j0,q1,z08,ios,ndup,z0w,evX,j1,j2,mkA,g1,g2,putA,pn,z0o,z07,oD]
    | some w =>
     rw [e2] at g2
     have pn:pInN false .non (.tup [.int (h:Nat),.int (w:Nat)])=some (.pure (.bl false)):=rfl
     have pe:pEq (.tup [.int (h:Nat),.int (w:Nat)]) (.tup [.int 1,.int 1])=some (.pure (.bl (decide (h=1∧w=1)))):=by
      show some (S.pure (.bl (((h:Int) == 1) && (((w:Int) == 1) && true))))=_
      congr 3
      rw [Qh]
      simp
      omega
     rw [show szN (some h) (some w)=if h=1∧w=1 then none else some (h,w) from rfl]
     replace g1:GZ [.pure (.str b)]=some (.pure (.int (h:Nat)),[.pure (.str b)]):=g1
     replace g2:GZ [.pure (.str c)]=some (.pure (.int (w:Nat)),[.pure (.str c)]):=g2
     by_cases h11:h=1∧w=1
     ·rw [if_pos h11]
      rw [decide_eq_true h11] at pe
      generalize D.lst ((r0 :: rs).map .str)=L at *
      simp [dAsg,bVar,sp,eOpF,eOpN,i0,s0,dTr,ln,n3,j0,q1,z08,ios,ndup,z0w,evX,j1,j2,mkA,g1,g2,putA,pn,pe,z0o,z07,oD]
     ·rw [if_neg h11]
      rw [decide_eq_false h11] at pe
      obtain ⟨h0,h4⟩:=dgb e1
      obtain ⟨w0,w4⟩:=dgb e2
      have l1:=zgg GB (gb h w) (.str z) (r0 :: rs) (fun r hr=>by have:=hm r hr; omega) rs 1 [] (some (.own W)) none (fun i r hi=>by rw [show 1 + i=i + 1 by omega]; simpa using hi) (by simp; omega)
      rw [show lst1 []=[] from rfl] at l1
      have st:∀ k:DS,(dSeq (dAsg (eC1 (z0R 10) (bVar 0)) (gNm [] 1)) (dSeq (dAsg (eC1 (z0R 32) (bOf (eOpF pIx 1 (bOf (eD (.int 0)))))) (gNm [] 2)) (dSeq (B9_) (dSeq (dAsg (eTup (z0m (z08 GZ [.val (eOpF pIx 2 (bOf (eD (.int 1))))]) (z0m (z08 GZ [.val (eOpF pIx 2 (bOf (eD (.int 2))))]) aNil))) (gNm [] 3)) (dSeq (B10_) (dSeq (dAsg (z3w [.str []]) (gNm [] 4)) k)))))) [some (.pure (.str z)),none,none,none,none,none,none]=k [some (.pure (.str z)),some (.own (.lst ((r0 :: rs).map .str))),some (.own W),some (.pure (.tup [.int (h:Nat),.int (w:Nat)])),some (.own (.lst (tl []))),none,none]:=fun k=>by
       generalize D.lst ((r0 :: rs).map .str)=L at *
       simp [dAsg,bVar,sp,eOpF,eOpN,i0,s0,dTr,ln,n3,j0,q1,z08,ios,ndup,z0w,evX,j1,j2,mkA,g1,g2,putA,pn,pe,tl]
      rw [st]
      have rg:∀ (δ:Dl),δ[1]? = some (some (.own (.lst ((r0 :: rs).map .str))))→z58 (eD (.int 1)) (eC1 pLen (bVar 1)) δ = .ok (idx 1 rs) δ:=fun δ hδ=>by
       have hsm:(z3c 1 && z3c ((rs.length + 1:Nat):Int))=true:=by
        rw [z7A (rs.length + 1) (by omega),show z3c 1=true by decide]
        rfl
       have hq:z1h 1 (((rs.length + 1:Nat):Int) - 1).toNat=idx 1 rs:=by
        rw [show (((rs.length + 1:Nat):Int) - 1).toNat=rs.length by omega]
        exact z9n rs 1
       generalize D.lst ((r0 :: rs).map .str)=L at *
       simp only [z58,eD,bVar,hδ,S.d,zdm,p1,lr,z0j]
       rw [hsm]
       simp only [if_true]
       rw [hq]
      show _=some (S.pure (oD (dueR h w rs)),_)
      unfold dueR
      rw [z2N,z3t,rg _ rfl]
      simp only [z0j]
      cases hg:goR h w [] 2 rs [] with
      | inl j =>
       rw [hg] at l1
       obtain ⟨δ',e⟩:=l1
       rw [e]
       simp [z0o,z07,oD]
      | inr cs =>
       rw [hg] at l1
       obtain ⟨q2,q5,e⟩:=l1
       rw [e]
       obtain ⟨ds,d1,d2,d3⟩:=z9o h4 w0 w4 rs _ _ _ _ hg
       rw [WM] at d1
       subst d1
       have l2:=zgf (.str z) (r0 :: rs) (fun r hr=>by have:=hm r hr; omega) cs q2 (h:=h) (w:=w) cs 0 q5 (fun i b hb=>by
        obtain ⟨r,a1,a2⟩:=d3 i b hb
        refine ⟨r,?_,a2⟩
        rw [show 0 + 1 + i=i + 1 by omega]
        simpa using a1)
       rw [show (0 + 1:Nat)=1 from rfl,zeD cs rs d2 1] at l2
       have n1:=z3e ((rs.length + 1:Nat):Int) 1
       cases cs with
       | nil =>
        have:rs=[]:=List.length_eq_zero_iff.mp (by simpa using d2.symm)
        subst this
        have lr':pLen (.lst [.str r0])=some (.pure (.int 1)):=rfl
        have n1':pEq (.int 1) (.int 1)=some (.pure (.bl true)):=rfl
        simp [dTr,bVar,lr',n1',z0o,z07,oD,dueB]
       | cons b r =>
        rw [show ((((rs.length + 1:Nat):Int)) == 1)=false by simp at d2 ⊢; omega] at n1
        show _=some (S.pure (oD (dueB (b :: r))),_)
        rw [show dueB (b :: r)=(fstO ((b :: r).map (·.1)) 0 (b :: r)).map (· + 2) from rfl]
        have mid:∀ k:DS,(dSeq (dIf (dTr (eOp pEq (eC1 pLen (bVar 1)) (bOf (eD (.int 1))))) (dRet (eD (.int 2))) z0I) k) [some (.pure (.str z)),some (.own (.lst ((r0 :: rs).map .str))),q2,some (.pure (.tup [.int (h:Nat),.int (w:Nat)])),some (.own (.lst (tl (b :: r)))),q5,none]=k [some (.pure (.str z)),some (.own (.lst ((r0 :: rs).map .str))),q2,some (.pure (.tup [.int (h:Nat),.int (w:Nat)])),some (.own (.lst (tl (b :: r)))),q5,none]:=fun k=>by
         generalize D.lst ((r0 :: rs).map .str)=L at *
         generalize ((rs.length + 1:Nat):Int)=nn at *
         simp [dTr,bVar,lr,n1]
        simp only [z0j,mid]
        rw [z2N,z3t,rg _ rfl]
        simp only [z0j]
        cases hf:fstO ((b :: r).map (·.1)) 0 (b :: r) with
        | none =>
         rw [hf] at l2
         obtain ⟨δ',e2⟩:=l2
         rw [e2]
         simp [z0o,z07,oD]
        | some j =>
         rw [hf] at l2
         obtain ⟨δ',e2⟩:=l2
         rw [e2]
         simp [z0o,z07,oD]
  ·rw [if_neg ha]
   rw [show (a == [114,117,108,101])=false by simpa [rlT] using ha] at q1
   generalize D.lst ((r0 :: rs).map .str)=L at *
   simp [dAsg,bVar,sp,eOpF,eOpN,i0,s0,dTr,ln,n3,j0,q1,z0o,z07,oD]
 ·have hz:szW ws=none:=by
   unfold szW
   split
   ·exact (h3 rfl).elim
   ·rfl
  have n3:=z2W ws.length 3
  rw [show ((ws.length:Int) == 3)=false by simp; omega] at n3
  rw [hz]
  generalize D.lst ((r0 :: rs).map .str)=L at *
  simp [dAsg,bVar,sp,eOpF,eOpN,i0,s0,dTr,ln,n3,z0o,z07,oD]
theorem zfs (z:Tx) (hz:z.length≤900):z0U [.pure (.str z)]=some (.pure (oD (due z)),[.pure (.str z)]):=by
 rw [z0U,z5d]
 exact q_due _ _ zfl (fun h w b hb=>ze6 b hb) z hz
theorem z2u (x y:List D) (h:x.length + y.length≤1000):pAdd (.lst x) (.lst y)=some (.own (.lst (x ++ y))):=by
 simp only [pAdd]
 rw [if_pos (by rw [z0Y]; omega)]
theorem ad (x y:Tx) (h:x.length + y.length≤1000):∃ z:Tx,pAdd (.str x) (.str y)=some (.pure (.str z))∧z.length=x.length + y.length:=⟨x ++ y,add_str x y h,by simp⟩
theorem ad' (x y:Tx) {a b:Nat} (hx:x.length≤a) (hy:y.length≤b) (h:a + b≤1000:=by decide):∃ z:Tx,pAdd (.str x) (.str y)=some (.pure (.str z))∧z.length≤a + b:=⟨x ++ y,add_str x y (Wn (Nat.add_le_add hx hy) h),by rw [WP]; exact Nat.add_le_add hx hy⟩
theorem zb6 (tab:List Tx) (r:Nat) (h:r < tab.length):∃ z ∈ tab,pIx (.lst (tab.map .str)) (.int r)=some (.pure (.str z)):=⟨tab[r],Jv h,zcE (WE h)⟩
def tabF:List Tx:=[[],[47],[97,98,47],[47,97,98],[97,98,47,97],[97,47,98,99],[97,98,47,47,97,98],[97,66],[97,32,98],[97,49],[97,47,98,32],(W3 65 [97]).flatten,z0s [47] (W3 65 [97]),[32,97,98],[97,98,59],[97,45,98]]
theorem zdz:tabF.all (fun z=>decide (z.length≤900) && !isFl (.tup ((z0d 47 z).map .str)))=true:=by decide +kernel
theorem zfo {pd:D} (hp:Pen pd):∃ (z:Tx) (pd':D),z0D [.own pd]=some (.pure (.str z),[.own pd'])∧z.length≤900∧isFl (.tup ((z0d 47 z).map .str))=false∧Pen pd':=by
 obtain ⟨r,d',e,hr,p'⟩:=z5a pd 16 hp (by decide) (by decide)
 obtain ⟨z,hz,ei⟩:=zb6 tabF r hr
 have hb:=WC.mp zdz z hz
 simp only [We,decide_eq_true_eq,Qx] at hb
 refine ⟨z,d',?_,hb.1,hb.2,p'⟩
 have m1:z4X (.str [97]) (.int 65)=some (.pure (.str (W3 65 [97]).flatten)):=by
  simp only [z4X]
  rw [if_pos (by rw [z0Y]; decide)]
  rfl
 have m2:z9N (.lst [.str [97]]) (.int 65)=some (.own (.lst ((W3 65 [97]).map D.str))):=by
  simp only [z9N]
  rw [if_pos (by decide)]
  rfl
 have m3:z1w [47] (.lst ((W3 65 ([97]:Tx)).map D.str))=some (.pure (.str (z0s [47] (W3 65 [97])))):=(z8a [47] (by decide) (W3 65 [97]) (by decide) (fun t ht=>by rw [List.eq_of_mem_replicate ht]; decide)).2
 replace ei:pIx (.lst [.str [],.str [47],.str [97,98,47],.str [47,97,98],.str [97,98,47,97],.str [97,47,98,99],.str [97,98,47,47,97,98],.str [97,66],.str [97,32,98],.str [97,49],.str [97,47,98,32],.str (W3 65 [97]).flatten,.str (z0s [47] (W3 65 [97])),.str [32,97,98],.str [97,98,59],.str [97,45,98]]) (.int r)=some (.pure (.str z)):=ei
 have e16:z0g [.own pd,.pure (.int 16)]=some (.pure (.int r),[.own d',.pure (.int 16)]):=e
 generalize (W3 65 ([97]:Tx)).flatten=a65 at *
 generalize z0s [47] (W3 65 [97])=j65 at *
 generalize (W3 65 ([97]:Tx)).map D.str=l65 at *
 have b1:=z2u [.str [],.str [47],.str [97,98,47],.str [47,97,98],.str [97,98,47,97],.str [97,47,98,99],.str [97,98,47,47,97,98]] [.str [97,66],.str [97,32,98],.str [97,49],.str [97,47,98,32],.str a65,.str j65] (by simp)
 have b2:=z2u [.str [],.str [47],.str [97,98,47],.str [47,97,98],.str [97,98,47,97],.str [97,47,98,99],.str [97,98,47,47,97,98],.str [97,66],.str [97,32,98],.str [97,49],.str [97,47,98,32],.str a65,.str j65] [.str [32,97,98],.str [97,98,59],.str [97,45,98]] (by simp)
 simp only [List.cons_append,WM] at b1 b2
 rw [z0D,z1H,z2d]
 simp [ioOk,z0b,dAsg,m1,m2,m3,eOpF,eOpN,bVar,b1,b2,z08,ios,ndup,z0w,evX,mkA,e16,putA,ei,z0o,z07]
theorem zfp {pd:D} (hp:Pen pd):∃ (z:Tx) (pd':D),z0T [.own pd]=some (.pure (.str z),[.own pd'])∧z.length≤50∧Pen pd':=by
 obtain ⟨r,d',e,hr,p'⟩:=z5a pd 21 hp (by decide) (by decide)
 have m1:z4X (.str [49]) (.int 41)=some (.pure (.str (W3 41 [49]).flatten)):=by
  simp only [z4X]
  rw [if_pos (by rw [z0Y]; decide)]
  rfl
 have hl41:((W3 41 ([49]:Tx)).flatten).length=41:=by decide
 generalize (W3 41 ([49]:Tx)).flatten=a41 at *
 obtain ⟨x41,a1,l1⟩:=ad [114,117,108,101,32,50,32] a41 (by simp; omega)
 simp only [Ws,Q8] at l1
 obtain ⟨z,hz,ei⟩:=zb6 [[],[114,117,108,101],[114,117,108,101,32,50],[114,117,108,101,32,50,32,50,32,50],[114,117,108,101,32,49,32,49],[114,117,108,101,32,48,32,50],[114,117,108,101,32,53,32,50],[114,117,108,101,32,50,32,53],[114,117,108,101,32,48,50,32,50],[114,117,108,101,32,45,49,32,50],[114,117,108,101,32,32,50,32,50],[114,117,108,101,32,50,32,50,32],[32,114,117,108,101,32,50,32,50],[82,117,108,101,32,50,32,50],[114,117,108,101,32,97,32,50],[97,32,97,98,47,98,97],[114,117,108,101,32,50,32,43,50],[114,117,108,101,32,50,32,50,46,48],x41,[114,117,108,101,32,52,32,52],[114,117,108,101,32,49,32,51]] r hr
 have hl:z.length≤50:=by
  simp only [Wh,Jw,or_false] at hz
  rcases hz with rfl | rfl | rfl | rfl | rfl | rfl | rfl | rfl | rfl | rfl | rfl | rfl | rfl | rfl | rfl | rfl | rfl | rfl | rfl | rfl | rfl <;> first | omega | (simp; done)
 refine ⟨z,d',?_,hl,p'⟩
 replace ei:pIx (.lst [.str [],.str [114,117,108,101],.str [114,117,108,101,32,50],.str [114,117,108,101,32,50,32,50,32,50],.str [114,117,108,101,32,49,32,49],.str [114,117,108,101,32,48,32,50],.str [114,117,108,101,32,53,32,50],.str [114,117,108,101,32,50,32,53],.str [114,117,108,101,32,48,50,32,50],.str [114,117,108,101,32,45,49,32,50],.str [114,117,108,101,32,32,50,32,50],.str [114,117,108,101,32,50,32,50,32],.str [32,114,117,108,101,32,50,32,50],.str [82,117,108,101,32,50,32,50],.str [114,117,108,101,32,97,32,50],.str [97,32,97,98,47,98,97],.str [114,117,108,101,32,50,32,43,50],.str [114,117,108,101,32,50,32,50,46,48],.str x41,.str [114,117,108,101,32,52,32,52],.str [114,117,108,101,32,49,32,51]]) (.int r)=some (.pure (.str z)):=ei
 have e21:z0g [.own pd,.pure (.int 21)]=some (.pure (.int r),[.own d',.pure (.int 21)]):=e
 have b0:=z2u [.str [],.str [114,117,108,101],.str [114,117,108,101,32,50],.str [114,117,108,101,32,50,32,50,32,50],.str [114,117,108,101,32,49,32,49]] [.str [114,117,108,101,32,48,32,50],.str [114,117,108,101,32,53,32,50],.str [114,117,108,101,32,50,32,53],.str [114,117,108,101,32,48,50,32,50],.str [114,117,108,101,32,45,49,32,50]] (by simp)
 have b1:=z2u [.str [],.str [114,117,108,101],.str [114,117,108,101,32,50],.str [114,117,108,101,32,50,32,50,32,50],.str [114,117,108,101,32,49,32,49],.str [114,117,108,101,32,48,32,50],.str [114,117,108,101,32,53,32,50],.str [114,117,108,101,32,50,32,53],.str [114,117,108,101,32,48,50,32,50],.str [114,117,108,101,32,45,49,32,50]] [.str [114,117,108,101,32,32,50,32,50],.str [114,117,108,101,32,50,32,50,32],.str [32,114,117,108,101,32,50,32,50],.str [82,117,108,101,32,50,32,50]] (by simp)
 have b2:=z2u [.str [],.str [114,117,108,101],.str [114,117,108,101,32,50],.str [114,117,108,101,32,50,32,50,32,50],.str [114,117,108,101,32,49,32,49],.str [114,117,108,101,32,48,32,50],.str [114,117,108,101,32,53,32,50],.str [114,117,108,101,32,50,32,53],.str [114,117,108,101,32,48,50,32,50],.str [114,117,108,101,32,45,49,32,50],.str [114,117,108,101,32,32,50,32,50],.str [114,117,108,101,32,50,32,50,32],.str [32,114,117,108,101,32,50,32,50],.str [82,117,108,101,32,50,32,50]] [.str [114,117,108,101,32,97,32,50],.str [97,32,97,98,47,98,97],.str [114,117,108,101,32,50,32,43,50],.str [114,117,108,101,32,50,32,50,46,48]] (by simp)
 have b9:=z2u [.str [],.str [114,117,108,101],.str [114,117,108,101,32,50],.str [114,117,108,101,32,50,32,50,32,50],.str [114,117,108,101,32,49,32,49],.str [114,117,108,101,32,48,32,50],.str [114,117,108,101,32,53,32,50],.str [114,117,108,101,32,50,32,53],.str [114,117,108,101,32,48,50,32,50],.str [114,117,108,101,32,45,49,32,50],.str [114,117,108,101,32,32,50,32,50],.str [114,117,108,101,32,50,32,50,32],.str [32,114,117,108,101,32,50,32,50],.str [82,117,108,101,32,50,32,50],.str [114,117,108,101,32,97,32,50],.str [97,32,97,98,47,98,97],.str [114,117,108,101,32,50,32,43,50],.str [114,117,108,101,32,50,32,50,46,48]] [.str x41,.str [114,117,108,101,32,52,32,52],.str [114,117,108,101,32,49,32,51]] (by simp)
 simp only [List.cons_append,WM] at b0 b1 b2 b9
 rw [z0T,z1H,z2e]
 simp [ioOk,z0b,dAsg,m1,a1,eOpF,eOpN,bVar,b0,b1,b2,b9,z08,ios,ndup,z0w,evX,mkA,e21,putA,ei,z0o,z07]
theorem zfn (t:Nat) (ht:97≤t∧t≤122) (J:Tx) (hJ:J.length≤20) {pd:D} (hp:Pen pd):∃ (z:Tx) (pd':D),z1e [.own pd,.pure (.str (t :: 32 :: J))]=some (.pure (.str z),[.own pd',.pure (.str (t :: 32 :: J))])∧z.length≤50∧Pen pd':=by
 obtain ⟨r,d',e,hr,p'⟩:=z5a pd 19 hp (by decide) (by decide)
 have rl:(t :: 32 :: J).length=J.length + 2:=by simp
 have s1:pSl none (some 1) (.str (t :: 32 :: J))=some (.pure (.str [t])):=by
  simp only [pSl]
  rw [if_pos (by rw [z0Y,rl]; omega)]
  unfold cutL HT.sIx
  simp
 have s2:pSl (some 2) none (.str (t :: 32 :: J))=some (.pure (.str J)):=by
  simp only [pSl]
  rw [if_pos (by rw [z0Y,rl]; omega)]
  unfold cutL HT.sIx
  simp
 obtain ⟨m,s3,hm⟩:∃ m:Tx,pSl none (some (-1)) (.str (t :: 32 :: J))=some (.pure (.str m))∧m.length≤J.length + 2:=by
  simp only [pSl]
  rw [if_pos (by rw [z0Y,rl]; omega)]
  refine ⟨_,rfl,?_⟩
  unfold cutL
  have:=List.length_take_le' (HT.sIx (t :: 32 :: J).length (t :: 32 :: J).length (some (-1)) - HT.sIx (t :: 32 :: J).length 0 none) ((t :: 32 :: J).drop (HT.sIx (t :: 32 :: J).length 0 none))
  simp only [Jd] at this
  rw [rl] at this
  rw [rl]
  omega
 have u1:z6F (.str [t])=some (.pure (.str [t - 32])):=by
  simp only [z6F]
  rw [if_pos ht]
 have ng:pNeg (.int 1)=some (.pure (.int (-1))):=rfl
 generalize hR:t :: 32 :: J=R at *
 have R2:R.length=J.length + 2:=rl
 clear rl hR
 have T1:([t]:Tx).length=1:=rfl
 have U1:([t - 32]:Tx).length=1:=rfl
 generalize [t]=T at *
 generalize [t - 32]=U at *
 have kR:R.length≤22:=by omega
 have km:m.length≤22:=by omega
 have kT:T.length≤1:=Nat.le_of_eq T1
 have kU:U.length≤1:=Nat.le_of_eq U1
 obtain ⟨x1,a1,l1⟩:=ad' J [32] hJ (W7 _)
 obtain ⟨x2,a2,l2⟩:=ad' x1 T l1 kT
 obtain ⟨x3,a3,l3⟩:=ad' R [32] kR (W7 _)
 obtain ⟨x4,a4,l4⟩:=ad' [32] R (W7 _) kR
 obtain ⟨x5,a5,l5⟩:=ad' T [32,32] kT (W7 _)
 obtain ⟨x6,a6,l6⟩:=ad' x5 J l5 hJ
 obtain ⟨x7,a7,l7⟩:=ad' U [32] kU (W7 _)
 obtain ⟨x8,a8,l8⟩:=ad' x7 J l7 hJ
 obtain ⟨x9,a9,l9⟩:=ad' R [97] kR (W7 _)
 obtain ⟨x10,a10,l10⟩:=ad' R [47] kR (W7 _)
 obtain ⟨x11,a11,l11⟩:=ad' x10 J l10 hJ
 obtain ⟨x12,a12,l12⟩:=ad' T T kT kT
 obtain ⟨x13,a13,l13⟩:=ad' x12 [32] l12 (W7 _)
 obtain ⟨x14,a14,l14⟩:=ad' x13 J l13 hJ
 obtain ⟨x15,a15,l15⟩:=ad' m [49] km (W7 _)
 obtain ⟨x16,a16,l16⟩:=ad' m [65] km (W7 _)
 obtain ⟨x17,a17,l17⟩:=ad' T [32,47] kT (W7 _)
 obtain ⟨x18,a18,l18⟩:=ad' x17 J l17 hJ
 obtain ⟨x19,a19,l19⟩:=ad' [49,32] J (W7 _) hJ
 obtain ⟨x20,a20,l20⟩:=ad' x3 J l3 hJ
 obtain ⟨x21,a21,l21⟩:=ad' [122,32] J (W7 _) hJ
 obtain ⟨z,hz,ei⟩:=zb6 [[],T,J,x2,x3,x4,x6,x8,x9,x11,x14,m,x15,x16,x10,x18,x19,x20,x21] r hr
 have hl:z.length≤50:=by
  have hall:∀ z ∈ [[],T,J,x2,x3,x4,x6,x8,x9,x11,x14,m,x15,x16,x10,x18,x19,x20,x21],z.length≤50:=Wo.mpr ⟨QL _,Wo.mpr ⟨Wn kT (by decide),Wo.mpr ⟨Wn hJ (by decide),Wo.mpr ⟨Wn l2 (by decide),Wo.mpr ⟨Wn l3 (by decide),Wo.mpr ⟨Wn l4 (by decide),Wo.mpr ⟨Wn l6 (by decide),Wo.mpr ⟨Wn l8 (by decide),Wo.mpr ⟨Wn l9 (by decide),Wo.mpr ⟨Wn l11 (by decide),Wo.mpr ⟨Wn l14 (by decide),Wo.mpr ⟨Wn km (by decide),Wo.mpr ⟨Wn l15 (by decide),Wo.mpr ⟨Wn l16 (by decide),Wo.mpr ⟨Wn l10 (by decide),Wo.mpr ⟨Wn l18 (by decide),Wo.mpr ⟨Wn l19 (by decide),Wo.mpr ⟨Wn l20 (by decide),Wo.mpr ⟨Wn l21 (by decide),fun _ h=>by cases h⟩⟩⟩⟩⟩⟩⟩⟩⟩⟩⟩⟩⟩⟩⟩⟩⟩⟩⟩
  exact hall z hz
 clear l1 l2 l3 l4 l5 l6 l7 l8 l9 l10 l11 l12 l13 l14 l15 l16 l17 l18 l19 l20 l21 hz kR km kT kU
 refine ⟨z,d',?_,hl,p'⟩
 replace ei:pIx (.lst [.str [],.str T,.str J,.str x2,.str x3,.str x4,.str x6,.str x8,.str x9,.str x11,.str x14,.str m,.str x15,.str x16,.str x10,.str x18,.str x19,.str x20,.str x21]) (.int r)=some (.pure (.str z)):=ei
 have e19:z0g [.own pd,.pure (.int 19)]=some (.pure (.int r),[.own d',.pure (.int 19)]):=e
 have b1:=z2u [.str [],.str T,.str J,.str x2] [.str x3,.str x4,.str x6,.str x8] (by simp)
 have b2:=z2u [.str [],.str T,.str J,.str x2,.str x3,.str x4,.str x6,.str x8] [.str x9,.str x11,.str x14] (by simp)
 have b3:=z2u [.str [],.str T,.str J,.str x2,.str x3,.str x4,.str x6,.str x8,.str x9,.str x11,.str x14] [.str m,.str x15,.str x16] (by simp)
 have b4:=z2u [.str [],.str T,.str J,.str x2,.str x3,.str x4,.str x6,.str x8,.str x9,.str x11,.str x14,.str m,.str x15,.str x16] [.str x10,.str x18,.str x19,.str x20,.str x21] (by simp)
 simp only [List.cons_append,WM] at b1 b2 b3 b4
 rw [z1e,z1H,z2Q]
 simp [ioOk,z0b,dAsg,eSlN,z2M,z1x,bVar,s1,s2,s3,ng,eVar,eOpF,eOpN,u1,a1,a2,a3,a4,a5,a6,a7,a8,a9,a10,a11,a12,a13,a14,a15,a16,a17,a18,a19,a20,a21,b1,b2,b3,b4,z08,ios,ndup,z0w,evX,mkA,e19,putA,ei,z0o,z07]
theorem cutm {α:Type} {xs:List α} {lo hi:Option Int} {x:α} (h:x ∈ cutL xs lo hi):x ∈ xs:=List.mem_of_mem_drop (List.mem_of_mem_take h)
theorem zcV (f:α→β) (xs:List α) (lo hi:Option Int):cutL (xs.map f) lo hi=(cutL xs lo hi).map f:=by
 unfold cutL
 rw [Wu,← List.map_drop,← List.map_take]
theorem z6b {α:Type} (xs:List α) (lo hi:Option Int):(cutL xs lo hi).length≤xs.length:=by
 unfold cutL
 rw [Jc,Jd]
 omega
structure RwOk (RL:List Tx):Prop where
 n0:1≤RL.length
 n1:RL.length≤7
 l:∀ t ∈ RL,t.length≤50
 r:∀ i x,0 < i→RL[i]? = some x→∃ t J,x=t :: 32 :: J∧(97≤t∧t≤122)∧J.length≤20
theorem zc4 {RL:List Tx} (R:RwOk RL) {pd:D} (hp:Pen pd):∃ (ts:List Tx) (pd':D),z1q [.own pd,.pure (.lst (RL.map .str))]=some (.own (.lst (ts.map .str)),[.own pd',.pure (.lst (RL.map .str))])∧ts.length≤14∧(∀ t ∈ ts,t.length≤50)∧Pen pd':=by
 have n0:=R.n0
 have n1:=R.n1
 have ln:=z4a (RL.map .str)
 rw [Wu] at ln
 obtain ⟨sp,d1,e1,b1,p1⟩:=z5a pd RL.length hp (by omega) (by omega)
 obtain ⟨ot,d2,e2,b2,p2⟩:=z5a d1 RL.length p1 (by omega) (by omega)
 obtain ⟨wy,d3,e3,b3,p3⟩:=z5a d2 7 p2 (by decide) (by decide)
 replace e3:z0g [.own d2,.pure (.int 7)]=some (.pure (.int wy),[.own d3,.pure (.int 7)]):=e3
 have lx:z7Q (.lst (RL.map .str))=some (.own (.lst (RL.map .str))):=by rfl
 have sl:∀ lo hi,pSl lo hi (.lst (RL.map .str))=some (.own (.lst ((cutL RL lo hi).map .str))):=fun lo hi=>by rw [← zcV]; rfl
 have q0:=z3e wy 0
 have q1:=z3e wy 1
 have q2:=z3e wy 2
 have q3:=z3e wy 3
 have a1:=add_int sp 1
 have mk:∀ lo hi lo' hi',pAdd (.lst ((cutL RL lo hi).map .str)) (.lst ((cutL RL lo' hi').map .str))=some (.own (.lst ((cutL RL lo hi ++ cutL RL lo' hi').map .str))):=fun lo hi lo' hi'=>by
  have c1:=z6b RL lo hi
  have c2:=z6b RL lo' hi'
  rw [z2u _ _ (by simp; omega),List.map_append]
 have mem2:∀ lo hi lo' hi',∀ t ∈ cutL RL lo hi ++ cutL RL lo' hi',t.length≤50:=fun lo hi lo' hi' t ht=>by
  rcases QW.mp ht with z | z
  ·exact R.l t (cutm z)
  ·exact R.l t (cutm z)
 have len2:∀ lo hi lo' hi',(cutL RL lo hi ++ cutL RL lo' hi').length≤14:=fun lo hi lo' hi'=>by
  have c1:=z6b RL lo hi
  have c2:=z6b RL lo' hi'
  rw [WP]
  omega
 have ixo:∀ i:Nat,i < RL.length→∃ x,RL[i]? = some x∧pIx (.lst (RL.map .str)) (.int i)=some (.pure (.str x)):=fun i hi=>⟨RL[i],WE hi,zcE (WE hi)⟩
 have hxs:ixN (RL.map D.str).length (sp:Int)=some sp:=by
  rw [Wu]
  unfold ixN
  simp
  try omega
 have hset:∀ x:Tx,(RL.map D.str).set sp (.str x)=(RL.set sp x).map .str:=fun x=>by rw [List.map_set]
 have lset:∀ x:Tx,x.length≤50→∀ t ∈ RL.set sp x,t.length≤50:=fun x hx t ht=>by
  rcases List.mem_or_eq_of_mem_set ht with z | z
  ·exact R.l t z
  ·rw [z]; exact hx
 rw [z1q,z1H,z3a]
 by_cases w0:wy=0
 ·subst w0
  replace q0:pEq (.int 0) (.int 0)=some (.pure (.bl true)):=rfl
  have s1:=sl none (some 1)
  refine ⟨cutL RL none (some 1),d3,?_,by have:=z6b RL none (some 1); omega,fun t ht=>R.l t (cutm ht),p3⟩
  generalize (cutL RL none (some 1)).map D.str=C at *
  generalize RL.map D.str=L at *
  simp [ioOk,z0b,dAsg,z08,ios,ndup,z0w,evX,bVar,ln,mkA,e1,e2,e3,putA,lx,dTr,eOpF,eOpN,q0,eSlN,z2M,z1x,s1,z0o,z07]
 ·rw [show ((wy:Int) == 0)=false by simp; omega] at q0
  by_cases w1:wy=1
  ·subst w1
   replace q1:pEq (.int 1) (.int 1)=some (.pure (.bl true)):=rfl
   replace q0:pEq (.int 1) (.int 0)=some (.pure (.bl false)):=rfl
   have s1:=sl none (some sp)
   have s2:=sl (some (sp + 1)) none
   have mm:=mk none (some sp) (some (sp + 1)) none
   refine ⟨_,d3,?_,len2 none (some sp) (some (sp + 1)) none,mem2 none (some sp) (some (sp + 1)) none,p3⟩
   generalize (cutL RL none (some (sp:Int)) ++ cutL RL (some ((sp:Int) + 1)) none).map D.str=C3 at *
   generalize (cutL RL none (some (sp:Int))).map D.str=C at *
   generalize (cutL RL (some ((sp:Int) + 1)) none).map D.str=C2 at *
   generalize RL.map D.str=L at *
   simp [ioOk,z0b,dAsg,z08,ios,ndup,z0w,evX,bVar,ln,mkA,e1,e2,e3,putA,lx,dTr,eOpF,eOpN,q0,q1,eSlN,z2M,z1x,eVar,a1,s1,s2,mm,z0o,z07]
  ·rw [show ((wy:Int) == 1)=false by simp; omega] at q1
   by_cases w2:wy=2
   ·subst w2
    replace q2:pEq (.int 2) (.int 2)=some (.pure (.bl true)):=rfl
    replace q1:pEq (.int 2) (.int 1)=some (.pure (.bl false)):=rfl
    replace q0:pEq (.int 2) (.int 0)=some (.pure (.bl false)):=rfl
    have s1:=sl none (some (sp + 1))
    have s2:=sl (some sp) none
    have mm:=mk none (some (sp + 1)) (some sp) none
    refine ⟨_,d3,?_,len2 none (some (sp + 1)) (some sp) none,mem2 none (some (sp + 1)) (some sp) none,p3⟩
    generalize (cutL RL none (some ((sp:Int) + 1)) ++ cutL RL (some (sp:Int)) none).map D.str=C3 at *
    generalize (cutL RL none (some ((sp:Int) + 1))).map D.str=C at *
    generalize (cutL RL (some (sp:Int)) none).map D.str=C2 at *
    generalize RL.map D.str=L at *
    simp [ioOk,z0b,dAsg,z08,ios,ndup,z0w,evX,bVar,ln,mkA,e1,e2,e3,putA,lx,dTr,eOpF,eOpN,q0,q1,q2,eSlN,z2M,z1x,eVar,a1,s1,s2,mm,z0o,z07]
   ·rw [show ((wy:Int) == 2)=false by simp; omega] at q2
    by_cases w3:wy=3
    ·subst w3
     replace q3:pEq (.int 3) (.int 3)=some (.pure (.bl true)):=rfl
     replace q2:pEq (.int 3) (.int 2)=some (.pure (.bl false)):=rfl
     replace q1:pEq (.int 3) (.int 1)=some (.pure (.bl false)):=rfl
     replace q0:pEq (.int 3) (.int 0)=some (.pure (.bl false)):=rfl
     obtain ⟨x,hx,ix⟩:=ixo ot b2
     refine ⟨RL.set sp x,d3,?_,by rw [WY]; omega,lset x (R.l x (Ww hx)),p3⟩
     rw [← hset]
     generalize RL.map D.str=L at *
     simp [ioOk,z0b,dAsg,z08,ios,ndup,z0w,evX,bVar,ln,mkA,e1,e2,e3,putA,lx,dTr,eOpF,eOpN,q0,q1,q2,q3,z4K,z23,eVar,ix,putL,hxs,z9Z,z0o,z07]
    ·rw [show ((wy:Int) == 3)=false by simp; omega] at q3
     have z0:=z3e sp 0
     by_cases s0:sp=0
     ·subst s0
      replace z0:pEq (.int 0) (.int 0)=some (.pure (.bl true)):=rfl
      replace hxs:ixN (RL.map D.str).length 0=some 0:=hxs
      replace e1:z0g [.own pd,.pure (.int RL.length)]=some (.pure (.int 0),[.own d1,.pure (.int RL.length)]):=e1
      obtain ⟨x,d4,g,hx,p4⟩:=zfp p3
      refine ⟨RL.set 0 x,d4,?_,by rw [WY]; omega,lset x hx,p4⟩
      rw [← hset]
      generalize RL.map D.str=L at *
      simp [ioOk,z0b,dAsg,z08,ios,ndup,z0w,evX,bVar,ln,mkA,e1,e2,e3,putA,lx,dTr,eOpF,eOpN,q0,q1,q2,q3,z0,z4K,z23,eVar,g,putL,hxs,z9Z,z0o,z07]
     ·rw [show ((sp:Int) == 0)=false by simp; omega] at z0
      obtain ⟨y,hy,iy⟩:=ixo sp b1
      obtain ⟨t,J,rfl,ht,hJ⟩:=R.r sp y (by omega) hy
      obtain ⟨x,d4,g,hx,p4⟩:=zfn t ht J hJ p3
      refine ⟨RL.set sp x,d4,?_,by rw [WY]; omega,lset x hx,p4⟩
      rw [← hset]
      generalize RL.map D.str=L at *
      simp [ioOk,z0b,dAsg,z08,ios,ndup,z0w,evX,bVar,ln,mkA,e1,e2,e3,putA,lx,dTr,eOpF,eOpN,q0,q1,q2,q3,z0,z4K,z23,eVar,iy,g,putL,hxs,z9Z,z0o,z07]
theorem zbc (h w:Nat):z0d 32 (hdr h w)=[[114,117,108,101],[48 + h],[48 + w]]:=by
 have h1:¬ 48 + h=32:=by omega
 have h2:¬ 48 + w=32:=by omega
 simp [hdr,z0d,h1,h2]
theorem zar {h w:Nat} {bs:List (Nat×List Tx)} (R:Rul h w bs) {b:Nat×List Tx} (hb:b ∈ bs):(z0s [47] b.2).length≤20:=by
 obtain ⟨b1,b2⟩:=R.blk b hb
 have h1:=R.h1
 have w1:=R.w1
 have:=z3K [47] b.2
 have l2:=z2X b.2 4 (fun r hr=>by have:=(b2 r hr).1; omega)
 simp only [Ws,Q8] at this
 omega
theorem zfe {h w:Nat} {bs:List (Nat×List Tx)} (R:Rul h w bs) (h6:bs.length≤6):RwOk (hdr h w :: bs.map rowT):=by
 refine ⟨by simp,by simp; omega,fun t ht=>?_,fun i x hi hx=>?_⟩
 ·rcases Wh.mp ht with rfl | ht
  ·simp [hdr]
  ·obtain ⟨b,hb,rfl⟩:=Qw.mp ht
   have:=zar R hb
   simp [rowT]
   omega
 ·obtain ⟨j,rfl⟩:∃ j,i=j + 1:=⟨i - 1,by omega⟩
  rw [List.getElem?_cons_succ,WN] at hx
  cases hb:bs[j]? with
  | none=>rw [hb] at hx; cases hx
  | some b =>
   rw [hb] at hx
   cases hx
   have hm:=Ww hb
   exact ⟨b.1,z0s [47] b.2,rfl,R.let' b hm,zar R hm⟩
theorem zel {h w:Nat} {bs:List (Nat×List Tx)} (R:Rul h w bs) {b:Nat×List Tx} (hb:b ∈ bs) (ah:Tx) (ha:ah < [b.1]):par h w ah (rowT b)=some b:=by
 obtain ⟨_,_,s,_,_⟩:=z97 R hb
 obtain ⟨f,_,_,l1,l2⟩:=zbF R hb
 obtain ⟨b1,b2⟩:=R.blk b hb
 have sj:z0d 47 (z0s [47] b.2)=b.2:=z4S 47 b.2 f.r0 (fun t ht hn=>by have:=f.lt t ht 47 hn; omega)
 unfold par
 rw [s]
 simp only
 rw [sj]
 have hl:(letN b.1 && K76.blk h w b.2)=true:=by
  unfold letN K76.blk
  simp only [We,decide_eq_true_eq,WC]
  refine ⟨⟨l1,l2⟩,⟨b1,fun r hr=>(b2 r hr).1⟩,fun r hr n hn=>by have:=f.lt r hr n hn; unfold letN; simp only [We,decide_eq_true_eq]; exact this⟩
 rw [if_pos hl,if_pos ha]
theorem zbe {h w:Nat} {bs:List (Nat×List Tx)} (R:Rul h w bs):∀ (suf:List (Nat×List Tx)) (ah:Tx) (k:Nat) (acc:List (Nat×List Tx)),(∀ b ∈ suf,b ∈ bs)→(suf.map (·.1)).Pairwise (· < ·)→(∀ b ∈ suf,ah < [b.1])→goR h w ah k (suf.map rowT) acc = .inr (acc ++ suf)
 | [],ah,k,acc,_,_,_=>by simp [goR]
 | b :: suf,ah,k,acc,hs,hp,ha=>by
  rw [WB]
  unfold goR
  rw [zel R (hs b Wi) ah (ha b Wi)]
  simp only
  rw [WB,List.pairwise_cons] at hp
  rw [zbe R suf [b.1] (k + 1) (acc ++ [b]) (fun x hx=>hs x (Wc _ hx)) hp.2 (fun x hx=>by
   have:=hp.1 x.1 (QS hx)
   exact List.cons_lt_cons_iff.mpr (Or.inl this))]
  simp
theorem z9r (ts:List Nat):∀ (bs:List (Nat×List Tx)) (k:Nat),(∀ b ∈ bs,∀ n ∈ b.2.flatten,n ∈ ts)→fstO ts k bs=none
 | [],_,_=>rfl
 | b :: r,k,h=>by
  unfold fstO
  rw [if_pos (by simp only [WC]; intro n hn; simpa using h b Wi n hn)]
  exact z9r ts r (k + 1) (fun x hx=>h x (Wc _ hx))
theorem zcR {h w:Nat} {bs:List (Nat×List Tx)} (R:Rul h w bs):due (ruT h w bs)=none:=by
 have h0:=R.h0
 have h1:=R.h1
 have w0:=R.w0
 have w1:=R.w1
 have hw:=R.hw
 have n0:=R.n0
 have sp:z0d 10 (ruT h w bs)=hdr h w :: bs.map rowT:=z4S 10 _ (by simp) (fun t ht=>by
  rcases Wh.mp ht with rfl | ht
  ·simp [hdr]
   omega
  ·obtain ⟨b,hb,rfl⟩:=Qw.mp ht
   exact (z97 R hb).2.1)
 have hs:sz (hdr h w)=some (h,w):=by
  have d1:dg [48 + h]=some h:=by show (if 49≤48 + h∧48 + h≤52 then some (48 + h - 48) else none)=_; rw [if_pos (by omega)]; congr 1; omega
  have d2:dg [48 + w]=some w:=by show (if 49≤48 + w∧48 + w≤52 then some (48 + w - 48) else none)=_; rw [if_pos (by omega)]; congr 1; omega
  unfold sz
  rw [zbc]
  show (if ([114,117,108,101]:Tx)=rlT then szN (dg [48 + h]) (dg [48 + w]) else none)=_
  rw [if_pos (show ([114,117,108,101]:Tx)=rlT from rfl),d1,d2]
  show (if h=1∧w=1 then none else some (h,w))=_
  rw [if_neg (by omega)]
 have hg:=zbe R bs [] 2 [] (fun b hb=>hb) R.up (fun b hb=>by simp)
 rw [WM] at hg
 unfold due
 rw [sp]
 simp only [hs]
 unfold dueR
 rw [hg]
 simp only
 have hf:=z9r (bs.map (·.1)) bs 0 (fun b hb n hn=>by
  obtain ⟨r,hr,hn⟩:=List.mem_flatten.mp hn
  exact ((R.blk b hb).2 r hr).2 n hn)
 cases bs with
 | nil=>simp at n0
 | cons b r =>
  show (fstO ((b :: r).map (·.1)) 0 (b :: r)).map (· + 2)=none
  rw [hf]
  rfl
theorem zfg {h w:Nat} {bs:List (Nat×List Tx)} (R:Rul h w bs) (h6:bs.length≤6):(ruT h w bs).length≤900:=by
 have K:=zfe R h6
 have a:=z3K [10] (hdr h w :: bs.map rowT)
 have b:=z2X (hdr h w :: bs.map rowT) 50 K.l
 have c:=K.n1
 simp only [Ws,Q8] at a
 unfold ruT
 simp only [Ws] at b c
 omega
theorem zgc (o:Option Nat):pNe (oD o) (oD o)=some (.pure (.bl false)):=by
 cases o with
 | none=>rfl
 | some k =>
  show pNe (.int (k:Nat)) (.int (k:Nat))=_
  rw [z2W]
  simp
theorem spoil (ce:Tx→Nat) {RL:List Tx} (K:RwOk RL) {pd:D} (hp:Pen pd) (scr:D) (c:Int) (ru:D) (o1 o2 o7:Option S) (s6:S) (h6:s6 = .own (.lst (RL.map .str))∨s6 = .pure (.lst (RL.map .str))) :
  ∃ q2 pd',(dSeq (B5_) (dIf (dTr (eOp pNe (z08 (z0e ce) [.val (eD (.int 0)),.val (eVar 2)]) (bOf (z08 z0U [.val (eVar 2)])))) (dRet (eD (.bl false))) z0I)) [some (.pure scr),o1,o2,some (.pure (.int c)),some (.own pd),some (.pure ru),some s6,o7,none,none] = .ok .next [some (.pure scr),o1,q2,some (.pure (.int c)),some (.own pd'),some (.pure ru),some (.pure (.lst (RL.map .str))),o7,none,none]∧Pen pd':=by
 obtain ⟨ts,pd',e,n1,l1,p'⟩:=zc4 K hp
 have jt:=(z8a [10] (by simp) ts (by omega) (fun t ht=>by have:=l1 t ht; omega)).2
 have jl:(z0s [10] ts).length≤900:=by
  have a:=z3K [10] ts
  have b:=z2X ts 50 l1
  simp only [Ws,Q8] at a
  omega
 have g1:=zav ce _ jl
 have g2:=zfs _ jl
 have ne:=zgc (due (z0s [10] ts))
 refine ⟨some (.pure (.str (z0s [10] ts))),pd',?_,p'⟩
 generalize oD (due (z0s [10] ts))=od at *
 generalize z0s [10] ts=J at *
 generalize ts.map D.str=TS at *
 generalize RL.map D.str=L at *
 rcases h6 with rfl | rfl
 ·simp [dAsg,z08,ios,ndup,z0w,evX,eVar,mkA,e,putA,jt,dTr,g1,g2,ne]
 ·simp [dAsg,z08,ios,ndup,z0w,evX,eVar,mkA,e,putA,jt,dTr,g1,g2,ne]
theorem z3x (h:a δ = .ok .next δ1) (h2:b δ1=x):dSeq a b δ=x:=by
 rw [z2N,h]
 simpa using h2
theorem turnC (ce:Tx→Nat) (scr:D) (c:Int) (o1 o2 o4 o5 o6 o7:Option S):∃ q2 q4 q5 q6 q7,(dSeq (dAsg (z08 z0W [.val (eVar 3)]) (gNm [] 4)) (dSeq (B11_) (dSeq (dAsg (eLst (z0m (eOp pAdd (eOp pAdd (eOp pAdd (eD (.str [114,117,108,101,32])) (bOf (eC1 z5M (bOf (eOpF pIx 5 (bOf (eD (.int 0)))))))) (bOf (eD (.str [32])))) (bOf (eC1 z5M (bOf (eOpF pIx 5 (bOf (eD (.int 1)))))))) aNil)) (gNm [] 6)) (dSeq (z5b 6 (z2q [8,9] (iSq (eOpF pIx 5 (bOf (eD (.int 2))))) (gTp 2 (z0l (gNm [] 8) (z0l (gNm [] 9) z1j))) dYes (eOp pAdd (eOpF pAdd 8 (bOf (eD (.str [32])))) (bOf (eC1 (z1w [47]) (bVar 9)))))) (dSeq (dFor (z2n (eD (.int 4))) (gNm [] 7) (dSeq (B5_) (dIf (dTr (eOp pNe (z08 (z0e ce) [.val (eD (.int 0)),.val (eVar 2)]) (bOf (z08 z0U [.val (eVar 2)])))) (dRet (eD (.bl false))) z0I))) (dIf (dOr (dTr (eOp (pIsN true) (z08 (z0e ce) [.val (eD (.int 0)),.val (eC1 (z1w [10]) (bVar 6))]) (bOf (eD .non)))) (dTr (eOp pNe (z08 (z0e ce) [.val (eD (.int 1)),.val (z08 z0D [.io 4])]) (bOf (eD (.int 1)))))) (dRet (eD (.bl false))) z0I)))))) [some (.pure scr),o1,o2,some (.pure (.int c)),o4,o5,o6,o7,none,none] = .ok .next [some (.pure scr),o1,q2,some (.pure (.int c)),q4,q5,q6,q7,none,none]:=by
 obtain ⟨d0,e0,p0⟩:=r_pen c
 obtain ⟨h,w,bs,d1,e1,R,h6,p1⟩:=zaw p0 6 (by decide) (by decide)
 replace e1:z0N [.own d0,.pure (.int 6)]=some (.pure (ruD h w bs),[.own d1,.pure (.int 6)]):=e1
 obtain ⟨x0,x1,x2⟩:=ru_ix h w bs
 have K:=zfe R h6
 have n1:=R.n1
 have t1:=z8X h R.h1
 have t2:=z8X w R.w1
 have a1:pAdd (.str [114,117,108,101,32]) (.str [48 + h])=some (.pure (.str [114,117,108,101,32,48 + h])):=add_str _ _ (by simp)
 have a2:pAdd (.str [114,117,108,101,32,48 + h]) (.str [32])=some (.pure (.str [114,117,108,101,32,48 + h,32])):=add_str _ _ (by simp)
 have a3:pAdd (.str [114,117,108,101,32,48 + h,32]) (.str [48 + w])=some (.pure (.str (hdr h w))):=add_str _ _ (by simp)
 -- the rows
 have ec:=z2j (cs:=[8,9]) (g:=(gTp 2 (z0l (gNm [] 8) (z0l (gNm [] 9) z1j)))) (t:=dYes) (el:=(eOp pAdd (eOpF pAdd 8 (bOf (eD (.str [32])))) (bOf (eC1 (z1w [47]) (bVar 9))))) blD (fun b:Nat×List Tx=>.str (rowT b)) [some (.pure scr),o1,o2,some (.pure (.int c)),some (.own d1),some (.pure (ruD h w bs)),some (.own (.lst [.str (hdr h w)])),o7,none,none] bs [] (by rw [z0Y]; simp; omega) (fun b hb=>by
  obtain ⟨_,_,_,r1,r2⟩:=z97 R hb
  obtain ⟨f,_⟩:=zbF R hb
  have j:=(z8a [47] (by simp) b.2 (by have:=f.r1; omega) (fun t ht=>by have:=f.eq t ht; have:=f.c1; omega)).1
  refine ⟨[some (.pure scr),o1,o2,some (.pure (.int c)),some (.own d1),some (.pure (ruD h w bs)),some (.own (.lst [.str (hdr h w)])),o7,some (.pure (.str [b.1])),some (.pure (flD b.2))],[some (.pure scr),o1,o2,some (.pure (.int c)),some (.own d1),some (.pure (ruD h w bs)),some (.own (.lst [.str (hdr h w)])),o7,some (.pure (.str [b.1])),some (.pure (flD b.2))],.pure (.str (rowT b)),[some (.pure scr),o1,o2,some (.pure (.int c)),some (.own d1),some (.pure (ruD h w bs)),some (.own (.lst [.str (hdr h w)])),o7,some (.pure (.str [b.1])),some (.pure (flD b.2))],by simp [blD,gTp,z0l,z1j,flD],rfl,?_,rfl,rfl⟩
  rw [show (b.2.map D.str)=b.2.map D.str from rfl] at j
  have fl:flD b.2 = .tup (b.2.map .str):=rfl
  rw [← fl] at j
  generalize flD b.2=fb at *
  generalize rowT b=rb at *
  generalize z0s [47] b.2=jb at *
  generalize ruD h w bs=ru at *
  simp [eOpF,eOpN,eVar,bVar,r1,j,r2])
 rw [WM] at ec
 have h7:(z2q [8,9] (iSq (eOpF pIx 5 (bOf (eD (.int 2))))) (gTp 2 (z0l (gNm [] 8) (z0l (gNm [] 9) z1j))) dYes (eOp pAdd (eOpF pAdd 8 (bOf (eD (.str [32])))) (bOf (eC1 (z1w [47]) (bVar 9))))) [some (.pure scr),o1,o2,some (.pure (.int c)),some (.own d1),some (.pure (ruD h w bs)),some (.own (.lst [.str (hdr h w)])),o7,none,none] = .ok (.own (.lst (bs.map fun b=>.str (rowT b)))) [some (.pure scr),o1,o2,some (.pure (.int c)),some (.own d1),some (.pure (ruD h w bs)),some (.own (.lst [.str (hdr h w)])),o7,none,none]:=by
  rw [z5B]
  have it:iSq (eOpF pIx 5 (bOf (eD (.int 2)))) [some (.pure scr),o1,o2,some (.pure (.int c)),some (.own d1),some (.pure (ruD h w bs)),some (.own (.lst [.str (hdr h w)])),o7,none,none] = .ok (bs.map blD) [some (.pure scr),o1,o2,some (.pure (.int c)),some (.own d1),some (.pure (ruD h w bs)),some (.own (.lst [.str (hdr h w)])),o7,none,none]:=by
   generalize ruD h w bs=ru at *
   simp [z4J,eOpF,eOpN,bVar,x2]
  rw [it]
  generalize (bs.map fun b=>D.str (rowT b))=C1 at *
  generalize bs.map blD=C2 at *
  generalize ruD h w bs=ru at *
  simp [z0w,clrD]
  rw [ec]
  simp [z26]
 have hl:D.str (hdr h w) :: (bs.map fun b=>D.str (rowT b))=(hdr h w :: bs.map rowT).map .str:=by simp
 obtain ⟨δ',ef,pd,q2,q6,q7,hp,hq6,rfl⟩:=z34 (g:=gNm [] 7) (b:=(dSeq (B5_) (dIf (dTr (eOp pNe (z08 (z0e ce) [.val (eD (.int 0)),.val (eVar 2)]) (bOf (z08 z0U [.val (eVar 2)])))) (dRet (eD (.bl false))) z0I)))
  (fun _ δ=>∃ pd q2 q6 q7,Pen pd∧(q6 = .own (.lst ((hdr h w :: bs.map rowT).map .str))∨q6 = .pure (.lst ((hdr h w :: bs.map rowT).map .str)))∧δ=[some (.pure scr),o1,q2,some (.pure (.int c)),some (.own pd),some (.pure (ruD h w bs)),some q6,q7,none,none]) (z1h 0 4) 0 [some (.pure scr),o1,o2,some (.pure (.int c)),some (.own d1),some (.pure (ruD h w bs)),some (.own (.lst ((hdr h w :: bs.map rowT).map .str))),o7,none,none] ⟨d1,o2,_,o7,p1,.inl rfl,rfl⟩ (fun i d δ hd ⟨pd,q2,q6,q7,hp,hq6,e⟩=>by
   subst e
   obtain ⟨_,rfl⟩:=z6D hd
   obtain ⟨r2,pd',e,p'⟩:=spoil ce K hp scr c (ruD h w bs) o1 q2 (some (.pure (.int (0 + (i:Int))))) q6 hq6
   exact ⟨_,_,rfl,e,pd',r2,_,_,p',.inr rfl,rfl⟩)
 obtain ⟨z,pf,eo,zl,zf,_⟩:=zfo hp
 have gT1:=zdV ce z zl zf
 have gT:=zav ce _ (zfg R h6)
 rw [zcR R] at gT
 have jr:=zaq R
 refine ⟨q2,some (.own pf),some (.pure (ruD h w bs)),some q6,q7,?_⟩
 refine z3x (δ1:=[some (.pure scr),o1,o2,some (.pure (.int c)),some (.own d0),o5,o6,o7,none,none]) (by simp [dAsg,z08,ios,ndup,z0w,evX,eVar,mkA,putA,e0]) ?_
 refine z3x (δ1:=[some (.pure scr),o1,o2,some (.pure (.int c)),some (.own d1),some (.pure (ruD h w bs)),o6,o7,none,none]) (by
  generalize ruD h w bs=ru at *
  simp [dAsg,z08,ios,ndup,z0w,evX,eVar,mkA,putA,e1]) ?_
 refine z3x (δ1:=[some (.pure scr),o1,o2,some (.pure (.int c)),some (.own d1),some (.pure (ruD h w bs)),some (.own (.lst [.str (hdr h w)])),o7,none,none]) (by
  generalize ruD h w bs=ru at *
  generalize hdr h w=hh at *
  simp [dAsg,eOpF,eOpN,bVar,x0,x1,t1,t2,a1,a2,a3]) ?_
 refine z3x (δ1:=[some (.pure scr),o1,o2,some (.pure (.int c)),some (.own d1),some (.pure (ruD h w bs)),some (.own (.lst ((hdr h w :: bs.map rowT).map .str))),o7,none,none]) (by
  rw [← hl]
  have hz:([D.str (hdr h w)].length + (bs.map fun b=>D.str (rowT b)).length≤W8):=by rw [z0Y]; simp; omega
  generalize (bs.map fun b=>D.str (rowT b))=C1 at *
  generalize hdr h w=hh at *
  generalize ruD h w bs=ru at *
  generalize hCO:(z2q [8,9] (iSq (eOpF pIx 5 (bOf (eD (.int 2))))) (gTp 2 (z0l (gNm [] 8) (z0l (gNm [] 9) z1j))) dYes (eOp pAdd (eOpF pAdd 8 (bOf (eD (.str [32])))) (bOf (eC1 (z1w [47]) (bVar 9)))))=CO at *
  unfold z5b
  simp only [z23,List.getElem?_cons_succ,QU,if_true,h7,z0j,putL,hz]
  simp) ?_
 refine z3x (δ1:=[some (.pure scr),o1,q2,some (.pure (.int c)),some (.own pd),some (.pure (ruD h w bs)),some q6,q7,none,none]) (by
  have rg:z2n (eD (.int 4)) [some (.pure scr),o1,o2,some (.pure (.int c)),some (.own d1),some (.pure (ruD h w bs)),some (.own (.lst ((hdr h w :: bs.map rowT).map .str))),o7,none,none] = .ok (z1h 0 4) [some (.pure scr),o1,o2,some (.pure (.int c)),some (.own d1),some (.pure (ruD h w bs)),some (.own (.lst ((hdr h w :: bs.map rowT).map .str))),o7,none,none]:=rfl
  rw [z3t,rg]
  simp only [z0j]
  exact ef) ?_
 have i1:pIsN true .non .non=some (.pure (.bl false)):=rfl
 have n0:pNe (.int 1) (.int 1)=some (.pure (.bl false)):=rfl
 replace gT:(z0e ce) [.pure (.int 0),.pure (.str (ruT h w bs))]=some (.pure .non,[.pure (.int 0),.pure (.str (ruT h w bs))]):=gT
 generalize (hdr h w :: bs.map rowT).map D.str=L at *
 generalize ruT h w bs=RT at *
 generalize ruD h w bs=ru at *
 clear ef ec h7
 rcases hq6 with rfl | rfl
 ·simp [dTr,z08,ios,ndup,z0w,evX,eVar,mkA,putA,bVar,jr,gT,i1,eo,gT1,n0]
 ·simp [dTr,z08,ios,ndup,z0w,evX,eVar,mkA,putA,bVar,jr,gT,i1,eo,gT1,n0]
theorem zcU (ns:List Int) (lo hi:Option Int):cutL (ns.map D.int) lo hi=(cutL ns lo hi).map D.int:=by
 unfold cutL
 simp [List.map_take,List.map_drop]
theorem ze0 (ce:Tx→Nat) (ns:List Int) (hn:ns.length≤63):za5 ce [.pure (.lst (ns.map .int))]=some (.pure (.bl true),[.pure (.lst (ns.map .int))]):=by
 have hN:∀ d ∈ [D.non,.int 0,.bl true,.lst [.str [97]],.tup [.str [97]],.dct []],z0e ce [.pure (.int 0),.pure d]=some (.pure (.int 0),[.pure (.int 0),.pure d])∧z0e ce [.pure (.int 1),.pure d]=some (.pure (.int 0),[.pure (.int 1),.pure d]):=fun d hd=>by
  simp only [Wh,Jw,or_false] at hd
  rcases hd with rfl | rfl | rfl | rfl | rfl | rfl <;> exact zdU ce _ rfl rfl
 obtain ⟨c0,e0⟩:=z8E ns
 have ha:pAdd (.lst [.int c0]) (.lst (cutL (ns.map .int) (some 1) (some 6)))=some (.own (.lst ((c0 :: cutL ns (some 1) (some 6)).map .int))):=by
  rw [zcU]
  have hl:(cutL ns (some 1) (some 6)).length≤63:=by
   unfold cutL
   simp
   omega
  simp only [pAdd]
  rw [if_pos (by rw [z0Y]; simp; omega)]
  simp
 have hs:pSl (some 1) (some 6) (.lst (ns.map .int))=some (.own (.lst (cutL (ns.map .int) (some 1) (some 6)))):=rfl
 generalize D.lst (ns.map .int)=scr at *
 have q00:pNe (.int 0) (.int 0)=some (.pure (.bl false)):=rfl
 obtain ⟨δ1,f1,o1,rfl⟩:=z34 (g:=gNm [] 1) (b:=(dIf (dOr (dTr (eOp pNe (z08 (z0e ce) [.val (eD (.int 0)),.val (eVar 1)]) (bOf (eD (.int 0))))) (dTr (eOp pNe (z08 (z0e ce) [.val (eD (.int 1)),.val (eVar 1)]) (bOf (eD (.int 0)))))) (dRet (eD (.bl false))) z0I))
  (fun _ δ=>∃ o1,δ=[some (.pure scr),o1,none,none,none,none,none,none,none,none]) [.non,.int 0,.bl true,.lst [.str [97]],.tup [.str [97]],.dct []] 0 [some (.pure scr),none,none,none,none,none,none,none,none,none] ⟨_,rfl⟩ (fun i d δ hd ⟨o1,e⟩=>by
   subst e
   obtain ⟨g1,g2⟩:=hN d (Ww hd)
   refine ⟨[some (.pure scr),some (.pure d),none,none,none,none,none,none,none,none],[some (.pure scr),some (.pure d),none,none,none,none,none,none,none,none],rfl,?_,_,rfl⟩
   simp [dTr,z08,ios,ndup,z0w,evX,eVar,mkA,putA,g1,g2,q00])
 obtain ⟨δ2,f2,o2,rfl⟩:=z34 (g:=gNm [] 2) (b:=(dIf (dTr (eOp pNe (z08 (z0e ce) [.val (eD (.int 0)),.val (eVar 2)]) (bOf (z08 z0U [.val (eVar 2)])))) (dRet (eD (.bl false))) z0I))
  (fun _ δ=>∃ o2,δ=[some (.pure scr),o1,o2,none,none,none,none,none,none,none]) (([[],[114,117,108,101,32,50,32,50],[114,117,108,101,32,49,32,50,10,97,32,97,97],[114,117,108,101,32,49,32,50,10,97,32,97,98],[114,117,108,101,32,49,32,50,10,97,32,97,98,10,98,32,98,99],[114,117,108,101,32,49,32,50,10],[10]]:List Tx).map .str) 0 [some (.pure scr),o1,none,none,none,none,none,none,none,none] ⟨_,rfl⟩ (fun i d δ hd ⟨o2,e⟩=>by
   subst e
   obtain ⟨z,hz,rfl⟩:=Qw.mp (Ww hd)
   have zl:z.length≤900:=by
    have:∀ z ∈ ([[],[114,117,108,101,32,50,32,50],[114,117,108,101,32,49,32,50,10,97,32,97,97],[114,117,108,101,32,49,32,50,10,97,32,97,98],[114,117,108,101,32,49,32,50,10,97,32,97,98,10,98,32,98,99],[114,117,108,101,32,49,32,50,10],[10]]:List Tx),z.length≤900:=by decide
    exact this z hz
   have g1:=zav ce z zl
   have g2:=zfs z zl
   have ne:=zgc (due z)
   refine ⟨[some (.pure scr),o1,some (.pure (.str z)),none,none,none,none,none,none,none],[some (.pure scr),o1,some (.pure (.str z)),none,none,none,none,none,none,none],rfl,?_,_,rfl⟩
   generalize oD (due z)=od at *
   simp [dTr,z08,ios,ndup,z0w,evX,eVar,mkA,putA,g1,g2,ne])
 obtain ⟨δ',e,o2',o3,o4,o5,o6,o7,rfl⟩:=z34 (g:=gNm [] 3) (b:=(dSeq (dAsg (z08 z0W [.val (eVar 3)]) (gNm [] 4)) (dSeq (B11_) (dSeq (dAsg (eLst (z0m (eOp pAdd (eOp pAdd (eOp pAdd (eD (.str [114,117,108,101,32])) (bOf (eC1 z5M (bOf (eOpF pIx 5 (bOf (eD (.int 0)))))))) (bOf (eD (.str [32])))) (bOf (eC1 z5M (bOf (eOpF pIx 5 (bOf (eD (.int 1)))))))) aNil)) (gNm [] 6)) (dSeq (z5b 6 (z2q [8,9] (iSq (eOpF pIx 5 (bOf (eD (.int 2))))) (gTp 2 (z0l (gNm [] 8) (z0l (gNm [] 9) z1j))) dYes (eOp pAdd (eOpF pAdd 8 (bOf (eD (.str [32])))) (bOf (eC1 (z1w [47]) (bVar 9)))))) (dSeq (dFor (z2n (eD (.int 4))) (gNm [] 7) (dSeq (B5_) (dIf (dTr (eOp pNe (z08 (z0e ce) [.val (eD (.int 0)),.val (eVar 2)]) (bOf (z08 z0U [.val (eVar 2)])))) (dRet (eD (.bl false))) z0I))) (dIf (dOr (dTr (eOp (pIsN true) (z08 (z0e ce) [.val (eD (.int 0)),.val (eC1 (z1w [10]) (bVar 6))]) (bOf (eD .non)))) (dTr (eOp pNe (z08 (z0e ce) [.val (eD (.int 1)),.val (z08 z0D [.io 4])]) (bOf (eD (.int 1)))))) (dRet (eD (.bl false))) z0I)))))))
  (fun _ δ=>∃ o2 o3 o4 o5 o6 o7,δ=[some (.pure scr),o1,o2,o3,o4,o5,o6,o7,none,none]) ((c0 :: cutL ns (some 1) (some 6)).map .int) 0 [some (.pure scr),o1,o2,none,none,none,none,none,none,none] ⟨_,_,_,_,_,_,rfl⟩ (fun i d δ hd ⟨o2,o3,o4,o5,o6,o7,e⟩=>by
   subst e
   simp only [WN,Option.map_eq_some_iff] at hd
   obtain ⟨k,_,rfl⟩:=hd
   obtain ⟨q2,q4,q5,q6,q7,e⟩:=turnC ce scr k o1 o2 o4 o5 o6 o7
   exact ⟨_,_,rfl,e,_,_,_,_,_,_,rfl⟩)
 generalize ((c0 :: cutL ns (some 1) (some 6)).map D.int)=cs at *
 generalize D.lst (cutL (ns.map .int) (some 1) (some 6))=cl at *
 rw [za5,z1H,zeQ]
 simp only [show z0b 10 [S.pure scr]=[some (.pure scr),none,none,none,none,none,none,none,none,none] from rfl]
 have iA:iSq (eLst (z0m (eD .non) (z0m (eD (.int 0)) (z0m (eD (.bl true)) (z0m (z3w [.str [97]]) (z0m (eD (.tup [.str [97]])) (z0m zbq aNil))))))) [some (.pure scr),none,none,none,none,none,none,none,none,none] = .ok [.non,.int 0,.bl true,.lst [.str [97]],.tup [.str [97]],.dct []] [some (.pure scr),none,none,none,none,none,none,none,none,none]:=rfl
 have iB:iSq (z3w [.str [],.str [114,117,108,101,32,50,32,50],.str [114,117,108,101,32,49,32,50,10,97,32,97,97],.str [114,117,108,101,32,49,32,50,10,97,32,97,98],.str [114,117,108,101,32,49,32,50,10,97,32,97,98,10,98,32,98,99],.str [114,117,108,101,32,49,32,50,10],.str [10]]) [some (.pure scr),o1,none,none,none,none,none,none,none,none] = .ok (([[],[114,117,108,101,32,50,32,50],[114,117,108,101,32,49,32,50,10,97,32,97,97],[114,117,108,101,32,49,32,50,10,97,32,97,98],[114,117,108,101,32,49,32,50,10,97,32,97,98,10,98,32,98,99],[114,117,108,101,32,49,32,50,10],[10]]:List Tx).map .str) [some (.pure scr),o1,none,none,none,none,none,none,none,none]:=rfl
 have iC:iSq (eOp pAdd (eLst (z0m (z08 z10 [.val (eVar 0),.val (eD (.int 0))]) aNil)) (bOf (eSlN 0 (z1x (eD (.int 1))) (z1x (eD (.int 6)))))) [some (.pure scr),o1,o2,none,none,none,none,none,none,none] = .ok cs [some (.pure scr),o1,o2,none,none,none,none,none,none,none]:=by
  simp [z08,ios,ndup,z0w,evX,eVar,mkA,e0,putA,eSlN,z1x,bVar,hs,ha,z4J]
 have io:ioOk [] 0 [S.pure scr]=true:=rfl
 rw [io]
 simp only [if_true]
 rw [z2N,z3t,iA]
 simp only [z0j]
 rw [f1]
 simp only [z0j]
 rw [z2N,z3t,iB]
 simp only [z0j]
 rw [f2]
 simp only [z0j]
 rw [z2N,z3t,iC]
 simp only [z0j]
 rw [e]
 simp [z0o,z07]
def Gt:DF:=fun ss=>match ss with
 | [.pure (.lst ds)]=>match z6p ds with
  | some ns=>if ns.length≤63 then some (.pure (.bl true),ss) else none
  | none=>none
 | _=>none
theorem r_law (ns:List Int) (h:ns.length≤63):∃ outs,Gt [.pure (.lst (ns.map .int))]=some (.pure (.bl true),outs):=by
 unfold Gt
 simp only [DV.ints_map,h,if_true]
 exact ⟨_,rfl⟩
theorem zb9:∀ {ds:List D} {ns:List Int},z6p ds=some ns→ds=ns.map .int
 | [],ns,h=>by simp [z6p] at h; subst h; rfl
 | d :: r,ns,h=>by
  cases d with
  | int i =>
   simp only [z6p] at h
   cases e:z6p r with
   | none=>rw [e] at h; cases h
   | some m =>
    rw [e] at h
    cases h
    rw [zb9 e]
    rfl
  | _=>simp [z6p] at h
theorem law_all:∀ ce ss y,Gt ss=some y→za5 ce ss=some y:=by
 intro ce ss y h
 unfold Gt at h
 split at h
 ·rename_i ds
  cases hi:z6p ds with
  | none=>rw [hi] at h; cases h
  | some ns =>
   rw [hi] at h
   by_cases hn:ns.length≤63
   ·simp only [hn,if_true] at h
    cases h
    have e:=zb9 hi
    subst e
    exact ze0 ce ns hn
   ·simp only [hn,if_false] at h
    cases h
 ·cases h
end K76
open PySem PySem.W PyProof.Rows
namespace PySem.W.Fast
def tw5386533563762148303:=0
def tw17225697502237560249:=0
def tw882106445826800589:=0
def tw5088090416196125167:=0
def tw18385564065557339252:=0
def tw17305319307860552728:=0
def tw7314443337955561320:=0
def tw13086114374250737904:=0
def tw14202021184664593201:=0
def tw4022441570222879028:=0
def tw17375264801165409948:=0
def tw14452766624478476836:=0
def tw10751597533634833130:=0
def tw357521232939721921:=0
def tw13649261148862004369:=0
def tw15800958015436772:=0
def tw16607192091513425029:=0
def tw13769912954339970987:=0
def tw10951368739582300156:=0
def tw10028552699092619087:=0
def tw7962661404247026816:=0
def tw2327051661077758864:=0
def tw8093099534972897665:=0
def tw10706194253513206131:=0
def tw16460759418133778089:=0
def tw14615865395615255325:=0
def tw15688748574854501626:=0
def tw16629584725534472223:=0
def tw5466537067042061881:=0
def tw6553595188995549:=0
def tw14492841514144545756:=0
def tw7544937822216875653:=0
def tw9881811169944710387:=0
end PySem.W.Fast
set_option maxRecDepth 100000 in
set_option maxHeartbeats 0 in
theorem PySem.Challenge.cw_tilegrow_k76_texts_that_write_none_holds : PySem.Challenge.rw_tilegrow_k76_texts_that_write_none.Holds := by
 w_on; o_law; k_head; (case hw=>w_witness2)
 k_fill
 refine DV.walkD (l:=PySem.Challenge.rw_tilegrow_k76_texts_that_write_none) (k:=7) (G:=K76.Gt) rfl rfl ⟨rfl,by decide,by decide⟩ (fun w h Y=>PySem.W.kIn_of Y) ?L K76.r_law ?F
 case L=>intro p; exact Eq.refl true
 case F =>
  intro w mg fa h KX G hmg
  refine' K76.all_mk K76.law_all KX G hmg ?d0 ?d1 ?d2 ?d3 ?d4 ?d5 ?d6 ?d7 ?d8 ?d9 ?d10 ?d11 ?d12 ?d13 ?d14 ?d15 ?d16 ?d17 ?d18 ?d19 ?d20 ?d21 ?d22 ?d23 ?d24 ?d25 ?d26 ?d27 ?d28 ?a29 ?l29 ?c29 ?k29 ?z_ValueError ?z_all ?z_bool ?z_dict ?z_enumerate ?z_int ?z_isinstance ?z_len ?z_list ?z_max ?z_range ?z_str ?z_tuple ?g_MOST_FIGURES ?g_MOST_SIZE ?g_MOST_TILES ?ac_j ?ac_a ?ac_b ?ac_c ?ac_d ?ac_e ?ac_f ?ac_g ?ac_h ?ac_i ?ia_h ?li_h ?cci_h ?kfi_h ?qi_h ?fni_h ?kci_h ?sai_h ?ovi_h ?hdi_h ?tki_h_row ?qc_j ?spc ?tkc ?ga_h ?gt_h ?cl_h ?mo_h ?mb_h ?ci_h ?kv_h ?no_h_row ?hx_h ?ki_h_a ?ki_h_b ?ki_h_c ?ki_h_d ?ki_h_e ?ki_h_f ?ki_h_g ?ki_h_h ?ki_h_i ?mr_h_j
  (case d0=>exact ⟨_,_,_,_,_,_,_,_,_,_,by k_is,by k_is,by k_is,by k_is⟩); (case d1=>exact ⟨_,_,_,_,_,_,_,_,_,_,by k_is,by k_is,by k_is,by k_is⟩); (case d2=>exact ⟨_,_,_,_,_,_,_,_,_,_,by k_is,by k_is,by k_is,by k_is⟩); (case d3=>exact ⟨_,_,_,_,_,_,_,_,_,_,by k_is,by k_is,by k_is,by k_is⟩); (case d4=>exact ⟨_,_,_,_,_,_,_,_,_,_,by k_is,by k_is,by k_is,by k_is⟩); (case d5=>exact ⟨_,_,_,_,_,_,_,_,_,_,by k_is,by k_is,by k_is,by k_is⟩); (case d6=>exact ⟨_,_,_,_,_,_,_,_,_,_,by k_is,by k_is,by k_is,by k_is⟩); (case d7=>exact ⟨_,_,_,_,_,_,_,_,_,_,by k_is,by k_is,by k_is,by k_is⟩)
  (case d8=>exact ⟨_,_,_,_,_,_,_,_,_,_,by k_is,by k_is,by k_is,by k_is⟩); (case d9=>exact ⟨_,_,_,_,_,_,_,_,_,_,by k_is,by k_is,by k_is,by k_is⟩); (case d10=>exact ⟨_,_,_,_,_,_,_,_,_,_,by k_is,by k_is,by k_is,by k_is⟩); (case d11=>exact ⟨_,_,_,_,_,_,_,_,_,_,by k_is,by k_is,by k_is,by k_is⟩); (case d12=>exact ⟨_,_,_,_,_,_,_,_,_,_,by k_is,by k_is,by k_is,by k_is⟩); (case d13=>exact ⟨_,_,_,_,_,_,_,_,_,_,by k_is,by k_is,by k_is,by k_is⟩); (case d14=>exact ⟨_,_,_,_,_,_,_,_,_,_,by k_is,by k_is,by k_is,by k_is⟩); (case d15=>exact ⟨_,_,_,_,_,_,_,_,_,_,by k_is,by k_is,by k_is,by k_is⟩)
  (case d16=>exact ⟨_,_,_,_,_,_,_,_,_,_,by k_is,by k_is,by k_is,by k_is⟩); (case d17=>exact ⟨_,_,_,_,_,_,_,_,_,_,by k_is,by k_is,by k_is,by k_is⟩); (case d18=>exact ⟨_,_,_,_,_,_,_,_,_,_,by k_is,by k_is,by k_is,by k_is⟩); (case d19=>exact ⟨_,_,_,_,_,_,_,_,_,_,by k_is,by k_is,by k_is,by k_is⟩); (case d20=>exact ⟨_,_,_,_,_,_,_,_,_,_,by k_is,by k_is,by k_is,by k_is⟩); (case d21=>exact ⟨_,_,_,_,_,_,_,_,_,_,by k_is,by k_is,by k_is,by k_is⟩); (case d22=>exact ⟨_,_,_,_,_,_,_,_,_,_,by k_is,by k_is,by k_is,by k_is⟩); (case d23=>exact ⟨_,_,_,_,_,_,_,_,_,_,by k_is,by k_is,by k_is,by k_is⟩)
  (case d24=>exact ⟨_,_,_,_,_,_,_,_,_,_,by k_is,by k_is,by k_is,by k_is⟩); (case d25=>exact ⟨_,_,_,_,_,_,_,_,_,_,by k_is,by k_is,by k_is,by k_is⟩); (case d26=>exact ⟨_,_,_,_,_,_,_,_,_,_,by k_is,by k_is,by k_is,by k_is⟩); (case d27=>exact ⟨_,_,_,_,_,_,_,_,_,_,by k_is,by k_is,by k_is,by k_is⟩); (case d28=>exact ⟨_,_,_,_,_,_,_,_,_,_,by k_is,by k_is,by k_is,by k_is⟩); (case a29=>k_is); (case l29=>k_is); (case c29=>k_is)
  (case k29=>k_is); (case z_ValueError=>k_is); (case z_all=>k_is); (case z_bool=>k_is); (case z_dict=>k_is); (case z_enumerate=>k_is); (case z_int=>k_is); (case z_isinstance=>k_is)
  (case z_len=>k_is); (case z_list=>k_is); (case z_max=>k_is); (case z_range=>k_is); (case z_str=>k_is); (case z_tuple=>k_is); (case g_MOST_FIGURES=>k_is); (case g_MOST_SIZE=>k_is)
  (case g_MOST_TILES=>k_is); (case ac_j=>k_is); (case ac_a=>k_is); (case ac_b=>k_is); (case ac_c=>k_is); (case ac_d=>k_is); (case ac_e=>k_is); (case ac_f=>k_is)
  (case ac_g=>k_is); (case ac_h=>k_is); (case ac_i=>k_is); (case ia_h=>k_is); (case li_h=>k_is); (case cci_h=>k_is); (case kfi_h=>k_is); (case qi_h=>kernel_rfl)
  (case fni_h=>k_is); (case kci_h=>k_is); (case sai_h=>k_is); (case ovi_h=>kernel_rfl); (case hdi_h=>k_is); (case tki_h_row=>k_is); (case qc_j=>kernel_rfl); (case spc=>k_is)
  (case tkc=>k_is); (case ga_h=>k_is); (case gt_h=>k_is); (case cl_h=>k_is); (case mo_h=>k_is); (case mb_h=>k_is); (case ci_h=>k_is); (case kv_h=>kit_is)
  (case no_h_row=>k_is); (case hx_h=>k_is); (case ki_h_a=>kit_is); (case ki_h_b=>kit_is); (case ki_h_c=>kit_is); (case ki_h_d=>kit_is); (case ki_h_e=>kit_is); (case ki_h_f=>kit_is)
  (case ki_h_g=>kit_is); (case ki_h_h=>kit_is); (case ki_h_i=>kit_is); (case mr_h_j=>k_is)
